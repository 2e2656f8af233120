import PyProof.Rows.All
import Wide.All
import OpenK.AllK
import Wide.FinOn
import Lean
import PyProof.EqAt
import PyProof.EqKinds
import PyProof.TupleCall
import KE.KSortAsk
import PyProof.DictWalks
import PyProof.Dict
import PyProof.DictKind
import PyProof.FactsAll.bool_1
import PyProof.FactsInt
import PyProof.TupleKey
import PyProof.DictRoadsH
import PyProof.Rows.TupDisplay
import KE.KRevIter
import KE.KDictList
import PySem.Challenge.RW_eitheror_k01_what_follows
set_option Elab.async false
section
set_option Elab.async false
set_option linter.all false
set_option maxRecDepth 100000
/-! THE HAND LAYER, for ints, bools, texts, own classes, LISTS and tuples (index, slices, in, append, pop ..), calls, loops. Paste it whole ahead of your own text; what your proof does not reach may be deleted. -/
namespace L2
open PySem PySem.Spec PyProof.Rows

/-- a key: an int or a str -/
abbrev Key := Sum Int Str
def keyIs : Key → Value → Bool
  | .inl k, v => Value.isInt k v
  | .inr x, v => Value.isStrOf x v
def keyH (w : World) : Key → Int
  | .inl k => hashInt k
  | .inr x => hashStr w x
theorem keyIs_shape : ∀ {k : Key} {v : Value}, keyIs k v = true → (∃ i t, k = Sum.inl i ∧ v = Value.int i t) ∨ (∃ x t, k = Sum.inr x ∧ v = Value.str x t)
  | .inl i, v, h => by
    obtain ⟨t, e⟩ := Value.isInt_shape (k := i) (v := v) h
    exact .inl ⟨i, t, rfl, e⟩
  | .inr x, v, h => by
    obtain ⟨t, e⟩ := Value.isStrOf_shape (x := x) (v := v) h
    exact .inr ⟨x, t, rfl, e⟩
theorem keyIs_int (i : Int) (t : Tok) : keyIs (.inl i) (.int i t) = true := by simp [keyIs, Value.isInt]
theorem keyIs_str (x : Str) (t : Tok) : keyIs (.inr x) (.str x t) = true := by simp [keyIs, Value.isStrOf]
theorem key_ll (a b : Int) : decide ((Sum.inl a : Key) = Sum.inl b) = (a == b) := by
  by_cases e : a = b
  · subst e; simp
  · have h : ¬ (Sum.inl a : Key) = Sum.inl b := fun q => e (Sum.inl.inj q)
    rw [decide_eq_false h]
    exact (beq_eq_false_iff_ne.mpr e).symm
theorem key_rr (a b : Str) : decide ((Sum.inr a : Key) = Sum.inr b) = decide (a = b) := by
  by_cases e : a = b
  · subst e; simp
  · have h : ¬ (Sum.inr a : Key) = Sum.inr b := fun q => e (Sum.inr.inj q)
    rw [decide_eq_false h, decide_eq_false e]
theorem key_lr (a : Int) (b : Str) : decide ((Sum.inl a : Key) = Sum.inr b) = false := decide_eq_false (fun q => nomatch q)
theorem key_rl (a : Str) (b : Int) : decide ((Sum.inr a : Key) = Sum.inl b) = false := decide_eq_false (fun q => nomatch q)

def mixKind (prog : Program) (w : World) : PySem.KeyKind prog w Key where
  is := keyIs
  hash := keyH w
  inj := fun v a b ha hb => by
    rcases keyIs_shape ha with ⟨i, t, rfl, rfl⟩ | ⟨x, t, rfl, rfl⟩
    · rcases keyIs_shape hb with ⟨j, u, rfl, e⟩ | ⟨y, u, rfl, e⟩
      · injection e with e1 _; rw [e1]
      · exact nomatch e
    · rcases keyIs_shape hb with ⟨j, u, rfl, e⟩ | ⟨y, u, rfl, e⟩
      · exact nomatch e
      · injection e with e1 _; rw [e1]
  byValue := fun k v h => by
    rcases keyIs_shape h with ⟨i, t, rfl, rfl⟩ | ⟨x, t, rfl, rfl⟩ <;> rfl
  pyHash := fun hv h => by
    rcases keyIs_shape hv with ⟨i, t, rfl, rfl⟩ | ⟨x, t, rfl, rfl⟩
    · exact wpAny_pyHash_int h
    · exact wpAny_pyHash_str h
  eqBool := fun hu hv h => by
    rcases keyIs_shape hu with ⟨i, t, rfl, rfl⟩ | ⟨x, t, rfl, rfl⟩
    · rcases keyIs_shape hv with ⟨j, u, rfl, rfl⟩ | ⟨y, u, rfl, rfl⟩
      · rw [key_ll] at h; exact wpAny_eqBool_int h
      · rw [key_lr] at h; exact SeqAt.EqAt.int_str i t y u _ _ _ _ h
    · rcases keyIs_shape hv with ⟨j, u, rfl, rfl⟩ | ⟨y, u, rfl, rfl⟩
      · rw [key_rl] at h; exact SeqAt.EqAt.str_int x t j u _ _ _ _ h
      · rw [key_rr] at h; exact wpAny_eqBool_str h
  «strs» := fun k x t v h => by
    rcases keyIs_shape h with ⟨i, u, rfl, e⟩ | ⟨y, u, rfl, e⟩
    · exact nomatch e
    · injection e with e1 _
      subst e1
      cases v <;> rfl

theorem mixKind_is (prog : Program) (w : World) (k : Key) (v : Value) : (mixKind prog w).is k v = keyIs k v := rfl
theorem mixKind_int (prog : Program) (w : World) (i : Int) (t : Tok) : (mixKind prog w).is (.inl i) (.int i t) = true := keyIs_int i t
theorem mixKind_str (prog : Program) (w : World) (x : Str) (t : Tok) : (mixKind prog w).is (.inr x) (.str x t) = true := keyIs_str x t
end L2

namespace L2
open PySem PySem.Spec PyProof.Rows

/-- a value, without the heap -/
inductive V where
  | non | bl (b : Bool) | int (i : Int) | str (x : Str) | byt (b : Array UInt8) | flt (b : UInt64) | ref (a : Addr) | ty (n : String)
  deriving DecidableEq

def RelV : V → Value → Prop
  | .non, u => u = Value.none
  | .bl b, u => u = Value.bool b
  | .int i, u => ∃ t, u = Value.int i t
  | .str x, u => ∃ t, u = Value.str x t
  | .byt b, u => ∃ t, u = Value.bytes b t
  | .flt b, u => ∃ t, u = Value.float b t
  | .ref a, u => u = Value.ref a
  | .ty n, u => u = Value.type n

abbrev Vals : List V → List Value → Prop := Paired RelV
theorem Vals.length {xs : List V} {us : List Value} (r : Vals xs us) : xs.length = us.length := Paired.length r
theorem Vals.get : ∀ {xs : List V} {us : List Value} {i : Nat} {x : V}, Vals xs us → xs[i]? = some x → ∃ u, us[i]? = some u ∧ RelV x u
  | _, _, _, _, .nil, e => by simp at e
  | _, _, 0, _, .cons r _, e => by simp at e; subst e; exact ⟨_, rfl, r⟩
  | _, _, i + 1, x, .cons _ t, e => by
    obtain ⟨u, h1, h2⟩ := Vals.get (i := i) (x := x) t (by simpa using e)
    exact ⟨u, by simpa using h1, h2⟩
theorem Vals.set {x : V} {u : Value} (r : RelV x u) : ∀ {xs : List V} {us : List Value} (i : Nat), Vals xs us → Vals (xs.set i x) (us.set i u)
  | _, _, _, .nil => .nil
  | _, _, 0, .cons _ t => .cons r t
  | _, _, i + 1, .cons q t => .cons q (Vals.set r i t)
theorem Vals.append : ∀ {xs ys : List V} {us ws : List Value}, Vals xs us → Vals ys ws → Vals (xs ++ ys) (us ++ ws)
  | _, _, _, _, .nil, s => s
  | _, _, _, _, .cons r t, s => .cons r (Vals.append t s)
theorem Vals.take : ∀ {xs : List V} {us : List Value} (n : Nat), Vals xs us → Vals (xs.take n) (us.take n)
  | _, _, 0, _ => .nil
  | _, _, _ + 1, .nil => .nil
  | _, _, n + 1, .cons r t => .cons r (Vals.take n t)
theorem Vals.drop : ∀ {xs : List V} {us : List Value} (n : Nat), Vals xs us → Vals (xs.drop n) (us.drop n)
  | _, _, 0, r => r
  | _, _, _ + 1, .nil => .nil
  | _, _, n + 1, .cons _ t => Vals.drop n t
theorem Vals.none_of : ∀ {xs : List V} {us : List Value} {i : Nat}, Vals xs us → xs[i]? = none → us[i]? = none := fun {xs us i} r e => by
  have h1 := r.length
  have h2 : xs.length ≤ i := List.getElem?_eq_none_iff.mp e
  exact List.getElem?_eq_none_iff.mpr (by omega)

def RelO : Option V → Option Value → Prop
  | some v, some u => RelV v u
  | none, none => True
  | _, _ => False
def KV {κ : Type} : List (κ × V) → List (κ × Value) → Prop := Paired fun (p : κ × V) (q : κ × Value) => p.1 = q.1 ∧ RelV p.2 q.2

/-- a key of a dict (00_mix): an int or a text -/
def kV : Key → V
  | .inl i => .int i
  | .inr x => .str x

/-- what stands at a tracked address -/
inductive HO where
  /-- a list -/
  | lst (xs : List V)
  /-- a tuple (never changes) -/
  | tup (xs : List V)
  /-- a dict whose keys are ints and texts; one whose keys are tuples of ints and texts (the empty one is both) -/
  | dK (kvs : List (Key × V)) | dT (kvs : List (List Key × V))
  /-- a set of ints: its members, its size -/
  | set (S : Int → Bool) (n : Nat)
  /-- an instance of the class at C, its dict at dx, its attributes -/
  | ins (C dx : Addr) (fs : List (Str × V))
  /-- the dict of the instance at x -/
  | own (x : Addr)
  /-- the dict of an exception -/
  | xd (fs : List (Str × V))
  /-- a bound method, f of x -/
  | met (f x : Addr)
  /-- a range object lo, lo + 1, .. below hi -/
  | rng (lo hi : Int)
  /-- a thing that is known to the object (the script; a dict while a loop walks it): read, never written while it is so -/
  | frz (o : Obj) (u : HO)
  /-- a code object's table -/
  | tbl (ps : Array Value)
  /-- any other thing, by what is true of its one object (a def of one's own: SetO a S n := HO.ext fun h => ..) -/
  | ext (φ : Heap → Prop)

abbrev Hp := Addr → Option HO
def upd (H : Hp) (a : Addr) (o : HO) : Hp := fun b => if b = a then some o else H b
theorem upd_same {H : Hp} {a : Addr} {o : HO} : upd H a o a = some o := by unfold upd; rw [if_pos rfl]
theorem upd_ne {H : Hp} {a b : Addr} {o : HO} (h : b ≠ a) : upd H a o b = H b := by unfold upd; rw [if_neg h]
theorem upd_upd {H : Hp} {a : Addr} {o u : HO} : upd (upd H a o) a u = upd H a u := by
  funext b; unfold upd; split <;> rfl
/-- two objects of different content stand apart -/
theorem ne_of {H : Hp} {a b : Addr} {o u : HO} (h : H a = some o) (h' : H b = some u) (d : o ≠ u) : a ≠ b := by
  intro e; subst e; rw [h] at h'; exact d (Option.some.inj h')
theorem ne_of_none {H : Hp} {a b : Addr} {o : HO} (h : H a = some o) (h' : H b = none) : a ≠ b := by
  intro e; subst e; rw [h] at h'; cases h'

section
variable (P : Program) (w : World)
def ObjOk (H : Hp) (h : Heap) (a : Addr) : HO → Prop
  | .lst xs => xs.length ≤ sizeLine ∧ ∃ (its : List Value) (n : Nat), Vals xs its ∧ h.get? a = some { cls := .type "list", data := .seq its.toArray n }
  | .tup xs => xs.length ≤ sizeLine ∧ ∃ its : List Value, Vals xs its ∧ IsTup h a its.toArray
  | .dK kvs => kvs.length ≤ sizeLine ∧ (a == sysModules) = false ∧ ∃ vs, KV kvs vs ∧ h.DictOf (mixKind P w) a vs
  | .dT kvs => kvs.length ≤ sizeLine ∧ (a == sysModules) = false ∧ ∃ xs : List (List Key × Addr × Value),
      Paired (fun (p : List Key × V) (q : List Key × Addr × Value) => p.1 = q.1 ∧ H q.2.1 = some (.tup (p.1.map kV)) ∧ RelV p.2 q.2.2) kvs xs ∧
      ∃ o es ep, h.get? a = some o ∧ o.ExactDict ∧ o.data = .dict es ep ∧ es.toList = xs.map (entryOfKey (tupleKind (mixKind P w))) ∧ (xs.map (·.1)).Nodup
  | .set S n => h.SetOf (intKind P w) a S n
  | .ins C dx fs => H dx = some (.own a) ∧ fs.length ≤ 1000 ∧ dx ≠ a ∧ h.get? a = some (PySem.W.instObj C dx) ∧
      ∃ mA, h.Ns1 dx mA ∧ (∀ f, RelO (fs.lookup f) (mA f)) ∧ PySem.Within mA (fs.map (·.1))
  | .own _ => ∃ o, h.get? a = some o
  | .xd fs => ∃ mA, h.Ns1 a mA ∧ ∀ f, RelO (fs.lookup f) (mA f)
  | .rng lo hi => ∃ t u v, h.get? a = some { cls := .type "range", data := .fields #[.int lo t, .int hi u, .int 1 v] }
  | .frz o u => h.get? a = some o ∧ ObjOk H h a u
  | .tbl ps => h.get? a = some { cls := .none, data := .fields ps }
  | .met f x => h.get? a = some (PySem.W.methodObj (.ref f) (.ref x))
  | .ext φ => φ h ∧ (∃ o, h.get? a = some o) ∧ ∀ h1 h2 : Heap, φ h1 → (∀ o, h1.get? a = some o → h2.get? a = some o) → φ h2
/-- the abstract heap is held -/
def HOk (H : Hp) (h : Heap) : Prop := ∀ a o, H a = some o → ObjOk P w H h a o
end

section
variable {P : Program} {w : World} {H H' : Hp} {h h' : Heap} {a : Addr} {o : HO}
theorem ObjOk.lt (x : ObjOk P w H h a o) : a < h.objs.size := by
  cases o with
  | lst xs => obtain ⟨_, _, _, _, e⟩ := x; exact Heap.lt_size e
  | tup xs => obtain ⟨_, _, _, p⟩ := x; exact p.lt
  | dK kvs => obtain ⟨_, _, _, _, o, _, _, e, _⟩ := x; exact Heap.lt_size e
  | dT kvs => obtain ⟨_, _, _, _, o, _, _, e, _⟩ := x; exact Heap.lt_size e
  | set S n => obtain ⟨o, _, _, _, e, _⟩ := x; exact Heap.lt_size e
  | ins C dx fs => obtain ⟨_, _, _, e, _⟩ := x; exact Heap.lt_size e
  | own y => obtain ⟨_, e⟩ := x; exact Heap.lt_size e
  | xd fs => obtain ⟨_, ⟨_, _, _, e, _⟩, _⟩ := x; exact Heap.lt_size e
  | rng lo hi => obtain ⟨_, _, _, e⟩ := x; exact Heap.lt_size e
  | frz ob u => obtain ⟨e, _⟩ := x; exact Heap.lt_size e
  | tbl ps => exact Heap.lt_size (show h.get? a = some _ from x)
  | met f y => exact Heap.lt_size (show h.get? a = some _ from x)
  | ext φ => obtain ⟨_, ⟨_, e⟩, _⟩ := x; exact Heap.lt_size e
theorem Paired.mapP {α β : Type} {F G : α → β → Prop} : ∀ {l₁ : List α} {l₂ : List β}, Paired F l₁ l₂ → (∀ a b, F a b → G a b) → Paired G l₁ l₂
  | _, _, .nil, _ => .nil
  | _, _, .cons r t, f => .cons (f _ _ r) (Paired.mapP t f)
theorem Paired.imp' {α β : Type} {F G : α → β → Prop} (f : ∀ a b, F a b → G a b) {l₁ : List α} {l₂ : List β} (r : Paired F l₁ l₂) : Paired G l₁ l₂ := Paired.mapP r f
/-- what an object's description leans on: its own object, its own dict, the tuples -/
theorem ObjOk.stay (x : ObjOk P w H h a o) (k : ∀ b u, (b = a ∨ H b = some (.own a)) → h.get? b = some u → h'.get? b = some u)
    (ho : ∀ b, H b = some (.own a) → H' b = some (.own a)) (ht : ∀ b xs, H b = some (.tup xs) → H' b = some (.tup xs)) : ObjOk P w H' h' a o := by
  induction o with
  | lst xs => obtain ⟨z, its, n, r, e⟩ := x; exact ⟨z, its, n, r, k _ _ (.inl rfl) e⟩
  | tup xs => obtain ⟨z, its, r, ob, e, c⟩ := x; exact ⟨z, its, r, ob, k _ _ (.inl rfl) e, c⟩
  | dK kvs => obtain ⟨z, y, vs, r, ob, es, ep, e, c⟩ := x; exact ⟨z, y, vs, r, ob, es, ep, k _ _ (.inl rfl) e, c⟩
  | dT kvs =>
    obtain ⟨z, y, xs, r, ob, es, ep, e, c⟩ := x
    exact ⟨z, y, xs, Paired.mapP r fun p q z => ⟨z.1, ht _ _ z.2.1, z.2.2⟩, ob, es, ep, k _ _ (.inl rfl) e, c⟩
  | set S n => obtain ⟨ob, es, ep, t, e, c⟩ := x; exact ⟨ob, es, ep, t, k _ _ (.inl rfl) e, c⟩
  | ins C dx fs =>
    obtain ⟨d, z, ne, e, mA, ⟨od, es, ep, e2, c⟩, r⟩ := x
    exact ⟨ho _ d, z, ne, k _ _ (.inl rfl) e, mA, ⟨od, es, ep, k _ _ (.inr d) e2, c⟩, r⟩
  | own y => obtain ⟨ob, e⟩ := x; exact ⟨ob, k _ _ (.inl rfl) e⟩
  | xd fs => obtain ⟨mA, ⟨od, es, ep, e, c⟩, r⟩ := x; exact ⟨mA, ⟨od, es, ep, k _ _ (.inl rfl) e, c⟩, r⟩
  | rng lo hi => obtain ⟨t, u, v, e⟩ := x; exact ⟨t, u, v, k _ _ (.inl rfl) e⟩
  | frz ob u ih => obtain ⟨e, q⟩ := x; exact ⟨k _ _ (.inl rfl) e, ih q⟩
  | tbl ps =>
    have e : h.get? a = some { cls := .none, data := .fields ps } := x
    show h'.get? a = some { cls := .none, data := .fields ps }
    exact k a _ (.inl rfl) e
  | met f y =>
    have e : h.get? a = some (PySem.W.methodObj (.ref f) (.ref y)) := x
    show h'.get? a = some (PySem.W.methodObj (.ref f) (.ref y))
    exact k a _ (.inl rfl) e
  | ext φ => obtain ⟨p, ⟨o, e⟩, st⟩ := x; exact ⟨st _ _ p fun o q => k _ _ (.inl rfl) q, ⟨o, k _ _ (.inl rfl) e⟩, st⟩
theorem HOk.lt (x : HOk P w H h) (e : H a = some o) : a < h.objs.size := (x a o e).lt
theorem HOk.fresh (x : HOk P w H h) (e : h.objs.size ≤ a) : H a = none := by
  cases q : H a with
  | none => rfl
  | some u => exact absurd (Nat.lt_of_lt_of_le (x.lt q) e) (Nat.lt_irrefl _)
/-- every object of the heap is kept -/
theorem HOk.kept (x : HOk P w H h) (k : ∀ b u, h.get? b = some u → h'.get? b = some u) : HOk P w H h' := fun a o e =>
  (x a o e).stay (fun b u _ q => k b u q) (fun _ q => q) fun _ _ q => q
/-- a new object is laid and tracked -/
theorem HOk.laid (x : HOk P w H h) (k : ∀ b u, h.get? b = some u → h'.get? b = some u) (hp : h.objs.size ≤ a) (new : ObjOk P w (upd H a o) h' a o) : HOk P w (upd H a o) h' := fun b u e => by
  have hn := x.fresh hp
  by_cases hb : b = a
  · subst hb; rw [upd_same] at e; cases e; exact new
  · rw [upd_ne hb] at e
    exact (x b u e).stay (fun c v _ q => k c v q) (fun c q => by rw [upd_ne (ne_of_none q hn)]; exact q) fun c xs q => by rw [upd_ne (ne_of_none q hn)]; exact q
end

/-- what may be read as u: it is u, or a known u -/
def Rd (H : Hp) (a : Addr) (u : HO) : Prop := H a = some u ∨ ∃ o, H a = some (.frz o u)
theorem Rd.of {H : Hp} {a : Addr} {u : HO} (h : H a = some u) : Rd H a u := .inl h
theorem Rd.ok {P : Program} {w : World} {H : Hp} {h : Heap} {a : Addr} {u : HO} (r : Rd H a u) (x : HOk P w H h) : ObjOk P w H h a u := by
  rcases r with r | ⟨o, r⟩
  · exact x a u r
  · obtain ⟨_, q⟩ := x a _ r
    exact q
/-- what may be written -/
def Mut : Option HO → Prop
  | some (.lst _) => True
  | some (.dK _) => True
  | some (.dT _) => True
  | some (.set _ _) => True
  | some (.ins _ _ _) => True
  | some (.ext _) => True
  | _ => False
section
variable {P : Program} {w : World} {H : Hp} {h h' : Heap} {x e : Addr} {o' : HO}
/-- the object at e is changed: x itself, or the dict of the instance x -/
theorem HOk.write (ok : HOk P w H h) (mu : Mut (H x)) (he : e = x ∨ H e = some (.own x)) (k : ∀ b u, b ≠ e → h.get? b = some u → h'.get? b = some u) (heo : ∃ u, h'.get? e = some u)
    (new : ObjOk P w (upd H x o') h' x o') : HOk P w (upd H x o') h' := fun b u q => by
  have nown : ∀ c y, H c = some (.own y) → c ≠ x := fun c y r z => by subst z; rw [r] at mu; exact mu
  have ntup : ∀ c xs, H c = some (.tup xs) → c ≠ x := fun c xs r z => by subst z; rw [r] at mu; exact mu
  by_cases hb : b = x
  · subst hb; rw [upd_same] at q; cases q; exact new
  · rw [upd_ne hb] at q
    by_cases hbe : b = e
    · have q' : H b = some (.own x) := by
        rcases he with z | z
        · exact absurd (hbe.trans z) hb
        · rw [hbe]; exact z
      rw [q] at q'; cases q'
      obtain ⟨v, hv⟩ := heo
      exact ⟨v, by rw [hbe]; exact hv⟩
    · refine (ok b u q).stay (fun c v hc r => k c v ?_ r) (fun c r => by rw [upd_ne (nown c b r)]; exact r) fun c xs r => by rw [upd_ne (ntup c xs r)]; exact r
      rcases hc with rfl | hc
      · exact hbe
      · rintro rfl
        rcases he with z | z
        · exact nown c b hc z
        · rw [hc] at z; cases z; exact hb rfl
end

/-! ### kept unless tracked; of the frames at fs (the callers') the slots may change (an exception that passes writes there); of the records at ex (iterators) nothing is said -/
structure Un (fs ex : List Addr) (H H' : Hp) (h h' : Heap) : Prop where
  keep : ∀ b o, h.get? b = some o → H b = none → b ∉ fs → b ∉ ex → h'.get? b = some o
  slot : ∀ b o, h.get? b = some o → H b = none → b ∈ fs → b ∉ ex → ∃ sl, h'.get? b = some { o with slots := sl }
  free : ∀ b o, h.get? b = some o → H b = none → b ∉ ex → H' b = none
  there : ∀ b o, h.get? b = some o → b ∉ ex → ∃ o', h'.get? b = some o'
  tups : ∀ b xs, H b = some (.tup xs) → H' b = some (.tup xs)
  frzs : ∀ b o u, H b = some (.frz o u) → H' b = some (.frz o u)
  tbls : ∀ b ps, H b = some (.tbl ps) → ∃ more, H' b = some (.tbl (ps ++ more))
section
variable {fs fs' ex ex' : List Addr} {H H1 H2 : Hp} {h h1 h2 h' : Heap} {a x e : Addr} {o : HO}
theorem Un.any (u : Un fs ex H H1 h h1) {b : Addr} {ob : Obj} (q : h.get? b = some ob) (n : H b = none) (hx : b ∉ ex) : ∃ sl, h1.get? b = some { ob with slots := sl } := by
  by_cases hb : b ∈ fs
  · exact u.slot b ob q n hb hx
  · exact ⟨ob.slots, u.keep b ob q n hb hx⟩
theorem Un.trans (a : Un fs ex H H1 h h1) (b : Un fs ex H1 H2 h1 h2) : Un fs ex H H2 h h2 where
  keep := fun c ob q n hc hx => b.keep c ob (a.keep c ob q n hc hx) (a.free c ob q n hx) hc hx
  slot := fun c ob q n hc hx => by
    obtain ⟨sl, e1⟩ := a.slot c ob q n hc hx
    obtain ⟨sl', e2⟩ := b.slot c _ e1 (a.free c ob q n hx) hc hx
    exact ⟨sl', e2⟩
  free := fun c ob q n hx => by
    obtain ⟨o', e1⟩ := a.there c ob q hx
    exact b.free c o' e1 (a.free c ob q n hx) hx
  there := fun c ob q hx => by
    obtain ⟨o', e1⟩ := a.there c ob q hx
    exact b.there c o' e1 hx
  tups := fun c xs q => b.tups c xs (a.tups c xs q)
  frzs := fun c ob xs q => b.frzs c ob xs (a.frzs c ob xs q)
  tbls := fun c ps q => by
    obtain ⟨m1, e1⟩ := a.tbls c ps q
    obtain ⟨m2, e2⟩ := b.tbls c _ e1
    exact ⟨m1 ++ m2, by rw [e2, Array.append_assoc]⟩
theorem Un.kept (k : ∀ b u, h.get? b = some u → h'.get? b = some u) : Un fs ex H H h h' :=
  ⟨fun b ob q _ _ _ => k b ob q, fun b ob q _ _ _ => ⟨ob.slots, k b ob q⟩, fun _ _ _ n _ => n, fun b ob q _ => ⟨ob, k b ob q⟩, fun _ _ q => q, fun _ _ _ q => q, fun _ ps q => ⟨#[], by rw [q]; simp⟩⟩
theorem Un.refl : Un fs ex H H h h := Un.kept fun _ _ q => q
theorem Un.laid (k : ∀ b u, h.get? b = some u → h'.get? b = some u) (hp : h.objs.size ≤ a) (hn : H a = none) : Un fs ex H (upd H a o) h h' where
  keep := fun b u q _ _ _ => k b u q
  slot := fun b u q _ _ _ => ⟨u.slots, k b u q⟩
  free := fun b u q n _ => by rw [upd_ne (Nat.ne_of_lt (Nat.lt_of_lt_of_le (Heap.lt_size q) hp))]; exact n
  there := fun b u q _ => ⟨u, k b u q⟩
  tups := fun b xs q => by rw [upd_ne (ne_of_none q hn)]; exact q
  frzs := fun b u xs q => by rw [upd_ne (ne_of_none q hn)]; exact q
  tbls := fun b ps q => ⟨#[], by rw [upd_ne (ne_of_none q hn), q]; simp⟩
theorem Un.write (mu : Mut (H x)) (he : e = x ∨ H e = some (.own x)) (k : ∀ b u, b ≠ e → h.get? b = some u → h'.get? b = some u) (heo : ∃ u, h'.get? e = some u) : Un fs ex H (upd H x o) h h' := by
  have hx : ∀ b, H b = none → b ≠ x := fun b n z => by subst z; rw [n] at mu; exact mu
  have hb : ∀ b, H b = none → b ≠ e := fun b n z => by
    subst z
    rcases he with r | r
    · exact hx b n r
    · rw [n] at r; cases r
  have hm : ∀ b u, H b = some u → ¬ Mut (some u) → b ≠ x := fun b u q nm z => by subst z; rw [q] at mu; exact nm mu
  refine ⟨fun b u q n _ _ => k b u (hb b n) q, fun b u q n _ _ => ⟨u.slots, k b u (hb b n) q⟩, fun b u q n _ => by rw [upd_ne (hx b n)]; exact n, fun b u q _ => ?_,
    fun b xs q => by rw [upd_ne (hm b _ q fun z => z)]; exact q, fun b u xs q => by rw [upd_ne (hm b _ q fun z => z)]; exact q, fun b ps q => ⟨#[], by rw [upd_ne (hm b _ q fun z => z), q]; simp⟩⟩
  by_cases hbe : b = e
  · subst hbe; exact heo
  · exact ⟨u, k b u hbe q⟩
theorem Un.mono (u : Un fs ex H H1 h h1) (hs : ∀ b ∈ fs, b ∈ fs') (hx : ∀ b ∈ ex, b ∈ ex') : Un fs' ex' H H1 h h1 :=
  ⟨fun b ob q n hb he => u.keep b ob q n (fun z => hb (hs b z)) fun z => he (hx b z), fun _ _ q n _ he => u.any q n fun z => he (hx _ z), fun b ob q n he => u.free b ob q n fun z => he (hx b z), fun b ob q he => u.there b ob q fun z => he (hx b z), u.tups, u.frzs, u.tbls⟩
end

/-! ### the heap without what is tracked -/
def trk (h : Heap) (H : Hp) : List Addr := (List.range h.objs.size).filter fun a => (H a).isSome
def hidT (h : Heap) (H : Hp) : Heap := PySem.W.hideAll h (trk h H)
theorem hidT_size (h : Heap) (H : Hp) : (hidT h H).objs.size = h.objs.size := PySem.W.hideAll_size _ _
theorem hidT_get {h : Heap} {H : Hp} {b : Addr} {o : Obj} (e : h.get? b = some o) (n : H b = none) : (hidT h H).get? b = some o :=
  PySem.W.hideAll_get _ e fun hm => by
    have q : (H b).isSome = true := (List.mem_filter.mp hm).2
    rw [n] at q; simp at q
theorem of_hidT {h : Heap} {H : Hp} {b : Addr} {o : Obj} (e : (hidT h H).get? b = some o) : h.get? b = some o ∧ H b = none := by
  have e' : h.get? b = some o := PySem.W.of_hideAll (trk h H) e
  refine ⟨e', ?_⟩
  cases q : H b with
  | none => rfl
  | some x =>
    have hm : b ∈ trk h H := List.mem_filter.mpr ⟨List.mem_range.mpr (Heap.lt_size e'), by simp [q]⟩
    have z : (hidT h H).get? b = none := PySem.W.hideAll_none (trk h H) hm
    rw [z] at e; cases e

/-! ### OpenK's ledger, filled with every new object but one -/
def allNews (g h : Heap) (L : Addr) : List (Addr × Obj) := (List.range h.objs.size).filterMap fun a => if a = L ∨ (g.get? a).isSome = true then none else (h.get? a).map fun o => (a, o)
theorem mem_allNews {g h : Heap} {L a : Addr} {o : Obj} (h1 : a ≠ L) (h2 : g.get? a = none) (h3 : h.get? a = some o) : (a, o) ∈ allNews g h L :=
  List.mem_filterMap.mpr ⟨a, List.mem_range.mpr (Heap.lt_size h3), by simp [h1, h2, h3]⟩
theorem of_mem_allNews {g h : Heap} {L : Addr} {p : Addr × Obj} (hp : p ∈ allNews g h L) : p.1 ≠ L ∧ g.get? p.1 = none ∧ h.get? p.1 = some p.2 := by
  obtain ⟨b, _, e⟩ := List.mem_filterMap.mp hp
  split at e
  · cases e
  · rename_i hn
    cases q : h.get? b with
    | none => rw [q] at e; simp at e
    | some u =>
      rw [q] at e
      simp only [Option.map_some, Option.some.injEq] at e
      subst e
      refine ⟨fun z => hn (.inl z), ?_, q⟩
      show g.get? b = none
      cases r : g.get? b with
      | none => rfl
      | some v => exact (hn (.inr (by simp [r]))).elim
def rest (g h : Heap) (L d : Addr) : List (Addr × Obj) := (allNews g h L).filter fun p => decide (p.1 ≠ d)
theorem rest_ne {g h : Heap} {L d : Addr} : ∀ p ∈ rest g h L d, p.1 ≠ d := fun p hp => of_decide_eq_true (List.mem_filter.mp hp).2
theorem mem_rest {g h : Heap} {L d a : Addr} {o : Obj} (h1 : a ≠ L) (h2 : g.get? a = none) (h3 : h.get? a = some o) (h4 : a ≠ d) : (a, o) ∈ rest g h L d :=
  List.mem_filter.mpr ⟨mem_allNews h1 h2 h3, decide_eq_true h4⟩
theorem news_all {g h : Heap} {L : Addr} : News g L h (allNews g h L) := fun p hp => let ⟨a, b, c⟩ := of_mem_allNews hp; ⟨c, a, b⟩
theorem news_at {g h : Heap} {L d : Addr} {o : Obj} (h1 : d ≠ L) (h2 : g.get? d = none) (h3 : h.get? d = some o) : News g L h ((d, o) :: rest g h L d) := fun p hp => by
  rcases List.mem_cons.mp hp with rfl | hp
  · exact ⟨h3, h1, h2⟩
  · exact news_all p (List.mem_filter.mp hp).1
/-- behind a rule that changed d alone: all else but the frame is kept -/
theorem kept_of_news {g h h' : Heap} {L d : Addr} {m : Str → Option Value} (k : ∀ b o, g.get? b = some o → h.get? b = some o) (F : Fr g L h' m) (N : News g L h' (rest g h L d)) :
    ∀ b o, b ≠ L → b ≠ d → h.get? b = some o → h'.get? b = some o := fun b o h1 h2 e => by
  cases q : g.get? b with
  | some u =>
    have := k b u q
    rw [e] at this; cases this
    exact F.keep b _ q
  | none => exact (N (b, o) (mem_rest h1 q e h2)).1
end L2

namespace L2
open PySem PySem.Spec PyProof.Rows

/-- the module's facts, over the base: the heap at the law's entry without what is tracked there -/
structure Mod (K : PySem.W.Frag) (mg : Str → Option Value) (base : Heap) : Prop where
  kin : K.In base
  glob : base.Ns mainGlobals mg
  blt : ∃ mb, base.Ns builtinsNs mb ∧ ∀ x : Str, x ≠ "__name__" → mb x = bootBuiltins x
  nolimit : base.NoLimit

/-- the context: a def's body (or a comprehension's block) running. base: fixed through the whole law; s₀, H₀: the entry; outer: the frames whose slots others may change (a def's callers); stack: all frames that run;
   ex: iterators that were made ahead of the entry and are walked here (a comprehension's); fn: the names whose cells were made at the entry (a def: all; a comprehension's block: its own); calm: not within an except suite; pn: pins that every state bears; xe: what is wanted of an exception that leaves the code -/
structure Cx where
  prog : Program
  w : World
  K : PySem.W.Frag
  mg : Str → Option Value
  base : Heap
  A : Around
  N : List Str
  s₀ : Shared
  H₀ : Hp
  env : Env
  outer : List Env
  stack : List Env
  ex : List Addr
  fn : Str → Bool
  calm : Bool
  pn : List (Addr × Obj)
  xe : Value → Shared → Prop
/-- the callers' frames -/
def frs (l : List Env) : List Addr := l.filterMap (·.frame)
abbrev Cx.fs (X : Cx) : List Addr := frs X.outer

def Vis (sc : Scope) (x : Str) : Prop := sc.names.lookup x = some .local ∨ sc.names.lookup x = some .cell ∨ sc.names.lookup x = some .free
def Loc (sc : Scope) (x : Str) : Prop := sc.names.lookup x = some .local ∨ sc.names.lookup x = some .cell
def Look (env : Env) (h : Heap) (m : Str → Option Value) (x : Str) (u : Value) : Prop :=
  (env.kindOf x = some .local ∧ m x = some u) ∨ ((env.kindOf x = some .cell ∨ env.kindOf x = some .free) ∧ ∃ c, env.cells.lookup x = some c ∧ h.IsCell c (some u))

structure Cx.Ok (X : Cx) : Prop where
  mod : Mod X.K X.mg X.base
  kind : X.env.scope.kind = .function
  glob : X.env.globals = mainGlobals
  blt : X.env.builtins = builtinsNs
  above : X.s₀.heap.objs.size ≤ X.env.locals
  inj : ∀ x y c, X.env.cells.lookup x = some c → X.env.cells.lookup y = some c → x = y
  has : ∀ x, (X.env.kindOf x = some .cell ∨ X.env.kindOf x = some .free) → ∃ c, X.env.cells.lookup x = some c
  cab : ∀ x c, X.fn x = true → X.env.cells.lookup x = some c → X.s₀.heap.objs.size ≤ c
  hd : X.calm = true → X.A.handled = none
  frames : X.A.frames = some X.stack
  stk : X.stack = X.outer ∨ (X.stack = X.env :: X.outer ∧ X.env.frame = some X.env.locals)
  exf : ∀ b ∈ X.ex, b ≠ X.env.locals ∧ ∀ x c, X.env.cells.lookup x = some c → c ≠ b
  bs : ∀ b o, X.base.get? b = some o → X.s₀.heap.get? b = some o ∧ X.H₀ b = none
  bsz : X.base.objs.size ≤ X.s₀.heap.objs.size
  noex : ∀ b o, X.base.get? b = some o → b ∉ X.ex
  exfs : ∀ b ∈ X.ex, b ∉ X.fs
  funs : X.s₀.heap.FunFrames X.base X.outer
  frf : ∀ b ∈ X.fs, X.H₀ b = none

structure Inv (X : Cx) (pins : List (Addr × Obj)) (σ : List (Option V)) (H : Hp) (s : Shared) : Prop where
  ok : X.Ok
  os : s.os = X.s₀.os
  bare : AllBare s.gens
  base : Un X.fs X.ex X.H₀ H X.s₀.heap s.heap
  loc : ∃ m, s.heap.Ns X.env.locals m ∧ ∀ (i : Nat) (x : Str) (v : V), X.N[i]? = some x → σ[i]? = some (some v) → Vis X.env.scope x → ∃ u, RelV v u ∧ Look X.env s.heap m x u
  cell : ∀ x c, X.env.cells.lookup x = some c → ∃ v, s.heap.IsCell c v
  free : H X.env.locals = none
  freeC : ∀ x c, X.env.cells.lookup x = some c → H c = none
  pin : ∀ p ∈ X.pn ++ pins, s.heap.get? p.1 = some p.2 ∧ H p.1 = none ∧ p.1 ≠ X.env.locals ∧ p.1 ∉ X.fs ∧ ∀ v, p.2.data ≠ .cell v
  hok : HOk X.prog X.w H s.heap
  len : σ.length = X.N.length

section
variable {X : Cx} {pins : List (Addr × Obj)} {σ : List (Option V)} {H H' : Hp} {s : Shared} {h' : Heap}

theorem Cx.Ok.nofr (ok : X.Ok) {b : Addr} {o : Obj} (e : X.base.get? b = some o) : b ∉ X.fs := fun hb => by
  have := (ok.funs.mem hb).1
  rw [e] at this; cases this
theorem Inv.bs (I : Inv X pins σ H s) : ∀ b o, X.base.get? b = some o → s.heap.get? b = some o ∧ H b = none := fun b o e =>
  ⟨I.base.keep b o (I.ok.bs b o e).1 (I.ok.bs b o e).2 (I.ok.nofr e) (I.ok.noex b o e), I.base.free b o (I.ok.bs b o e).1 (I.ok.bs b o e).2 (I.ok.noex b o e)⟩
theorem Inv.bk (I : Inv X pins σ H s) : ∀ b o, X.base.get? b = some o → s.heap.get? b = some o := fun b o e => (I.bs b o e).1
theorem Inv.mod (I : Inv X pins σ H s) : Mod X.K X.mg X.base := I.ok.mod
theorem Inv.kIn (I : Inv X pins σ H s) : X.K.In s.heap := I.ok.mod.kin.keeps I.bk
theorem Inv.nolimit (I : Inv X pins σ H s) : s.heap.NoLimit := I.ok.mod.nolimit.keeps I.bk
/-- the frame over the base: for OpenK's rules (K.In X.base is I.mod.kin) -/
theorem Inv.fr (I : Inv X pins σ H s) : ∃ m, Fr X.base X.env.locals s.heap m :=
  let ⟨m, hn, _⟩ := I.loc
  ⟨m, hn, I.bk, Nat.le_trans I.ok.bsz I.ok.above⟩
theorem Inv.lt (I : Inv X pins σ H s) : X.env.locals < s.heap.objs.size := let ⟨_, hn, _⟩ := I.loc; hn.lt
theorem Inv.sz (I : Inv X pins σ H s) : X.s₀.heap.objs.size ≤ s.heap.objs.size := Nat.le_trans I.ok.above (Nat.le_of_lt I.lt)
theorem Inv.nofs (I : Inv X pins σ H s) {a : Addr} (h : s.heap.objs.size ≤ a) : a ∉ X.fs := fun hb => by
  obtain ⟨_, o, ho, _⟩ := I.ok.funs.mem hb
  exact absurd (Nat.lt_of_lt_of_le (Heap.lt_size ho) (Nat.le_trans I.sz h)) (Nat.lt_irrefl _)
theorem Inv.cne (I : Inv X pins σ H s) : ∀ x c, X.env.cells.lookup x = some c → c ≠ X.env.locals := fun x c e z => by
  obtain ⟨v, o, ho, hd⟩ := I.cell x c e
  obtain ⟨m, ⟨o', es, ep, ho', hd', _⟩, _⟩ := I.loc
  rw [z, ho'] at ho; cases ho; rw [hd'] at hd; cases hd
theorem Inv.funs (I : Inv X pins σ H s) : s.heap.FunFrames X.base X.outer := by
  have all : ∀ (l : List Env), (∀ b ∈ frs l, b ∈ X.fs) → X.s₀.heap.FunFrames X.base l → s.heap.FunFrames X.base l := by
    intro l
    induction l with
    | nil => intro _ _; trivial
    | cons env r ih =>
      intro hs hl
      obtain ⟨hk, ⟨L, o, hf, hn, ho, hd⟩, hr⟩ := hl
      have hL : L ∈ X.fs := hs L (by unfold frs; rw [List.filterMap_cons, hf]; exact List.mem_cons_self)
      obtain ⟨sl, e⟩ := I.base.slot L o ho (I.ok.frf L hL) hL fun z => I.ok.exfs L z hL
      exact ⟨hk, ⟨L, _, hf, hn, e, hd⟩, ih (fun b hb => hs b (by unfold frs; rw [List.filterMap_cons, hf]; exact List.mem_cons_of_mem _ hb)) hr⟩
  exact all X.outer (fun _ hb => hb) I.ok.funs

/-- the frames that run, for a call -/
theorem Inv.stack (I : Inv X pins σ H s) : s.heap.FunFrames X.base X.stack := by
  rcases I.ok.stk with e | ⟨e, hf⟩
  · rw [e]; exact I.funs
  · rw [e]
    obtain ⟨m, hn, _⟩ := I.loc
    refine .cons (by rw [I.ok.kind]; decide) hf hn ?_ I.funs
    exact Heap.get?_none_of_le (Nat.le_trans I.ok.bsz I.ok.above)
theorem Inv.stkSub (I : Inv X pins σ H s) : ∀ b ∈ frs X.stack, b ∈ X.env.locals :: X.fs := fun b hb => by
  rcases I.ok.stk with e | ⟨e, hf⟩
  · rw [e] at hb; exact List.mem_cons_of_mem _ hb
  · rw [e] at hb
    unfold frs at hb
    rw [List.filterMap_cons, hf] at hb
    exact hb
theorem Inv.stkFree (I : Inv X pins σ H s) : ∀ b ∈ frs X.stack, H b = none := fun b hb => by
  rcases List.mem_cons.mp (I.stkSub b hb) with e | hb
  · rw [e]; exact I.free
  · obtain ⟨_, o, ho, _⟩ := I.ok.funs.mem hb
    exact I.base.free b o ho (I.ok.frf b hb) fun z => I.ok.exfs b z hb

/-- THE STEP: the untracked objects but the frame and the records at ch are kept (the callers' frames up to slots), the frame's map is kept, the new abstract heap is held -/
theorem Inv.step {g' : Array GenState} {t' : Nat} {d' : Drawn} {ch : List Addr} (I : Inv X pins σ H s)
    (hch : ∀ b ∈ ch, (b ∈ X.ex ∨ X.s₀.heap.objs.size ≤ b) ∧ b ≠ X.env.locals ∧ (∀ x c, X.env.cells.lookup x = some c → c ≠ b) ∧ ∀ p ∈ X.pn ++ pins, p.1 ≠ b)
    (keep : ∀ b o, b ≠ X.env.locals → b ∉ X.fs → b ∉ ch → s.heap.get? b = some o → H b = none → h'.get? b = some o)
    (slot : ∀ b o, b ≠ X.env.locals → b ∈ X.fs → b ∉ ch → s.heap.get? b = some o → H b = none → ∃ sl, h'.get? b = some { o with slots := sl }) (free : ∀ b o, b ∉ ch → s.heap.get? b = some o → H b = none → H' b = none)
    (there : ∀ b o, b ∉ ch → s.heap.get? b = some o → ∃ o', h'.get? b = some o')
    (tups : ∀ b xs, H b = some (.tup xs) → H' b = some (.tup xs)) (frzs : ∀ b o u, H b = some (.frz o u) → H' b = some (.frz o u)) (tbls : ∀ b ps, H b = some (.tbl ps) → ∃ more, H' b = some (.tbl (ps ++ more)))
    (ns : ∀ m, s.heap.Ns X.env.locals m → h'.Ns X.env.locals m) (hok : HOk X.prog X.w H' h') (hg : AllBare g') :
    Inv X pins σ H' { s with heap := h', gens := g', drawn := d', toks := t' } := by
  have neL : ∀ b o, X.s₀.heap.get? b = some o → b ≠ X.env.locals := fun b o e => Nat.ne_of_lt (Nat.lt_of_lt_of_le (Heap.lt_size e) I.ok.above)
  have neC : ∀ b o, X.s₀.heap.get? b = some o → b ∉ X.ex → b ∉ ch := fun b o e hx hb => by
    rcases (hch b hb).1 with z | z
    · exact hx z
    · exact absurd (Nat.lt_of_lt_of_le (Heap.lt_size e) z) (Nat.lt_irrefl _)
  have cellK : ∀ x c, X.env.cells.lookup x = some c → ∀ v, s.heap.IsCell c v → h'.IsCell c v := fun x c e v ⟨o, ho, hd⟩ => by
    have nch : c ∉ ch := fun z => (hch c z).2.2.1 x c e rfl
    by_cases hc : c ∈ X.fs
    · obtain ⟨sl, q⟩ := slot c o (I.cne x c e) hc nch ho (I.freeC x c e)
      exact ⟨_, q, hd⟩
    · exact ⟨o, keep c o (I.cne x c e) hc nch ho (I.freeC x c e), hd⟩
  refine ⟨I.ok, I.os, hg, ⟨fun b o e n hb hx => ?_, fun b o e n hb hx => ?_, fun b o e n hx => ?_, fun b o e hx => ?_, fun b xs e => tups b xs (I.base.tups b xs e), fun b o xs e => frzs b o xs (I.base.frzs b o xs e), fun b ps e => ?_⟩, ?_, fun x c e => ?_, ?_, fun x c e => ?_, fun p hp => ?_, hok, I.len⟩
  · exact keep b o (neL b o e) hb (neC b o e hx) (I.base.keep b o e n hb hx) (I.base.free b o e n hx)
  · obtain ⟨sl, e1⟩ := I.base.slot b o e n hb hx
    obtain ⟨sl', e2⟩ := slot b _ (neL b o e) hb (neC b o e hx) e1 (I.base.free b o e n hx)
    exact ⟨sl', e2⟩
  · obtain ⟨o', e1⟩ := I.base.there b o e hx
    exact free b o' (neC b o e hx) e1 (I.base.free b o e n hx)
  · obtain ⟨o', e1⟩ := I.base.there b o e hx
    exact there b o' (neC b o e hx) e1
  · obtain ⟨m1, e1⟩ := I.base.tbls b ps e
    obtain ⟨m2, e2⟩ := tbls b _ e1
    exact ⟨m1 ++ m2, by rw [e2, Array.append_assoc]⟩
  · obtain ⟨m, hn, hl⟩ := I.loc
    refine ⟨m, ns m hn, fun i x v e1 e2 e3 => ?_⟩
    obtain ⟨u, r, l⟩ := hl i x v e1 e2 e3
    refine ⟨u, r, ?_⟩
    rcases l with l | ⟨k, c, e, z⟩
    · exact .inl l
    · exact .inr ⟨k, c, e, cellK x c e _ z⟩
  · obtain ⟨v, z⟩ := I.cell x c e
    exact ⟨v, cellK x c e v z⟩
  · obtain ⟨m, ⟨o, _, _, ho, _⟩, _⟩ := I.loc
    exact free _ o (fun z => (hch _ z).2.1 rfl) ho I.free
  · obtain ⟨v, o, ho, hd⟩ := I.cell x c e
    exact free c o (fun z => (hch c z).2.2.1 x c e rfl) ho (I.freeC x c e)
  · obtain ⟨e, n, ne, nf, d⟩ := I.pin p hp
    have nch : p.1 ∉ ch := fun z => (hch p.1 z).2.2.2 p hp rfl
    exact ⟨keep p.1 p.2 ne nf nch e n, free p.1 p.2 nch e n, ne, nf, d⟩
/-- .. where the frame's own object is kept too -/
theorem Inv.un {t' : Nat} (I : Inv X pins σ H s) (u : Un X.fs [] H H' s.heap h') (hok : HOk X.prog X.w H' h') : Inv X pins σ H' { s with heap := h', toks := t' } := by
  obtain ⟨m, ⟨o, es, ep, ho, r⟩, _⟩ := id I.loc
  obtain ⟨sl, hL⟩ := u.any ho I.free (by simp)
  exact I.step (g' := s.gens) (d' := s.drawn) (ch := []) (fun _ z => nomatch z) (fun b o _ hb _ e n => u.keep b o e n hb (by simp)) (fun b o _ hb _ e n => u.slot b o e n hb (by simp)) (fun b o _ e n => u.free b o e n (by simp)) (fun b o _ e => u.there b o e (by simp)) u.tups u.frzs u.tbls (fun m' hm => by
    obtain ⟨o', es', ep', ho', r'⟩ := hm
    rw [ho] at ho'; cases ho'
    exact ⟨_, es', ep', hL, r'⟩) hok I.bare
/-- behind a call (or a comprehension's block): the slots of this frame may have changed too, the records at ch may have turned -/
theorem Inv.call {g' : Array GenState} {t' : Nat} {d' : Drawn} {ch : List Addr} (I : Inv X pins σ H s) (u : Un (frs X.stack) ch H H' s.heap h') (hok : HOk X.prog X.w H' h') (hg : AllBare g')
    (hch : ∀ b ∈ ch, (b ∈ X.ex ∨ X.s₀.heap.objs.size ≤ b) ∧ b ≠ X.env.locals ∧ (∀ x c, X.env.cells.lookup x = some c → c ≠ b) ∧ ∀ p ∈ X.pn ++ pins, p.1 ≠ b) :
    Inv X pins σ H' { s with heap := h', gens := g', drawn := d', toks := t' } := by
  obtain ⟨m, ⟨o, es, ep, ho, r⟩, _⟩ := id I.loc
  obtain ⟨sl, hL⟩ := u.any ho I.free fun z => (hch _ z).2.1 rfl
  exact I.step (ch := ch) hch (fun b o hL hb hc e n => u.keep b o e n (fun z => (List.mem_cons.mp (I.stkSub b z)).elim hL hb) hc) (fun b o _ _ hc e n => u.any e n hc) (fun b o hc e n => u.free b o e n hc) (fun b o hc e => u.there b o e hc) u.tups u.frzs u.tbls (fun m' hm => by
    obtain ⟨o', es', ep', ho', r'⟩ := hm
    rw [ho] at ho'; cases ho'
    exact ⟨_, es', ep', hL, r'⟩) hok hg
/-- an untracked record of ours (an iterator) has turned -/
theorem Inv.turned {t' : Nat} {it : Addr} (I : Inv X pins σ H s) (k : ∀ b o, b ≠ it → s.heap.get? b = some o → h'.get? b = some o) (hn : H it = none) (hL : it ≠ X.env.locals)
    (h1 : it ∈ X.ex ∨ X.s₀.heap.objs.size ≤ it) (h2 : ∀ x c, X.env.cells.lookup x = some c → c ≠ it) (h3 : ∀ p ∈ X.pn ++ pins, p.1 ≠ it) : Inv X pins σ H { s with heap := h', toks := t' } := by
  have nit : ∀ b u, H b = some u → b ≠ it := fun b u e z => by rw [z, hn] at e; cases e
  refine I.step (g' := s.gens) (d' := s.drawn) (ch := [it]) (fun b hb => ?_) (fun b o _ _ hc e _ => k b o (fun z => hc (by simp [z])) e) (fun b o _ _ hc e _ => ⟨o.slots, k b o (fun z => hc (by simp [z])) e⟩) (fun _ _ _ _ n => n)
    (fun b o hc e => ⟨o, k b o (fun z => hc (by simp [z])) e⟩) (fun _ _ e => e) (fun _ _ _ e => e) (fun b ps e => ⟨#[], by rw [e]; simp⟩) (fun m hm => ?_) (fun b u e => ?_) I.bare
  · have e : b = it := by simpa using hb
    subst e
    exact ⟨h1, hL, h2, h3⟩
  · obtain ⟨o, es, ep, ho, r⟩ := hm
    exact ⟨o, es, ep, k _ o (Ne.symm hL) ho, r⟩
  · refine (I.hok b u e).stay (fun c v hc q => k c v ?_ q) (fun _ q => q) fun _ _ q => q
    rcases hc with z | z
    · rw [z]; exact nit b u e
    · exact nit c _ z
theorem Inv.tok (I : Inv X pins σ H s) (t : Nat) : Inv X pins σ H { s with toks := t } := I.un (h' := s.heap) (t' := t) Un.refl I.hok
/-- all objects kept -/
theorem Inv.kept {t' : Nat} (I : Inv X pins σ H s) (k : ∀ b u, s.heap.get? b = some u → h'.get? b = some u) : Inv X pins σ H { s with heap := h', toks := t' } := I.un (Un.kept k) (I.hok.kept k)
/-- a new object laid and tracked -/
theorem Inv.laid {a : Addr} {o : HO} {t' : Nat} (I : Inv X pins σ H s) (k : ∀ b u, s.heap.get? b = some u → h'.get? b = some u) (hp : s.heap.objs.size ≤ a) (new : ObjOk X.prog X.w (upd H a o) h' a o) :
    Inv X pins σ (upd H a o) { s with heap := h', toks := t' } := I.un (Un.laid k hp (I.hok.fresh hp)) (I.hok.laid k hp new)
/-- an object written -/
theorem Inv.write {x e : Addr} {o : HO} {t' : Nat} (I : Inv X pins σ H s) (mu : Mut (H x)) (he : e = x ∨ H e = some (.own x)) (k : ∀ b u, b ≠ e → s.heap.get? b = some u → h'.get? b = some u) (heo : ∃ u, h'.get? e = some u)
    (new : ObjOk X.prog X.w (upd H x o) h' x o) : Inv X pins σ (upd H x o) { s with heap := h', toks := t' } := I.un (Un.write mu he k heo) (I.hok.write mu he k heo new)
/-- forgetting slots, pins -/
theorem Inv.weak {σ' : List (Option V)} (I : Inv X pins σ H s) (hl : σ'.length = σ.length) (w : ∀ (i : Nat) v, σ'[i]? = some (some v) → σ[i]? = some (some v)) : Inv X pins σ' H s :=
  ⟨I.ok, I.os, I.bare, I.base, let ⟨m, hn, hl'⟩ := I.loc; ⟨m, hn, fun i x v e1 e2 e3 => hl' i x v e1 (w i v e2) e3⟩, I.cell, I.free, I.freeC, I.pin, I.hok, hl.trans I.len⟩
theorem Inv.pins_of {pins' : List (Addr × Obj)} (I : Inv X pins σ H s) (h : ∀ p ∈ pins', s.heap.get? p.1 = some p.2 ∧ H p.1 = none ∧ p.1 ≠ X.env.locals ∧ p.1 ∉ X.fs ∧ ∀ v, p.2.data ≠ .cell v) : Inv X pins' σ H s :=
  ⟨I.ok, I.os, I.bare, I.base, I.loc, I.cell, I.free, I.freeC, fun p hp => (List.mem_append.mp hp).elim (fun z => I.pin p (List.mem_append_left _ z)) (h p), I.hok, I.len⟩

theorem nodup_ix {N : List Str} (hN : N.Nodup) {i j : Nat} {x : Str} (a : N[i]? = some x) (b : N[j]? = some x) : i = j := by
  obtain ⟨h1, e1⟩ := List.getElem?_eq_some_iff.mp a
  obtain ⟨h2, e2⟩ := List.getElem?_eq_some_iff.mp b
  exact (List.getElem_inj hN).mp (e1.trans e2.symm)

/-- a name is stored; what changed -/
theorem store_ok2 {M : Model} {A : Around} {E : Value → Shared → Prop} {i : Nat} {x : Str} {v : V} {u : Value} {Q : Unit → Shared → Prop} (I : Inv X pins σ H s) (hN : X.N.Nodup) (hi : X.N[i]? = some x) (hx : Loc X.env.scope x) (r : RelV v u)
    (h : ∀ s', Inv X pins (σ.set i (some v)) H s' → (∃ a, Heap.SameBut a s.heap s'.heap ∧ (a = X.env.locals ∨ X.env.cells.lookup x = some a)) → Q () s') (hf : X.fn x = true ∨ X.env.scope.names.lookup x = some .local := by first | exact .inl rfl | exact .inr rfl | assumption) : wpAny M A (storeName X.env x u) Q E s := by
  obtain ⟨m, hn, hl⟩ := id I.loc
  have hcls : (X.env.scope.kind == .class || (X.env.scope.kind == .module && X.env.locals != X.env.globals)) = false := by rw [I.ok.kind]; rfl
  have hiσ : i < σ.length := by rw [I.len]; exact (List.getElem?_eq_some_iff.mp hi).1
  have cne := I.cne
  have tracked : ∀ {a : Addr} {h' : Heap}, (∃ o, s.heap.get? a = some o ∧ H a = none) → Heap.SameBut a s.heap h' → HOk X.prog X.w H h' := fun {a h'} ha hs b ob e => by
    obtain ⟨_, _, hfree⟩ := ha
    refine (I.hok b ob e).stay (fun c w' hc q => (hs.2 c ?_).trans q) (fun _ q => q) fun _ _ q => q
    rintro rfl
    rcases hc with rfl | hc
    · rw [hfree] at e; cases e
    · rw [hfree] at hc; cases hc
  rcases hx with hk | hk
  · refine wpAny_storeName_local hk hn (fun h' hn' hs => ?_) hcls
    obtain ⟨oL, _, _, hoL, _⟩ := id hn
    refine h _ ⟨I.ok, I.os, I.bare, ⟨fun b o e n hb hx => ?_, fun b o e n hb hx => ?_, I.base.free, fun b o e hx => ?_, I.base.tups, I.base.frzs, I.base.tbls⟩, ⟨_, hn', fun j y v' e1 e2 e3 => ?_⟩, fun y c e => ?_, I.free, I.freeC, fun p hp => ?_, tracked ⟨oL, hoL, I.free⟩ hs, by simpa using I.len⟩ ⟨_, hs, .inl rfl⟩
    · exact (hs.2 b (Nat.ne_of_lt (Nat.lt_of_lt_of_le (Heap.lt_size e) I.ok.above))).trans (I.base.keep b o e n hb hx)
    · obtain ⟨sl, e1⟩ := I.base.slot b o e n hb hx
      exact ⟨sl, (hs.2 b (Nat.ne_of_lt (Nat.lt_of_lt_of_le (Heap.lt_size e) I.ok.above))).trans e1⟩
    · obtain ⟨o', e1⟩ := I.base.there b o e hx
      exact ⟨o', (hs.2 b (Nat.ne_of_lt (Nat.lt_of_lt_of_le (Heap.lt_size e) I.ok.above))).trans e1⟩
    · by_cases hj : j = i
      · subst hj
        rw [hi] at e1; cases e1
        rw [List.getElem?_set_self hiσ] at e2
        cases e2
        exact ⟨u, r, .inl ⟨hk, by simp⟩⟩
      · rw [List.getElem?_set_ne (Ne.symm hj)] at e2
        obtain ⟨u', r', q⟩ := hl j y v' e1 e2 e3
        refine ⟨u', r', ?_⟩
        rcases q with ⟨k, e⟩ | ⟨k, c, e, z⟩
        · refine .inl ⟨k, ?_⟩
          have : y ≠ x := fun e => hj (nodup_ix hN e1 (e ▸ hi))
          simp [this, e]
        · exact .inr ⟨k, c, e, z.sameBut hs (cne y c e)⟩
    · obtain ⟨w', z⟩ := I.cell y c e
      exact ⟨w', z.sameBut hs (cne y c e)⟩
    · obtain ⟨e, n, ne, nf, d⟩ := I.pin p hp
      exact ⟨(hs.2 p.1 ne).trans e, n, ne, nf, d⟩
  · have hfn : X.fn x = true := by
      rcases hf with z | z
      · exact z
      · rw [z] at hk; cases hk
    obtain ⟨c, hc⟩ := I.ok.has x (.inl hk)
    obtain ⟨w', z⟩ := I.cell x c hc
    refine wpAny_storeName_cell I.ok.kind hk hc z (fun h' hc' hs => ?_)
    obtain ⟨oc, hoc, hocd⟩ := id z
    refine h { s with heap := h' } ⟨I.ok, I.os, I.bare, ⟨fun b o e n hb hx => ?_, fun b o e n hb hx => ?_, I.base.free, fun b o e hx => ?_, I.base.tups, I.base.frzs, I.base.tbls⟩, ⟨m, hn.sameBut hs (Ne.symm (cne x c hc)), fun j y v' e1 e2 e3 => ?_⟩, fun y c' e => ?_, I.free, I.freeC, fun p hp => ?_, tracked ⟨oc, hoc, I.freeC x c hc⟩ hs, by simpa using I.len⟩ ⟨c, hs, .inr hc⟩
    · exact (hs.2 b (Nat.ne_of_lt (Nat.lt_of_lt_of_le (Heap.lt_size e) (I.ok.cab x c hfn hc)))).trans (I.base.keep b o e n hb hx)
    · obtain ⟨sl, e1⟩ := I.base.slot b o e n hb hx
      exact ⟨sl, (hs.2 b (Nat.ne_of_lt (Nat.lt_of_lt_of_le (Heap.lt_size e) (I.ok.cab x c hfn hc)))).trans e1⟩
    · obtain ⟨o', e1⟩ := I.base.there b o e hx
      exact ⟨o', (hs.2 b (Nat.ne_of_lt (Nat.lt_of_lt_of_le (Heap.lt_size e) (I.ok.cab x c hfn hc)))).trans e1⟩
    · by_cases hj : j = i
      · subst hj
        rw [hi] at e1; cases e1
        rw [List.getElem?_set_self hiσ] at e2
        cases e2
        exact ⟨u, r, .inr ⟨.inl hk, c, hc, hc'⟩⟩
      · rw [List.getElem?_set_ne (Ne.symm hj)] at e2
        obtain ⟨u', r', q⟩ := hl j y v' e1 e2 e3
        refine ⟨u', r', ?_⟩
        rcases q with q | ⟨k, c', e, z'⟩
        · exact .inl q
        · refine .inr ⟨k, c', e, z'.sameBut hs ?_⟩
          rintro rfl
          exact hj (nodup_ix hN e1 (I.ok.inj _ _ _ e hc ▸ hi))
    · by_cases hcc : c' = c
      · subst hcc; exact ⟨_, hc'⟩
      · obtain ⟨w2, z2⟩ := I.cell y c' e
        exact ⟨w2, z2.sameBut hs hcc⟩
    · obtain ⟨e, n, ne, nf, d⟩ := I.pin p hp
      refine ⟨(hs.2 p.1 ?_).trans e, n, ne, nf, d⟩
      intro q
      rw [q, hoc] at e
      have q' : oc = p.2 := Option.some.inj e
      exact d w' (by rw [← q']; exact hocd)
theorem store_ok {M : Model} {A : Around} {E : Value → Shared → Prop} {i : Nat} {x : Str} {v : V} {u : Value} {Q : Unit → Shared → Prop} (I : Inv X pins σ H s) (hN : X.N.Nodup) (hi : X.N[i]? = some x) (hx : Loc X.env.scope x) (r : RelV v u)
    (h : ∀ s', Inv X pins (σ.set i (some v)) H s' → Q () s') (hf : X.fn x = true ∨ X.env.scope.names.lookup x = some .local := by first | exact .inl rfl | exact .inr rfl | assumption) : wpAny M A (storeName X.env x u) Q E s :=
  store_ok2 I hN hi hx r (fun s' I' _ => h s' I') hf
/-- behind a call or a block, the state as it is -/
theorem Inv.call' {s' : Shared} {ch : List Addr} (I : Inv X pins σ H s) (ho : s'.os = s.os) (u : Un (frs X.stack) ch H H' s.heap s'.heap) (hok : HOk X.prog X.w H' s'.heap) (hg : AllBare s'.gens)
    (hch : ∀ b ∈ ch, (b ∈ X.ex ∨ X.s₀.heap.objs.size ≤ b) ∧ b ≠ X.env.locals ∧ (∀ x c, X.env.cells.lookup x = some c → c ≠ b) ∧ ∀ p ∈ X.pn ++ pins, p.1 ≠ b) : Inv X pins σ H' s' := by
  obtain ⟨h', g', d', t', o'⟩ := s'
  have e : o' = s.os := ho
  subst e
  exact I.call (g' := g') (t' := t') (d' := d') u hok hg hch
end

/-! ### the judgements -/
/-- an exception: its class, its own dict's address (where it has one), the abstract heap behind it -/
abbrev XK := Value → Option Addr → Hp → Prop
abbrev St := List (Option V)
abbrev VK := V → Hp → Prop
/-- an expression's reading; a test's; an argument list's -/
abbrev TE := St → Hp → VK → Prop
abbrev TT := St → Hp → (Bool → Hp → Prop) → Prop
abbrev TA := St → Hp → (List V → Hp → Prop) → Prop
/-- what is wanted behind a statement -/
structure Ends where
  nx : St → Hp → Prop
  rt : VK
  bk : St → Hp → Prop := fun _ _ => False
  ct : St → Hp → Prop := fun _ _ => False
abbrev TS := Ends → St → Hp → Prop

def EP (X : Cx) (pins : List (Addr × Obj)) (σ : St) (Q : VK) (u : Value) (s' : Shared) : Prop := ∃ v H', Inv X pins σ H' s' ∧ RelV v u ∧ Q v H'
def TP (X : Cx) (pins : List (Addr × Obj)) (σ : St) (Q : Bool → Hp → Prop) (b : Bool) (s' : Shared) : Prop := ∃ H', Inv X pins σ H' s' ∧ Q b H'
def AP (X : Cx) (pins : List (Addr × Obj)) (σ : St) (Q : List V → Hp → Prop) (us : List Value) (s' : Shared) : Prop := ∃ vs H', Inv X pins σ H' s' ∧ Vals vs us ∧ Q vs H'
def SP (X : Cx) (pins : List (Addr × Obj)) (D : Ends) (f : Flow) (s' : Shared) : Prop :=
  match f with
  | .next => ∃ σ' H', Inv X pins σ' H' s' ∧ D.nx σ' H'
  | .brk => ∃ σ' H', Inv X pins σ' H' s' ∧ D.bk σ' H'
  | .cont => ∃ σ' H', Inv X pins σ' H' s' ∧ D.ct σ' H'
  | .ret u => ∃ v σ' H', Inv X pins σ' H' s' ∧ RelV v u ∧ D.rt v H'

def PE (X : Cx) (e : Expr) (t : TE) : Prop :=
  ∀ (pins : List (Addr × Obj)) (s : Shared) (σ : St) (H : Hp) (Q : VK), Inv X pins σ H s → t σ H Q → wpAny (model X.prog X.w) X.A (eval e X.env) (EP X pins σ Q) X.xe s
def PT (X : Cx) (e : Expr) (t : TT) : Prop :=
  ∀ (pins : List (Addr × Obj)) (s : Shared) (σ : St) (H : Hp) (Q : Bool → Hp → Prop), Inv X pins σ H s → t σ H Q → wpAny (model X.prog X.w) X.A (isTrue e X.env (eval e X.env)) (TP X pins σ Q) X.xe s
/-- a test whatever its 'whole' is (and, or) -/
def PW (X : Cx) (e : Expr) (t : TT) : Prop :=
  ∀ (whole : Sem Value) (pins : List (Addr × Obj)) (s : Shared) (σ : St) (H : Hp) (Q : Bool → Hp → Prop), Inv X pins σ H s → t σ H Q → wpAny (model X.prog X.w) X.A (isTrue e X.env whole) (TP X pins σ Q) X.xe s
theorem PW.pt {X : Cx} {e : Expr} {t : TT} (h : PW X e t) : PT X e t := h _
/-- an argument list (no star), from the left -/
def PA (X : Cx) (es : List Expr) (t : TA) : Prop :=
  ∀ (pos : Pos) (pins : List (Addr × Obj)) (s : Shared) (σ : St) (H : Hp) (Q : List V → Hp → Prop), Inv X pins σ H s → t σ H Q → wpAny (model X.prog X.w) X.A (spliced (backTo pos (starEach es X.env))) (AP X pins σ Q) X.xe s
def PS (X : Cx) (st : Stmt) (t : TS) : Prop :=
  ∀ (pins : List (Addr × Obj)) (s : Shared) (σ : St) (H : Hp) (D : Ends), Inv X pins σ H s → t D σ H → wpAny (model X.prog X.w) X.A (exec st X.env) (SP X pins D) X.xe s
def PSs (X : Cx) (st : List Stmt) (t : TS) : Prop :=
  ∀ (pins : List (Addr × Obj)) (s : Shared) (σ : St) (H : Hp) (D : Ends), Inv X pins σ H s → t D σ H → wpAny (model X.prog X.w) X.A (execs st X.env) (SP X pins D) X.xe s
/-- weaken the end -/
theorem thn {α : Type} {t : Sem α} {Q Q' : α → Shared → Prop} {M : Model} {A : Around} {E : Value → Shared → Prop} {s : Shared} (h : wpAny M A t Q E s) (hQ : ∀ a s, Q a s → Q' a s) : wpAny M A t Q' E s := wpAny_mono h hQ fun _ _ x => x
end L2

namespace L2
open PySem PySem.Spec PyProof.Rows
section
variable {X : Cx}

/-- two expressions in a row -/
theorem bin {a b : Expr} {ta tb : TE} (ha : PE X a ta) (hb : PE X b tb) {pins : List (Addr × Obj)} {s : Shared} {σ : St} {H : Hp} {R : V → V → Hp → Prop} (I : Inv X pins σ H s) (h : ta σ H fun x H1 => tb σ H1 fun y H2 => R x y H2)
    {α : Type} {Q : α → Shared → Prop} {f : Value → Value → Sem α}
    (hf : ∀ v u s2 x y H2, Inv X pins σ H2 s2 → RelV x v → RelV y u → R x y H2 → wpAny (model X.prog X.w) X.A (f v u) Q X.xe s2) :
    wpAny (model X.prog X.w) X.A (eval a X.env) (fun v s₁ => wpAny (model X.prog X.w) X.A (eval b X.env) (fun u s₂ => wpAny (model X.prog X.w) X.A (f v u) Q X.xe s₂) X.xe s₁) X.xe s := by
  refine thn (ha pins s σ H _ I h) fun v s1 ⟨x, H1, I1, r1, q1⟩ => ?_
  refine thn (hb pins s1 σ H1 _ I1 q1) fun u s2 ⟨y, H2, I2, r2, q2⟩ => ?_
  exact hf v u s2 x y H2 I2 r1 r2 q2

/-! ### names and constants -/
def tVar (i : Nat) : TE := fun σ H Q => ∃ v, σ[i]? = some (some v) ∧ Q v H
def tC (v : V) : TE := fun _ H Q => Q v H
theorem pe_var {i : Nat} {x : Str} {pos : Pos} (hN : X.N[i]? = some x) (hv : Vis X.env.scope x) (hd : (x == ("__debug__" : Str)) = false := by decide) (hcd : (x == ("__classdict__" : Str)) = false := by decide) : PE X (.Name x pos) (tVar i) := by
  intro pins s σ H Q I h
  obtain ⟨v, e, h⟩ := h
  obtain ⟨m, hn, hl⟩ := I.loc
  obtain ⟨u, r, l⟩ := hl i x v hN e hv
  have fin : EP X pins σ Q u s := ⟨v, H, I, r, h⟩
  rcases l with ⟨hk, hm⟩ | ⟨hk, c, hc, hcell⟩
  · exact wpAny_Name (wpAny_loadName_local I.ok.kind hk hn hm fin) hd
  · rcases hk with hk | hk
    · exact wpAny_Name (wpAny_loadName_cell I.ok.kind hk hc hcell fin) hd
    · exact wpAny_Name (wpAny_loadName_free I.ok.kind hk hc hcell fin hcd) hd
theorem pe_int {i j pos} : PE X (.Constant (.int i) j pos) (tC (.int i)) := fun _ _ _ H _ I h => wpAny_Constant_int ⟨.int i, H, I.tok _, ⟨_, rfl⟩, h⟩
theorem pe_bl {b j pos} : PE X (.Constant (.bool b) j pos) (tC (.bl b)) := fun _ _ _ H _ I h => Constant_bool ⟨.bl b, H, I, rfl, h⟩
theorem pe_non {j pos} : PE X (.Constant .none j pos) (tC .non) := fun _ _ _ H _ I h => Constant_none ⟨.non, H, I, rfl, h⟩
theorem pe_str {x j pos} : PE X (.Constant (.str x) j pos) (tC (.str x)) := fun _ _ _ H _ I h => Calls.Constant_str ⟨.str x, H, I.tok _, ⟨_, rfl⟩, h⟩

/-- a global name of the def -/
def Gl (X : Cx) (x : Str) : Prop := X.env.kindOf x = some .globalImplicit
theorem ld_glob {E : Value → Shared → Prop} {pins : List (Addr × Obj)} {s : Shared} {σ : St} {H : Hp} {x : Str} {u : Value} {pos : Pos} {Q : Value → Shared → Prop} (I : Inv X pins σ H s) (hg : Gl X x) (hm : X.mg x = some u) (h : Q u s)
    (hd : (x == ("__debug__" : Str)) = false := by decide) : wpAny (model X.prog X.w) X.A (eval (.Name x pos) X.env) Q E s :=
  Calls.Name_function_global I.ok.kind hg (Calls.loadGlobal_global (by rw [I.ok.glob]; exact I.mod.glob.keeps I.bk) hm h) hd
theorem ld_blt {E : Value → Shared → Prop} {pins : List (Addr × Obj)} {s : Shared} {σ : St} {H : Hp} {x : Str} {u : Value} {pos : Pos} {Q : Value → Shared → Prop} (I : Inv X pins σ H s) (hg : Gl X x) (hm : X.mg x = none) (hv : bootBuiltins x = some u) (h : Q u s)
    (hn : x ≠ "__name__" := by decide) (hd : (x == ("__debug__" : Str)) = false := by decide) : wpAny (model X.prog X.w) X.A (eval (.Name x pos) X.env) Q E s := by
  obtain ⟨mb, h1, h2⟩ := I.mod.blt
  exact Calls.Name_function_global I.ok.kind hg (Calls.loadGlobal_builtin (by rw [I.ok.glob]; exact I.mod.glob.keeps I.bk) hm (by rw [I.ok.blt]; exact h1.keeps I.bk) ((h2 x hn).trans hv) h) hd
/-- a module's constant, a class, a function, as a value -/
theorem pe_glob {x : Str} {v : V} {u : Value} {pos : Pos} (hg : Gl X x) (hm : X.mg x = some u) (r : RelV v u) (hd : (x == ("__debug__" : Str)) = false := by decide) : PE X (.Name x pos) (tC v) :=
  fun _ _ _ H _ I h => ld_glob I hg hm ⟨v, H, I, r, h⟩ hd
theorem pe_bltn {x : Str} {v : V} {u : Value} {pos : Pos} (hg : Gl X x) (hm : X.mg x = none) (hv : bootBuiltins x = some u) (r : RelV v u) (hn : x ≠ "__name__" := by decide) (hd : (x == ("__debug__" : Str)) = false := by decide) : PE X (.Name x pos) (tC v) :=
  fun _ _ _ H _ I h => ld_blt I hg hm hv ⟨v, H, I, r, h⟩ hn hd

/-! ### arithmetic -/
/-- two ints -/
def t2I (ta tb : TE) (k : Int → Int → Hp → Prop) : St → Hp → Prop := fun σ H => ta σ H fun x H1 => tb σ H1 fun y H2 => ∃ i j, x = .int i ∧ y = .int j ∧ k i j H2
def tAdd (ta tb : TE) : TE := fun σ H Q => t2I ta tb (fun i j H2 => Q (.int (i + j)) H2) σ H
def tSub (ta tb : TE) : TE := fun σ H Q => t2I ta tb (fun i j H2 => Q (.int (i - j)) H2) σ H
/-- the left factor below 2^64 -/
def tMul (ta tb : TE) : TE := fun σ H Q => t2I ta tb (fun i j H2 => (-(2 ^ 64) < i ∧ i < 2 ^ 64) ∧ Q (.int (i * j)) H2) σ H
variable {a b : Expr} {ta tb : TE} {pos : Pos}
theorem pe_add (ha : PE X a ta) (hb : PE X b tb) : PE X (.BinOp a .Add b pos) (tAdd ta tb) := by
  intro pins s σ H Q I h
  refine wpAny_BinOp (bin ha hb I h fun v u s2 x y H2 I2 rx ry q => ?_)
  obtain ⟨i, j, rfl, rfl, q⟩ := q
  obtain ⟨t, rfl⟩ := rx
  obtain ⟨t', rfl⟩ := ry
  exact add_int ⟨.int _, H2, I2.tok _, ⟨_, rfl⟩, q⟩
theorem pe_sub (ha : PE X a ta) (hb : PE X b tb) : PE X (.BinOp a .Sub b pos) (tSub ta tb) := by
  intro pins s σ H Q I h
  refine wpAny_BinOp (bin ha hb I h fun v u s2 x y H2 I2 rx ry q => ?_)
  obtain ⟨i, j, rfl, rfl, q⟩ := q
  obtain ⟨t, rfl⟩ := rx
  obtain ⟨t', rfl⟩ := ry
  exact sub_int ⟨.int _, H2, I2.tok _, ⟨_, rfl⟩, q⟩
theorem pe_mul (ha : PE X a ta) (hb : PE X b tb) : PE X (.BinOp a .Mult b pos) (tMul ta tb) := by
  intro pins s σ H Q I h
  refine wpAny_BinOp (bin ha hb I h fun v u s2 x y H2 I2 rx ry q => ?_)
  obtain ⟨i, j, rfl, rfl, ⟨q1, q2⟩, q⟩ := q
  obtain ⟨t, rfl⟩ := rx
  obtain ⟨t', rfl⟩ := ry
  exact mul_int ⟨.int _, H2, I2.tok _, ⟨_, rfl⟩, q⟩ (.of_left (intBits_le_64 q1 q2))

/-! ### comparisons -/
def PC (X : Cx) (op : CmpOp) (a b : Expr) (t : TE) : Prop :=
  ∀ (pins : List (Addr × Obj)) (s : Shared) (σ : St) (H : Hp) (Q : VK), Inv X pins σ H s → t σ H Q →
    wpAny (model X.prog X.w) X.A (eval a X.env) (fun v s₁ => wpAny (model X.prog X.w) X.A (eval b X.env) (fun u s₂ => wpAny (model X.prog X.w) X.A (compareOp op v u) (EP X pins σ Q) X.xe s₂) X.xe s₁) X.xe s
theorem nobehind (b : Expr) {op : CmpOp} (h : op ≠ .In) (h2 : op ≠ .NotIn) : behindInMarks op b = false := by
  have e1 : (op == CmpOp.In) = false := by cases op <;> first | rfl | exact absurd rfl h
  have e2 : (op == CmpOp.NotIn) = false := by cases op <;> first | rfl | exact absurd rfl h2
  cases b <;> simp [behindInMarks, e1, e2]
def tCmp (p : Int → Int → Bool) (ta tb : TE) : TE := fun σ H Q => t2I ta tb (fun i j H2 => Q (.bl (p i j)) H2) σ H
abbrev tLt : TE → TE → TE := tCmp fun i j => decide (i < j)
abbrev tLe : TE → TE → TE := tCmp fun i j => decide (i ≤ j)
abbrev tGt : TE → TE → TE := tCmp fun i j => decide (j < i)
abbrev tGe : TE → TE → TE := tCmp fun i j => decide (j ≤ i)
abbrev tEqI : TE → TE → TE := tCmp fun i j => decide (i = j)
abbrev tNeI : TE → TE → TE := tCmp fun i j => !decide (i = j)
/-- a comparison of two ints, by its rule -/
theorem pc_int {op : CmpOp} {p : Int → Int → Bool} (ha : PE X a ta) (hb : PE X b tb)
    (rule : ∀ (i j : Int) (t u : Tok) (Q : Value → Shared → Prop) (s : Shared), Q (.bool (p i j)) s → wpAny (model X.prog X.w) X.A (compareOp op (.int i t) (.int j u)) Q X.xe s) : PC X op a b (tCmp p ta tb) := by
  intro pins s σ H Q I h
  refine bin ha hb I h fun v u s2 x y H2 I2 rx ry q => ?_
  obtain ⟨i, j, rfl, rfl, q⟩ := q
  obtain ⟨t, rfl⟩ := rx
  obtain ⟨t', rfl⟩ := ry
  exact rule i j t t' _ s2 ⟨.bl _, H2, I2, rfl, q⟩
theorem pc_lt (ha : PE X a ta) (hb : PE X b tb) : PC X .Lt a b (tLt ta tb) := pc_int ha hb fun _ _ _ _ _ _ h => lt_int h
theorem pc_le (ha : PE X a ta) (hb : PE X b tb) : PC X .LtE a b (tLe ta tb) := pc_int ha hb fun _ _ _ _ _ _ h => le_int h
theorem pc_gt (ha : PE X a ta) (hb : PE X b tb) : PC X .Gt a b (tGt ta tb) := pc_int ha hb fun _ _ _ _ _ _ h => gt_int h
theorem pc_ge (ha : PE X a ta) (hb : PE X b tb) : PC X .GtE a b (tGe ta tb) := pc_int ha hb fun _ _ _ _ _ _ h => ge_int h
theorem pc_eqI (ha : PE X a ta) (hb : PE X b tb) : PC X .Eq a b (tEqI ta tb) := pc_int ha hb fun _ _ _ _ _ _ h => eq_int (by rw [Bool.beq_eq_decide_eq]; exact h)
theorem pc_neI (ha : PE X a ta) (hb : PE X b tb) : PC X .NotEq a b (tNeI ta tb) := pc_int ha hb fun _ _ _ _ _ _ h => ne_int (by rw [bne, Bool.beq_eq_decide_eq]; exact h)
/-- is None -/
def tIsN (ta : TE) : TE := fun σ H Q => ta σ H fun x H1 => Q (.bl (decide (x = .non))) H1
def tNotN (ta : TE) : TE := fun σ H Q => ta σ H fun x H1 => Q (.bl (!decide (x = .non))) H1
theorem RelV.none_iff {x : V} {v : Value} (r : RelV x v) : (v == Value.none) = decide (x = .non) := by
  cases x with
  | non => cases r; rfl
  | bl _ => cases r; rfl
  | int _ => obtain ⟨t, rfl⟩ := r; rfl
  | str _ => obtain ⟨t, rfl⟩ := r; rfl
  | byt _ => obtain ⟨t, rfl⟩ := r; rfl
  | flt _ => obtain ⟨t, rfl⟩ := r; rfl
  | ref _ => cases r; rfl
  | ty _ => cases r; rfl
theorem pc_isN {j pos'} (ha : PE X a ta) : PC X .Is a (.Constant .none j pos') (tIsN ta) := by
  intro pins s σ H Q I h
  refine thn (ha pins s σ H _ I h) fun v s1 ⟨x, H1, I1, r1, q1⟩ => ?_
  exact Constant_none (is_none_gen ⟨.bl _, H1, I1, by rw [r1.none_iff]; rfl, q1⟩)
theorem pc_notN {j pos'} (ha : PE X a ta) : PC X .IsNot a (.Constant .none j pos') (tNotN ta) := by
  intro pins s σ H Q I h
  refine thn (ha pins s σ H _ I h) fun v s1 ⟨x, H1, I1, r1, q1⟩ => ?_
  exact Constant_none (isnot_none_gen ⟨.bl _, H1, I1, by rw [r1.none_iff]; rfl, q1⟩)
/-- a comparison as a value, as a test -/
def tB (t : TE) : TT := fun σ H Q => t σ H fun x H1 => ∃ c, x = .bl c ∧ Q c H1
theorem pe_cmp {op : CmpOp} {t : TE} (h : PC X op a b t) (h1 : behindInMarks op b = false := by first | exact nobehind _ (by decide) (by decide) | rfl) : PE X (.Compare a [op] [b] pos) t := fun pins s σ H Q I hw => wpAny_Compare1 (h pins s σ H Q I hw) h1
theorem pt_cmp {op : CmpOp} {t : TE} (h : PC X op a b t) (h1 : behindInMarks op b = false := by first | exact nobehind _ (by decide) (by decide) | rfl) : PT X (.Compare a [op] [b] pos) (tB t) := by
  intro pins s σ H Q I hw
  refine wpAny_isTrue_Compare1 (thn (h pins s σ H _ I hw) fun v s1 h1 => thn h1 fun u s2 h2 => thn h2 fun c s3 ⟨x, H1, I1, r1, q1⟩ => ?_) h1
  obtain ⟨d, rfl, q⟩ := q1
  cases r1
  exact wpAny_truthy_bool ⟨H1, I1, q⟩
/-- an expression whose value is a bool, as a test -/
theorem pt_val {e : Expr} {t : TE} (h : PE X e t) (he : ∀ whole, isTrue e X.env whole = (do let v ← whole; standAt e.pos; holding [v] (truthy v)) := by intro _; rfl) : PT X e (tB t) := by
  intro pins s σ H Q I hw
  refine isTrue_plain (thn (h pins s σ H _ I hw) fun v s1 ⟨x, H1, I1, r1, q1⟩ => ?_) (he _)
  obtain ⟨d, rfl, q⟩ := q1
  cases r1
  exact wpAny_truthy_bool ⟨H1, I1, q⟩

/-! ### and, or, not -/
variable {tA tB' : TT} {rest : List Expr}
def tAnd (t u : TT) : TT := fun σ H Q => t σ H fun c H1 => if c = true then u σ H1 Q else Q false H1
def tOr (t u : TT) : TT := fun σ H Q => t σ H fun c H1 => if c = true then Q true H1 else u σ H1 Q
def tNot (t : TT) : TT := fun σ H Q => t σ H fun c H1 => Q (!c) H1
theorem pw_and1 (ha : PT X a tA) : PW X (.BoolOp .And [a] pos) tA := by
  intro wh pins s σ H Q I h
  refine isTrue_and (thn (ha pins s σ H Q I h) fun c s1 e => ?_)
  cases c with
  | true => exact isTrue_and_nil e
  | false => exact e
theorem pw_or1 (ha : PT X a tA) : PW X (.BoolOp .Or [a] pos) tA := by
  intro wh pins s σ H Q I h
  refine isTrue_or (thn (ha pins s σ H Q I h) fun c s1 e => ?_)
  cases c with
  | false => exact isTrue_or_nil e
  | true => exact e
theorem pw_and (ha : PT X a tA) (hb : PW X (.BoolOp .And (b :: rest) pos) tB') : PW X (.BoolOp .And (a :: b :: rest) pos) (tAnd tA tB') := by
  intro wh pins s σ H Q I h
  refine isTrue_and (thn (ha pins s σ H _ I h) fun c s1 ⟨H1, I1, q1⟩ => ?_)
  cases c with
  | true => exact hb wh pins s1 σ H1 Q I1 q1
  | false => exact ⟨H1, I1, q1⟩
theorem pw_or (ha : PT X a tA) (hb : PW X (.BoolOp .Or (b :: rest) pos) tB') : PW X (.BoolOp .Or (a :: b :: rest) pos) (tOr tA tB') := by
  intro wh pins s σ H Q I h
  refine isTrue_or (thn (ha pins s σ H _ I h) fun c s1 ⟨H1, I1, q1⟩ => ?_)
  cases c with
  | true => exact ⟨H1, I1, q1⟩
  | false => exact hb wh pins s1 σ H1 Q I1 q1
theorem pt_not (ha : PT X a tA) : PT X (.UnaryOp .Not a pos) (tNot tA) := by
  intro pins s σ H Q I h
  exact isTrue_not (ha pins s σ H (fun c H1 => Q (!c) H1) I h)
/-- .. as values (bools) -/
def tAndV (ta tb : TE) : TE := fun σ H Q => ta σ H fun x H1 => ∃ c, x = .bl c ∧ if c = true then tb σ H1 Q else Q (.bl false) H1
def tOrV (ta tb : TE) : TE := fun σ H Q => ta σ H fun x H1 => ∃ c, x = .bl c ∧ if c = true then Q (.bl true) H1 else tb σ H1 Q
def tNotV (ta : TE) : TE := fun σ H Q => ta σ H fun x H1 => ∃ c, x = .bl c ∧ Q (.bl (!c)) H1
theorem pe_one {op} {t : TE} (h : PE X a t) : PE X (.BoolOp op [a] pos) t := fun pins s σ H Q I hw => BoolOp_one (h pins s σ H Q I hw)
theorem pe_and (ha : PE X a ta) (hb : PE X (.BoolOp .And (b :: rest) pos) tb) : PE X (.BoolOp .And (a :: b :: rest) pos) (tAndV ta tb) := by
  intro pins s σ H Q I h
  refine BoolOp_and (thn (ha pins s σ H _ I h) fun v s1 ⟨x, H1, I1, r1, q1⟩ => ?_)
  obtain ⟨c, rfl, q1⟩ := q1
  cases r1
  refine wpAny_truthy_bool ?_
  cases c with
  | true => exact hb pins s1 σ H1 Q I1 q1
  | false => exact ⟨.bl false, H1, I1, rfl, q1⟩
theorem pe_or (ha : PE X a ta) (hb : PE X (.BoolOp .Or (b :: rest) pos) tb) : PE X (.BoolOp .Or (a :: b :: rest) pos) (tOrV ta tb) := by
  intro pins s σ H Q I h
  refine BoolOp_or (thn (ha pins s σ H _ I h) fun v s1 ⟨x, H1, I1, r1, q1⟩ => ?_)
  obtain ⟨c, rfl, q1⟩ := q1
  cases r1
  refine wpAny_truthy_bool ?_
  cases c with
  | false => exact hb pins s1 σ H1 Q I1 q1
  | true => exact ⟨.bl true, H1, I1, rfl, q1⟩
theorem pe_not (ha : PE X a ta) : PE X (.UnaryOp .Not a pos) (tNotV ta) := by
  intro pins s σ H Q I h
  refine UnaryOp_ (thn (ha pins s σ H _ I h) fun v s1 ⟨x, H1, I1, r1, q1⟩ => ?_)
  obtain ⟨c, rfl, q1⟩ := q1
  cases r1
  exact not_of (wpAny_truthy_bool ⟨.bl (!c), H1, I1, rfl, q1⟩)
/-- a if t else b -/
def tIf (t : TT) (ta tb : TE) : TE := fun σ H Q => t σ H fun c H1 => if c = true then ta σ H1 Q else tb σ H1 Q
theorem pe_ifExp {c : Expr} (hc : PT X c tA) (ha : PE X a ta) (hb : PE X b tb) : PE X (.IfExp c a b pos) (tIf tA ta tb) := by
  intro pins s σ H Q I h
  refine wpAny_IfExp (thn (hc pins s σ H _ I h) fun d s1 ⟨H1, I1, q1⟩ => ?_)
  cases d with
  | true => exact ha pins s1 σ H1 Q I1 q1
  | false => exact hb pins s1 σ H1 Q I1 q1
end
end L2

namespace L2
open PySem PySem.Spec PyProof.Rows

/-! ### a list, a tuple that is read: tracked, frozen, or an object of the module -/
def SqL (K : PySem.W.Frag) (H : Hp) (a : Addr) (xs : List V) : Prop :=
  Rd H a (.lst xs) ∨
    ∃ (o : Obj) (its : Array Value) (n : Nat), K.lookup a = some o ∧ o.cls = .type "list" ∧ o.dict = none ∧ o.data = .seq its n ∧ its.size ≤ sizeLine ∧ Vals xs its.toList
def SqT (K : PySem.W.Frag) (H : Hp) (a : Addr) (xs : List V) : Prop :=
  Rd H a (.tup xs) ∨
    ∃ (o : Obj) (its : Array Value) (n : Nat), K.lookup a = some o ∧ o.cls = .type "tuple" ∧ o.data = .seq its n ∧ its.size ≤ sizeLine ∧ Vals xs its.toList
def absV : Value → Option V
  | .none => some .non
  | .bool b => some (.bl b)
  | .int i _ => some (.int i)
  | .str x _ => some (.str x)
  | .bytes b _ => some (.byt b)
  | .float b _ => some (.flt b)
  | .ref a => some (.ref a)
  | .type n => some (.ty n)
  | _ => none
theorem RelV.abs {x : V} {u : Value} (r : RelV x u) : absV u = some x := by
  cases x with
  | non => cases r; rfl
  | bl _ => cases r; rfl
  | int _ => obtain ⟨t, rfl⟩ := r; rfl
  | str _ => obtain ⟨t, rfl⟩ := r; rfl
  | byt _ => obtain ⟨t, rfl⟩ := r; rfl
  | flt _ => obtain ⟨t, rfl⟩ := r; rfl
  | ref _ => cases r; rfl
  | ty _ => cases r; rfl
theorem RelV.inj {x y : V} {u : Value} (r : RelV x u) (q : RelV y u) : x = y := Option.some.inj (r.abs.symm.trans q.abs)
theorem Vals.inj : ∀ {xs ys : List V} {us : List Value}, Vals xs us → Vals ys us → xs = ys
  | _, _, _, .nil, .nil => rfl
  | _, _, _, .cons r t, .cons r' t' => by rw [r.inj r', Vals.inj t t']
section
variable {X : Cx} {pins : List (Addr × Obj)} {σ : St} {H : Hp} {s : Shared} {a : Addr} {xs ys : List V}
theorem SqL.of {K : PySem.W.Frag} (h : H a = some (.lst xs)) : SqL K H a xs := .inl (.inl h)
theorem SqT.of {K : PySem.W.Frag} (h : H a = some (.tup xs)) : SqT K H a xs := .inl (.inl h)
theorem Inv.list (I : Inv X pins σ H s) (h : SqL X.K H a xs) : ∃ its : List Value, Vals xs its ∧ PlainL s.heap a its.toArray ∧ xs.length ≤ sizeLine := by
  rcases h with h | ⟨o, its, n, hk, hc, hd, hs, hz, r⟩
  · obtain ⟨z, its, n, r, e⟩ := h.ok I.hok
    exact ⟨its, r, ⟨_, n, e, rfl, rfl, rfl⟩, z⟩
  · refine ⟨its.toList, r, ⟨o, n, I.kIn a o hk, hc, hd, by simpa using hs⟩, ?_⟩
    have e := r.length
    simp only [Array.length_toList] at e
    omega
theorem Inv.tuple (I : Inv X pins σ H s) (h : SqT X.K H a xs) : ∃ its : List Value, Vals xs its ∧ IsTup s.heap a its.toArray ∧ xs.length ≤ sizeLine := by
  rcases h with h | ⟨o, its, n, hk, hc, hs, hz, r⟩
  · obtain ⟨z, its, r, p⟩ := h.ok I.hok
    exact ⟨its, r, p, z⟩
  · refine ⟨its.toList, r, ⟨o, I.kIn a o hk, hc, n, by simpa using hs⟩, ?_⟩
    have e := r.length
    simp only [Array.length_toList] at e
    omega
theorem Inv.list_inj (I : Inv X pins σ H s) (h : SqL X.K H a xs) (h' : SqL X.K H a ys) : xs = ys := by
  obtain ⟨its, r, ⟨o, n, e, _, _, d⟩, _⟩ := I.list h
  obtain ⟨its', r', ⟨o', n', e', _, _, d'⟩, _⟩ := I.list h'
  rw [e] at e'; cases e'
  rw [d] at d'
  injection d' with d1 _
  have : its = its' := by simpa using congrArg Array.toList d1
  subst this
  exact r.inj r'
theorem Inv.tuple_inj (I : Inv X pins σ H s) (h : SqT X.K H a xs) (h' : SqT X.K H a ys) : xs = ys := by
  obtain ⟨its, r, ⟨o, e, _, n, d⟩, _⟩ := I.tuple h
  obtain ⟨its', r', ⟨o', e', _, n', d'⟩, _⟩ := I.tuple h'
  rw [e] at e'; cases e'
  rw [d] at d'
  injection d' with d1 _
  have : its = its' := by simpa using congrArg Array.toList d1
  subst this
  exact r.inj r'
end

/-! ### another wish about exceptions -/
abbrev Cx.wish (X : Cx) (E : Value → Shared → Prop) : Cx := { X with xe := E }
/-- no exception leaves -/
abbrev Cx.nox (X : Cx) : Cx := X.wish fun _ _ => False
theorem Cx.Ok.wish {X : Cx} (ok : X.Ok) (E : Value → Shared → Prop) : (X.wish E).Ok :=
  ⟨ok.mod, ok.kind, ok.glob, ok.blt, ok.above, ok.inj, ok.has, ok.cab, ok.hd, ok.frames, ok.stk, ok.exf, ok.bs, ok.bsz, ok.noex, ok.exfs, ok.funs, ok.frf⟩
theorem Cx.Ok.unwish {X : Cx} {E : Value → Shared → Prop} (ok : (X.wish E).Ok) : X.Ok :=
  ⟨ok.mod, ok.kind, ok.glob, ok.blt, ok.above, ok.inj, ok.has, ok.cab, ok.hd, ok.frames, ok.stk, ok.exf, ok.bs, ok.bsz, ok.noex, ok.exfs, ok.funs, ok.frf⟩
section
variable {X : Cx} {pins : List (Addr × Obj)} {σ : St} {H : Hp} {s : Shared} {E : Value → Shared → Prop}
theorem Inv.wish (I : Inv X pins σ H s) (E : Value → Shared → Prop) : Inv (X.wish E) pins σ H s := ⟨I.ok.wish E, I.os, I.bare, I.base, I.loc, I.cell, I.free, I.freeC, I.pin, I.hok, I.len⟩
theorem Inv.unwish (I : Inv (X.wish E) pins σ H s) : Inv X pins σ H s := ⟨I.ok.unwish, I.os, I.bare, I.base, I.loc, I.cell, I.free, I.freeC, I.pin, I.hok, I.len⟩
theorem SP.unwish {D : Ends} {f : Flow} {s' : Shared} (h : SP (X.wish E) pins D f s') : SP X pins D f s' := by
  cases f with
  | next => obtain ⟨σ', H', I, q⟩ := h; exact ⟨σ', H', I.unwish, q⟩
  | brk => obtain ⟨σ', H', I, q⟩ := h; exact ⟨σ', H', I.unwish, q⟩
  | cont => obtain ⟨σ', H', I, q⟩ := h; exact ⟨σ', H', I.unwish, q⟩
  | ret u => obtain ⟨v, σ', H', I, r, q⟩ := h; exact ⟨v, σ', H', I.unwish, r, q⟩
theorem PE.nox {e : Expr} {t : TE} (h : PE X.nox e t) : PE X e t := fun pins s σ H Q I hw =>
  wpAny_mono (h pins s σ H Q (I.wish _) hw) (fun _ _ ⟨v, H', I', r, q⟩ => ⟨v, H', I'.unwish, r, q⟩) fun _ _ z => False.elim z
theorem PT.nox {e : Expr} {t : TT} (h : PT X.nox e t) : PT X e t := fun pins s σ H Q I hw =>
  wpAny_mono (h pins s σ H Q (I.wish _) hw) (fun _ _ ⟨H', I', q⟩ => ⟨H', I'.unwish, q⟩) fun _ _ z => False.elim z
theorem PSs.nox {st : List Stmt} {t : TS} (h : PSs X.nox st t) : PSs X st t := fun pins s σ H D I hw =>
  wpAny_mono (h pins s σ H D (I.wish _) hw) (fun _ _ q => q.unwish) fun _ _ z => False.elim z
end

/-! ### blocks and small statements -/
section
variable {X : Cx} {st : Stmt} {rest : List Stmt} {t u : TS} {e : Expr} {te : TE} {pos : Pos}
def tNext : TS := fun D σ H => D.nx σ H
def tSeq (t u : TS) : TS := fun D σ H => t { D with nx := u D } σ H
theorem pss_nil : PSs X [] tNext := fun _ _ σ H _ I h => wpAny_execs_nil ⟨σ, H, I, h⟩
theorem pss_cons (h1 : PS X st t) (h2 : PSs X rest u) : PSs X (st :: rest) (tSeq t u) := by
  intro pins s σ H D I h
  refine wpAny_execs_cons (thn (h1 pins s σ H { D with nx := u D } I h) fun f s1 q => ?_)
  cases f with
  | next =>
    obtain ⟨σ', H', I', q⟩ := q
    exact h2 pins s1 σ' H' D I' q
  | ret v => exact q
  | brk => exact q
  | cont => exact q
theorem pss_one (h1 : PS X st t) : PSs X [st] t := by
  intro pins s σ H D I h
  refine wpAny_execs_cons (thn (h1 pins s σ H D I h) fun f s1 q => ?_)
  cases f with
  | next => exact wpAny_execs_nil q
  | ret v => exact q
  | brk => exact q
  | cont => exact q
def tBreak : TS := fun D σ H => D.bk σ H
def tCont : TS := fun D σ H => D.ct σ H
theorem ps_pass : PS X (.Pass pos) tNext := fun _ _ σ H _ I h => wpAny_Pass ⟨σ, H, I, h⟩
theorem ps_break : PS X (.Break pos) tBreak := fun _ _ σ H _ I h => wpAny_Break ⟨σ, H, I, h⟩
theorem ps_continue : PS X (.Continue pos) tCont := fun _ _ σ H _ I h => wpAny_Continue ⟨σ, H, I, h⟩
/-- in a def's body nothing is shown -/
theorem Inv.quiet {pins : List (Addr × Obj)} {σ : St} {H : Hp} {s : Shared} (I : Inv X pins σ H s) : interactive X.env = false := by simp [interactive, I.ok.kind]
/-- a docstring -/
theorem ps_doc {x j pos pos'} : PS X (.Expr (.Constant (.str x) j pos) pos') tNext := fun _ s σ H _ I h => wpAny_Expr (Calls.Constant_str (show SP X _ _ .next { s with toks := s.toks + 1 } from ⟨σ, H, I.tok _, h⟩)) I.quiet
/-- an expression whose value is dropped -/
def tDrop (te : TE) : TS := fun D σ H => te σ H fun _ H1 => D.nx σ H1
theorem ps_expr (he : PE X e te) (hs : swapsWith e none pos.line X.env = pure false := by rfl) : PS X (.Expr e pos) (tDrop te) := by
  intro pins s σ H D I h
  exact wpAny_Expr_any (thn (he pins s σ H _ I h) fun v s1 ⟨x, H1, I1, r1, q1⟩ => ⟨σ, H1, I1, q1⟩) I.quiet hs
def tRet (te : TE) : TS := fun D σ H => te σ H D.rt
theorem ps_ret (he : PE X e te) : PS X (.Return (some e) pos) (tRet te) := by
  intro pins s σ H D I h
  exact wpAny_Return_some (thn (he pins s σ H _ I h) fun v s1 ⟨x, H1, I1, r1, q1⟩ => ⟨x, σ, H1, I1, r1, q1⟩)
def tRetN : TS := fun D _ H => D.rt .non H
theorem ps_retN : PS X (.Return none pos) tRetN := fun _ _ σ H _ I h => wpAny_Return_none ⟨.non, σ, H, I, rfl, h⟩
def tIfS (c : TT) (t u : TS) : TS := fun D σ H => c σ H fun b H1 => if b = true then t D σ H1 else u D σ H1
theorem ps_if {c : Expr} {a b : List Stmt} {tc : TT} (hc : PT X c tc) (ha : PSs X a t) (hb : PSs X b u) : PS X (.If c a b pos) (tIfS tc t u) := by
  intro pins s σ H D I h
  refine wpAny_If (thn (hc pins s σ H _ I h) fun d s1 ⟨H1, I1, q1⟩ => ?_)
  cases d with
  | true => exact ha pins s1 σ H1 D I1 q1
  | false => exact hb pins s1 σ H1 D I1 q1
/-- code that the proof never comes to -/
def tNever : TS := fun _ _ _ => False
theorem ps_never : PS X st tNever := fun _ _ _ _ _ _ h => h.elim
theorem pss_never {sts : List Stmt} : PSs X sts tNever := fun _ _ _ _ _ _ h => h.elim
end

/-! ### targets -/
abbrev TG := V → St → Hp → (St → Hp → Prop) → Prop
abbrev TGs := List V → St → Hp → (St → Hp → Prop) → Prop
def PG (X : Cx) (target : Expr) (t : TG) : Prop :=
  ∀ (pins : List (Addr × Obj)) (s : Shared) (σ : St) (H : Hp) (v : V) (u : Value) (Q : St → Hp → Prop), Inv X pins σ H s → RelV v u → t v σ H Q →
    wpAny (model X.prog X.w) X.A (assign target X.env u) (fun _ s' => ∃ σ' H', Inv X pins σ' H' s' ∧ Q σ' H') X.xe s
/-- several targets, one after another -/
def PGs (X : Cx) (ts : List Expr) (t : TGs) : Prop :=
  ∀ (pins : List (Addr × Obj)) (s : Shared) (σ : St) (H : Hp) (vs : List V) (us : List Value) (Q : St → Hp → Prop), Inv X pins σ H s → Vals vs us → t vs σ H Q →
    wpAny (model X.prog X.w) X.A (assignInOrder ((assignEach ts X.env).map (·.2)) us) (fun _ s' => ∃ σ' H', Inv X pins σ' H' s' ∧ Q σ' H') X.xe s
/-- o[i] = v, by values -/
abbrev TSet := V → V → V → Hp → (Hp → Prop) → Prop
def PSet (X : Cx) (t : TSet) : Prop :=
  ∀ (pins : List (Addr × Obj)) (s : Shared) (σ : St) (H : Hp) (o i v : V) (ov iv u : Value) (Q : Hp → Prop), Inv X pins σ H s → RelV o ov → RelV i iv → RelV v u → t o i v H Q →
    wpAny (model X.prog X.w) X.A (setItem ov iv u) (fun _ s' => ∃ H', Inv X pins σ H' s' ∧ Q H') X.xe s
/-- a op= b, by values -/
abbrev TIp := V → V → Hp → VK → Prop
def PIp (X : Cx) (op : Operator) (t : TIp) : Prop :=
  ∀ (pins : List (Addr × Obj)) (s : Shared) (σ : St) (H : Hp) (x y : V) (v u : Value) (Q : VK), Inv X pins σ H s → RelV x v → RelV y u → t x y H Q →
    wpAny (model X.prog X.w) X.A (inplaceOp op v u) (EP X pins σ Q) X.xe s
section
variable {X : Cx} {pos : Pos}
def gName (i : Nat) : TG := fun v σ H Q => Q (σ.set i (some v)) H
theorem pg_name {i : Nat} {x : Str} (hN : X.N.Nodup) (hi : X.N[i]? = some x) (hx : Loc X.env.scope x) (hf : X.fn x = true ∨ X.env.scope.names.lookup x = some .local := by first | exact .inl rfl | exact .inr rfl | assumption) : PG X (.Name x pos) (gName i) := by
  intro pins s σ H v u Q I r h
  exact wpAny_assign_Name (store_ok I hN hi hx r (fun s' I' => ⟨_, H, I', h⟩) hf)
def gNil : TGs := fun vs σ H Q => vs = [] ∧ Q σ H
def gCons (t : TG) (u : TGs) : TGs := fun vs σ H Q => ∃ v r, vs = v :: r ∧ t v σ H fun σ' H' => u r σ' H' Q
theorem pgs_nil : PGs X [] gNil := by
  intro pins s σ H vs us Q I r h
  obtain ⟨e, h⟩ := h
  subst e
  cases r
  exact assignInOrder_nil ⟨σ, H, I, h⟩
theorem pgs_cons {e : Expr} {es : List Expr} {t : TG} {u : TGs} (h1 : PG X e t) (h2 : PGs X es u)
    (hs : (assignEach (e :: es) X.env).map (·.2) = assign e X.env :: (assignEach es X.env).map (·.2) := by rfl) : PGs X (e :: es) (gCons t u) := by
  intro pins s σ H vs us Q I r h
  obtain ⟨v, vr, e1, h⟩ := h
  subst e1
  cases r with
  | cons r rr =>
    rw [hs]
    refine assignInOrder_cons (thn (h1 pins s σ H _ _ _ I r h) fun _ s1 ⟨σ1, H1, I1, q1⟩ => ?_)
    exact h2 pins s1 σ1 H1 _ _ Q I1 rr q1
/-- (a, b, ..) = a tuple of that length -/
def gTup (K : PySem.W.Frag) (n : Nat) (t : TGs) : TG := fun v σ H Q => ∃ a xs, v = .ref a ∧ SqT K H a xs ∧ xs.length = n ∧ t xs σ H Q
theorem pg_tup {es : List Expr} {k : Nat} {t : TGs} {n : Nat} (hc : X.calm = true) (h : PGs X es t)
    (hn : (assignEach es X.env).length = n := by rfl) (hst : (assignEach es X.env).findIdx? (·.1) = none := by rfl) : PG X (.Tuple es k pos) (gTup X.K n t) := by
  intro pins s σ H v u Q I r hw
  obtain ⟨a, xs, e1, hq, hl, hw⟩ := hw
  subst e1
  cases r
  obtain ⟨its, rv, ht, hz⟩ := I.tuple hq
  refine assign_Tuple_tuple (I.ok.hd hc) ht (by simp [hn, ← hl, rv.length]) hst fun h' hx => ?_
  have I1 : Inv X pins σ H { s with heap := h' } := I.kept (t' := s.toks) fun b o e => hx b o (Nat.ne_of_lt (Heap.lt_size e)) e
  exact h pins _ σ H xs _ Q I1 (by simpa using rv) hw
/-- o[i] = .. -/
def gSub (to ti : TE) (t : TSet) : TG := fun v σ H Q => to σ H fun o H1 => ti σ H1 fun i H2 => t o i v H2 fun H3 => Q σ H3
theorem pg_sub {o i : Expr} {to ti : TE} {t : TSet} (ho : PE X o to) (hi : PE X i ti) (hs : PSet X t)
    (ha : ∀ v, assign (.Subscript o i pos) X.env v = (do
      let ov ← holding [v] (eval o X.env)
      let iv ← holding [v, ov] (eval i X.env)
      standAt pos
      holding [v, ov, iv] (setItem ov iv v)
      release [v, ov, iv] []) := by intro _; rfl) : PG X (.Subscript o i pos) (gSub to ti t) := by
  intro pins s σ H v u Q I r h
  rw [ha]
  refine wpAny_bind (wpAny_holding (thn (ho pins s σ H _ I h) fun ov s1 ⟨x, H1, I1, r1, q1⟩ => ?_))
  refine wpAny_bind (wpAny_holding (thn (hi pins s1 σ H1 _ I1 q1) fun iv s2 ⟨y, H2, I2, r2, q2⟩ => ?_))
  refine wpAny_bind (wpAny_standAt (wpAny_bind (wpAny_holding (thn (hs pins s2 σ H2 x y v ov iv u _ I2 r1 r2 r q2) fun _ s3 ⟨H3, I3, q3⟩ => ?_))))
  exact wpAny_release ⟨σ, H3, I3, q3⟩
/-- target = value -/
def tAsg (te : TE) (g : TG) : TS := fun D σ H => te σ H fun x H1 => g x σ H1 D.nx
theorem ps_asg {tg e : Expr} {te : TE} {g : TG} (he : PE X e te) (hg : PG X tg g) (hs : swapsWithSole [tg] e pos.line X.env = pure false := by rfl) (hw : swappedStores [tg] e X.env = pure none := by rfl)
    (h1 : (assignEach [tg] X.env).map (·.2) = [assign tg X.env] := by rfl) : PS X (.Assign [tg] e pos) (tAsg te g) := by
  intro pins s σ H D I h
  refine wpAny_Assign_stores (thn (he pins s σ H _ I h) fun v s1 ⟨x, H1, I1, r1, q1⟩ => ?_) hs hw
  rw [h1]
  exact thn (hg pins s1 σ H1 x v _ I1 r1 q1) fun _ s2 q => q
/-- name = value -/
theorem ps_set {i : Nat} {x : Str} {e : Expr} {te : TE} {pos' : Pos} (hN : X.N.Nodup) (hi : X.N[i]? = some x) (hx : Loc X.env.scope x) (he : PE X e te) (hs : swapsWith e (some (.Name x pos')) pos.line X.env = pure false := by rfl) (hf : X.fn x = true ∨ X.env.scope.names.lookup x = some .local := by first | exact .inl rfl | exact .inr rfl | assumption) :
    PS X (.Assign [.Name x pos'] e pos) (tAsg te (gName i)) := by
  intro pins s σ H D I h
  refine wpAny_Assign_Name (thn (he pins s σ H _ I h) fun v s1 ⟨y, H1, I1, r1, q1⟩ => ?_) hs
  exact store_ok I1 hN hi hx r1 (fun s2 I2 => ⟨_, H1, I2, q1⟩) hf
/-- a, b = x, y with plain local names: stored from the right; the pair itself is not tracked (the opening rows as in PyProof/Rows/TupAssign.lean:23) -/
def tPar (i j : Nat) (ta : TA) : TS := fun D σ H => ta σ H fun vs H1 => ∃ v w, vs = [v, w] ∧ D.nx ((σ.set i (some v)).set j (some w)) H1
theorem ps_par {i j : Nat} {x y : Str} {a b : Expr} {ta : TA} {px py pt : Pos} {kt k2 pt2} (hc : X.calm = true) (hN : X.N.Nodup) (hi : X.N[i]? = some x) (hj : X.N[j]? = some y) (hij : i ≠ j)
    (hx : X.env.scope.names.lookup x = some .local) (hy : X.env.scope.names.lookup y = some .local) (ha : PA X [a, b] ta)
    (hw : swappedStores [.Tuple [.Name x px, .Name y py] kt pt] (.Tuple [a, b] k2 pt2) X.env = pure (some [x, y]))
    (hs : swapsWithSole [.Tuple [.Name x px, .Name y py] kt pt] (.Tuple [a, b] k2 pt2) pos.line X.env = pure false := by rfl) :
    PS X (.Assign [.Tuple [.Name x px, .Name y py] kt pt] (.Tuple [a, b] k2 pt2) pos) (tPar i j ta) := by
  intro pins s σ H D I h
  rw [exec_Assign_arm]
  refine wpAny_bind (wpAny_standAt ?_)
  rw [hs]
  refine wpAny_bind (wpAny_pure ?_)
  rw [if_neg (by decide)]
  refine wpAny_bind (Tuple_ (thn (ha _ pins s σ H _ I h) fun us s1 ⟨vs, H1, I1, r1, q1⟩ => ?_))
  obtain ⟨v, w, e1, q1⟩ := q1
  subst e1
  obtain ⟨u1, u2, rfl, rv, rw'⟩ : ∃ u1 u2, us = [u1, u2] ∧ RelV v u1 ∧ RelV w u2 := by
    cases r1 with
    | cons p q =>
      cases q with
      | cons p' q' =>
        cases q'
        exact ⟨_, _, rfl, p, p'⟩
  refine wpAny_newObj_type ?_ (by show 2 ≤ sizeLine; decide)
  have I2 : Inv X pins σ H1 { s1 with heap := s1.heap.push { cls := .type "tuple", data := .seq [u1, u2].toArray } } := I1.kept (t' := s1.toks) fun b o e => Heap.get?_push_of_some _ e
  rw [hw]
  refine wpAny_bind (wpAny_pure ?_)
  show wpAny (model X.prog X.w) X.A (do rule "assign.swapped-stores"; let items ← unpackItems (.ref s1.heap.objs.size) 2 none; assignInOrder [fun v => bindName X.env y v, fun v => bindName X.env x v] items.reverse; pure Flow.next) _ _ _
  refine wpAny_bind (wpAny_rule (wpAny_bind (unpackItems_tuple (items := #[u1, u2]) (I.ok.hd hc) (IsTup.new s1.heap _) fun h' hx' => ?_)))
  have I3 := I2.kept (h' := h') (t' := s1.toks) fun b o e => hx' b o (Nat.ne_of_lt (Heap.lt_size e)) e
  show wpAny _ _ (assignInOrder [fun v => bindName X.env y v, fun v => bindName X.env x v] [u2, u1] >>= fun _ => pure Flow.next) _ _ _
  refine wpAny_bind (assignInOrder_cons (wpAny_bindName (store_ok I3 hN hj (.inl hy) rw' (fun s2 I4 => ?_) (.inr hy))))
  refine assignInOrder_cons (wpAny_bindName (store_ok I4 hN hi (.inl hx) rv (fun s3 I5 => assignInOrder_nil (wpAny_pure ?_)) (.inr hx)))
  rw [List.set_comm _ _ (Ne.symm hij)] at I5
  exact ⟨_, H1, I5, q1⟩
/-- name op= e -/
def tAug (i : Nat) (te : TE) (ti : TIp) : TS := fun D σ H => ∃ x, σ[i]? = some (some x) ∧ te σ H fun y H1 => ti x y H1 fun z H2 => D.nx (σ.set i (some z)) H2
theorem ps_aug {i : Nat} {x : Str} {e : Expr} {te : TE} {op : Operator} {ti : TIp} {pos' : Pos} (hN : X.N.Nodup) (hi : X.N[i]? = some x) (hx : Loc X.env.scope x) (he : PE X e te) (ho : PIp X op ti) (hf : X.fn x = true ∨ X.env.scope.names.lookup x = some .local := by first | exact .inl rfl | exact .inr rfl | assumption) :
    PS X (.AugAssign (.Name x pos') op e pos) (tAug i te ti) := by
  intro pins s σ H D I h
  obtain ⟨v, e1, h⟩ := h
  obtain ⟨m, hn, hl⟩ := I.loc
  have vis : Vis X.env.scope x := by rcases hx with k | k; exact .inl k; exact .inr (.inl k)
  obtain ⟨u, r, l⟩ := hl i x v hi e1 vis
  refine wpAny_AugAssign_Name ?_
  have go : wpAny (model X.prog X.w) X.A (eval e X.env) (fun w s₂ => wpAny (model X.prog X.w) X.A (inplaceOp op u w) (fun r s₃ => wpAny (model X.prog X.w) X.A (storeName X.env x r) (fun _ => SP X pins D .next) X.xe s₃) X.xe s₂) X.xe s := by
    refine thn (he pins s σ H _ I h) fun w s1 ⟨y, H1, I1, r1, q1⟩ => ?_
    refine thn (ho pins s1 σ H1 v y u w _ I1 r r1 q1) fun z s2 ⟨zv, H2, I2, r2, q2⟩ => ?_
    exact store_ok I2 hN hi hx r2 (fun s3 I3 => ⟨_, H2, I3, q2⟩) hf
  rcases l with ⟨hk, hm⟩ | ⟨hk, c, hc, hcell⟩
  · exact wpAny_loadName_local I.ok.kind hk hn hm go
  · rcases hk with hk | hk
    · exact wpAny_loadName_cell I.ok.kind hk hc hcell go
    · rcases hx with k | k
      · have : X.env.scope.names.lookup x = some .free := hk
        rw [k] at this; cases this
      · have : X.env.scope.names.lookup x = some .free := hk
        rw [k] at this; cases this
/-- o[i] op= e -/
def tAugS (to ti te : TE) (tget : V → V → Hp → VK → Prop) (tip : TIp) (tset : TSet) : TS := fun D σ H => to σ H fun o H1 => ti σ H1 fun i H2 => tget o i H2 fun x H3 => te σ H3 fun y H4 => tip x y H4 fun z H5 => tset o i z H5 fun H6 => D.nx σ H6
/-- o[i], by values -/
def PGet (X : Cx) (t : V → V → Hp → VK → Prop) : Prop :=
  ∀ (pins : List (Addr × Obj)) (s : Shared) (σ : St) (H : Hp) (o i : V) (ov iv : Value) (Q : VK), Inv X pins σ H s → RelV o ov → RelV i iv → t o i H Q →
    wpAny (model X.prog X.w) X.A (getItem ov iv) (EP X pins σ Q) X.xe s
theorem ps_augS {o i e : Expr} {to ti te : TE} {tget : V → V → Hp → VK → Prop} {tip : TIp} {tset : TSet} {op : Operator} {tpos : Pos} (ho : PE X o to) (hi : PE X i ti) (hg : PGet X tget) (he : PE X e te) (hp : PIp X op tip) (hs : PSet X tset)
    (ha : ∀ ov iv new, augStore i ov iv new = (do holding [new, ov, iv] (setItem ov iv new); release [new, ov, iv] []; pure .next) := by intros; rfl) : PS X (.AugAssign (.Subscript o i tpos) op e pos) (tAugS to ti te tget tip tset) := by
  intro pins s σ H D I h
  refine wpAny_AugAssign_SubscriptAny (thn (ho pins s σ H _ I h) fun ov s1 ⟨x1, H1, I1, r1, q1⟩ => ?_) ha
  refine thn (hi pins s1 σ H1 _ I1 q1) fun iv s2 ⟨x2, H2, I2, r2, q2⟩ => ?_
  refine thn (hg pins s2 σ H2 x1 x2 ov iv _ I2 r1 r2 q2) fun old s3 ⟨x3, H3, I3, r3, q3⟩ => ?_
  refine thn (he pins s3 σ H3 _ I3 q3) fun v s4 ⟨x4, H4, I4, r4, q4⟩ => ?_
  refine thn (hp pins s4 σ H4 x3 x4 old v _ I4 r3 r4 q4) fun new s5 ⟨x5, H5, I5, r5, q5⟩ => ?_
  exact thn (hs pins s5 σ H5 x1 x2 x5 ov iv new _ I5 r1 r2 r5 q5) fun _ s6 ⟨H6, I6, q6⟩ => ⟨σ, H6, I6, q6⟩
/-- ints -/
def ipI (f : Int → Int → Int) : TIp := fun x y H Q => ∃ i j, x = .int i ∧ y = .int j ∧ Q (.int (f i j)) H
theorem ip_add : PIp X .Add (ipI fun i j => i + j) := by
  intro pins s σ H x y v u Q I r1 r2 h
  obtain ⟨i, j, e1, e2, q⟩ := h
  subst e1; subst e2
  obtain ⟨t, rfl⟩ := r1
  obtain ⟨t', rfl⟩ := r2
  exact iadd_int ⟨.int _, H, I.tok _, ⟨_, rfl⟩, q⟩
theorem ip_sub : PIp X .Sub (ipI fun i j => i - j) := by
  intro pins s σ H x y v u Q I r1 r2 h
  obtain ⟨i, j, e1, e2, q⟩ := h
  subst e1; subst e2
  obtain ⟨t, rfl⟩ := r1
  obtain ⟨t', rfl⟩ := r2
  exact isub_int ⟨.int _, H, I.tok _, ⟨_, rfl⟩, q⟩
end

/-! ### while -/
section
variable {X : Cx} {pos : Pos}
/-- the invariant W with its measure -/
def tWhile (c : TT) (tb : TS) : TS := fun D σ H => ∃ W : Nat → St → Hp → Prop, (∃ m, W m σ H) ∧ ∀ m σ H, W m σ H →
  c σ H fun b H1 => if b = true then ∃ N : St → Hp → Prop, (∀ σ' H', N σ' H' → ∃ m', m' < m ∧ W m' σ' H') ∧ tb { D with nx := N, ct := N, bk := D.nx } σ H1 else D.nx σ H1
theorem ps_while {c : Expr} {body : List Stmt} {tc : TT} {tb : TS} (hp : PassesOwn (model X.prog X.w) X.A X.env X.xe) (hc : PT X c tc) (hb : PSs X body tb) : PS X (.While c body [] pos) (tWhile tc tb) := by
  intro pins s σ H D I h
  obtain ⟨W, ⟨m0, w0⟩, turn⟩ := h
  refine wpAny_While (codeAny_whileLoop (fun n s' => ∃ σ' H', Inv X pins σ' H' s' ∧ W n σ' H') ?_ m0 ⟨σ, H, I, w0⟩)
  rintro n s1 ⟨σ1, H1, I1, w1⟩
  refine wpAny_passesOwn hp (thn (hc pins s1 σ1 H1 _ I1 (turn n σ1 H1 w1)) fun b s2 ⟨H2, I2, q2⟩ => ?_)
  cases b with
  | true =>
    obtain ⟨N, hN, q2⟩ := q2
    rw [if_pos rfl]
    refine wpAny_passesOwn hp (thn (hb pins s2 σ1 H2 _ I2 q2) fun f s3 q3 => ?_)
    cases f with
    | next =>
      obtain ⟨σ3, H3, I3, n3⟩ := q3
      obtain ⟨m', hm, w3⟩ := hN σ3 H3 n3
      exact ⟨m', hm, σ3, H3, I3, w3⟩
    | cont =>
      obtain ⟨σ3, H3, I3, n3⟩ := q3
      obtain ⟨m', hm, w3⟩ := hN σ3 H3 n3
      exact ⟨m', hm, σ3, H3, I3, w3⟩
    | brk => exact q3
    | ret v => exact q3
  | false =>
    rw [if_neg Bool.false_ne_true]
    exact wpAny_execs_nil ⟨σ1, H2, I2, q2⟩
end

/-! ### what a loop or a comprehension walks -/
/-- at turn i: it yields x (the heap may grow), or it stops -/
structure It where
  go : Nat → Hp → Prop
  yld : Nat → Hp → V → Hp → Prop
  stop : Nat → Hp → Prop
/-- the iterator's own objects may turn: they are not the frame's, not pinned, younger than the entry (or a comprehension's own) -/
def FpOk (X : Cx) (pins : List (Addr × Obj)) (H : Hp) (b : Addr) : Prop :=
  H b = none ∧ b ≠ X.env.locals ∧ b ∉ X.fs ∧ (b ∈ X.ex ∨ X.s₀.heap.objs.size ≤ b) ∧ (∀ x c, X.env.cells.lookup x = some c → c ≠ b) ∧ ∀ p ∈ X.pn ++ pins, p.1 ≠ b
theorem Inv.fpOk {X : Cx} {pins : List (Addr × Obj)} {σ : St} {H H' : Hp} {s : Shared} {b : Addr} (I : Inv X pins σ H s) (hb : s.heap.objs.size ≤ b) (hn : H' b = none) : FpOk X pins H' b := by
  refine ⟨hn, Nat.ne_of_gt (Nat.lt_of_lt_of_le I.lt hb), I.nofs hb, .inr (Nat.le_trans I.sz hb), fun x c e z => ?_, fun p hp z => ?_⟩
  · obtain ⟨v, q⟩ := I.cell x c e
    exact absurd (Nat.lt_of_lt_of_le q.lt (by rw [z]; exact hb)) (Nat.lt_irrefl _)
  · exact absurd (Nat.lt_of_lt_of_le (Heap.lt_size (I.pin p hp).1) (by rw [z]; exact hb)) (Nat.lt_irrefl _)
structure Turn (P : Program) (w : World) (K : PySem.W.Frag) (tg : Expr) (J : It) (fp : List Addr) (it : Addr) (tn : Nat → Heap → Prop) : Prop where
  mem : it ∈ fp
  obj : ∀ i h, tn i h → ∀ b ∈ fp, ∃ o, h.get? b = some o ∧ ∀ v, o.data ≠ .cell v
  keep : ∀ i h h', tn i h → (∀ b ∈ fp, ∀ o, h.get? b = some o → h'.get? b = some o) → tn i h'
  item : ∀ (X : Cx), X.prog = P → X.w = w → X.K = K → X.calm = true → ∀ (i : Nat) (pins : List (Addr × Obj)) (s : Shared) (σ : St) (H : Hp) (E : Value → Shared → Prop), Inv X pins σ H s → (∀ b ∈ fp, FpOk X pins H b) → tn i s.heap → J.go i H →
    wpAny (model P w) X.A (pyNext (.ref it)) (fun r s1 => ∃ u, r = some u ∧
      wpAny (model P w) X.A (letOwnedTupleGo tg (.ref it) u) (fun _ s2 => ∃ x H', Inv X pins σ H' s2 ∧ RelV x u ∧ J.yld i H x H' ∧ tn (i + 1) s2.heap ∧ ∀ b ∈ fp, H' b = none) E s1) E s
  done : ∀ (X : Cx), X.prog = P → X.w = w → X.K = K → X.calm = true → ∀ (i : Nat) (pins : List (Addr × Obj)) (s : Shared) (σ : St) (H : Hp) (E : Value → Shared → Prop), Inv X pins σ H s → (∀ b ∈ fp, FpOk X pins H b) → tn i s.heap → J.stop i H →
    wpAny (model P w) X.A (pyNext (.ref it)) (fun r s1 => r = none ∧ Inv X pins σ H s1) E s
  self : ∀ (A : Around) (i : Nat) (s : Shared) (Q : Value → Shared → Prop) (E : Value → Shared → Prop), tn i s.heap → Q (.ref it) s → wpAny (model P w) A (pyIter (.ref it)) Q E s
abbrev TI := St → Hp → (It → Hp → Prop) → Prop
/-- an iterator has come -/
def PIE (X : Cx) (pins : List (Addr × Obj)) (σ : St) (tg : Expr) (R : It → Hp → Prop) (itv : Value) (s2 : Shared) : Prop :=
  ∃ (it : Addr) (fp : List Addr) (tn : Nat → Heap → Prop) (J : It) (H' : Hp), itv = .ref it ∧ Inv X pins σ H' s2 ∧ Turn X.prog X.w X.K tg J fp it tn ∧ tn 0 s2.heap ∧ (∀ b ∈ fp, FpOk X pins H' b) ∧ R J H'
def PI (X : Cx) (tg iter : Expr) (wi : TI) : Prop :=
  ∀ (pins : List (Addr × Obj)) (s : Shared) (σ : St) (H : Hp) (R : It → Hp → Prop), Inv X pins σ H s → wi σ H R →
    wpAny (model X.prog X.w) X.A (eval iter X.env) (fun v s1 => wpAny (model X.prog X.w) X.A (pyIter v) (PIE X pins σ tg R) X.xe s1) X.xe s

/-- the step ahead of the store is nothing for an iterator that keeps no tuple -/
theorem go_of {M : Model} {A : Around} {E : Value → Shared → Prop} {s : Shared} {tg : Expr} {it : Addr} {u : Value} {o : Obj} {n : String} {vs : Array Value} {Q : Unit → Shared → Prop} (ho : s.heap.get? it = some o) (hc : o.cls = .type n) (hd : o.data = .fields vs)
    (hn : ["enumerate", "zip", "dict_itemiterator", "dict_reverseitemiterator", "odict_iterator", "itertools.zip_longest", "itertools.pairwise"].contains n = false) (hQ : Q () s) : wpAny M A (letOwnedTupleGo tg (.ref it) u) Q E s := by
  unfold letOwnedTupleGo
  cases tg <;> first
    | exact wpAny_pure hQ
    | (cases u <;> first
        | exact wpAny_pure hQ
        | (refine wpAny_bind (wpAny_load ho ?_)
           rw [hc, hd]
           show wpAny M A (if (["enumerate", "zip", "dict_itemiterator", "dict_reverseitemiterator", "odict_iterator", "itertools.zip_longest", "itertools.pairwise"].contains n && vs[0]? == some (rawInt _)) = true then _ else _) Q E s
           rw [if_neg (by intro h; rw [hn, Bool.false_and] at h; cases h)]
           exact wpAny_pure hQ))

/-- the list at a, as it stands at each turn (a loop may append to it) -/
def Itl (K : PySem.W.Frag) (a : Addr) : It :=
  ⟨fun i H => ∃ xs x, SqL K H a xs ∧ xs[i]? = some x, fun i H x H' => H' = H ∧ ∀ xs, SqL K H a xs → xs[i]? = some x, fun i H => ∃ xs, SqL K H a xs ∧ xs.length ≤ i⟩
def Itt (K : PySem.W.Frag) (a : Addr) : It :=
  ⟨fun i H => ∃ xs x, SqT K H a xs ∧ xs[i]? = some x, fun i H x H' => H' = H ∧ ∀ xs, SqT K H a xs → xs[i]? = some x, fun i H => ∃ xs, SqT K H a xs ∧ xs.length ≤ i⟩
/-- lo, lo + 1, .. (n of them) -/
def Itr (lo : Int) (n : Nat) : It := ⟨fun i _ => i < n, fun i H x H' => H' = H ∧ x = .int (lo + i), fun i _ => n ≤ i⟩
theorem turn_list {P : Program} {w : World} {K : PySem.W.Frag} {tg : Expr} (a it : Addr) : Turn P w K tg (Itl K a) [it] it (fun i h => h.IsListIter it a i) where
  mem := by simp
  obj := fun i h st b hb => by
    have e : b = it := by simpa using hb
    subst e
    obtain ⟨o, e, c, d⟩ := st
    exact ⟨o, e, fun v z => by rw [d] at z; cases z⟩
  keep := fun i h h' st k => st.at fun o e => k it (by simp) o e
  item := by
    intro X hP hw hK hc i pins s σ H E I hf st hg
    subst hP hw hK
    obtain ⟨xs, x, hq, hx⟩ := hg
    obtain ⟨its, rv, p, hz⟩ := I.list hq
    obtain ⟨u, hu, ru⟩ := rv.get hx
    obtain ⟨f0, f1, f2, f3, f4, f5⟩ := hf it (by simp)
    refine wpAny_pyNext_list_item st p.isList (x := u) (by simpa using hu) fun h' st' sb => ?_
    have I1 : Inv X pins σ H { s with heap := h' } := I.turned (t' := s.toks) (fun b o hb e => (sb.2 b hb).trans e) f0 f1 f3 f4 f5
    obtain ⟨o, e, c, d⟩ := id st'
    exact ⟨u, rfl, go_of (s := { s with heap := h' }) e c d (by decide) ⟨x, H, I1, ru, ⟨rfl, fun ys hy => by rw [I.list_inj hy hq]; exact hx⟩, st', fun b hb => (hf b hb).1⟩⟩
  done := by
    intro X hP hw hK hc i pins s σ H E I hf st hg
    subst hP hw hK
    obtain ⟨xs, hq, hx⟩ := hg
    obtain ⟨its, rv, p, hz⟩ := I.list hq
    obtain ⟨f0, f1, f2, f3, f4, f5⟩ := hf it (by simp)
    have hl := rv.length
    exact wpAny_pyNext_list_end (I.ok.hd hc) st p.isList (by simp; omega) fun h' eb => ⟨rfl, I.turned (t' := s.toks) (fun b o hb e => eb b o hb e) f0 f1 f3 f4 f5⟩
  self := fun _ _ _ _ _ st h => wpAny_pyIter_listiter st h
theorem turn_tuple {P : Program} {w : World} {K : PySem.W.Frag} {tg : Expr} (a it : Addr) : Turn P w K tg (Itt K a) [it] it (fun i h => h.IsTupleIter it a i) where
  mem := by simp
  obj := fun i h st b hb => by
    have e : b = it := by simpa using hb
    subst e
    obtain ⟨o, e, c, d⟩ := st
    exact ⟨o, e, fun v z => by rw [d] at z; cases z⟩
  keep := fun i h h' st k => st.at fun o e => k it (by simp) o e
  item := by
    intro X hP hw hK hc i pins s σ H E I hf st hg
    subst hP hw hK
    obtain ⟨xs, x, hq, hx⟩ := hg
    obtain ⟨its, rv, p, hz⟩ := I.tuple hq
    obtain ⟨u, hu, ru⟩ := rv.get hx
    obtain ⟨f0, f1, f2, f3, f4, f5⟩ := hf it (by simp)
    refine wpAny_pyNext_tuple_item st (show s.heap.IsTuple a its.toArray from p) (x := u) (by simpa using hu) fun h' st' sb => ?_
    have I1 : Inv X pins σ H { s with heap := h' } := I.turned (t' := s.toks) (fun b o hb e => (sb.2 b hb).trans e) f0 f1 f3 f4 f5
    obtain ⟨o, e, c, d⟩ := id st'
    exact ⟨u, rfl, go_of (s := { s with heap := h' }) e c d (by decide) ⟨x, H, I1, ru, ⟨rfl, fun ys hy => by rw [I.tuple_inj hy hq]; exact hx⟩, st', fun b hb => (hf b hb).1⟩⟩
  done := by
    intro X hP hw hK hc i pins s σ H E I hf st hg
    subst hP hw hK
    obtain ⟨xs, hq, hx⟩ := hg
    obtain ⟨its, rv, p, hz⟩ := I.tuple hq
    obtain ⟨f0, f1, f2, f3, f4, f5⟩ := hf it (by simp)
    have hl := rv.length
    exact wpAny_pyNext_tuple_end (I.ok.hd hc) st (show s.heap.IsTuple a its.toArray from p) (by simp; omega) fun h' eb => ⟨rfl, I.turned (t' := s.toks) (fun b o hb e => eb b o hb e) f0 f1 f3 f4 f5⟩
  self := fun _ _ _ _ _ st h => wpAny_pyIter_tupleiter st h
theorem turn_range {P : Program} {w : World} {K : PySem.W.Frag} {tg : Expr} (it : Addr) (lo : Int) (n : Nat) : Turn P w K tg (Itr lo n) [it] it (fun i h => IsRangeIter h it (lo + (i : Nat) * 1) ((n : Int) - (i : Nat)) 1) where
  mem := by simp
  obj := fun i h st b hb => by
    have e : b = it := by simpa using hb
    subst e
    exact ⟨_, st, fun v z => by
      have z' : Data.fields _ = Data.cell v := z
      cases z'⟩
  keep := fun i h h' st k => k it (by simp) _ st
  item := by
    intro X hP hw hK hc i pins s σ H E I hf st hg
    subst hP hw hK
    obtain ⟨f0, f1, f2, f3, f4, f5⟩ := hf it (by simp)
    have W := Walks.range (prog := X.prog) (w := X.w) (I.ok.hd hc) it lo 1 n
    refine W.item i s _ _ hg st fun v h' tk hv st' kk => ?_
    obtain ⟨t, rfl⟩ := hv
    have I1 : Inv X pins σ H { s with heap := h', toks := tk } := I.turned (fun b o hb e => kk b o (by simpa using hb) e) f0 f1 f3 f4 f5
    refine ⟨_, rfl, go_of (s := { s with heap := h', toks := tk }) (n := "range_iterator") st' rfl rfl (by decide) ⟨.int (lo + i), H, I1, ⟨t, ?_⟩, ⟨rfl, rfl⟩, st', fun b hb => (hf b hb).1⟩⟩
    rw [Int.mul_one]
  done := by
    intro X hP hw hK hc i pins s σ H E I hf st hg
    subst hP hw hK
    obtain ⟨f0, f1, f2, f3, f4, f5⟩ := hf it (by simp)
    exact wpAny_pyNext_range_end (I.ok.hd hc) st (by have : n ≤ i := hg; omega) fun h' eb => ⟨rfl, I.turned (t' := s.toks) (fun b o hb e => eb b o hb e) f0 f1 f3 f4 f5⟩
  self := fun _ _ _ _ _ st h => wpAny_pyIter_rangeiter st h
end L2

namespace L2
open PySem PySem.Spec PyProof.Rows
section
variable {X : Cx} {tg : Expr}
def iList (K : PySem.W.Frag) (tl : TE) : TI := fun σ H R => tl σ H fun x H1 => ∃ a, x = .ref a ∧ (∃ xs, SqL K H1 a xs) ∧ R (Itl K a) H1
def iTup (K : PySem.W.Frag) (tl : TE) : TI := fun σ H R => tl σ H fun x H1 => ∃ a, x = .ref a ∧ (∃ xs, SqT K H1 a xs) ∧ R (Itt K a) H1
theorem pi_list {l : Expr} {tl : TE} (hl : PE X l tl) : PI X tg l (iList X.K tl) := by
  intro pins s σ H R I h
  refine thn (hl pins s σ H _ I h) fun v s1 ⟨x, H1, I1, r1, q1⟩ => ?_
  obtain ⟨a, e, ⟨xs, hq⟩, q⟩ := q1
  subst e
  cases r1
  obtain ⟨its, rv, p, hz⟩ := I1.list hq
  refine wpAny_pyIter_list p.isList ?_
  refine ⟨s1.heap.objs.size, [s1.heap.objs.size], _, _, H1, rfl, I1.kept (t' := s1.toks) fun b o e => Heap.get?_push_of_some _ e, turn_list a _, ⟨_, Heap.get?_push_size _ rfl, rfl, rfl⟩, fun b hb => ?_, q⟩
  have e : b = s1.heap.objs.size := by simpa using hb
  subst e
  exact I1.fpOk (Nat.le_refl _) (I1.hok.fresh (Nat.le_refl _))
theorem pi_tup {l : Expr} {tl : TE} (hl : PE X l tl) : PI X tg l (iTup X.K tl) := by
  intro pins s σ H R I h
  refine thn (hl pins s σ H _ I h) fun v s1 ⟨x, H1, I1, r1, q1⟩ => ?_
  obtain ⟨a, e, ⟨xs, hq⟩, q⟩ := q1
  subst e
  cases r1
  obtain ⟨its, rv, p, hz⟩ := I1.tuple hq
  refine wpAny_pyIter_tuple (show s1.heap.IsTuple a its.toArray from p) ?_
  refine ⟨s1.heap.objs.size, [s1.heap.objs.size], _, _, H1, rfl, I1.kept (t' := s1.toks) fun b o e => Heap.get?_push_of_some _ e, turn_tuple a _, ⟨_, Heap.get?_push_size _ rfl, rfl, rfl⟩, fun b hb => ?_, q⟩
  have e : b = s1.heap.objs.size := by simpa using hb
  subst e
  exact I1.fpOk (Nat.le_refl _) (I1.hok.fresh (Nat.le_refl _))
/-- a range object just made, walked -/
theorem range_it {pins : List (Addr × Obj)} {σ : St} {H : Hp} {s : Shared} {R : It → Hp → Prop} {E : Value → Shared → Prop} {lo hi : Int} {t u v : Tok} {tk : Nat} (I : Inv X pins σ H s) (h1 : -(2 ^ 62) ≤ lo) (h2 : lo < 2 ^ 62) (h3 : -(2 ^ 62) ≤ hi) (h4 : hi < 2 ^ 62)
    (q : R (Itr lo (hi - lo).toNat) H) : wpAny (model X.prog X.w) X.A (pyIter (.ref s.heap.objs.size)) (PIE X pins σ tg R) E { s with heap := s.heap.push { cls := .type "range", data := .fields #[.int lo t, .int hi u, .int 1 v] }, toks := tk } := by
  refine wpAny_pyIter_range (IsRange.new ..) (small_one h1 h2 h3 h4) ?_
  have I1 : Inv X pins σ H { s with heap := s.heap.push { cls := .type "range", data := .fields #[.int lo t, .int hi u, .int 1 v] }, toks := tk } := I.kept fun b o e => Heap.get?_push_of_some _ e
  refine ⟨(s.heap.push { cls := .type "range", data := .fields #[.int lo t, .int hi u, .int 1 v] }).objs.size, [(s.heap.push { cls := .type "range", data := .fields #[.int lo t, .int hi u, .int 1 v] }).objs.size], _, _, H, rfl,
    I1.kept (t' := tk) fun b o e => Heap.get?_push_of_some _ e, turn_range _ lo (hi - lo).toNat, ?_, fun b hb => ?_, q⟩
  · have e1 : lo + ((0 : Nat) : Int) * 1 = lo := by simp
    have e2 : (((hi - lo).toNat : Nat) : Int) - ((0 : Nat) : Int) = Builtin.Range.rangeSize lo hi 1 := by rw [rangeSize_one]; split <;> omega
    show IsRangeIter _ _ (lo + ((0 : Nat) : Int) * 1) ((((hi - lo).toNat : Nat) : Int) - ((0 : Nat) : Int)) 1
    rw [e1, e2]
    exact Heap.get?_push_size _ rfl
  · have e : b = (s.heap.push { cls := .type "range", data := .fields #[.int lo t, .int hi u, .int 1 v] }).objs.size := by simpa using hb
    subst e
    exact I1.fpOk (Nat.le_refl _) (I1.hok.fresh (Nat.le_refl _))
def iRng1 (ta : TA) : TI := fun σ H R => ta σ H fun vs H1 => ∃ j : Int, vs = [.int j] ∧ -(2 ^ 62) ≤ j ∧ j < 2 ^ 62 ∧ R (Itr 0 j.toNat) H1
def iRng2 (ta : TA) : TI := fun σ H R => ta σ H fun vs H1 => ∃ i j : Int, vs = [.int i, .int j] ∧ (-(2 ^ 62) ≤ i ∧ i < 2 ^ 62 ∧ -(2 ^ 62) ≤ j ∧ j < 2 ^ 62) ∧ R (Itr i (j - i).toNat) H1
theorem pi_range1 {a : Expr} {ta : TA} {p pos : Pos} (hg : Gl X "range") (hm : X.mg "range" = none) (ha : PA X [a] ta) (hs : starEach [a] X.env = [(false, eval a X.env)] := by rfl) : PI X tg (.Call (.Name "range" p) [a] [] pos) (iRng1 ta) := by
  intro pins s σ H R I h
  refine Call_ (ld_blt I hg hm boot_range (PyProof.Rows.callWith_type1 (thn (ha pos pins s σ H _ I h) fun us s1 ⟨vs, H1, I1, r1, q1⟩ => ?_) hs rfl))
  obtain ⟨j, e, q1, q2, q⟩ := q1
  subst e
  cases r1 with
  | cons r rr =>
    cases rr
    obtain ⟨t, rfl⟩ := r
    exact call_range_1 (range_it I1 (by omega) (by omega) q1 q2 (by simpa using q))
theorem pi_range2 {a b : Expr} {ta : TA} {p pos : Pos} (hg : Gl X "range") (hm : X.mg "range" = none) (ha : PA X [a, b] ta) (hs : starEach [a, b] X.env = [(false, eval a X.env), (false, eval b X.env)] := by rfl) (hs2 : starEach [b] X.env = [(false, eval b X.env)] := by rfl) :
    PI X tg (.Call (.Name "range" p) [a, b] [] pos) (iRng2 ta) := by
  intro pins s σ H R I h
  refine Call_ (ld_blt I hg hm boot_range (PyProof.Rows.callWith_type1 (thn (ha pos pins s σ H _ I h) fun us s1 ⟨vs, H1, I1, r1, q1⟩ => ?_) (by rw [hs, hs2]) (by rw [hs2]; rfl)))
  obtain ⟨i, j, e, ⟨q1, q2, q3, q4⟩, q⟩ := q1
  subst e
  cases r1 with
  | cons r rr =>
    cases rr with
    | cons r' rr =>
      cases rr
      obtain ⟨t, rfl⟩ := r
      obtain ⟨t', rfl⟩ := r'
      exact call_range_2 (range_it I1 q1 q2 q3 q4 q)

/-! ### for -/
/-- W: the invariant by the turn and a measure; N: what the body is to reach -/
def tFor (wi : TI) (g : TG) (tb : TS) : TS := fun D σ H => wi σ H fun J H1 => ∃ W : Nat → Nat → St → Hp → Prop, (∃ m, W 0 m σ H1) ∧ ∀ i m σ H, W i m σ H →
  (J.stop i H ∧ D.nx σ H) ∨ (J.go i H ∧ ∃ N : St → Hp → Prop, (∀ σ' H', N σ' H' → ∃ m', m' < m ∧ W (i + 1) m' σ' H') ∧ ∀ x H', J.yld i H x H' → g x σ H' fun σ2 H2 => tb { D with nx := N, ct := N, bk := D.nx } σ2 H2)
/-- the records at fp as they stand -/
def pinsAt (fp : List Addr) (h : Heap) : List (Addr × Obj) := fp.filterMap fun b => (h.get? b).map fun o => (b, o)
theorem mem_pinsAt {fp : List Addr} {h : Heap} {b : Addr} {o : Obj} (hb : b ∈ fp) (e : h.get? b = some o) : (b, o) ∈ pinsAt fp h := List.mem_filterMap.mpr ⟨b, hb, by rw [e]; rfl⟩
theorem of_pinsAt {fp : List Addr} {h : Heap} {p : Addr × Obj} (hp : p ∈ pinsAt fp h) : p.1 ∈ fp ∧ h.get? p.1 = some p.2 := by
  obtain ⟨b, hb, e⟩ := List.mem_filterMap.mp hp
  cases q : h.get? b with
  | none => rw [q] at e; cases e
  | some o =>
    rw [q] at e
    have e' : (b, o) = p := Option.some.inj e
    subst e'
    exact ⟨hb, q⟩
theorem Inv.pinned {pins : List (Addr × Obj)} {σ : St} {H : Hp} {s : Shared} {fp : List Addr} (I : Inv X pins σ H s) (hf : ∀ b ∈ fp, FpOk X pins H b) (ho : ∀ b ∈ fp, ∃ o, s.heap.get? b = some o ∧ ∀ v, o.data ≠ .cell v) : Inv X (pins ++ pinsAt fp s.heap) σ H s :=
  I.pins_of fun p hp => (List.mem_append.mp hp).elim (fun z => I.pin p (List.mem_append_right _ z)) fun z => by
    obtain ⟨hb, e⟩ := of_pinsAt z
    obtain ⟨f0, f1, f2, _⟩ := hf p.1 hb
    obtain ⟨o, e', d⟩ := ho p.1 hb
    rw [e] at e'; cases e'
    exact ⟨e, f0, f1, f2, d⟩
theorem Inv.unpinned {pins pl : List (Addr × Obj)} {σ : St} {H : Hp} {s : Shared} (I : Inv X (pins ++ pl) σ H s) : Inv X pins σ H s := I.pins_of fun p hp => I.pin p (List.mem_append_right _ (List.mem_append_left _ hp))
theorem ps_for {iter : Expr} {body : List Stmt} {wi : TI} {g : TG} {tb : TS} {pos : Pos} (hp : PassesOwn (model X.prog X.w) X.A X.env X.xe) (hc : X.calm = true) (hi : PI X tg iter wi) (hg : PG X tg g) (hb : PSs X body tb)
    (hs : ∀ x, foldedSetIterable iter X.env x = pure x := by intro _; rfl) : PS X (.For tg iter body [] pos) (tFor wi g tb) := by
  intro pins s σ H D I h
  refine wpAny_For (thn (hi pins s σ H _ I h) fun v s1 h1 => thn h1 fun itv s2 h2 => ?_) hs
  obtain ⟨it, fp, tn, J, H2, e, I2, T, st2, f2, W, ⟨m0, w0⟩, turn⟩ := h2
  subst e
  -- what stays true of the iterator's objects through the loop
  have stat : ∀ {H' : Hp}, (∀ b ∈ fp, H' b = none) → ∀ b ∈ fp, FpOk X pins H' b := fun hn b hb => ⟨hn b hb, (f2 b hb).2⟩
  refine codeAny_forLoop_any (fun n s' => ∃ i σ' H', Inv X pins σ' H' s' ∧ tn i s'.heap ∧ (∀ b ∈ fp, H' b = none) ∧ W i n σ' H') ?_ m0 ⟨0, σ, H2, I2, st2, fun b hb => (f2 b hb).1, w0⟩
  rintro n s3 ⟨i, σ3, H3, I3, st3, fr3, w3⟩
  rcases turn i n σ3 H3 w3 with ⟨stop, qn⟩ | ⟨go, N, hN, step⟩
  · refine wpAny_passesOwn hp (thn (T.done X rfl rfl rfl hc i pins s3 σ3 H3 X.xe I3 (stat fr3) st3 stop) fun r s4 ⟨hr, I4⟩ => ?_)
    subst hr
    exact wpAny_execs_nil ⟨σ3, H3, I4, qn⟩
  · refine wpAny_passesOwn hp (thn (T.item X rfl rfl rfl hc i pins s3 σ3 H3 X.xe I3 (stat fr3) st3 go) fun r s4 ⟨u, hr, h4⟩ => ?_)
    subst hr
    refine wpAny_passesOwn hp (thn h4 fun _ s5 ⟨x, H5, I5, r5, y5, st5, fr5⟩ => ?_)
    have I5' := I5.pinned (stat fr5) (T.obj _ _ st5)
    refine wpAny_passesOwn hp (thn (hg _ s5 σ3 H5 x u _ I5' r5 (step x H5 y5)) fun _ s6 ⟨σ6, H6, I6, q6⟩ => ?_)
    refine wpAny_passesOwn hp (thn (hb _ s6 σ6 H6 _ I6 q6) fun f s7 q7 => ?_)
    have again : ∀ {σ7 : St} {H7 : Hp}, Inv X (pins ++ pinsAt fp s5.heap) σ7 H7 s7 → N σ7 H7 → ∃ m, m < n ∧ ∃ i σ' H', Inv X pins σ' H' s7 ∧ tn i s7.heap ∧ (∀ b ∈ fp, H' b = none) ∧ W i m σ' H' := fun {σ7 H7} I7 n7 => by
      obtain ⟨m', hm, w7⟩ := hN σ7 H7 n7
      refine ⟨m', hm, i + 1, σ7, H7, I7.unpinned, T.keep _ _ _ st5 fun b hb o e => (I7.pin (b, o) (List.mem_append_right _ (List.mem_append_right _ (mem_pinsAt hb e)))).1, fun b hb => ?_, w7⟩
      obtain ⟨o, e, d⟩ := T.obj _ _ st5 b hb
      exact (I7.pin (b, o) (List.mem_append_right _ (List.mem_append_right _ (mem_pinsAt hb e)))).2.1
    cases f with
    | next => obtain ⟨σ7, H7, I7, n7⟩ := q7; exact again I7 n7
    | cont => obtain ⟨σ7, H7, I7, n7⟩ := q7; exact again I7 n7
    | brk => obtain ⟨σ7, H7, I7, q7⟩ := q7; exact ⟨σ7, H7, I7.unpinned, q7⟩
    | ret v => obtain ⟨x7, σ7, H7, I7, r7, q7⟩ := q7; exact ⟨x7, σ7, H7, I7.unpinned, r7, q7⟩
end

/-! ### the forms one uses -/
/-- over a list that the body leaves as it is -/
theorem for_list {K : PySem.W.Frag} {a : Addr} {xs : List V} {g : TG} {tb : TS} {D : Ends} {σ : St} {H : Hp} (Pv : Nat → St → Hp → Prop) (h0 : Pv 0 σ H) (hl : ∀ i σ H, i ≤ xs.length → Pv i σ H → SqL K H a xs)
    (hs : ∀ i x σ H, xs[i]? = some x → Pv i σ H → g x σ H fun σ2 H2 => tb { D with nx := Pv (i + 1), ct := Pv (i + 1), bk := D.nx } σ2 H2) (hd : ∀ σ H, Pv xs.length σ H → D.nx σ H) :
    ∃ W : Nat → Nat → St → Hp → Prop, (∃ m, W 0 m σ H) ∧ ∀ i m σ H, W i m σ H →
      ((Itl K a).stop i H ∧ D.nx σ H) ∨ ((Itl K a).go i H ∧ ∃ N : St → Hp → Prop, (∀ σ' H', N σ' H' → ∃ m', m' < m ∧ W (i + 1) m' σ' H') ∧ ∀ x H', (Itl K a).yld i H x H' → g x σ H' fun σ2 H2 => tb { D with nx := N, ct := N, bk := D.nx } σ2 H2) := by
  refine ⟨fun i m σ H => m = xs.length - i ∧ i ≤ xs.length ∧ Pv i σ H, ⟨xs.length, by simp, Nat.zero_le _, h0⟩, ?_⟩
  rintro i m σ H ⟨rfl, hi, p⟩
  have q := hl i σ H hi p
  by_cases hlt : i < xs.length
  · refine .inr ⟨⟨xs, xs[i], q, by simp [hlt]⟩, Pv (i + 1), fun σ' H' p' => ⟨xs.length - (i + 1), by omega, rfl, hlt, p'⟩, fun x H' y => ?_⟩
    obtain ⟨e, y⟩ := y
    subst e
    exact hs i x σ _ (y xs q) p
  · have e : i = xs.length := by omega
    subst e
    exact .inl ⟨⟨xs, q, Nat.le_refl _⟩, hd σ H p⟩
theorem for_tup {K : PySem.W.Frag} {a : Addr} {xs : List V} {g : TG} {tb : TS} {D : Ends} {σ : St} {H : Hp} (Pv : Nat → St → Hp → Prop) (h0 : Pv 0 σ H) (hl : ∀ i σ H, i ≤ xs.length → Pv i σ H → SqT K H a xs)
    (hs : ∀ i x σ H, xs[i]? = some x → Pv i σ H → g x σ H fun σ2 H2 => tb { D with nx := Pv (i + 1), ct := Pv (i + 1), bk := D.nx } σ2 H2) (hd : ∀ σ H, Pv xs.length σ H → D.nx σ H) :
    ∃ W : Nat → Nat → St → Hp → Prop, (∃ m, W 0 m σ H) ∧ ∀ i m σ H, W i m σ H →
      ((Itt K a).stop i H ∧ D.nx σ H) ∨ ((Itt K a).go i H ∧ ∃ N : St → Hp → Prop, (∀ σ' H', N σ' H' → ∃ m', m' < m ∧ W (i + 1) m' σ' H') ∧ ∀ x H', (Itt K a).yld i H x H' → g x σ H' fun σ2 H2 => tb { D with nx := N, ct := N, bk := D.nx } σ2 H2) := by
  refine ⟨fun i m σ H => m = xs.length - i ∧ i ≤ xs.length ∧ Pv i σ H, ⟨xs.length, by simp, Nat.zero_le _, h0⟩, ?_⟩
  rintro i m σ H ⟨rfl, hi, p⟩
  have q := hl i σ H hi p
  by_cases hlt : i < xs.length
  · refine .inr ⟨⟨xs, xs[i], q, by simp [hlt]⟩, Pv (i + 1), fun σ' H' p' => ⟨xs.length - (i + 1), by omega, rfl, hlt, p'⟩, fun x H' y => ?_⟩
    obtain ⟨e, y⟩ := y
    subst e
    exact hs i x σ _ (y xs q) p
  · have e : i = xs.length := by omega
    subst e
    exact .inl ⟨⟨xs, q, Nat.le_refl _⟩, hd σ H p⟩
theorem for_range {lo : Int} {n : Nat} {g : TG} {tb : TS} {D : Ends} {σ : St} {H : Hp} (Pv : Nat → St → Hp → Prop) (h0 : Pv 0 σ H)
    (hs : ∀ i σ H, i < n → Pv i σ H → g (.int (lo + i)) σ H fun σ2 H2 => tb { D with nx := Pv (i + 1), ct := Pv (i + 1), bk := D.nx } σ2 H2) (hd : ∀ σ H, Pv n σ H → D.nx σ H) :
    ∃ W : Nat → Nat → St → Hp → Prop, (∃ m, W 0 m σ H) ∧ ∀ i m σ H, W i m σ H →
      ((Itr lo n).stop i H ∧ D.nx σ H) ∨ ((Itr lo n).go i H ∧ ∃ N : St → Hp → Prop, (∀ σ' H', N σ' H' → ∃ m', m' < m ∧ W (i + 1) m' σ' H') ∧ ∀ x H', (Itr lo n).yld i H x H' → g x σ H' fun σ2 H2 => tb { D with nx := N, ct := N, bk := D.nx } σ2 H2) := by
  refine ⟨fun i m σ H => m = n - i ∧ i ≤ n ∧ Pv i σ H, ⟨n, by simp, Nat.zero_le _, h0⟩, ?_⟩
  rintro i m σ H ⟨rfl, hi, p⟩
  by_cases hlt : i < n
  · refine .inr ⟨hlt, Pv (i + 1), fun σ' H' p' => ⟨n - (i + 1), by omega, rfl, hlt, p'⟩, fun x H' y => ?_⟩
    obtain ⟨e, y⟩ := y
    subst e y
    exact hs i σ _ hlt p
  · have e : i = n := by omega
    subst e
    exact .inl ⟨Nat.le_refl _, hd σ H p⟩
/-- while, by a word and a measure of the state -/
theorem while_by {c : TT} {tb : TS} {D : Ends} {σ : St} {H : Hp} (Pv : St → Hp → Prop) (μ : St → Hp → Nat) (h0 : Pv σ H)
    (hs : ∀ σ H, Pv σ H → c σ H fun b H1 => if b = true then tb { D with nx := fun σ' H' => Pv σ' H' ∧ μ σ' H' < μ σ H, ct := fun σ' H' => Pv σ' H' ∧ μ σ' H' < μ σ H, bk := D.nx } σ H1 else D.nx σ H1)
    (mono : ∀ σ H Q Q', (∀ b H1, Q b H1 → Q' b H1) → c σ H Q → c σ H Q') : tWhile c tb D σ H := by
  refine ⟨fun m σ H => m = μ σ H ∧ Pv σ H, ⟨_, rfl, h0⟩, ?_⟩
  rintro m σ H ⟨rfl, p⟩
  refine mono σ H _ _ (fun b H1 q => ?_) (hs σ H p)
  cases b with
  | true => exact ⟨_, fun σ' H' ⟨p', l⟩ => ⟨_, l, rfl, p'⟩, q⟩
  | false => exact q
end L2

namespace L2
open PySem PySem.Spec PyProof.Rows

abbrev R2 := V → V → Hp → VK → Prop
/-- a two-place operation on values: f is binaryOp op, inplaceOp op or compareOp op -/
def OpR (X : Cx) (f : Value → Value → Sem Value) (r : R2) : Prop :=
  ∀ (pins : List (Addr × Obj)) (s : Shared) (σ : St) (H : Hp) (x y : V) (v u : Value) (Q : VK), Inv X pins σ H s → RelV x v → RelV y u → r x y H Q →
    wpAny (model X.prog X.w) X.A (f v u) (EP X pins σ Q) X.xe s
/-- a one-place operation -/
def UnR (X : Cx) (f : Value → Sem Value) (r : V → Hp → VK → Prop) : Prop :=
  ∀ (pins : List (Addr × Obj)) (s : Shared) (σ : St) (H : Hp) (x : V) (v : Value) (Q : VK), Inv X pins σ H s → RelV x v → r x H Q →
    wpAny (model X.prog X.w) X.A (f v) (EP X pins σ Q) X.xe s
/-- a call of a value that is known (a builtin, a type) with values -/
def CallR (X : Cx) (f : Value) (r : List V → Hp → VK → Prop) : Prop :=
  ∀ (pins : List (Addr × Obj)) (s : Shared) (σ : St) (H : Hp) (xs : List V) (us : List Value) (Q : VK), Inv X pins σ H s → Vals xs us → r xs H Q →
    wpAny (model X.prog X.w) X.A (call f us) (EP X pins σ Q) X.xe s
/-- a value's truth -/
def TruR (X : Cx) (r : V → Hp → (Bool → Hp → Prop) → Prop) : Prop :=
  ∀ (pins : List (Addr × Obj)) (s : Shared) (σ : St) (H : Hp) (x : V) (v : Value) (Q : Bool → Hp → Prop), Inv X pins σ H s → RelV x v → r x H Q →
    wpAny (model X.prog X.w) X.A (truthy v) (TP X pins σ Q) X.xe s

def tOp (r : R2) (ta tb : TE) : TE := fun σ H Q => ta σ H fun x H1 => tb σ H1 fun y H2 => r x y H2 Q
def tUn (r : V → Hp → VK → Prop) (ta : TE) : TE := fun σ H Q => ta σ H fun x H1 => r x H1 Q
/-- ints in, under C, and a value out -/
def rI (C : Int → Int → Prop) (g : Int → Int → V) : R2 := fun x y H Q => ∃ i j, x = .int i ∧ y = .int j ∧ C i j ∧ Q (g i j) H
def rI0 (g : Int → Int → V) : R2 := fun x y H Q => ∃ i j, x = .int i ∧ y = .int j ∧ Q (g i j) H
def rU (g : Int → V) : V → Hp → VK → Prop := fun x H Q => ∃ i, x = .int i ∧ Q (g i) H

section
variable {X : Cx} {a b c : Expr} {ta tb tc : TE} {pos : Pos}

theorem binT (ha : PE X a ta) (hb : PE X b tb) {pins : List (Addr × Obj)} {s : Shared} {σ : St} {H : Hp} {R : V → V → Hp → Prop} (I : Inv X pins σ H s)
    (h : ta σ H fun x H1 => tb σ H1 fun y H2 => R x y H2) {Q : Value → Shared → Prop} {f : Value → Value → Sem Value}
    (hf : ∀ v u s2 x y H2, Inv X pins σ H2 s2 → RelV x v → RelV y u → R x y H2 → wpAny (model X.prog X.w) X.A (f v u) Q X.xe s2) :
    wpAny (model X.prog X.w) X.A (eval a X.env) (fun v s₁ => wpAny (model X.prog X.w) X.A (eval b X.env) (fun u s₂ => wpAny (model X.prog X.w) X.A (f v u) Q X.xe s₂) X.xe s₁) X.xe s := by
  refine thn (ha pins s σ H _ I h) fun v s1 ⟨x, H1, I1, r1, q1⟩ => ?_
  refine thn (hb pins s1 σ H1 _ I1 q1) fun u s2 ⟨y, H2, I2, r2, q2⟩ => ?_
  exact hf v u s2 x y H2 I2 r1 r2 q2

theorem pe_op {op : Operator} {r : R2} (ho : OpR X (binaryOp op) r) (ha : PE X a ta) (hb : PE X b tb) : PE X (.BinOp a op b pos) (tOp r ta tb) := by
  intro pins s σ H Q I h
  exact wpAny_BinOp (binT ha hb I h fun v u s2 x y H2 I2 rx ry q => ho pins s2 σ H2 x y v u Q I2 rx ry q)
theorem pe_un {op : UnaryOp} {r : V → Hp → VK → Prop} (ho : UnR X (unaryOp op) r) (ha : PE X a ta) : PE X (.UnaryOp op a pos) (tUn r ta) := by
  intro pins s σ H Q I h
  exact UnaryOp_ (thn (ha pins s σ H _ I h) fun v s1 ⟨x, H1, I1, r1, q1⟩ => ho pins s1 σ H1 x v Q I1 r1 q1)
/-- a op= e at a name: the name's slot i -/
theorem augR {op : Operator} {r : R2} (ho : OpR X (inplaceOp op) r) {pins : List (Addr × Obj)} {s : Shared} {σ : St} {H : Hp} {x y : V} {v u : Value} {Q : VK} (I : Inv X pins σ H s)
    (rx : RelV x v) (ry : RelV y u) (q : r x y H Q) : wpAny (model X.prog X.w) X.A (inplaceOp op v u) (EP X pins σ Q) X.xe s := ho pins s σ H x y v u Q I rx ry q

/-! ### ints -/
theorem opI {f : Value → Value → Sem Value} {C : Int → Int → Prop} {g : Int → Int → Int}
    (rule : ∀ (i j : Int) (t u : Tok) (s : Shared) (Q : Value → Shared → Prop) (E : Value → Shared → Prop), C i j → Q (.int (g i j) s.toks) { s with toks := s.toks + 1 } → wpAny (model X.prog X.w) X.A (f (.int i t) (.int j u)) Q E s) :
    OpR X f (rI C fun i j => .int (g i j)) := by
  intro pins s σ H x y v u Q I rx ry h
  obtain ⟨i, j, rfl, rfl, hc, q⟩ := h
  obtain ⟨t, rfl⟩ := rx
  obtain ⟨t', rfl⟩ := ry
  exact rule i j t t' s _ _ hc ⟨.int (g i j), H, I.tok _, ⟨_, rfl⟩, q⟩
theorem opI0 {f : Value → Value → Sem Value} {g : Int → Int → Int}
    (rule : ∀ (i j : Int) (t u : Tok) (s : Shared) (Q : Value → Shared → Prop) (E : Value → Shared → Prop), Q (.int (g i j) s.toks) { s with toks := s.toks + 1 } → wpAny (model X.prog X.w) X.A (f (.int i t) (.int j u)) Q E s) :
    OpR X f (rI0 fun i j => .int (g i j)) := by
  intro pins s σ H x y v u Q I rx ry h
  obtain ⟨i, j, rfl, rfl, q⟩ := h
  obtain ⟨t, rfl⟩ := rx
  obtain ⟨t', rfl⟩ := ry
  exact rule i j t t' s _ _ ⟨.int (g i j), H, I.tok _, ⟨_, rfl⟩, q⟩
theorem opB0 {f : Value → Value → Sem Value} {g : Int → Int → Bool}
    (rule : ∀ (i j : Int) (t u : Tok) (s : Shared) (Q : Value → Shared → Prop) (E : Value → Shared → Prop), Q (.bool (g i j)) s → wpAny (model X.prog X.w) X.A (f (.int i t) (.int j u)) Q E s) :
    OpR X f (rI0 fun i j => .bl (g i j)) := by
  intro pins s σ H x y v u Q I rx ry h
  obtain ⟨i, j, rfl, rfl, q⟩ := h
  obtain ⟨t, rfl⟩ := rx
  obtain ⟨t', rfl⟩ := ry
  exact rule i j t t' s _ _ ⟨.bl (g i j), H, I, rfl, q⟩

def CDiv (i j : Int) : Prop := 0 < j ∧ j < 1073741824
def CDivN (i j : Int) : Prop := j ≠ 0 ∧ j.natAbs < 1073741824
def CPow (i j : Int) : Prop := 0 ≤ j ∧ j ≤ 1000000 ∧ i.natAbs < 2 ^ 64
def CMul (i j : Int) : Prop := (-(2 ^ 64) < i ∧ i < 2 ^ 64) ∨ (-(2 ^ 64) < j ∧ j < 2 ^ 64)
theorem CMul.ok {i j : Int} (h : CMul i j) : IntMulOk i j := by
  rcases h with ⟨h1, h2⟩ | ⟨h1, h2⟩
  · exact .of_left (intBits_le_64 h1 h2)
  · exact .of_right (intBits_le_64 h1 h2)
theorem two_pow_nn (k : Nat) : (0 : Int) ≤ 2 ^ k := by
  rw [two_pow_cast]
  exact Int.natCast_nonneg _

theorem op_add : OpR X (binaryOp .Add) (rI0 fun i j => .int (i + j)) := opI0 fun _ _ _ _ _ _ _ q => add_int q
theorem op_sub : OpR X (binaryOp .Sub) (rI0 fun i j => .int (i - j)) := opI0 fun _ _ _ _ _ _ _ q => sub_int q
theorem op_mul : OpR X (binaryOp .Mult) (rI CMul fun i j => .int (i * j)) := opI fun _ _ _ _ _ _ _ hc q => mul_int q hc.ok
/-- // by a positive divisor -/
theorem op_fdiv : OpR X (binaryOp .FloorDiv) (rI CDiv fun i j => .int (i / j)) := opI fun i j _ _ _ _ _ hc q => by
  have h1 : (0 : Int) < j := hc.1
  have h2 : j < 1073741824 := hc.2
  exact floordiv_int (by omega) (by rw [Int.fdiv_eq_ediv_of_nonneg i (by omega)]; exact q) (.inl (PyProof.noPylong_small (by omega)))
theorem op_fdivN : OpR X (binaryOp .FloorDiv) (rI CDivN fun i j => .int (i.fdiv j)) := opI fun _ _ _ _ _ _ _ hc q => floordiv_int hc.1 q (.inl (PyProof.noPylong_small hc.2))
/-- % by a positive divisor of any size -/
theorem op_mod : OpR X (binaryOp .Mod) (rI (fun _ j => 0 < j) fun i j => .int (i % j)) := opI fun i j _ _ _ _ _ hc q => by
  have h1 : (0 : Int) < j := hc
  exact mod_int' (by omega) (by rw [Int.fmod_eq_emod_of_nonneg i (by omega)]; exact q)
theorem op_modN : OpR X (binaryOp .Mod) (rI (fun _ j => j ≠ 0) fun i j => .int (i.fmod j)) := opI fun _ _ _ _ _ _ _ hc q => mod_int' hc q
theorem op_pow : OpR X (binaryOp .Pow) (rI CPow fun i j => .int (i ^ j.toNat)) := opI fun _ _ _ _ _ _ _ hc q => pow_int_small hc.1 hc.2.1 hc.2.2 q
theorem op_shl : OpR X (binaryOp .LShift) (rI CPow fun i j => .int (i * 2 ^ j.toNat)) := opI fun _ _ _ _ _ _ _ hc q => lshift_int_small hc.1 hc.2.1 hc.2.2 q
theorem op_shr : OpR X (binaryOp .RShift) (rI (fun _ j => 0 ≤ j) fun i j => .int (i / 2 ^ j.toNat)) := opI fun i j _ _ _ _ _ hc q =>
  rshift_int hc (by rw [Int.fdiv_eq_ediv_of_nonneg i (two_pow_nn _)]; exact q)
theorem op_and : OpR X (binaryOp .BitAnd) (rI0 fun i j => .int (Builtin.bitAnd i j)) := opI0 fun _ _ _ _ _ _ _ q => and_int q
theorem op_or : OpR X (binaryOp .BitOr) (rI0 fun i j => .int (Builtin.bitOr i j)) := opI0 fun _ _ _ _ _ _ _ q => or_int q
theorem op_xor : OpR X (binaryOp .BitXor) (rI0 fun i j => .int (Builtin.bitXor i j)) := opI0 fun _ _ _ _ _ _ _ q => xor_int q

theorem iop_add : OpR X (inplaceOp .Add) (rI0 fun i j => .int (i + j)) := opI0 fun _ _ _ _ _ _ _ q => iadd_int q
theorem iop_sub : OpR X (inplaceOp .Sub) (rI0 fun i j => .int (i - j)) := opI0 fun _ _ _ _ _ _ _ q => isub_int q
theorem iop_mul : OpR X (inplaceOp .Mult) (rI CMul fun i j => .int (i * j)) := opI fun _ _ _ _ _ _ _ hc q => imul_int q hc.ok
theorem iop_fdiv : OpR X (inplaceOp .FloorDiv) (rI CDiv fun i j => .int (i / j)) := opI fun i j _ _ _ _ _ hc q => by
  have h1 : (0 : Int) < j := hc.1
  have h2 : j < 1073741824 := hc.2
  exact ifloordiv_int (by omega) (by rw [Int.fdiv_eq_ediv_of_nonneg i (by omega)]; exact q) (.inl (PyProof.noPylong_small (by omega)))
theorem iop_mod : OpR X (inplaceOp .Mod) (rI (fun _ j => 0 < j) fun i j => .int (i % j)) := opI fun i j _ _ _ _ _ hc q => by
  have h1 : (0 : Int) < j := hc
  exact imod_int (by omega) (by rw [Int.fmod_eq_emod_of_nonneg i (by omega)]; exact q)
theorem iop_shl : OpR X (inplaceOp .LShift) (rI CPow fun i j => .int (i * 2 ^ j.toNat)) := opI fun _ _ _ _ _ _ _ hc q => ilshift_int_small hc.1 hc.2.1 hc.2.2 q
theorem iop_shr : OpR X (inplaceOp .RShift) (rI (fun _ j => 0 ≤ j) fun i j => .int (i / 2 ^ j.toNat)) := opI fun i j _ _ _ _ _ hc q =>
  irshift_int hc (by rw [Int.fdiv_eq_ediv_of_nonneg i (two_pow_nn _)]; exact q)
theorem iop_and : OpR X (inplaceOp .BitAnd) (rI0 fun i j => .int (Builtin.bitAnd i j)) := opI0 fun _ _ _ _ _ _ _ q => iand_int q
theorem iop_or : OpR X (inplaceOp .BitOr) (rI0 fun i j => .int (Builtin.bitOr i j)) := opI0 fun _ _ _ _ _ _ _ q => ior_int q
theorem iop_xor : OpR X (inplaceOp .BitXor) (rI0 fun i j => .int (Builtin.bitXor i j)) := opI0 fun _ _ _ _ _ _ _ q => ixor_int q

theorem unI {f : Value → Sem Value} {g : Int → Int}
    (rule : ∀ (i : Int) (t : Tok) (s : Shared) (Q : Value → Shared → Prop) (E : Value → Shared → Prop), Q (.int (g i) s.toks) { s with toks := s.toks + 1 } → wpAny (model X.prog X.w) X.A (f (.int i t)) Q E s) :
    UnR X f (rU fun i => .int (g i)) := by
  intro pins s σ H x v Q I rx h
  obtain ⟨i, rfl, q⟩ := h
  obtain ⟨t, rfl⟩ := rx
  exact rule i t s _ _ ⟨.int (g i), H, I.tok _, ⟨_, rfl⟩, q⟩
theorem un_neg : UnR X (unaryOp .USub) (rU fun i => .int (-i)) := unI fun _ _ _ _ _ q => neg_int q
theorem un_inv : UnR X (unaryOp .Invert) (rU fun i => .int (Builtin.bitNot i)) := unI fun _ _ _ _ _ q => invert_int q

/-! ### bools among ints: n += (a < b) -/
theorem op_add_ib : OpR X (binaryOp .Add) (fun x y H Q => ∃ i k, x = .int i ∧ y = .bl k ∧ Q (.int (i + b2i k)) H) := by
  intro pins s σ H x y v u Q I rx ry h
  obtain ⟨i, k, rfl, rfl, q⟩ := h
  obtain ⟨t, rfl⟩ := rx
  cases ry
  exact add_int_bool ⟨.int (i + b2i k), H, I.tok _, ⟨_, rfl⟩, q⟩
end

/-! ### comparisons -/
/-- the scalars that == tells apart as data does -/
def scal : V → V → Bool
  | .non, .non => true | .non, .int _ => true | .int _, .non => true | .non, .bl _ => true | .bl _, .non => true | .non, .str _ => true | .str _, .non => true
  | .int _, .int _ => true | .bl _, .bl _ => true | .str _, .str _ => true | .byt _, .byt _ => true
  | .int _, .str _ => true | .str _, .int _ => true | .bl _, .str _ => true | .str _, .bl _ => true
  | _, _ => false
def rEq : R2 := fun x y H Q => scal x y = true ∧ Q (.bl (decide (x = y))) H
def rNe : R2 := fun x y H Q => scal x y = true ∧ Q (.bl (!decide (x = y))) H

theorem dec_int {i j : Int} : decide (V.int i = V.int j) = (i == j) := by
  rw [Bool.eq_iff_iff]
  simp
theorem dec_bl {i j : Bool} : decide (V.bl i = V.bl j) = (i == j) := by
  rw [Bool.eq_iff_iff]
  simp
theorem dec_str {i j : Str} : decide (V.str i = V.str j) = (i == j) := by
  rw [Bool.eq_iff_iff]
  simp
theorem dec_byt {i j : Array UInt8} : decide (V.byt i = V.byt j) = (i.toList == j.toList) := by
  rw [Bool.eq_iff_iff]
  cases i
  cases j
  simp

section
variable {X : Cx} {a b c : Expr} {ta tb tc : TE} {pos : Pos}
theorem fin_bl {pins : List (Addr × Obj)} {σ : St} {H : Hp} {s : Shared} {Q : VK} {k k' : Bool} (I : Inv X pins σ H s) (q : Q (.bl k) H) (e : k = k') : EP X pins σ Q (.bool k') s := by
  subst e
  exact ⟨.bl k, H, I, rfl, q⟩
theorem op_eq : OpR X (compareOp .Eq) rEq := by
  intro pins s σ H x y v u Q I rx ry h
  obtain ⟨hs, q⟩ := h
  cases x with
  | non =>
    cases rx
    cases y with
    | non => cases ry; exact PySem.EqNone.eq_none_none (fin_bl I q (by simp))
    | bl j => cases ry; exact PySem.EqNone.eq_none_bool (fin_bl I q (by simp))
    | int j => obtain ⟨t', rfl⟩ := ry; exact PySem.EqNone.eq_none_int (fin_bl I q (by simp))
    | str j => obtain ⟨t', rfl⟩ := ry; exact PySem.EqNone.eq_none_str (fin_bl I q (by simp))
    | _ => exact absurd (show false = true from hs) Bool.false_ne_true
  | bl i =>
    cases rx
    cases y with
    | non => cases ry; exact PySem.EqNone.eq_bool_none (fin_bl I q (by simp))
    | bl j => cases ry; exact eq_bool (fin_bl I q dec_bl)
    | str j => obtain ⟨t', rfl⟩ := ry; exact PySem.EqMixed.eq_bool_str (fin_bl I q (by simp))
    | _ => exact absurd (show false = true from hs) Bool.false_ne_true
  | int i =>
    obtain ⟨t, rfl⟩ := rx
    cases y with
    | non => cases ry; exact PySem.EqNone.eq_int_none (fin_bl I q (by simp))
    | int j => obtain ⟨t', rfl⟩ := ry; exact eq_int (fin_bl I q dec_int)
    | str j => obtain ⟨t', rfl⟩ := ry; exact PySem.EqMixed.eq_int_str (fin_bl I q (by simp))
    | _ => exact absurd (show false = true from hs) Bool.false_ne_true
  | str i =>
    obtain ⟨t, rfl⟩ := rx
    cases y with
    | non => cases ry; exact PySem.EqNone.eq_str_none (fin_bl I q (by simp))
    | bl j => cases ry; exact PySem.EqMixed.eq_str_bool (fin_bl I q (by simp))
    | int j => obtain ⟨t', rfl⟩ := ry; exact PySem.EqMixed.eq_str_int (fin_bl I q (by simp))
    | str j => obtain ⟨t', rfl⟩ := ry; exact eq_str (fin_bl I q dec_str)
    | _ => exact absurd (show false = true from hs) Bool.false_ne_true
  | byt i =>
    obtain ⟨t, rfl⟩ := rx
    cases y with
    | byt j => obtain ⟨t', rfl⟩ := ry; exact PySem.W.eq_bytes (fin_bl I q dec_byt)
    | _ => exact absurd (show false = true from hs) Bool.false_ne_true
  | _ => cases y <;> exact absurd (show false = true from hs) Bool.false_ne_true
theorem op_ne : OpR X (compareOp .NotEq) rNe := by
  intro pins s σ H x y v u Q I rx ry h
  obtain ⟨hs, q⟩ := h
  cases x with
  | non =>
    cases rx
    cases y with
    | non => cases ry; exact PySem.EqNone.ne_none_none (fin_bl I q (by simp))
    | bl j => cases ry; exact PySem.EqNone.ne_none_bool (fin_bl I q (by simp))
    | int j => obtain ⟨t', rfl⟩ := ry; exact PySem.EqNone.ne_none_int (fin_bl I q (by simp))
    | str j => obtain ⟨t', rfl⟩ := ry; exact PySem.EqNone.ne_none_str (fin_bl I q (by simp))
    | _ => exact absurd (show false = true from hs) Bool.false_ne_true
  | bl i =>
    cases rx
    cases y with
    | non => cases ry; exact PySem.EqNone.ne_bool_none (fin_bl I q (by simp))
    | bl j => cases ry; exact ne_bool (fin_bl I q (congrArg not dec_bl))
    | str j => obtain ⟨t', rfl⟩ := ry; exact PySem.EqMixed.ne_bool_str (fin_bl I q (by simp))
    | _ => exact absurd (show false = true from hs) Bool.false_ne_true
  | int i =>
    obtain ⟨t, rfl⟩ := rx
    cases y with
    | non => cases ry; exact PySem.EqNone.ne_int_none (fin_bl I q (by simp))
    | int j => obtain ⟨t', rfl⟩ := ry; exact ne_int (fin_bl I q (congrArg not dec_int))
    | str j => obtain ⟨t', rfl⟩ := ry; exact PySem.EqMixed.ne_int_str (fin_bl I q (by simp))
    | _ => exact absurd (show false = true from hs) Bool.false_ne_true
  | str i =>
    obtain ⟨t, rfl⟩ := rx
    cases y with
    | non => cases ry; exact PySem.EqNone.ne_str_none (fin_bl I q (by simp))
    | bl j => cases ry; exact PySem.EqMixed.ne_str_bool (fin_bl I q (by simp))
    | int j => obtain ⟨t', rfl⟩ := ry; exact PySem.EqMixed.ne_str_int (fin_bl I q (by simp))
    | str j => obtain ⟨t', rfl⟩ := ry; exact ne_str (fin_bl I q (congrArg not dec_str))
    | _ => exact absurd (show false = true from hs) Bool.false_ne_true
  | byt i =>
    obtain ⟨t, rfl⟩ := rx
    cases y with
    | byt j => obtain ⟨t', rfl⟩ := ry; exact PySem.W.ne_bytes (fin_bl I q (congrArg not dec_byt))
    | _ => exact absurd (show false = true from hs) Bool.false_ne_true
  | _ => cases y <;> exact absurd (show false = true from hs) Bool.false_ne_true

theorem op_lt : OpR X (compareOp .Lt) (rI0 fun i j => .bl (decide (i < j))) := opB0 fun _ _ _ _ _ _ _ q => lt_int q
theorem op_le : OpR X (compareOp .LtE) (rI0 fun i j => .bl (decide (i ≤ j))) := opB0 fun _ _ _ _ _ _ _ q => le_int q
theorem op_gt : OpR X (compareOp .Gt) (rI0 fun i j => .bl (decide (j < i))) := opB0 fun _ _ _ _ _ _ _ q => gt_int q
theorem op_ge : OpR X (compareOp .GtE) (rI0 fun i j => .bl (decide (j ≤ i))) := opB0 fun _ _ _ _ _ _ _ q => ge_int q
theorem op_lt_str : OpR X (compareOp .Lt) (fun x y H Q => ∃ i j, x = .str i ∧ y = .str j ∧ Q (.bl (decide (i.cps.toList < j.cps.toList))) H) := by
  intro pins s σ H x y v u Q I rx ry h
  obtain ⟨i, j, rfl, rfl, q⟩ := h
  obtain ⟨t, rfl⟩ := rx
  obtain ⟨t', rfl⟩ := ry
  exact lt_str (fin_bl I q rfl)
/-- the one string within the other -/
theorem op_in_str : OpR X (compareOp .In) (fun x y H Q => ∃ i j, x = .str i ∧ y = .str j ∧ Q (.bl (!(Builtin.Str.occurrences j i 0 j.length 1).isEmpty)) H) := by
  intro pins s σ H x y v u Q I rx ry h
  obtain ⟨i, j, rfl, rfl, q⟩ := h
  obtain ⟨t, rfl⟩ := rx
  obtain ⟨t', rfl⟩ := ry
  exact in_str (fin_bl I q rfl)

/-- is None, is not None: the right side a value none -/
theorem op_isN : OpR X (compareOp .Is) (fun x y H Q => y = .non ∧ Q (.bl (decide (x = .non))) H) := by
  intro pins s σ H x y v u Q I rx ry h
  obtain ⟨rfl, q⟩ := h
  cases ry
  refine is_none_gen (fin_bl I q ?_)
  cases x <;> first
    | (cases rx; rfl)
    | (obtain ⟨t, rfl⟩ := rx; rfl)
theorem op_notN : OpR X (compareOp .IsNot) (fun x y H Q => y = .non ∧ Q (.bl (!decide (x = .non))) H) := by
  intro pins s σ H x y v u Q I rx ry h
  obtain ⟨rfl, q⟩ := h
  cases ry
  refine isnot_none_gen (fin_bl I q ?_)
  cases x <;> first
    | (cases rx; rfl)
    | (obtain ⟨t, rfl⟩ := rx; rfl)

theorem op_notin_str : OpR X (compareOp .NotIn) (fun x y H Q => ∃ i j, x = .str i ∧ y = .str j ∧ Q (.bl (!(!(Builtin.Str.occurrences j i 0 j.length 1).isEmpty))) H) := by
  intro pins s σ H x y v u Q I rx ry h
  obtain ⟨i, j, rfl, rfl, q⟩ := h
  obtain ⟨t, rfl⟩ := rx
  obtain ⟨t', rfl⟩ := ry
  exact notIn_str (fin_bl I q rfl)
/-- is, is not of two objects that are tracked lists or instances -/
def isObj : HO → Bool
  | .lst _ => true
  | .ins _ _ _ => true
  | _ => false
theorem obj_there {pins : List (Addr × Obj)} {s : Shared} {σ : St} {H : Hp} {a : Addr} {o : HO} (I : Inv X pins σ H s) (h : H a = some o) (p : isObj o = true) : ∃ ob, s.heap.get? a = some ob ∧ ob.cls ≠ .type "tuple" := by
  cases o with
  | lst xs =>
    obtain ⟨_, its, n, _, e⟩ : xs.length ≤ sizeLine ∧ ∃ (its : List Value) (n : Nat), Vals xs its ∧ s.heap.get? a = some { cls := .type "list", data := .seq its.toArray n } := I.hok a _ h
    exact ⟨_, e, (by show Value.type "list" ≠ .type "tuple"; decide +kernel)⟩
  | ins C dx fs =>
    have x := I.hok a _ h
    obtain ⟨_, _, _, e, _⟩ := x
    exact ⟨_, e, (by show Value.ref C ≠ .type "tuple"; exact fun z => by cases z)⟩
  | _ => exact absurd (show false = true from p) Bool.false_ne_true
theorem op_is_ref : OpR X (compareOp .Is) (fun x y H Q => ∃ a b oa ob, x = .ref a ∧ y = .ref b ∧ H a = some oa ∧ isObj oa = true ∧ H b = some ob ∧ isObj ob = true ∧ Q (.bl (decide (a = b))) H) := by
  intro pins s σ H x y v u Q I rx ry h
  obtain ⟨a, b, oa, ob, rfl, rfl, ha, pa, hb, pb, q⟩ := h
  cases rx
  cases ry
  obtain ⟨o1, e1, n1⟩ := obj_there I ha pa
  obtain ⟨o2, e2, _⟩ := obj_there I hb pb
  by_cases z : a = b
  · subst z
    exact wpAny_is_ref_self (fin_bl I q (by simp))
  · exact wpAny_is_ref_other z e1 e2 n1 (fin_bl I q (by simp [z]))
theorem op_isnot_ref : OpR X (compareOp .IsNot) (fun x y H Q => ∃ a b oa ob, x = .ref a ∧ y = .ref b ∧ H a = some oa ∧ isObj oa = true ∧ H b = some ob ∧ isObj ob = true ∧ Q (.bl (!decide (a = b))) H) := by
  intro pins s σ H x y v u Q I rx ry h
  obtain ⟨a, b, oa, ob, rfl, rfl, ha, pa, hb, pb, q⟩ := h
  cases rx
  cases ry
  obtain ⟨o1, e1, n1⟩ := obj_there I ha pa
  obtain ⟨o2, e2, _⟩ := obj_there I hb pb
  by_cases z : a = b
  · subst z
    exact wpAny_isNot_ref_self (fin_bl I q (by simp))
  · exact wpAny_isNot_ref_other z e1 e2 n1 (fin_bl I q (by simp [z]))

/-- two rules for one operation: by cases -/
theorem OpR.or {f : Value → Value → Sem Value} {r r' : R2} (h : OpR X f r) (h' : OpR X f r') : OpR X f (fun x y H Q => r x y H Q ∨ r' x y H Q) := by
  intro pins s σ H x y v u Q I rx ry q
  rcases q with q | q
  · exact h pins s σ H x y v u Q I rx ry q
  · exact h' pins s σ H x y v u Q I rx ry q

theorem nomark (b : Expr) {op : CmpOp} (h : op ≠ .In := by decide) (h2 : op ≠ .NotIn := by decide) : behindInMarks op b = false := by
  have e1 : (op == CmpOp.In) = false := by cases op <;> first | rfl | exact absurd rfl h
  have e2 : (op == CmpOp.NotIn) = false := by cases op <;> first | rfl | exact absurd rfl h2
  cases b <;> simp [behindInMarks, e1, e2]
/-- a comparison as a value; hm: nomark b, or (for in, not in) by with_unfolding_all rfl -/
theorem pe_cmpR {op : CmpOp} {r : R2} (ho : OpR X (compareOp op) r) (ha : PE X a ta) (hb : PE X b tb) (hm : behindInMarks op b = false) : PE X (.Compare a [op] [b] pos) (tOp r ta tb) := by
  intro pins s σ H Q I h
  exact wpAny_Compare1 (binT ha hb I h fun v u s2 x y H2 I2 rx ry q => ho pins s2 σ H2 x y v u Q I2 rx ry q) hm
/-- a reading of a value as a test -/
def tTest (t : TE) : TT := fun σ H Q => t σ H fun x H' => ∃ k, x = .bl k ∧ Q k H'
theorem pt_cmpR {op : CmpOp} {r : R2} (ho : OpR X (compareOp op) r) (ha : PE X a ta) (hb : PE X b tb) (hm : behindInMarks op b = false) : PT X (.Compare a [op] [b] pos) (tTest (tOp r ta tb)) := by
  intro pins s σ H Q I h
  refine wpAny_isTrue_Compare1 (thn (ha pins s σ H _ I h) fun v s1 ⟨x, H1, I1, r1, q1⟩ => thn (hb pins s1 σ H1 _ I1 q1) fun u s2 ⟨y, H2, I2, r2, q2⟩ =>
    thn (ho pins s2 σ H2 x y v u _ I2 r1 r2 q2) fun c s3 ⟨z, H3, I3, r3, k, e, q3⟩ => ?_) hm
  subst e
  cases r3
  exact wpAny_truthy_bool ⟨H3, I3, q3⟩
/-- a op1 b op2 c -/
def tChain (r r' : R2) (ta tb tc : TE) : TE := fun σ H Q => ta σ H fun x H1 => tb σ H1 fun y H2 => r x y H2 fun z H3 => ∃ k, z = .bl k ∧
  (if k = true then tc σ H3 fun w' H4 => r' y w' H4 Q else Q (.bl false) H3)
theorem pe_chain {op op' : CmpOp} {r r' : R2} (ho : OpR X (compareOp op) r) (ho' : OpR X (compareOp op') r') (ha : PE X a ta) (hb : PE X b tb) (hc : PE X c tc)
    (hm : lastMarks [op, op'] [b, c] = false := by with_unfolding_all rfl) : PE X (.Compare a [op, op'] [b, c] pos) (tChain r r' ta tb tc) := by
  intro pins s σ H Q I h
  refine Compare_chain (thn (ha pins s σ H _ I h) fun v s1 ⟨x, H1, I1, r1, q1⟩ => chain_link (thn (hb pins s1 σ H1 _ I1 q1) fun u s2 ⟨y, H2, I2, r2, q2⟩ =>
    thn (ho pins s2 σ H2 x y v u _ I2 r1 r2 q2) fun d s3 ⟨z, H3, I3, r3, k, e, q3⟩ => ?_)) hm
  subst e
  cases r3
  refine wpAny_truthy_bool ?_
  cases k with
  | false => exact ite_ff ⟨.bl false, H3, I3, rfl, q3⟩
  | true => exact ite_tt (chain_last (thn (hc pins s3 σ H3 _ I3 q3) fun w' s4 ⟨z', H4, I4, r4, q4⟩ => ho' pins s4 σ H4 y z' u w' Q I4 r2 r4 q4))
theorem pt_chain {op op' : CmpOp} {r r' : R2} (ho : OpR X (compareOp op) r) (ho' : OpR X (compareOp op') r') (ha : PE X a ta) (hb : PE X b tb) (hc : PE X c tc)
    (hm : lastMarks [op, op'] [b, c] = false := by with_unfolding_all rfl) : PT X (.Compare a [op, op'] [b, c] pos) (tTest (tChain r r' ta tb tc)) := by
  intro pins s σ H Q I h
  refine isTrue_chain (thn (ha pins s σ H _ I h) fun v s1 ⟨x, H1, I1, r1, q1⟩ => test_link (thn (hb pins s1 σ H1 _ I1 q1) fun u s2 ⟨y, H2, I2, r2, q2⟩ =>
    thn (ho pins s2 σ H2 x y v u _ I2 r1 r2 q2) fun d s3 ⟨z, H3, I3, r3, k, e, q3⟩ => ?_)) hm
  subst e
  cases r3
  refine wpAny_truthy_bool ?_
  cases k with
  | false =>
    obtain ⟨k', e', q'⟩ := q3
    cases e'
    exact ite_ff ⟨H3, I3, q'⟩
  | true =>
    refine ite_tt (test_last (thn (hc pins s3 σ H3 _ I3 q3) fun w' s4 ⟨z', H4, I4, r4, q4⟩ => thn (ho' pins s4 σ H4 y z' u w' _ I4 r2 r4 q4) fun d' s5 ⟨z2, H5, I5, r5, k2, e2, q5⟩ => ?_))
    subst e2
    cases r5
    exact wpAny_truthy_bool ⟨H5, I5, q5⟩

/-! ### truth -/
/-- a value's truth by the abstract heap -/
def TruV (K : PySem.W.Frag) (x : V) (H : Hp) (k : Bool) : Prop :=
  match x with
  | .non => k = false
  | .bl b => k = b
  | .int i => k = (i != 0)
  | .str y => y.length ≤ sizeLine ∧ k = ((y.length : Int) != 0)
  | .byt y => y.size ≤ sizeLine ∧ k = ((y.size : Int) != 0)
  | .ref p => (∃ xs, SqL K H p xs ∧ k = !xs.isEmpty) ∨ (∃ xs, SqT K H p xs ∧ k = !xs.isEmpty) ∨ ∃ kvs, H p = some (.dK kvs) ∧ k = !kvs.isEmpty
  | _ => False
theorem isEmpty_kv {κ : Type} {kvs : List (κ × V)} {vs : List (κ × Value)} (r : KV kvs vs) : (!vs.isEmpty) = !kvs.isEmpty := by
  cases r <;> rfl
theorem isEmpty_of {xs : List V} {its : List Value} (r : Vals xs its) : (!its.toArray.isEmpty) = !xs.isEmpty := by
  cases r <;> simp
theorem line63 : (sizeLine : Nat) < 2 ^ 63 := by rw [sizeLine_eq]; decide
theorem tru_ok : TruR X (fun x H Q => ∃ k, TruV X.K x H k ∧ Q k H) := by
  intro pins s σ H x v Q I rx h
  obtain ⟨k, e, q⟩ := h
  have hl := line63
  have hs : sizeLine = 16777216 := sizeLine_eq
  cases x with
  | non =>
    cases rx
    have e' : k = false := e
    subst e'
    exact truthy_none ⟨H, I, q⟩
  | bl b =>
    cases rx
    have e' : k = b := e
    subst e'
    exact wpAny_truthy_bool ⟨H, I, q⟩
  | int i =>
    obtain ⟨t, rfl⟩ := rx
    have e' : k = (i != 0) := e
    subst e'
    exact PySem.P.truthy_int ⟨H, I, q⟩
  | str y =>
    obtain ⟨t, rfl⟩ := rx
    obtain ⟨hy, e'⟩ : y.length ≤ sizeLine ∧ k = ((y.length : Int) != 0) := e
    subst e'
    exact PySem.P.truthy_str (by omega) ⟨H, I.tok _, q⟩
  | byt y =>
    obtain ⟨t, rfl⟩ := rx
    obtain ⟨hy, e'⟩ : y.size ≤ sizeLine ∧ k = ((y.size : Int) != 0) := e
    subst e'
    exact PySem.W.truthy_bytes (by omega) ⟨H, I.tok _, q⟩
  | ref p =>
    cases rx
    have e' : (∃ xs, SqL X.K H p xs ∧ k = !xs.isEmpty) ∨ (∃ xs, SqT X.K H p xs ∧ k = !xs.isEmpty) ∨ ∃ kvs, H p = some (.dK kvs) ∧ k = !kvs.isEmpty := e
    rcases e' with ⟨xs, hx, e'⟩ | ⟨xs, hx, e'⟩ | ⟨kvs, hx, e'⟩
    · subst e'
      obtain ⟨its, r, pl, hz⟩ := I.list hx
      have hlen := r.length
      exact wpAny_truthy_list pl.isList (by simp only [List.size_toArray]; omega) ⟨H, I.tok _, by rw [isEmpty_of r]; exact q⟩
    · subst e'
      obtain ⟨its, r, pl, hz⟩ := I.tuple hx
      have hlen := r.length
      exact truthy_tuple pl (by simp only [List.size_toArray]; omega) ⟨H, I.tok _, by rw [isEmpty_of r]; exact q⟩
    · subst e'
      obtain ⟨hz, hS, vs, r, m⟩ : kvs.length ≤ sizeLine ∧ (p == sysModules) = false ∧ ∃ vs, KV kvs vs ∧ s.heap.DictOf (mixKind X.prog X.w) p vs := I.hok p _ hx
      have hlen : kvs.length = vs.length := Paired.length r
      exact wpAny_truthy_dict hS m (by omega) ⟨H, I.tok _, by rw [isEmpty_kv r]; exact q⟩
  | _ => exact (show False from e).elim
/-- any expression whose test is its value's truth (a name, a call, a subscript, a field ..: he by fun _ => rfl) -/
theorem pt_truth (ha : PE X a ta) (he : ∀ whole, isTrue a X.env whole = (do let v ← whole; standAt a.pos; holding [v] (truthy v))) :
    PT X a (fun σ H Q => ta σ H fun x H' => ∃ k, TruV X.K x H' k ∧ Q k H') := by
  intro pins s σ H Q I h
  exact isTrue_plain (thn (ha pins s σ H _ I h) fun v s1 ⟨x, H1, I1, r1, q1⟩ => tru_ok pins s1 σ H1 x v Q I1 r1 q1) (he _)

/-! ### strs and bytes -/
theorem pe_byt {x : List UInt8} {k : Nat} : PE X (.Constant (.bytes x) k pos) (fun _ H Q => Q (.byt x.toArray) H) := fun _ _ _ H _ I h => PySem.W.Constant_bytes ⟨.byt x.toArray, H, I.tok _, ⟨_, rfl⟩, h⟩
theorem op_add_str : OpR X (binaryOp .Add) (fun x y H Q => ∃ i j, x = .str i ∧ y = .str j ∧ i.length + j.length ≤ sizeLine ∧ Q (.str (i ++ j)) H) := by
  intro pins s σ H x y v u Q I rx ry h
  obtain ⟨i, j, rfl, rfl, hz, q⟩ := h
  obtain ⟨t, rfl⟩ := rx
  obtain ⟨t', rfl⟩ := ry
  exact add_str (fun t' tk => ⟨.str (i ++ j), H, I.tok _, ⟨_, rfl⟩, q⟩) hz
theorem iop_add_str : OpR X (inplaceOp .Add) (fun x y H Q => ∃ i j, x = .str i ∧ y = .str j ∧ i.length + j.length ≤ sizeLine ∧ Q (.str (i ++ j)) H) := by
  intro pins s σ H x y v u Q I rx ry h
  obtain ⟨i, j, rfl, rfl, hz, q⟩ := h
  obtain ⟨t, rfl⟩ := rx
  obtain ⟨t', rfl⟩ := ry
  exact iadd_str (fun t' tk => ⟨.str (i ++ j), H, I.tok _, ⟨_, rfl⟩, q⟩) hz
theorem op_add_byt : OpR X (binaryOp .Add) (fun x y H Q => ∃ i j, x = .byt i ∧ y = .byt j ∧ i.size + j.size ≤ 16777216 ∧ Q (.byt (i ++ j)) H) := by
  intro pins s σ H x y v u Q I rx ry h
  obtain ⟨i, j, rfl, rfl, hz, q⟩ := h
  obtain ⟨t, rfl⟩ := rx
  obtain ⟨t', rfl⟩ := ry
  exact PySem.W.KBy.add_bytes hz (fun t' tk => ⟨.byt (i ++ j), H, I.tok _, ⟨_, rfl⟩, q⟩)

def PlainIxT (b : Expr) : Prop := ∀ o i, subscripted b false o i = operate [o, i] (getItem o i)
/-- s[i], 0 ≤ i < len -/
theorem pe_item_str (ha : PE X a ta) (hb : PE X b tb) (hs : PlainIxT b) :
    PE X (.Subscript a b pos) (tOp (fun x y H Q => ∃ z i c, x = .str z ∧ y = .int i ∧ 0 ≤ i ∧ i < 2 ^ 63 ∧ i < z.length ∧ z.cps[i.toNat]? = some c ∧ Q (.str ⟨#[c]⟩) H) ta tb) := by
  intro pins s σ H Q I h
  refine Subscript_ (binT ha hb I h fun v u s2 x y H2 I2 rx ry q => ?_)
  obtain ⟨z, i, c, rfl, rfl, h0, h63, h1, hc, q⟩ := q
  obtain ⟨t, rfl⟩ := rx
  obtain ⟨t', rfl⟩ := ry
  have e : seqIndex? i z.length = some i.toNat := PySem.StrLaws.seqIndex_nonneg h0 h1
  exact tail_any (typeIs_str s2 z t) slot_str_getitem.lookup (getItem_str (c := c) (by
    have e1 : decide (i < -(2 ^ 63 : Int)) = false := decide_eq_false (by omega)
    have e2 : decide (i ≥ 2 ^ 63) = false := decide_eq_false (by omega)
    rw [e1, e2] <;> rfl) (by rw [e]; exact hc) ⟨.str ⟨#[c]⟩, H2, I2.tok _, ⟨_, rfl⟩, q⟩) (hs _ _)
/-- b[i], 0 ≤ i < len -/
theorem pe_item_byt (ha : PE X a ta) (hb : PE X b tb) (hs : PlainIxT b) :
    PE X (.Subscript a b pos) (tOp (fun x y H Q => ∃ (z : List UInt8) (i : Int), x = .byt z.toArray ∧ y = .int i ∧ z.length ≤ sizeLine ∧ 0 ≤ i ∧ i < z.length ∧ Q (.int ((z.getD i.toNat 0).toNat : Nat)) H) ta tb) := by
  intro pins s σ H Q I h
  refine Subscript_ (binT ha hb I h fun v u s2 x y H2 I2 rx ry q => ?_)
  obtain ⟨z, i, rfl, rfl, hz, h0, h1, q⟩ := q
  obtain ⟨t, rfl⟩ := rx
  obtain ⟨t', rfl⟩ := ry
  have hl : sizeLine = 16777216 := sizeLine_eq
  exact tail_any (PySem.W.typeIs_bytes s2 z.toArray t) PySem.W.FB.slot_bytes_getitem.lookup (PySem.W.getItem_bytes (by omega) h0 h1 ⟨.int ((z.getD i.toNat 0).toNat : Nat), H2, I2.tok _, ⟨_, rfl⟩, q⟩) (hs _ _)

/-! ### scalar builtins, by CallR -/
theorem vals1 {x : V} {us : List Value} (r : Vals [x] us) : ∃ u, us = [u] ∧ RelV x u := by
  cases r with
  | cons r1 r2 => cases r2; exact ⟨_, rfl, r1⟩
theorem vals2 {x y : V} {us : List Value} (r : Vals [x, y] us) : ∃ u w', us = [u, w'] ∧ RelV x u ∧ RelV y w' := by
  cases r with
  | cons r1 r2 =>
    cases r2 with
    | cons r3 r4 => cases r4; exact ⟨_, _, rfl, r1, r3⟩
theorem call_abs : CallR X (.builtin "abs") (fun xs H Q => ∃ i, xs = [.int i] ∧ Q (.int (if i < 0 then -i else i)) H) := by
  intro pins s σ H xs us Q I r h
  obtain ⟨i, rfl, q⟩ := h
  obtain ⟨u, rfl, t, rfl⟩ := vals1 r
  exact call_abs_int fun u tk => ⟨.int (if i < 0 then -i else i), H, I.tok _, ⟨_, rfl⟩, q⟩
theorem call_max2 (hc : X.calm = true) : CallR X (.builtin "max") (fun xs H Q => ∃ i j, xs = [.int i, .int j] ∧ Q (.int (if j > i then j else i)) H) := by
  intro pins s σ H xs us Q I r h
  obtain ⟨i, j, rfl, q⟩ := h
  obtain ⟨u, w', rfl, ⟨t, rfl⟩, ⟨t', rfl⟩⟩ := vals2 r
  refine max_two_ints (I.ok.hd hc) fun h' tk k => ⟨_, H, I.kept k, ?_, q⟩
  by_cases hj : j > i
  · rw [if_pos hj, if_pos hj]; exact ⟨_, rfl⟩
  · rw [if_neg hj, if_neg hj]; exact ⟨_, rfl⟩
theorem call_min2 (hc : X.calm = true) : CallR X (.builtin "min") (fun xs H Q => ∃ i j, xs = [.int i, .int j] ∧ Q (.int (if j < i then j else i)) H) := by
  intro pins s σ H xs us Q I r h
  obtain ⟨i, j, rfl, q⟩ := h
  obtain ⟨u, w', rfl, ⟨t, rfl⟩, ⟨t', rfl⟩⟩ := vals2 r
  refine min_two_ints (I.ok.hd hc) fun h' tk k => ⟨_, H, I.kept k, ?_, q⟩
  by_cases hj : j < i
  · rw [if_pos hj, if_pos hj]; exact ⟨_, rfl⟩
  · rw [if_neg hj, if_neg hj]; exact ⟨_, rfl⟩
theorem call_int1 : CallR X (.type "int") (fun xs H Q => (∃ i, xs = [.int i] ∧ Q (.int i) H) ∨ ∃ k, xs = [.bl k] ∧ Q (.int (if k then 1 else 0)) H) := by
  intro pins s σ H xs us Q I r h
  rcases h with ⟨i, rfl, q⟩ | ⟨k, rfl, q⟩
  · obtain ⟨u, rfl, t, rfl⟩ := vals1 r
    exact call_int_int ⟨.int i, H, I, ⟨_, rfl⟩, q⟩
  · obtain ⟨u, rfl, r1⟩ := vals1 r
    cases r1
    exact call_int_bool ⟨.int (if k then 1 else 0), H, I.tok _, ⟨_, rfl⟩, q⟩
theorem call_bool1 : CallR X (.type "bool") (fun xs H Q => (∃ i, xs = [.int i] ∧ Q (.bl (i != 0)) H) ∨ ∃ k, xs = [.bl k] ∧ Q (.bl k) H) := by
  intro pins s σ H xs us Q I r h
  rcases h with ⟨i, rfl, q⟩ | ⟨k, rfl, q⟩
  · obtain ⟨u, rfl, t, rfl⟩ := vals1 r
    exact call_bool_int ⟨.bl (i != 0), H, I, rfl, q⟩
  · obtain ⟨u, rfl, r1⟩ := vals1 r
    cases r1
    exact call_bool_bool ⟨.bl k, H, I, rfl, q⟩
theorem call_str_int : CallR X (.type "str") (fun xs H Q => ∃ i, xs = [.int i] ∧ i.natAbs.log2 < 1920 ∧ Q (.str (toString i)) H) := by
  intro pins s σ H xs us Q I r h
  obtain ⟨i, rfl, hz, q⟩ := h
  obtain ⟨u, rfl, t, rfl⟩ := vals1 r
  exact PySem.P.str_of_int hz ⟨.str _, H, I.tok _, ⟨_, rfl⟩, q⟩
theorem call_ord : CallR X (.builtin "ord") (fun xs H Q => ∃ x, xs = [.str x] ∧ x.length = 1 ∧ Q (.int (x.cps.getD 0 0 : Nat)) H) := by
  intro pins s σ H xs us Q I r h
  obtain ⟨x, rfl, hz, q⟩ := h
  obtain ⟨u, rfl, t, rfl⟩ := vals1 r
  exact ord_of_one hz ⟨.int _, H, I.tok _, ⟨_, rfl⟩, q⟩
theorem call_chr : CallR X (.builtin "chr") (fun xs H Q => ∃ i, xs = [.int i] ∧ 0 ≤ i ∧ i ≤ 1114111 ∧ Q (.str ⟨#[i.toNat]⟩) H) := by
  intro pins s σ H xs us Q I r h
  obtain ⟨i, rfl, h0, h1, q⟩ := h
  obtain ⟨u, rfl, t, rfl⟩ := vals1 r
  exact chr_of_range h0 h1 ⟨.str _, H, I.tok _, ⟨_, rfl⟩, q⟩
/-- len of a str, a bytes, a list, a tuple -/
def LenV (K : PySem.W.Frag) (x : V) (H : Hp) (n : Nat) : Prop :=
  match x with
  | .str y => y.length ≤ sizeLine ∧ n = y.length
  | .byt y => y.size ≤ sizeLine ∧ n = y.size
  | .ref p => (∃ xs, SqL K H p xs ∧ n = xs.length) ∨ ∃ xs, SqT K H p xs ∧ n = xs.length
  | _ => False
theorem call_len : CallR X (.builtin "len") (fun xs H Q => ∃ x n, xs = [x] ∧ LenV X.K x H n ∧ Q (.int n) H) := by
  intro pins s σ H xs us Q I r h
  obtain ⟨x, n, rfl, e, q⟩ := h
  obtain ⟨u, rfl, rx⟩ := vals1 r
  have hl := line63
  have hs : sizeLine = 16777216 := sizeLine_eq
  cases x with
  | str y =>
    obtain ⟨t, rfl⟩ := rx
    obtain ⟨hy, e'⟩ : y.length ≤ sizeLine ∧ n = y.length := e
    subst e'
    exact len_str (by omega) ⟨.int _, H, I.tok _, ⟨_, rfl⟩, q⟩
  | byt y =>
    obtain ⟨t, rfl⟩ := rx
    obtain ⟨hy, e'⟩ : y.size ≤ sizeLine ∧ n = y.size := e
    subst e'
    exact PySem.W.len_bytes (by omega) ⟨.int _, H, I.tok _, ⟨_, rfl⟩, q⟩
  | ref p =>
    cases rx
    have e' : (∃ xs, SqL X.K H p xs ∧ n = xs.length) ∨ ∃ xs, SqT X.K H p xs ∧ n = xs.length := e
    rcases e' with ⟨xs, hx, e'⟩ | ⟨xs, hx, e'⟩
    · subst e'
      obtain ⟨its, r', pl, hz⟩ := I.list hx
      have hlen := r'.length
      exact Calls.call_len_list pl.isList (by simp only [List.size_toArray]; omega) ⟨.int xs.length, H, I.tok _, ⟨_, by simp only [List.size_toArray]; rw [hlen]⟩, q⟩
    · subst e'
      obtain ⟨its, r', pl, hz⟩ := I.tuple hx
      have hlen := r'.length
      exact len_tuple pl (by simp only [List.size_toArray]; omega) ⟨.int xs.length, H, I.tok _, ⟨_, by simp only [List.size_toArray]; rw [hlen]⟩, q⟩
  | _ => exact (show False from e).elim
/-- divmod: a new tuple -/
theorem call_divmod : CallR X (.builtin "divmod") (fun xs H Q => ∃ i j, xs = [.int i, .int j] ∧ CDiv i j ∧ ∀ p, H p = none → Q (.ref p) (upd H p (.tup [.int (i / j), .int (i % j)]))) := by
  intro pins s σ H xs us Q I r h
  obtain ⟨i, j, rfl, ⟨h1, h2⟩, q⟩ := h
  obtain ⟨u, w', rfl, ⟨t, rfl⟩, ⟨t', rfl⟩⟩ := vals2 r
  refine divmod_int (by omega) ?_ (.inl (PyProof.noPylong_small (by omega)))
  rw [Int.fdiv_eq_ediv_of_nonneg i (by omega), Int.fmod_eq_emod_of_nonneg i (by omega)]
  have hn : H s.heap.objs.size = none := I.hok.fresh (Nat.le_refl _)
  refine ⟨.ref s.heap.objs.size, _, ?_, rfl, q _ hn⟩
  refine I.laid (fun b o e => Heap.get?_push_of_some _ e) (Nat.le_refl _) ⟨by simp only [List.length_cons, List.length_nil]; rw [sizeLine_eq]; decide, [.int (i / j) s.toks, .int (i % j) (s.toks + 1)], .cons ⟨_, rfl⟩ (.cons ⟨_, rfl⟩ .nil), ?_⟩
  exact ⟨_, Heap.get?_push_size s.heap rfl, rfl, 0, rfl⟩
end
end L2

namespace L2
open PySem PySem.Spec PyProof.Rows

/-! ### an instance, its attributes a map -/
structure ObjM (h : Heap) (x dx C : Addr) (mA : Str → Option Value) : Prop where
  obj : h.get? x = some (PySem.W.instObj C dx)
  ns : h.Ns1 dx mA
  ne : dx ≠ x

theorem lookIn_ns {h : Heap} {dx : Addr} {mA : Str → Option Value} (n : h.Ns1 dx mA) : ∃ od, h.get? dx = some od ∧ ∀ name, PySem.W.lookIn name od = some (mA name) := by
  obtain ⟨o, es, ep, ho, hd, hk, _, hm⟩ := n
  refine ⟨o, ho, fun name => ?_⟩
  have e := hm name
  unfold nsFind findBy at e
  rw [← Array.find?_toList] at e
  unfold PySem.W.lookIn
  rw [hd]
  dsimp only
  split
  · rename_i y q
    rw [q] at e
    exact congrArg some e
  · rename_i q
    rw [q] at e
    have a : es.toList.any (·.refKey) = false := by
      rw [List.any_eq_false]
      intro y hy
      obtain ⟨z, t, hkey⟩ := hk y (Array.mem_toList_iff.mp hy)
      simp [DictEntry.refKey, hkey]
    have a' : ¬ es.toList.any (·.refKey) = true := by rw [a]; exact Bool.false_ne_true
    rw [if_neg a']
    exact congrArg some e

theorem ObjM.look {h : Heap} {x dx C : Addr} {mA : Str → Option Value} (I : ObjM h x dx C mA) : ∃ od, PySem.W.InstAt h x (PySem.W.instObj C dx) C (some od) ∧ ∀ name, PySem.W.lookIn name od = some (mA name) :=
  let ⟨od, ho, hl⟩ := lookIn_ns I.ns
  ⟨od, ⟨I.obj, rfl, rfl, ho⟩, hl⟩

section
variable {prog : Program} {w : World} {A : Around} {E : Value → Shared → Prop} {s : Shared} {K : PySem.W.Frag} {x dx C f : Addr} {mA : Str → Option Value} {name : Str} {v : Value}

theorem get_map {expr : Bool} {Q : Value → Shared → Prop} (X : K.In s.heap) (I : ObjM s.heap x dx C mA) (hg : PySem.W.plainGet K C name = true) (hh : PySem.W.hasDictIn K C = true)
    (ha : PySem.W.findIn K (.ref C) name = some none) (hv : mA name = some v) (hv' : PySem.W.handedIn v = true) (h : Q v { s with toks := s.toks + 1 }) :
    wpAny (model prog w) A (getAttr (.ref x) name expr) Q E s := by
  obtain ⟨od, J, hl⟩ := I.look
  exact PySem.W.get_value X J (PySem.W.plainGet_of hg).1 (PySem.W.findObj_own hh ha rfl (by rw [hl, hv])) hv' h

theorem get_const {expr : Bool} {a : Value} {Q : Value → Shared → Prop} (X : K.In s.heap) (I : ObjM s.heap x dx C mA) (hg : PySem.W.plainGet K C name = true) (hh : PySem.W.hasDictIn K C = true)
    (ha : PySem.W.findIn K (.ref C) name = some (some a)) (hn : PySem.W.specialIn K a "__get__" = some none) (hc : PySem.W.copiedNames.contains name = false) (hv : mA name = none) (hv' : PySem.W.handedIn a = true)
    (h : Q a { s with toks := s.toks + 1 }) : wpAny (model prog w) A (getAttr (.ref x) name expr) Q E s := by
  obtain ⟨od, J, hl⟩ := I.look
  exact PySem.W.get_value X J (PySem.W.plainGet_of hg).1 (PySem.W.findObj_cls hh ha hn hv' hc (by rw [hl, hv])) hv' h

theorem get_meth {pl : Sem Bool} {Q : Value × List Value → Shared → Prop} (X : K.In s.heap) (I : ObjM s.heap x dx C mA) (hg : PySem.W.plainGet K C name = true)
    (hf : PySem.W.findIn K (.ref C) name = some (some (.ref f))) (ht : PySem.W.isFn K (.ref f) = true) (hv : mA name = none) (h : Q (.ref f, [.ref x]) s) :
    wpAny (model prog w) A (getMethod (.ref x) name pl) Q E s := by
  obtain ⟨od, J, hl⟩ := I.look
  exact PySem.W.method_fn X J (PySem.W.plainGet_of hg).1 (PySem.W.plainGet_of hg).2 hf (beq_iff_eq.mp ht) (by show (PySem.W.lookIn name od).map (·.isSome) = some false; rw [hl, hv]; rfl) h

theorem set_map {ns : List Str} {Q : Unit → Shared → Prop} (X : K.In s.heap) (I : ObjM s.heap x dx C mA)
    (hs : PySem.W.findIn K (.ref C) "__setattr__" = some (some (.builtin "object.__setattr__"))) (hp : PySem.W.plainOver K C = true) (ht : PySem.W.takerIn K C name = some none) (hh : PySem.W.hasDictIn K C = true)
    (hw : PySem.Within mA ns) (hsz : ns.length ≤ sizeLine)
    (h : ∀ h', ObjM h' x dx C (fun y => if y = name then some v else mA y) → Heap.SameBut dx s.heap h' → Q () { s with heap := h', toks := s.toks + 2 }) :
    wpAny (model prog w) A (setAttr (.ref x) name v) Q E s := by
  obtain ⟨od, J, hl⟩ := I.look
  refine PySem.W.set_plain X J hs (PySem.W.osa_open (s := { s with toks := s.toks + 1 }) (r := none) X J hp ht fun b => ?_)
  obtain ⟨cd, hc, hd'⟩ := PySem.W.any_some hh
  have hx : s.heap.get? x = some ⟨.ref C, some dx, .plain, #[]⟩ := I.obj
  refine wpAny_bind (wpAny_pure (wpAny_bind (wpAny_bind (wpAny_loadPart hx (wpAny_bind (PySem.W.Looks.here (s := { s with toks := s.toks + 1 }) (PySem.W.looks_clsIn X hc) ?_))))))
  rw [hd']
  refine wpAny_pure (a := some dx) (wpAny_bind (wpAny_pure (wpAny_bind ?_)))
  refine wpAny_nsSet1 (s := { s with toks := s.toks + 1 }) I.ns fun h' hn2 hs2 => ?_
  obtain ⟨oD, esD, epD, hoD, hdD, hcD⟩ := hn2.count (PySem.Within.cons name v hw)
  refine wpAny_bind (wpAny_lookBehind hoD (by rw [hdD]; exact pastItsLine_dict (Nat.le_trans hcD (by rw [List.length_cons]; omega))) ?_)
  exact wpAny_pure (h _ ⟨(hs2.2 _ (Ne.symm I.ne)).trans I.obj, hn2, I.ne⟩ hs2)

/-- C(..): the dict at the heap's end, the instance behind it; then its __init__ -/
theorem make_map {R : Result → Shared → Prop} {vs : List Value} {kw : List (Str × Value)} (X : K.In s.heap) (hm : PySem.W.makesIn K C = true)
    (hi : PySem.W.findIn K (.ref C) "__init__" = some (some (.ref f))) (hf : PySem.W.typeIn K (.ref f) = some (.type "function"))
    (h : codeAny (model prog w) (A.under (.builtin "type.__call__" ⟨.ref C :: vs, kw⟩)) (.call (.ref f) ⟨.ref (s.heap.objs.size + 1) :: vs, kw⟩) (PySem.W.InitBack (s.heap.objs.size + 1) R)
      { s with heap := (s.heap.push PySem.W.emptyDict).push (PySem.W.instObj C s.heap.objs.size) }) :
    codeAny (model prog w) A (.call (.ref C) ⟨vs, kw⟩) R s := by
  obtain ⟨hh, g, d, t, os⟩ := s
  exact PySem.W.make_core (PySem.W.makes_of X hm) (PySem.W.looks_findIn X hi) (fun self => PySem.W.bind_fn X self hf) (.inl rfl) h
/-- C() where there is no __init__ but object's -/
theorem make_map0 {R : Result → Shared → Prop} (X : K.In s.heap) (hm : PySem.W.makesIn K C = true)
    (hi : PySem.W.findIn K (.ref C) "__init__" = some (some (.builtin "object.__init__")))
    (hb : ∀ self, PySem.W.Looks (model prog w) s.heap (bindSpecial (.builtin "object.__init__") self) (.builtin "object.__init__", [self]))
    (h : codeAny (model prog w) (A.under (.builtin "type.__call__" ⟨[.ref C], []⟩)) (.call (.builtin "object.__init__") ⟨[.ref (s.heap.objs.size + 1)], []⟩) (PySem.W.InitBack (s.heap.objs.size + 1) R)
      { s with heap := (s.heap.push PySem.W.emptyDict).push (PySem.W.instObj C s.heap.objs.size) }) :
    codeAny (model prog w) A (.call (.ref C) ⟨[], []⟩) R s := by
  obtain ⟨hh, g, d, t, os⟩ := s
  exact PySem.W.make_core (PySem.W.makes_of X hm) (PySem.W.looks_findIn X hi) hb (.inr ⟨rfl, rfl⟩) h
end

/-! ### the attributes as a list of pairs -/
def putF (f : Str) (v : V) : List (Str × V) → List (Str × V)
  | [] => [(f, v)]
  | (g, x) :: r => if g = f then (g, v) :: r else (g, x) :: putF f v r
theorem lookup_putF (f g : Str) (v : V) : ∀ fs : List (Str × V), (putF f v fs).lookup g = if g = f then some v else fs.lookup g
  | [] => by
    show List.lookup g [(f, v)] = _
    by_cases h : g = f
    · have hb : (g == f) = true := beq_iff_eq.mpr h
      simp only [List.lookup, hb, if_pos h]
    · have hb : (g == f) = false := beq_eq_false_iff_ne.mpr h
      simp only [List.lookup, hb, if_neg h]
  | (k, x) :: r => by
    have ih := lookup_putF f g v r
    rw [show putF f v ((k, x) :: r) = (if k = f then (k, v) :: r else (k, x) :: putF f v r) from rfl]
    by_cases hk : k = f
    · rw [if_pos hk]
      by_cases h : g = k
      · have hb : (g == k) = true := beq_iff_eq.mpr h
        simp only [List.lookup, hb, if_pos (h.trans hk)]
      · have hb : (g == k) = false := beq_eq_false_iff_ne.mpr h
        simp only [List.lookup, hb, if_neg (fun e : g = f => h (e.trans hk.symm))]
    · rw [if_neg hk]
      by_cases h : g = k
      · have hb : (g == k) = true := beq_iff_eq.mpr h
        simp only [List.lookup, hb, if_neg (fun e : g = f => hk (h.symm.trans e))]
      · have hb : (g == k) = false := beq_eq_false_iff_ne.mpr h
        simp only [List.lookup, hb]
        exact ih
theorem keys_putF (f : Str) (v : V) : ∀ fs : List (Str × V), f ∈ (putF f v fs).map (·.1) ∧ ∀ g, g ∈ fs.map (·.1) → g ∈ (putF f v fs).map (·.1)
  | [] => ⟨by simp [putF], fun g h => by simp at h⟩
  | (k, x) :: r => by
    obtain ⟨i1, i2⟩ := keys_putF f v r
    rw [show putF f v ((k, x) :: r) = (if k = f then (k, v) :: r else (k, x) :: putF f v r) from rfl]
    by_cases hk : k = f
    · rw [if_pos hk]
      subst hk
      exact ⟨by simp, fun g h => by simpa using h⟩
    · rw [if_neg hk]
      refine ⟨?_, fun g h => ?_⟩
      · rw [List.map_cons]
        exact List.mem_cons_of_mem _ i1
      · rw [List.map_cons] at h ⊢
        rcases List.mem_cons.mp h with e | e
        · exact List.mem_cons.mpr (.inl e)
        · exact List.mem_cons_of_mem _ (i2 g e)
theorem length_putF (f : Str) (v : V) : ∀ fs : List (Str × V), (putF f v fs).length ≤ fs.length + 1
  | [] => by simp [putF]
  | (k, x) :: r => by
    have ih := length_putF f v r
    rw [show putF f v ((k, x) :: r) = (if k = f then (k, v) :: r else (k, x) :: putF f v r) from rfl]
    by_cases hk : k = f
    · rw [if_pos hk, List.length_cons, List.length_cons]; omega
    · rw [if_neg hk, List.length_cons, List.length_cons]; omega

theorem RelO.some_of {v : V} {o : Option Value} (r : RelO (some v) o) : ∃ u, o = some u ∧ RelV v u := by
  cases o with
  | none => exact (show False from r).elim
  | some u => exact ⟨u, rfl, r⟩
theorem RelO.none_of {o : Option Value} (r : RelO none o) : o = none := by
  cases o with
  | none => rfl
  | some u => exact (show False from r).elim
theorem handed_of {v : V} {u : Value} (r : RelV v u) : PySem.W.handedIn u = true := by
  cases v with
  | non => cases (show u = Value.none from r); rfl
  | bl b => cases (show u = Value.bool b from r); rfl
  | int i => obtain ⟨t, e⟩ := (show ∃ t, u = Value.int i t from r); cases e; rfl
  | str x => obtain ⟨t, e⟩ := (show ∃ t, u = Value.str x t from r); cases e; rfl
  | byt b => obtain ⟨t, e⟩ := (show ∃ t, u = Value.bytes b t from r); cases e; rfl
  | flt b => obtain ⟨t, e⟩ := (show ∃ t, u = Value.float b t from r); cases e; rfl
  | ref a => cases (show u = Value.ref a from r); rfl
  | ty n => cases (show u = Value.type n from r); rfl

section
variable {P : Program} {w : World} {H H' : Hp} {h h' : Heap} {a C dx : Addr} {fs fs' : List (Str × V)}
theorem ins_get (hok : HOk P w H h) (e : H a = some (.ins C dx fs)) : ∃ mA, ObjM h a dx C mA ∧ (∀ f, RelO (fs.lookup f) (mA f)) ∧ PySem.Within mA (fs.map (·.1)) ∧ fs.length ≤ 1000 ∧ H dx = some (.own a) := by
  obtain ⟨d, z, ne, ob, mA, n, r, q⟩ := (show ObjOk P w H h a (.ins C dx fs) from hok a _ e)
  exact ⟨mA, ⟨ob, n, ne⟩, r, q, z, d⟩
end

/-! ### what of the text a class must have -/
structure Cls (K : PySem.W.Frag) (C : Addr) : Prop where
  pg : PySem.W.plainGet K C Str.empty = true
  hd : PySem.W.hasDictIn K C = true
  po : PySem.W.plainOver K C = true
  sa : PySem.W.findIn K (.ref C) "__setattr__" = some (some (.builtin "object.__setattr__"))
theorem Cls.get {K : PySem.W.Frag} {C : Addr} (c : Cls K C) (f : Str) : PySem.W.plainGet K C f = true := c.pg
/-- no class of it has the name -/
def NoAttr (K : PySem.W.Frag) (C : Addr) (f : Str) : Prop := PySem.W.findIn K (.ref C) f = some none
theorem NoAttr.taker {K : PySem.W.Frag} {C : Addr} {f : Str} (n : NoAttr K C f) : PySem.W.takerIn K C f = some none := by
  unfold PySem.W.takerIn
  rw [show PySem.W.findIn K (.ref C) f = some none from n]
  rfl
/-- a constant of the class -/
structure Con (K : PySem.W.Frag) (C : Addr) (f : Str) (v : V) (u : Value) : Prop where
  at_ : PySem.W.findIn K (.ref C) f = some (some u)
  rel : RelV v u
  get : PySem.W.specialIn K u "__get__" = some none
  cp : PySem.W.copiedNames.contains f = false
/-- a method: a plain def of the class or of one above it -/
structure Meth (K : PySem.W.Frag) (C : Addr) (m : Str) (f : Addr) : Prop where
  at_ : PySem.W.findIn K (.ref C) m = some (some (.ref f))
  fn : PySem.W.isFn K (.ref f) = true
  kp : PySem.W.keepIn K (.ref f) = true

section
variable {X : Cx} {pins : List (Addr × Obj)} {σ : St} {H : Hp} {s : Shared} {a C dx : Addr} {fs : List (Str × V)} {f : Str} {v : V} {A : Around} {E : Value → Shared → Prop}

theorem getattr_ok {b : Bool} {Q : Value → Shared → Prop} (I : Inv X pins σ H s) (e : H a = some (.ins C dx fs)) (c : Cls X.K C) (n : NoAttr X.K C f) (l : fs.lookup f = some v)
    (h : ∀ u s', Inv X pins σ H s' → RelV v u → Q u s') : wpAny (model X.prog X.w) A (getAttr (.ref a) f b) Q E s := by
  obtain ⟨mA, O, r, _, _, _⟩ := ins_get I.hok e
  obtain ⟨u, hu, ru⟩ := RelO.some_of (v := v) (o := mA f) (by rw [← l]; exact r f)
  exact get_map I.kIn O (c.get f) c.hd n hu (handed_of ru) (h u _ (I.tok _) ru)

theorem getcon_ok {b : Bool} {u : Value} {Q : Value → Shared → Prop} (I : Inv X pins σ H s) (e : H a = some (.ins C dx fs)) (c : Cls X.K C) (k : Con X.K C f v u) (l : fs.lookup f = none)
    (h : ∀ s', Inv X pins σ H s' → Q u s') : wpAny (model X.prog X.w) A (getAttr (.ref a) f b) Q E s := by
  obtain ⟨mA, O, r, _, _, _⟩ := ins_get I.hok e
  have hn : mA f = none := RelO.none_of (by rw [← l]; exact r f)
  exact get_const I.kIn O (c.get f) c.hd k.at_ k.get k.cp hn (handed_of k.rel) (h _ (I.tok _))

theorem getmeth_ok {m : Str} {g : Addr} {pl : Sem Bool} {Q : Value × List Value → Shared → Prop} (I : Inv X pins σ H s) (e : H a = some (.ins C dx fs)) (c : Cls X.K C) (k : Meth X.K C m g) (l : fs.lookup m = none)
    (h : Q (.ref g, [.ref a]) s) : wpAny (model X.prog X.w) A (getMethod (.ref a) m pl) Q E s := by
  obtain ⟨mA, O, r, _, _, _⟩ := ins_get I.hok e
  have hn : mA m = none := RelO.none_of (by rw [← l]; exact r m)
  exact get_meth I.kIn O (c.get m) k.at_ k.fn hn h

theorem setattr_ok {y : V} {u : Value} {Q : Unit → Shared → Prop} (I : Inv X pins σ H s) (e : H a = some (.ins C dx fs)) (c : Cls X.K C) (n : NoAttr X.K C f) (hl : fs.length < 1000) (ry : RelV y u)
    (h : ∀ s', Inv X pins σ (upd H a (.ins C dx (putF f y fs))) s' → Q () s') : wpAny (model X.prog X.w) A (setAttr (.ref a) f u) Q E s := by
  obtain ⟨mA, O, r, wi, _, ho⟩ := ins_get I.hok e
  have hz : (fs.map (·.1)).length ≤ sizeLine := by rw [List.length_map, sizeLine_eq]; omega
  refine set_map I.kIn O c.sa c.po n.taker c.hd wi hz fun h' O' sb => h _ ?_
  have hd : ∃ o, h'.get? dx = some o := let ⟨o, _, _, e', _⟩ := O'.ns; ⟨o, e'⟩
  refine I.write (x := a) (e := dx) (by rw [e]; exact True.intro) (.inr ho) (fun b q hb z => (sb.2 b hb).trans z) hd ?_
  refine ⟨by rw [upd_ne O.ne]; exact ho, ?_, O.ne, O'.obj, _, O'.ns, fun g => ?_, fun g hg => ?_⟩
  · have := length_putF f y fs; omega
  · show RelO ((putF f y fs).lookup g) (if g = f then some u else mA g)
    rw [lookup_putF]
    by_cases q : g = f
    · rw [if_pos q, if_pos q]; exact ry
    · rw [if_neg q, if_neg q]; exact r g
  · by_cases q : g = f
    · rw [q]; exact (keys_putF f y fs).1
    · refine (keys_putF f y fs).2 g (wi g fun z => hg ?_)
      show (if g = f then some u else mA g) = none
      rw [if_neg q]; exact z

/-- a new instance, tracked, without attributes -/
theorem Inv.made (I : Inv X pins σ H s) : Inv X pins σ (upd (upd H s.heap.objs.size (.own (s.heap.objs.size + 1))) (s.heap.objs.size + 1) (.ins C s.heap.objs.size []))
    { s with heap := (s.heap.push PySem.W.emptyDict).push (PySem.W.instObj C s.heap.objs.size) } := by
  have e1 : (s.heap.push PySem.W.emptyDict).get? s.heap.objs.size = some PySem.W.emptyDict := Heap.get?_push_size s.heap rfl
  have e2 : ((s.heap.push PySem.W.emptyDict).push (PySem.W.instObj C s.heap.objs.size)).get? (s.heap.objs.size + 1) = some (PySem.W.instObj C s.heap.objs.size) := by
    have := Heap.get?_push_size (s.heap.push PySem.W.emptyDict) (o := PySem.W.instObj C s.heap.objs.size) rfl
    rwa [Heap.size_push] at this
  have e3 : (s.heap.push PySem.W.emptyDict).Ns s.heap.objs.size (fun _ => none) := ⟨PySem.W.emptyDict, #[], _, e1, rfl, (fun e he => absurd he (by simp)), fun _ => rfl⟩
  have I1 := I.laid (a := s.heap.objs.size) (o := .own (s.heap.objs.size + 1)) (h' := s.heap.push PySem.W.emptyDict) (t' := s.toks) (fun b u q => Heap.get?_push_of_some _ q) (Nat.le_refl _) ⟨_, e1⟩
  refine I1.laid (a := s.heap.objs.size + 1) (o := .ins C s.heap.objs.size []) (t' := s.toks) (fun b u q => Heap.get?_push_of_some _ q) (Nat.le_of_eq (Heap.size_push _ _)) ?_
  have ne : s.heap.objs.size ≠ s.heap.objs.size + 1 := Nat.ne_of_lt (Nat.lt_succ_self _)
  refine ⟨by rw [upd_ne ne, upd_same], Nat.zero_le _, ne, e2, fun _ => none, (Heap.Ns1.of_empty e3).at fun o q => Heap.get?_push_of_some _ q, fun _ => True.intro, fun y hy => absurd rfl hy⟩

/-- e.f where nothing but the object is asked: through attributeBase (super) and the last hold -/
theorem attr_of {prog : Program} {w : World} {env : Env} {e : Expr} {f : Str} {pos : Pos} {s : Shared} {Q : Value → Shared → Prop} (hb : attributeBase e f env (eval e env) = eval e env)
    (h : wpAny (model prog w) A (eval e env) (fun o s₁ => wpAny (model prog w) A (getAttr o f true) Q E s₁) E s) : wpAny (model prog w) A (eval (.Attribute e f pos) env) Q E s :=
  Attribute_any_ h (by rw [arm_eval_Attribute, hb])
end

/-! ### readings and rules -/
/-- e.f, an attribute of the instance -/
def tFld (K : PySem.W.Frag) (ta : TE) (f : Str) : TE := fun σ H Q => ta σ H fun x H1 => ∃ a C dx fs v, x = .ref a ∧ H1 a = some (.ins C dx fs) ∧ Cls K C ∧ NoAttr K C f ∧ fs.lookup f = some v ∧ Q v H1
/-- e.f, a constant of the class -/
def tCon (K : PySem.W.Frag) (ta : TE) (f : Str) : TE := fun σ H Q => ta σ H fun x H1 => ∃ a C dx fs v u, x = .ref a ∧ H1 a = some (.ins C dx fs) ∧ Cls K C ∧ Con K C f v u ∧ fs.lookup f = none ∧ Q v H1
/-- e.f = value -/
def sFld (K : PySem.W.Frag) (ta tv : TE) (f : Str) : TS := fun D σ H => tv σ H fun y H1 => ta σ H1 fun x H2 => ∃ a C dx fs, x = .ref a ∧ H2 a = some (.ins C dx fs) ∧ Cls K C ∧ NoAttr K C f ∧ fs.length < 1000 ∧
  D.nx σ (upd H2 a (.ins C dx (putF f y fs)))
/-- an augmented operator on two values -/
def InOp (X : Cx) (op : Operator) (rd : V → V → Hp → VK → Prop) : Prop :=
  ∀ (pins : List (Addr × Obj)) (s : Shared) (σ : St) (H : Hp) (x y : V) (u v : Value) (Q : VK), Inv X pins σ H s → RelV x u → RelV y v → rd x y H Q → wpAny (model X.prog X.w) X.A (inplaceOp op u v) (EP X pins σ Q) X.xe s
/-- e.f op= value -/
def sFldAug (K : PySem.W.Frag) (ta tv : TE) (rd : V → V → Hp → VK → Prop) (f : Str) : TS := fun D σ H => ta σ H fun x H1 => ∃ a C dx fs v, x = .ref a ∧ H1 a = some (.ins C dx fs) ∧ Cls K C ∧ NoAttr K C f ∧ fs.lookup f = some v ∧
  tv σ H1 fun y H2 => rd v y H2 fun z H3 => ∃ dx' fs', H3 a = some (.ins C dx' fs') ∧ fs'.length < 1000 ∧ D.nx σ (upd H3 a (.ins C dx' (putF f z fs')))

section
variable {X : Cx} {o e value : Expr} {f : Str} {pos pos' tpos : Pos} {ta tv : TE}
theorem pe_fld (he : PE X e ta) (hb : attributeBase e f X.env (eval e X.env) = eval e X.env) : PE X (.Attribute e f pos) (tFld X.K ta f) := by
  intro pins s σ H Q I h
  refine attr_of hb (thn (he pins s σ H _ I h) fun u s1 ⟨x, H1, I1, rx, a, C, dx, fs, v, ex, ea, c, n, l, q⟩ => ?_)
  subst ex
  obtain rfl : u = Value.ref a := rx
  exact getattr_ok I1 ea c n l fun u' s2 I2 ru => ⟨v, H1, I2, ru, q⟩
theorem pe_con (he : PE X e ta) (hb : attributeBase e f X.env (eval e X.env) = eval e X.env) : PE X (.Attribute e f pos) (tCon X.K ta f) := by
  intro pins s σ H Q I h
  refine attr_of hb (thn (he pins s σ H _ I h) fun u s1 ⟨x, H1, I1, rx, a, C, dx, fs, v, u0, ex, ea, c, k, l, q⟩ => ?_)
  subst ex
  obtain rfl : u = Value.ref a := rx
  exact getcon_ok I1 ea c k l fun s2 I2 => ⟨v, H1, I2, k.rel, q⟩
theorem ps_fld (ha : PE X o ta) (hv : PE X value tv) (hs : swapsWith value (some (.Attribute o f pos')) pos.line X.env = pure false) : PS X (.Assign [.Attribute o f pos'] value pos) (sFld X.K ta tv f) := by
  intro pins s σ H D I h
  refine plainObj_wpAny_Assign_Attribute (thn (hv pins s σ H _ I h) fun u s1 ⟨y, H1, I1, ry, q⟩ => thn (ha pins s1 σ H1 _ I1 q) fun ov s2 ⟨x, H2, I2, rx, a, C, dx, fs, ex, ea, c, n, l, q2⟩ => ?_) hs
  subst ex
  obtain rfl : ov = Value.ref a := rx
  exact setattr_ok I2 ea c n l ry fun s3 I3 => ⟨σ, _, I3, q2⟩
theorem ps_fldaug {op : Operator} {rd : V → V → Hp → VK → Prop} (ha : PE X o ta) (hv : PE X value tv) (hop : InOp X op rd) : PS X (.AugAssign (.Attribute o f tpos) op value pos) (sFldAug X.K ta tv rd f) := by
  intro pins s σ H D I h
  refine wpAny_AugAssign_AttributeAny (thn (ha pins s σ H _ I h) fun ov s1 ⟨x, H1, I1, rx, a, C, dx, fs, v, ex, ea, c, n, l, q⟩ => ?_)
  subst ex
  obtain rfl : ov = Value.ref a := rx
  refine getattr_ok I1 ea c n l fun u s2 I2 ru => thn (hv pins s2 σ H1 _ I2 q) fun w3 s3 ⟨y, H2, I3, ry, q3⟩ => thn (hop pins s3 σ H2 v y u w3 _ I3 ru ry q3) fun w4 s4 ⟨z, H3, I4, rz, dx', fs', ea', l', q4⟩ => ?_
  exact setattr_ok I4 ea' c n l' rz fun s5 I5 => ⟨σ, _, I5, q4⟩
def rAdd : V → V → Hp → VK → Prop := fun x y H Q => ∃ i j, x = .int i ∧ y = .int j ∧ Q (.int (i + j)) H
def rSub : V → V → Hp → VK → Prop := fun x y H Q => ∃ i j, x = .int i ∧ y = .int j ∧ Q (.int (i - j)) H
theorem in_add : InOp X .Add rAdd := by
  rintro pins s σ H x y u v Q I rx ry ⟨i, j, rfl, rfl, q⟩
  obtain ⟨t, rfl⟩ := (show ∃ t, u = Value.int i t from rx)
  obtain ⟨t', rfl⟩ := (show ∃ t', v = Value.int j t' from ry)
  exact PyProof.Rows.iadd_int ⟨.int (i + j), H, I.tok _, ⟨_, rfl⟩, q⟩
theorem in_sub : InOp X .Sub rSub := by
  rintro pins s σ H x y u v Q I rx ry ⟨i, j, rfl, rfl, q⟩
  obtain ⟨t, rfl⟩ := (show ∃ t, u = Value.int i t from rx)
  obtain ⟨t', rfl⟩ := (show ∃ t', v = Value.int j t' from ry)
  exact PyProof.Rows.isub_int ⟨.int (i - j), H, I.tok _, ⟨_, rfl⟩, q⟩

/-- what is between an instance and its method: the tree of a method call -/
theorem methcall_of {pl : Sem Bool} {m : Str} {apos : Pos} {args : List Expr} {pins : List (Addr × Obj)} {s : Shared} {σ : St} {H : Hp} {Q : Value → Shared → Prop} {te : TE} (he : PE X e te) (I : Inv X pins σ H s)
    (h : te σ H fun x H1 => ∃ a C dx fs g, x = .ref a ∧ H1 a = some (.ins C dx fs) ∧ Cls X.K C ∧ Meth X.K C m g ∧ fs.lookup m = none ∧
      ∀ s1, Inv X pins σ H1 s1 → wpAny (model X.prog X.w) X.A (callWith pos (.ref g) [.ref a] (backTo pos (starEach args X.env)) (backToKw pos (keywordEach [] X.env))) Q X.xe s1)
    (ht : eval (.Call (.Attribute e m apos) args [] pos) X.env = (do
      let ov ← eval e X.env
      standAt apos.atName
      let (f, first) ← holding [ov] (getMethod ov m pl)
      callWith pos f first (backTo pos (starEach args X.env)) (backToKw pos (keywordEach [] X.env)))) :
    wpAny (model X.prog X.w) X.A (eval (.Call (.Attribute e m apos) args [] pos) X.env) Q X.xe s := by
  refine PySem.W.methodCall_KW (pl := pl) (thn (he pins s σ H _ I h) fun u s1 ⟨x, H1, I1, rx, a, C, dx, fs, g, ex, ea, c, k, l, q⟩ => ?_) ht
  subst ex
  obtain rfl : u = Value.ref a := rx
  exact getmeth_ok I1 ea c k l (q s1 I1)
end

/-! ### isinstance -/
section
variable {X : Cx} {pins : List (Addr × Obj)} {σ : St} {H : Hp} {s : Shared} {A : Around} {E : Value → Shared → Prop} {Q : Value → Shared → Prop} {c : Value} {b : Bool}
/-- the type of a value, as the fragment's deciders take it; for an instance its class -/
inductive TyOf (K : PySem.W.Frag) (H : Hp) : V → Value → Prop where
  | non : TyOf K H .non (.type "NoneType")
  | bl (x : Bool) : TyOf K H (.bl x) (.type "bool")
  | int (i : Int) : TyOf K H (.int i) (.type "int")
  | str (x : Str) : TyOf K H (.str x) (.type "str")
  | flt (x : UInt64) : TyOf K H (.flt x) (.type "float")
  | lst {a : Addr} {xs : List V} (e : H a = some (.lst xs)) : TyOf K H (.ref a) (.type "list")
  | frz {a : Addr} {o : Obj} {xs : List V} (e : H a = some (.frz o (.lst xs))) : TyOf K H (.ref a) (.type "list")
  | tup {a : Addr} {xs : List V} (e : H a = some (.tup xs)) : TyOf K H (.ref a) (.type "tuple")
  | dK {a : Addr} {kvs : List (Key × V)} (e : H a = some (.dK kvs)) : TyOf K H (.ref a) (.type "dict")
  | dT {a : Addr} {kvs : List (List Key × V)} (e : H a = some (.dT kvs)) : TyOf K H (.ref a) (.type "dict")
  | ins {a C dx : Addr} {fs : List (Str × V)} (e : H a = some (.ins C dx fs)) (cl : Cls K C) (ha : PySem.W.findIn K (.ref C) "__class__" = some (some (.builtin "object.__class__")))
      (hn : PySem.W.specialIn K (.builtin "object.__class__") "__get__" = some (some (.builtin "getset_descriptor.__get__"))) (htk : PySem.W.takesIn K (.builtin "object.__class__") = some true)
      (hm : PySem.W.mroIn K C (.type "object") = some true) : TyOf K H (.ref a) (.ref C)
/-- isinstance(x, c) for one class c, a built-in or an own one: kitOne's answer -/
theorem isinst_ok {x : V} {u t : Value} (I : Inv X pins σ H s) (rx : RelV x u) (ty : TyOf X.K H x t) (e : PySem.W.kitOne X.K t c = some b) (h : ∀ tk, Q (.bool b) { s with toks := tk }) :
    wpAny (model X.prog X.w) A (call (.builtin "isinstance") [u, c]) Q E s := by
  cases ty with
  | non => cases (show u = Value.none from rx); exact PySem.W.kia_one PySem.W.kitx_none I.kIn True.intro e (fun z => nomatch z) h
  | bl y => cases (show u = Value.bool y from rx); exact PySem.W.kia_one PySem.W.kitx_bool I.kIn True.intro e (fun z => nomatch z) h
  | int i => obtain ⟨t, q⟩ := (show ∃ t, u = Value.int i t from rx); cases q; exact PySem.W.kia_one PySem.W.kitx_int I.kIn True.intro e (fun z => nomatch z) h
  | str y => obtain ⟨t, q⟩ := (show ∃ t, u = Value.str y t from rx); cases q; exact PySem.W.kia_one PySem.W.kitx_str I.kIn True.intro e (fun z => nomatch z) h
  | flt y => obtain ⟨t, q⟩ := (show ∃ t, u = Value.float y t from rx); cases q; exact PySem.W.kia_one PySem.W.kitx_float I.kIn True.intro e (fun z => nomatch z) h
  | @lst a xs ea =>
    cases (show u = Value.ref a from rx)
    obtain ⟨_, _, n, _, h1⟩ := (show ObjOk X.prog X.w H s.heap a (.lst xs) from I.hok a _ ea)
    exact PySem.W.kia_one PySem.W.kitx_list I.kIn ⟨_, h1, rfl⟩ e (fun z => nomatch z) h
  | @frz a ob xs ea =>
    cases (show u = Value.ref a from rx)
    obtain ⟨_, _, _, n, _, h1⟩ := (show ObjOk X.prog X.w H s.heap a (.frz ob (.lst xs)) from I.hok a _ ea)
    exact PySem.W.kia_one PySem.W.kitx_list I.kIn ⟨_, h1, rfl⟩ e (fun z => nomatch z) h
  | @tup a xs ea =>
    cases (show u = Value.ref a from rx)
    obtain ⟨_, _, _, p⟩ := (show ObjOk X.prog X.w H s.heap a (.tup xs) from I.hok a _ ea)
    obtain ⟨o, h1, h2, _⟩ := p
    exact PySem.W.kia_one PySem.W.kitx_tuple I.kIn ⟨o, h1, h2⟩ e (fun z => nomatch z) h
  | @dK a kvs ea =>
    cases (show u = Value.ref a from rx)
    obtain ⟨_, _, vs, _, p⟩ := (show ObjOk X.prog X.w H s.heap a (.dK kvs) from I.hok a _ ea)
    obtain ⟨o, es, ep, h1, h2, _⟩ := p
    exact PySem.W.kia_one PySem.W.kitx_dict I.kIn ⟨o, h1, h2.1⟩ e (fun z => nomatch z) h
  | @dT a kvs ea =>
    cases (show u = Value.ref a from rx)
    obtain ⟨_, _, xs, _, o, es, ep, h1, h2, _⟩ := (show ObjOk X.prog X.w H s.heap a (.dT kvs) from I.hok a _ ea)
    exact PySem.W.kia_one PySem.W.kitx_dict I.kIn ⟨o, h1, h2.1⟩ e (fun z => nomatch z) h
  | @ins a C dx fs ea cl ha hn htk hm =>
    cases (show u = Value.ref a from rx)
    obtain ⟨mA, O, _⟩ := ins_get I.hok ea
    obtain ⟨od, J, _⟩ := O.look
    exact PySem.W.kia_one (PySem.W.kitx_own (cl.get _) cl.hd ha hn htk hm) I.kIn J e (fun z => nomatch z) h
end
end L2

namespace L2
open PySem PySem.Spec PyProof.Rows

/-! ### room -/
structure Room (k : Nat) (A : Around) : Prop where
  hd : A.handled = none
  dp : A.depth + 3 * k + 5 < recursionLimit
  un : A.units + 16 * k + 200 < cLine
theorem Room.mono {j k : Nat} {A : Around} (r : Room k A) (h : j ≤ k) : Room j A := ⟨r.hd, by have := r.dp; omega, by have := r.un; omega⟩
theorem Room.deeper {k : Nat} {A : Around} (r : Room (k + 1) A) (env : Env) : Room k (A.deeper env) :=
  ⟨r.hd, by have := r.dp; show A.depth + 1 + 3 * k + 5 < _; omega, by have := r.un; show A.units + 3 + 16 * k + 200 < _; omega⟩
theorem Room.in1 {k : Nat} {A : Around} (r : Room (k + 1) A) : Room k A.in1 :=
  ⟨r.hd, by have := r.dp; show A.depth + 3 * k + 5 < _; omega, by have := r.un; show A.units + 1 + 16 * k + 200 < _; omega⟩
theorem make_depth {A : Around} {C : Addr} {us : List Value} {kw : List (Str × Value)} : (A.under (.builtin "type.__call__" ⟨.ref C :: us, kw⟩)).depth = A.depth + 1 := by
  first | rfl | simp [Around.under, Code.weight, Code.isCreation, Code.isGuard, Code.isCaller, Code.frames, Code.isFrame, guardIds]
theorem make_units {A : Around} {C : Addr} {us : List Value} {kw : List (Str × Value)} : (A.under (.builtin "type.__call__" ⟨.ref C :: us, kw⟩)).units = A.units + 1 := by
  first | rfl | simp [Around.under, Code.cUnits, Code.frames, Code.isFrame]
theorem Room.make {k : Nat} {A : Around} (r : Room (k + 1) A) (C : Addr) (us : List Value) (kw : List (Str × Value)) : Room k (A.under (.builtin "type.__call__" ⟨.ref C :: us, kw⟩)) :=
  ⟨r.hd, by have := r.dp; rw [make_depth]; omega, by have := r.un; rw [make_units]; omega⟩
theorem Room.depth {k : Nat} {A : Around} (r : Room k A) : A.depth < recursionLimit := by have := r.dp; omega
theorem Room.units {k : Nat} {A : Around} (r : Room k A) : A.units + 64 < cLine := by have := r.un; omega
theorem Room.units0 {k : Nat} {A : Around} (r : Room k A) : A.units < cLine := by have := r.un; omega

/-! ### argument lists and displays -/
def tNil : TA := fun _ H Q => Q [] H
def tCons (ta : TE) (tr : TA) : TA := fun σ H Q => ta σ H fun x H1 => tr σ H1 fun xs H2 => Q (x :: xs) H2
section
variable {X : Cx} {e : Expr} {es : List Expr} {te : TE} {t : TA} {pos : Pos}
theorem pa_nil : PA X [] tNil := fun _ _ _ _ H Q I h => Calls.spliced_nil ⟨[], H, I, .nil, h⟩
theorem pa_cons (ha : PE X e te) (hr : PA X es t) (hs : starEach (e :: es) X.env = (false, eval e X.env) :: starEach es X.env := by rfl) : PA X (e :: es) (tCons te t) := by
  intro pos pins s σ H Q I h
  rw [hs]
  show wpAny _ _ (spliced ((false, eval e X.env) :: backTo pos (starEach es X.env))) _ _ s
  refine Calls.spliced_cons (thn (ha pins s σ H _ I h) fun u s1 ⟨x, H1, I1, r1, q1⟩ => ?_)
  exact thn (hr pos pins s1 σ H1 _ I1 q1) fun us s2 ⟨xs, H2, I2, r2, q2⟩ => ⟨x :: xs, H2, I2, .cons r1 r2, q2⟩

/-- a tuple, a list of written items -/
def tTup (t : TA) : TE := fun σ H Q => t σ H fun xs H1 => xs.length ≤ sizeLine ∧ ∀ p, H1 p = none → Q (.ref p) (upd H1 p (.tup xs))
def tLst (t : TA) : TE := fun σ H Q => t σ H fun xs H1 => xs.length ≤ sizeLine ∧ ∀ p, H1 p = none → Q (.ref p) (upd H1 p (.lst xs))
theorem pe_tup {x1} (h : PA X es t) : PE X (.Tuple es x1 pos) (tTup t) := by
  intro pins s σ H Q I hq
  refine wpAny_Tuple_spliced (thn (h pos pins s σ H _ I hq) fun us s1 ⟨xs, H1, I1, r, z, q⟩ => ⟨by rw [← r.length]; exact z, ?_⟩)
  have hf : H1 s1.heap.objs.size = none := I1.hok.fresh (Nat.le_refl _)
  refine ⟨.ref s1.heap.objs.size, upd H1 s1.heap.objs.size (.tup xs), I1.laid (t' := s1.toks) (fun b u e => Heap.get?_push_of_some _ e) (Nat.le_refl _) ?_, rfl, q _ hf⟩
  exact ⟨z, us, r, ⟨_, Heap.get?_push_size _ rfl, rfl, _, rfl⟩⟩
theorem pe_lst (h : PA X es t) : PE X (.List es pos) (tLst t) := by
  intro pins s σ H Q I hq
  refine wpAny_List_spliced (thn (h pos pins s σ H _ I hq) fun us s1 ⟨xs, H1, I1, r, z, q⟩ => ⟨by rw [← r.length]; exact z, ?_⟩)
  have hf : H1 s1.heap.objs.size = none := I1.hok.fresh (Nat.le_refl _)
  refine ⟨.ref s1.heap.objs.size, upd H1 s1.heap.objs.size (.lst xs), I1.laid (t' := s1.toks) (fun b u e => Heap.get?_push_of_some _ e) (Nat.le_refl _) ?_, rfl, q _ hf⟩
  exact ⟨z, us, 0, r, Heap.get?_push_size _ rfl⟩
end

/-! ### what a def promises -/
/-- a def's promise: the bound arguments in the parameters' order, the heap, the wanted end, the wanted exception -/
abbrev Sp := List V → Hp → VK → XK → Prop
/-- how an exception lies behind a call (file 08 gives it): the callers' frames, abstract heap and state ahead of the call, the wish, the exception, the state -/
abbrev CXT := List Env → Hp → Shared → XK → Value → Shared → Prop

/-- the state at a call -/
structure Env0 (P : Program) (w : World) (K : PySem.W.Frag) (mg : Str → Option Value) (base : Heap) (A : Around) (outer : List Env) (s : Shared) (H : Hp) : Prop where
  frames : A.frames = some outer
  mod : Mod K mg base
  bs : ∀ b o, base.get? b = some o → s.heap.get? b = some o ∧ H b = none
  bsz : base.objs.size ≤ s.heap.objs.size
  funs : s.heap.FunFrames base outer
  frf : ∀ b ∈ frs outer, H b = none
  hok : HOk P w H s.heap
  bare : AllBare s.gens
/-- a call's end -/
def CE (outer : List Env) (P : Program) (w : World) (H : Hp) (s : Shared) (Q : VK) (u : Value) (s' : Shared) : Prop :=
  ∃ v H', s'.os = s.os ∧ AllBare s'.gens ∧ Un (frs outer) [] H H' s.heap s'.heap ∧ HOk P w H' s'.heap ∧ RelV v u ∧ Q v H'
def CR (CX : CXT) (outer : List Env) (P : Program) (w : World) (H : Hp) (s : Shared) (Q : VK) (E : XK) (r : Result) (s' : Shared) : Prop :=
  match r with
  | .ok (.ret u) => CE outer P w H s Q u s'
  | .ok _ => False
  | .error e => CX outer H s E e s'
structure FnOk (P : Program) (w : World) (K : PySem.W.Frag) (mg : Str → Option Value) (base : Heap) (CX : CXT) (k : Nat) (f : Addr) (fd : FuncData) (ps : List Str) (sp : Sp) : Prop where
  len : ∀ vs H Q E, sp vs H Q E → vs.length = ps.length
  run : ∀ (A : Around) (outer : List Env) (s : Shared) (H : Hp) (args : Args) (us : List Value) (vs : List V) (Q : VK) (E : XK), Room k A → Env0 P w K mg base A outer s H → BindsTo s fd args (ps.zip us) → Vals vs us → sp vs H Q E →
    codeAny (model P w) A (.call (.ref f) args) (CR CX outer P w H s Q E) s
theorem FnOk.mono {P : Program} {w : World} {K : PySem.W.Frag} {mg : Str → Option Value} {base : Heap} {CX : CXT} {j k : Nat} {f : Addr} {fd : FuncData} {ps : List Str} {sp : Sp} (F : FnOk P w K mg base CX j f fd ps sp) (h : j ≤ k) :
    FnOk P w K mg base CX k f fd ps sp := ⟨F.len, fun A outer s H args us vs Q E hr => F.run A outer s H args us vs Q E (hr.mono h)⟩
/-- a weaker promise -/
theorem FnOk.imp {P : Program} {w : World} {K : PySem.W.Frag} {mg : Str → Option Value} {base : Heap} {CX : CXT} {k : Nat} {f : Addr} {fd : FuncData} {ps : List Str} {sp sp' : Sp} (F : FnOk P w K mg base CX k f fd ps sp)
    (h : ∀ vs H Q E, sp' vs H Q E → sp vs H Q E) : FnOk P w K mg base CX k f fd ps sp' :=
  ⟨fun vs H Q E q => F.len vs H Q E (h _ _ _ _ q), fun A outer s H args us vs Q E hr he hb hv hs => F.run A outer s H args us vs Q E hr he hb hv (h _ _ _ _ hs)⟩

theorem Env0.make {P : Program} {w : World} {K : PySem.W.Frag} {mg : Str → Option Value} {base : Heap} {A : Around} {outer : List Env} {s : Shared} {H : Hp} (e : Env0 P w K mg base A outer s H) (C : Addr) (us : List Value) (kw : List (Str × Value)) :
    Env0 P w K mg base (A.under (.builtin "type.__call__" ⟨.ref C :: us, kw⟩)) outer s H := ⟨by first | exact e.frames | (simpa [Around.under, Code.envs, Code.isFrame, pushEnvs] using e.frames), e.mod, e.bs, e.bsz, e.funs, e.frf, e.hok, e.bare⟩
theorem Env0.in1 {P : Program} {w : World} {K : PySem.W.Frag} {mg : Str → Option Value} {base : Heap} {A : Around} {outer : List Env} {s : Shared} {H : Hp} (e : Env0 P w K mg base A outer s H) :
    Env0 P w K mg base A.in1 outer s H := ⟨e.frames, e.mod, e.bs, e.bsz, e.funs, e.frf, e.hok, e.bare⟩

section
variable {X : Cx} {pins : List (Addr × Obj)} {σ : St} {H : Hp} {s s' : Shared}
/-- from a body: what a callee wants -/
theorem Inv.env0 (I : Inv X pins σ H s) : Env0 X.prog X.w X.K X.mg X.base X.A X.stack s H :=
  ⟨I.ok.frames, I.ok.mod, I.bs, Nat.le_trans I.ok.bsz I.sz, I.stack, I.stkFree, I.hok, I.bare⟩
/-- behind a call -/
theorem Inv.after {Q : VK} {u : Value} (I : Inv X pins σ H s) (h : CE X.stack X.prog X.w H s Q u s') : EP X pins σ Q u s' := by
  obtain ⟨v, H', os, bare, un, hok, r, q⟩ := h
  obtain ⟨hh, g, d, t, os'⟩ := s'
  obtain rfl : os' = s.os := os
  exact ⟨v, H', I.call (h' := hh) (g' := g) (d' := d) (t' := t) (ch := []) un hok bare (fun b z => absurd z (by simp)), r, q⟩
end

/-! ### calls -/
/-- f(..): the written arguments, then the defaults dvs; E: what is wanted of an exception -/
def tCall (sp : Sp) (dvs : List V) (E : XK) (t : TA) : TE := fun σ H Q => t σ H fun vs H1 => sp (vs ++ dvs) H1 Q E
/-- o.m(..) of an instance of the class at C -/
def tMeth (C : Addr) (m : Str) (sp : Sp) (dvs : List V) (E : XK) (ta : TE) (t : TA) : TE := fun σ H Q => ta σ H fun x H1 => ∃ a dx fs, x = .ref a ∧ H1 a = some (.ins C dx fs) ∧ fs.lookup m = none ∧
  t σ H1 fun vs H2 => sp (x :: (vs ++ dvs)) H2 Q E
/-- C(..): a new instance and its dict, then __init__ -/
def tMake (C : Addr) (sp : Sp) (dvs : List V) (E : XK) (t : TA) : TE := fun σ H Q => t σ H fun vs H1 => ∀ x dx, H1 x = none → H1 dx = none → dx ≠ x →
  sp (.ref x :: (vs ++ dvs)) (upd (upd H1 dx (.own x)) x (.ins C dx [])) (fun v H2 => v = .non ∧ Q (.ref x) H2) E

/-- how the parameters are bound: us the positional arguments, kw the keywords' values by name, ds the defaults that fill up -/
def Binds (K : PySem.W.Frag) (fd : FuncData) (ps : List Str) (ds : List Value) : Prop :=
  ∀ (s : Shared) (us : List Value), K.In s.heap → (us ++ ds).length = ps.length → BindsTo s fd ⟨us, []⟩ (ps.zip (us ++ ds))
/-- every parameter is given -/
theorem Binds.all {K : PySem.W.Frag} {fd : FuncData} {ps : List Str} (h : ∀ us : List Value, us.length = ps.length → bindArgs fd ⟨us, []⟩ = pure (ps.zip us)) : Binds K fd ps [] := fun s us _ hl => by
  rw [List.append_nil] at hl ⊢
  exact .of_eq (h us hl)

/-- an exception of a callee reaches what this body wants of exceptions -/
def Passes (CX : CXT) (X : Cx) (E : XK) : Prop := ∀ (pins : List (Addr × Obj)) (σ : St) (H : Hp) (s : Shared) (e : Value) (s' : Shared), Inv X pins σ H s → CX X.stack H s E e s' → X.xe e s'

section
variable {X : Cx} {CX : CXT} {k : Nat} {f C : Addr} {fd : FuncData} {ps : List Str} {sp : Sp} {dvs : List V} {ds : List Value} {E : XK} {x m : Str} {p pos apos : Pos} {e o : Expr} {es : List Expr} {ta : TE} {t : TA}

/-- the callee runs -/
theorem run_fn {pins : List (Addr × Obj)} {σ : St} {H : Hp} {s : Shared} {Q : VK} {us : List Value} {vs : List V} (F : FnOk X.prog X.w X.K X.mg X.base CX k f fd ps sp) (hr : Room k X.A) (hb : Binds X.K fd ps ds) (hd : Vals dvs ds) (hx : Passes CX X E)
    (I : Inv X pins σ H s) (r : Vals vs us) (h : sp (vs ++ dvs) H Q E) : wpAny (model X.prog X.w) X.A (call (.ref f) us) (EP X pins σ Q) X.xe s := by
  have r2 : Vals (vs ++ dvs) (us ++ ds) := r.append hd
  have hl : (us ++ ds).length = ps.length := by rw [← r2.length]; exact F.len _ _ _ _ h
  refine wpAny_call (codeAny_mono (F.run X.A X.stack s H ⟨us, []⟩ (us ++ ds) (vs ++ dvs) Q E hr I.env0 (hb s us I.kIn hl) r2 h) fun r s' hq => ?_)
  cases r with
  | error e => exact hx pins σ H s e s' I hq
  | ok fl =>
    cases fl with
    | ret u => exact I.after hq
    | next => exact False.elim hq
    | brk => exact False.elim hq
    | cont => exact False.elim hq

theorem pe_call (F : FnOk X.prog X.w X.K X.mg X.base CX k f fd ps sp) (hr : Room k X.A) (hg : Gl X x) (hm : X.mg x = some (.ref f)) (hk : PySem.W.keepIn X.K (.ref f) = true) (hb : Binds X.K fd ps ds) (hd : Vals dvs ds) (hx : Passes CX X E)
    (ha : PA X (e :: es) t) (hdb : (x == ("__debug__" : Str)) = false := by decide) (he : starEach (e :: es) X.env = (false, eval e X.env) :: starEach es X.env := by rfl) (hpl : (backTo pos (starEach es X.env)).any (·.1) = false := by rfl) :
    PE X (.Call (.Name x p) (e :: es) [] pos) (tCall sp dvs E t) := by
  intro pins s σ H Q I h
  refine wpAny_Call_Name_kw (ld_glob I hg hm ?_ hdb)
  refine PySem.W.callWith_K (h₀ := X.base) I.ok.mod.kin hk (thn (ha pos pins s σ H _ I h) fun us s1 ⟨vs, H1, I1, r, q⟩ => ⟨I1.kIn, ?_⟩) he hpl
  exact run_fn F hr hb hd hx I1 r q
theorem pe_call0 (F : FnOk X.prog X.w X.K X.mg X.base CX k f fd ps sp) (hr : Room k X.A) (hg : Gl X x) (hm : X.mg x = some (.ref f)) (hk : PySem.W.keepIn X.K (.ref f) = true) (hb : Binds X.K fd ps ds) (hd : Vals dvs ds) (hx : Passes CX X E)
    (hdb : (x == ("__debug__" : Str)) = false := by decide) : PE X (.Call (.Name x p) [] [] pos) (tCall sp dvs E tNil) := by
  intro pins s σ H Q I h
  refine wpAny_Call_Name_kw (ld_glob I hg hm ?_ hdb)
  exact PySem.W.callWith_K0 I.kIn hk (run_fn (us := []) F hr hb hd hx I .nil h)

/-- o.m(e, ..) -/
theorem pe_meth {pl : Sem Bool} (he : PE X o ta) (c : Cls X.K C) (hm : Meth X.K C m f) (F : FnOk X.prog X.w X.K X.mg X.base CX k f fd ps sp) (hr : Room k X.A) (hb : Binds X.K fd ps ds) (hd : Vals dvs ds) (hx : Passes CX X E) (ha : PA X (e :: es) t)
    (hst : starEach (e :: es) X.env = (false, eval e X.env) :: starEach es X.env := by rfl) (hpl : (backTo pos (starEach es X.env)).any (·.1) = false := by rfl)
    (ht : eval (.Call (.Attribute o m apos) (e :: es) [] pos) X.env = (do
      let ov ← eval o X.env
      standAt apos.atName
      let (f, first) ← holding [ov] (getMethod ov m pl)
      callWith pos f first (backTo pos (starEach (e :: es) X.env)) (backToKw pos (keywordEach [] X.env))) := by rfl) :
    PE X (.Call (.Attribute o m apos) (e :: es) [] pos) (tMeth C m sp dvs E ta t) := by
  intro pins s σ H Q I h
  refine PySem.W.methodCall_KW (pl := pl) (thn (he pins s σ H _ I h) fun u s1 ⟨x, H1, I1, rx, a, dx, fs, ex, ea, l, q⟩ => ?_) ht
  subst ex
  obtain rfl : u = Value.ref a := rx
  refine getmeth_ok I1 ea c hm l ?_
  refine PySem.W.callWith_K (first := [.ref a]) (h₀ := X.base) I.ok.mod.kin hm.kp (thn (ha pos pins s1 σ H1 _ I1 q) fun us s2 ⟨vs, H2, I2, r, q2⟩ => ⟨I2.kIn, ?_⟩) hst hpl
  exact run_fn (us := .ref a :: us) (vs := .ref a :: vs) F hr hb hd hx I2 (.cons rfl r) q2
/-- o.m() -/
theorem pe_meth0 {pl : Sem Bool} (he : PE X o ta) (c : Cls X.K C) (hm : Meth X.K C m f) (F : FnOk X.prog X.w X.K X.mg X.base CX k f fd ps sp) (hr : Room k X.A) (hb : Binds X.K fd ps ds) (hd : Vals dvs ds) (hx : Passes CX X E)
    (ht : eval (.Call (.Attribute o m apos) [] [] pos) X.env = (do
      let ov ← eval o X.env
      standAt apos.atName
      let (f, first) ← holding [ov] (getMethod ov m pl)
      callWith pos f first (backTo pos (starEach [] X.env)) (backToKw pos (keywordEach [] X.env))) := by rfl) :
    PE X (.Call (.Attribute o m apos) [] [] pos) (tMeth C m sp dvs E ta tNil) := by
  intro pins s σ H Q I h
  refine PySem.W.methodCall_KW (pl := pl) (thn (he pins s σ H _ I h) fun u s1 ⟨x, H1, I1, rx, a, dx, fs, ex, ea, l, q⟩ => ?_) ht
  subst ex
  obtain rfl : u = Value.ref a := rx
  refine getmeth_ok I1 ea c hm l ?_
  exact PySem.W.callWith_K0 (first := [.ref a]) I1.kIn hm.kp (run_fn (us := [.ref a]) (vs := [.ref a]) F hr hb hd hx I1 (.cons rfl .nil) q)

/-- what a class must have to be made -/
structure Mk (K : PySem.W.Frag) (C f : Addr) : Prop where
  makes : PySem.W.makesIn K C = true
  init : PySem.W.findIn K (.ref C) "__init__" = some (some (.ref f))
  fn : PySem.W.isFn K (.ref f) = true
  kp : PySem.W.keepIn K (.ref C) = true

theorem run_make {pins : List (Addr × Obj)} {σ : St} {H : Hp} {s : Shared} {Q : VK} {us : List Value} {vs : List V} (M : Mk X.K C f) (F : FnOk X.prog X.w X.K X.mg X.base CX k f fd ps sp) (hr : Room (k + 1) X.A) (hb : Binds X.K fd ps ds) (hd : Vals dvs ds)
    (hx : Passes CX X E) (I : Inv X pins σ H s) (r : Vals vs us)
    (h : ∀ x dx, H x = none → H dx = none → dx ≠ x → sp (.ref x :: (vs ++ dvs)) (upd (upd H dx (.own x)) x (.ins C dx [])) (fun v H2 => v = .non ∧ Q (.ref x) H2) E) :
    wpAny (model X.prog X.w) X.A (call (.ref C) us) (EP X pins σ Q) X.xe s := by
  have hq := h (s.heap.objs.size + 1) s.heap.objs.size (I.hok.fresh (Nat.le_succ _)) (I.hok.fresh (Nat.le_refl _)) (Nat.ne_of_lt (Nat.lt_succ_self _))
  have I2 := Inv.made (C := C) I
  have r2 : Vals (V.ref (s.heap.objs.size + 1) :: (vs ++ dvs)) (Value.ref (s.heap.objs.size + 1) :: (us ++ ds)) := .cons rfl (r.append hd)
  have hl : (Value.ref (s.heap.objs.size + 1) :: us ++ ds).length = ps.length := by
    have e := r2.length
    rw [F.len _ _ _ _ hq] at e
    exact e.symm
  refine wpAny_call (make_map (f := f) I.kIn M.makes M.init (beq_iff_eq.mp M.fn) (codeAny_mono (F.run _ X.stack _ _ ⟨Value.ref (s.heap.objs.size + 1) :: us, []⟩ (Value.ref (s.heap.objs.size + 1) :: (us ++ ds)) _ _ E (hr.make C us [])
    (I2.env0.make C us []) (hb _ (Value.ref (s.heap.objs.size + 1) :: us) I2.kIn hl) r2 hq) fun r s' hq' => ?_))
  cases r with
  | error e => exact hx pins σ _ _ e s' I2 hq'
  | ok fl =>
    cases fl with
    | ret u =>
      obtain ⟨v, H', I3, rv, ev, q3⟩ := I2.after hq'
      subst ev
      exact ⟨rv, ⟨V.ref (s.heap.objs.size + 1), H', I3, rfl, q3⟩⟩
    | next => exact False.elim hq'
    | brk => exact False.elim hq'
    | cont => exact False.elim hq'
theorem pe_make (M : Mk X.K C f) (F : FnOk X.prog X.w X.K X.mg X.base CX k f fd ps sp) (hr : Room (k + 1) X.A) (hg : Gl X x) (hm : X.mg x = some (.ref C)) (hb : Binds X.K fd ps ds) (hd : Vals dvs ds) (hx : Passes CX X E)
    (ha : PA X (e :: es) t) (hdb : (x == ("__debug__" : Str)) = false := by decide) (he : starEach (e :: es) X.env = (false, eval e X.env) :: starEach es X.env := by rfl) (hpl : (backTo pos (starEach es X.env)).any (·.1) = false := by rfl) :
    PE X (.Call (.Name x p) (e :: es) [] pos) (tMake C sp dvs E t) := by
  intro pins s σ H Q I h
  refine wpAny_Call_Name_kw (ld_glob I hg hm ?_ hdb)
  refine PySem.W.callWith_K (h₀ := X.base) I.ok.mod.kin M.kp (thn (ha pos pins s σ H _ I h) fun us s1 ⟨vs, H1, I1, r, q⟩ => ⟨I1.kIn, ?_⟩) he hpl
  exact run_make M F hr hb hd hx I1 r q
theorem pe_make0 (M : Mk X.K C f) (F : FnOk X.prog X.w X.K X.mg X.base CX k f fd ps sp) (hr : Room (k + 1) X.A) (hg : Gl X x) (hm : X.mg x = some (.ref C)) (hb : Binds X.K fd ps ds) (hd : Vals dvs ds) (hx : Passes CX X E)
    (hdb : (x == ("__debug__" : Str)) = false := by decide) : PE X (.Call (.Name x p) [] [] pos) (tMake C sp dvs E tNil) := by
  intro pins s σ H Q I h
  refine wpAny_Call_Name_kw (ld_glob I hg hm ?_ hdb)
  exact PySem.W.callWith_K0 I.kIn M.kp (run_make (us := []) M F hr hb hd hx I .nil h)
end

/-! ### keywords -/
/-- the values of the keywords, from the left -/
def PK (X : Cx) (kws : List Keyword) (t : TA) : Prop :=
  ∀ (pos : Pos) (pins : List (Addr × Obj)) (s : Shared) (σ : St) (H : Hp) (Q : List V → Hp → Prop), Inv X pins σ H s → t σ H Q → wpAny (model X.prog X.w) X.A (evalAll ((backToKw pos (keywordEach kws X.env)).map (·.2))) (AP X pins σ Q) X.xe s
section
variable {X : Cx} {CX : CXT} {k : Nat} {f C : Addr} {fd : FuncData} {ps ks : List Str} {sp : Sp} {E : XK} {x m : Str} {p pos apos kpos : Pos} {e o : Expr} {es : List Expr} {kws : List Keyword} {te ta : TE} {t tk : TA} {nm : Option Str}
theorem pk_nil : PK X [] tNil := fun _ _ _ _ H Q I h => wpAny_evalAll_nil ⟨[], H, I, .nil, h⟩
theorem pk_cons (ha : PE X e te) (hr : PK X kws t) : PK X (⟨nm, e, kpos⟩ :: kws) (tCons te t) := by
  intro pos pins s σ H Q I h
  show wpAny _ _ (evalAll ((do let v ← eval e X.env; standAt pos; pure v) :: (backToKw pos (keywordEach kws X.env)).map (·.2))) _ _ s
  refine wpAny_evalAll_cons (wpAny_bind (thn (ha pins s σ H _ I h) fun u s1 ⟨x, H1, I1, r1, q1⟩ => wpAny_bind (wpAny_standAt (wpAny_pure ?_))))
  exact thn (hr pos pins s1 σ H1 _ I1 q1) fun us s2 ⟨xs, H2, I2, r2, q2⟩ => ⟨x :: xs, H2, I2, .cons r1 r2, q2⟩

/-- how a call with keywords binds: g puts the positional values us and the keywords' values ws (names ks) in the parameters' order, defaults among them -/
structure KBinds (K : PySem.W.Frag) (fd : FuncData) (ps ks : List Str) (g : List Value → List Value → List Value) (gV : List V → List V → List V) : Prop where
  to : ∀ (s : Shared) (us ws : List Value), K.In s.heap → (g us ws).length = ps.length → BindsTo s fd ⟨us, ks.zip ws⟩ (ps.zip (g us ws))
  rel : ∀ {vs : List V} {us : List Value} {zs : List V} {ws : List Value}, Vals vs us → Vals zs ws → Vals (gV vs zs) (g us ws)
def tCallK (sp : Sp) (gV : List V → List V → List V) (E : XK) (t tk : TA) : TE := fun σ H Q => t σ H fun vs H1 => tk σ H1 fun zs H2 => sp (gV vs zs) H2 Q E
variable {g : List Value → List Value → List Value} {gV : List V → List V → List V}
theorem run_fnk {pins : List (Addr × Obj)} {σ : St} {H : Hp} {s : Shared} {Q : VK} {us ws : List Value} {vs zs : List V} (F : FnOk X.prog X.w X.K X.mg X.base CX k f fd ps sp) (hr : Room k X.A) (hb : KBinds X.K fd ps ks g gV) (hx : Passes CX X E)
    (I : Inv X pins σ H s) (r : Vals vs us) (rz : Vals zs ws) (h : sp (gV vs zs) H Q E) : wpAny (model X.prog X.w) X.A (call (.ref f) us (ks.zip ws)) (EP X pins σ Q) X.xe s := by
  have r2 := hb.rel r rz
  have hl : (g us ws).length = ps.length := by rw [← r2.length]; exact F.len _ _ _ _ h
  refine wpAny_call (codeAny_mono (F.run X.A X.stack s H ⟨us, ks.zip ws⟩ (g us ws) (gV vs zs) Q E hr I.env0 (hb.to s us ws I.kIn hl) r2 h) fun r s' hq => ?_)
  cases r with
  | error e => exact hx pins σ H s e s' I hq
  | ok fl =>
    cases fl with
    | ret u => exact I.after hq
    | next => exact False.elim hq
    | brk => exact False.elim hq
    | cont => exact False.elim hq
/-- f(e, .., k = v, ..) -/
theorem pe_callK (F : FnOk X.prog X.w X.K X.mg X.base CX k f fd ps sp) (hr : Room k X.A) (hg : Gl X x) (hm : X.mg x = some (.ref f)) (hk : PySem.W.keepIn X.K (.ref f) = true) (hb : KBinds X.K fd ps ks g gV) (hx : Passes CX X E)
    (ha : PA X (e :: es) t) (hkw : PK X kws tk) (hall : (backToKw pos (keywordEach kws X.env)).all (·.1.isSome) = true := by rfl) (hks : (backToKw pos (keywordEach kws X.env)).filterMap (·.1) = ks := by rfl)
    (hdb : (x == ("__debug__" : Str)) = false := by decide) (he : starEach (e :: es) X.env = (false, eval e X.env) :: starEach es X.env := by rfl)
    (hpl : ((backTo pos (starEach (e :: es) X.env)).any (·.1) || (backToKw pos (keywordEach kws X.env)).any (·.1.isNone)) = false := by rfl) :
    PE X (.Call (.Name x p) (e :: es) kws pos) (tCallK sp gV E t tk) := by
  intro pins s σ H Q I h
  refine wpAny_Call_Name_kw (ld_glob I hg hm ?_ hdb)
  refine PySem.W.callWith_KW (h₀ := X.base) I.ok.mod.kin hk hall (thn (ha pos pins s σ H _ I h) fun us s1 ⟨vs, H1, I1, r, q⟩ => ?_) hpl he
  refine thn (hkw pos pins s1 σ H1 _ I1 q) fun ws s2 ⟨zs, H2, I2, rz, q2⟩ => ⟨I2.kIn, ?_⟩
  rw [hks]
  exact run_fnk F hr hb hx I2 r rz q2
end

/-! ### a def's body keeps its promise -/
/-- names: the parameters first -/
structure FnScope (N P : List Str) (sc : Scope) : Prop where
  kind : sc.kind = .function
  co : sc.isCoroutine = false
  gen : sc.isGenerator = false
  nd : N.Nodup
  pre : N.take P.length = P
  par : ∀ x ∈ P, sc.names.lookup x = some .local ∨ sc.names.lookup x = some .cell
  nofree : ∀ y ∈ sc.names, y.2 ≠ .free

theorem bindL_out {kindOf : Str → Option NameKind} {x : Str} : ∀ {binds : List (Str × Value)} {m : Str → Option Value}, (∀ v, (x, v) ∉ binds) → bindL kindOf binds m x = m x
  | [], _, _ => rfl
  | (n, v) :: r, m, h => by
    unfold bindL
    rw [bindL_out fun w hw => h w (List.mem_cons_of_mem _ hw)]
    split
    · have : x ≠ n := by rintro rfl; exact h v List.mem_cons_self
      simp [this]
    · rfl
theorem bindC_out {kindOf : Str → Option NameKind} {x : Str} : ∀ {binds : List (Str × Value)} {m : Str → Option Value}, (∀ v, (x, v) ∉ binds) → bindC kindOf binds m x = m x
  | [], _, _ => rfl
  | (n, v) :: r, m, h => by
    unfold bindC
    rw [bindC_out fun w hw => h w (List.mem_cons_of_mem _ hw)]
    split
    · rfl
    · have : x ≠ n := by rintro rfl; exact h v List.mem_cons_self
      simp [this]
theorem bindL_get {kindOf : Str → Option NameKind} {x : Str} {v : Value} : ∀ {P : List Str} {vs : List Value} {i : Nat} {m : Str → Option Value}, P.Nodup → P[i]? = some x → vs[i]? = some v → kindOf x = some .local →
    bindL kindOf (P.zip vs) m x = some v
  | [], _, _, _, _, h, _, _ => by simp at h
  | _ :: _, [], _, _, _, _, h, _ => by simp at h
  | p :: P, w :: vs, 0, m, nd, h1, h2, hk => by
    simp at h1 h2; subst h1; subst h2
    show bindL kindOf ((p, w) :: P.zip vs) m p = _
    unfold bindL
    rw [bindL_out fun v hv => (List.nodup_cons.mp nd).1 (List.of_mem_zip hv).1, if_pos hk]
    simp
  | p :: P, w :: vs, i + 1, m, nd, h1, h2, hk => by
    show bindL kindOf ((p, w) :: P.zip vs) m x = _
    unfold bindL
    exact bindL_get (i := i) (List.nodup_cons.mp nd).2 (by simpa using h1) (by simpa using h2) hk
theorem bindC_get {kindOf : Str → Option NameKind} {x : Str} {v : Value} : ∀ {P : List Str} {vs : List Value} {i : Nat} {m : Str → Option Value}, P.Nodup → P[i]? = some x → vs[i]? = some v → kindOf x ≠ some .local →
    bindC kindOf (P.zip vs) m x = some v
  | [], _, _, _, _, h, _, _ => by simp at h
  | _ :: _, [], _, _, _, _, h, _ => by simp at h
  | p :: P, w :: vs, 0, m, nd, h1, h2, hk => by
    simp at h1 h2; subst h1; subst h2
    show bindC kindOf ((p, w) :: P.zip vs) m p = _
    unfold bindC
    rw [bindC_out fun v hv => (List.nodup_cons.mp nd).1 (List.of_mem_zip hv).1, if_neg hk]
    simp
  | p :: P, w :: vs, i + 1, m, nd, h1, h2, hk => by
    show bindC kindOf ((p, w) :: P.zip vs) m x = _
    unfold bindC
    exact bindC_get (i := i) (List.nodup_cons.mp nd).2 (by simpa using h1) (by simpa using h2) hk

/-- the names' values at the entry -/
def start (N : List Str) (vs : List V) : St := vs.map some ++ List.replicate (N.length - vs.length) none

/-- the context of a def's body, at its entry; an exception leaves the frame, then lies as CX says -/
def cxOf (CX : CXT) (P : Program) (w : World) (K : PySem.W.Frag) (mg : Str → Option Value) (base : Heap) (N : List Str) (qual : Str) (scope : Scope) (f : Addr) (cd : Value) (A : Around) (outer : List Env) (s : Shared) (H : Hp) (E : XK) : Cx where
  prog := P
  w := w
  K := K
  mg := mg
  base := base
  A := A.deeper (envOfC qual scope s.heap.objs.size f cd)
  N := N
  s₀ := s
  H₀ := H
  env := envOfC qual scope s.heap.objs.size f cd
  outer := outer
  stack := envOfC qual scope s.heap.objs.size f cd :: outer
  ex := []
  calm := true
  fn := fun _ => true
  pn := []
  xe := fun e s' => wpAny (model P w) (A.deeper (envOfC qual scope s.heap.objs.size f cd)) (leaving (envOfC qual scope s.heap.objs.size f cd) e) (fun _ s'' => CX outer H s E e s'') (fun e' s'' => CX outer H s E e' s'') s'

theorem cell_has {sc : Scope} {n : Nat} {x : Str} (h : sc.names.lookup x = some .cell) : ∃ c, (cellsFrom n sc.names []).lookup x = some c := by
  have q := PySem.W.cellsFrom_some sc.names n [] (.inl h)
  exact Option.isSome_iff_exists.mp q

theorem inv_start {CX : CXT} {P : Program} {w : World} {K : PySem.W.Frag} {mg : Str → Option Value} {base : Heap} {N ps : List Str} {qual : Str} {scope : Scope} {f : Addr} {cd : Value} {A : Around} {outer : List Env} {s s1 : Shared} {H : Hp} {E : XK} {us : List Value} {vs : List V}
    (S : FnScope N ps scope) (hd : A.handled = none) (e0 : Env0 P w K mg base A outer s H) (hl : vs.length = ps.length) (r : Vals vs us)
    (x : InCallC s s.heap.objs.size (bindL (envOfC qual scope s.heap.objs.size f cd).kindOf (ps.zip us) fun _ => none) (cellsFrom (s.heap.objs.size + 1) scope.names []) (bindC (envOfC qual scope s.heap.objs.size f cd).kindOf (ps.zip us) fun _ => none) s1) :
    Inv (cxOf CX P w K mg base N qual scope f cd A outer s H E) [] (start N vs) H s1 := by
  have hpl : ps.length ≤ N.length := by have := congrArg List.length S.pre; rw [List.length_take] at this; omega
  obtain ⟨h1, tk, rfl, hk⟩ := x.done
  have noA : ∀ b : Addr, b ∉ (cxOf CX P w K mg base N qual scope f cd A outer s H E).ex := fun b z => absurd (show b ∈ ([] : List Addr) from z) (by simp)
  refine ⟨⟨e0.mod, S.kind, rfl, rfl, Nat.le_refl _, fun y z c h1 h2 => ?_, fun y hy => ?_, fun y c _ h => ?_, fun _ => hd, Around.frames_deeper e0.frames, .inr ⟨rfl, rfl⟩, fun b z => absurd z (noA b), e0.bs, e0.bsz, fun b _ _ => noA b, fun b z => absurd z (noA b), e0.funs, e0.frf⟩,
    rfl, e0.bare, Un.kept hk, ⟨_, x.toInCall.ns, fun i y v h1 h2 h3 => ?_⟩, fun y c h => ⟨_, x.cell y c h⟩, e0.hok.fresh (Nat.le_refl _), fun y c h => ?_, fun p hp => absurd (show p ∈ ([] : List (Addr × Obj)) from hp) (by simp), e0.hok.kept hk, ?_⟩
  · exact name_of_addr x.apart (PySem.mem_of_lookup h1) (PySem.mem_of_lookup h2)
  · have hy : scope.names.lookup y = some .cell ∨ scope.names.lookup y = some .free := hy
    rcases hy with hy | hy
    · exact cell_has hy
    · exact absurd rfl (S.nofree _ (PySem.mem_of_lookup hy))
  · exact Nat.le_of_lt (x.above y c (PySem.mem_of_lookup h))
  · have hi : i < vs.length := by
      unfold start at h2
      by_cases hi : i < vs.length
      · exact hi
      · rw [List.getElem?_append_right (by simpa using hi)] at h2
        rw [List.getElem?_replicate] at h2
        split at h2 <;> cases h2
    have ha : vs[i]? = some v := by
      unfold start at h2
      rw [List.getElem?_append_left (by simpa using hi), List.getElem?_map] at h2
      cases e : vs[i]? with
      | none => rw [e] at h2; cases h2
      | some a => rw [e] at h2; cases h2; rfl
    obtain ⟨u, hu, rv⟩ := r.get ha
    have hp : ps[i]? = some y := by
      rw [← S.pre, List.getElem?_take_of_lt (by omega)]; exact h1
    have ndP : ps.Nodup := by rw [← S.pre]; exact S.nd.sublist (List.take_sublist _ _)
    refine ⟨u, rv, ?_⟩
    rcases S.par y (List.mem_of_getElem? hp) with k | k
    · exact .inl ⟨k, bindL_get ndP hp hu k⟩
    · obtain ⟨c, e⟩ := cell_has (n := s.heap.objs.size + 1) k
      refine .inr ⟨.inl k, c, e, ?_⟩
      have q := x.cell y c e
      rw [bindC_get ndP hp hu (by show scope.names.lookup y ≠ _; rw [k]; decide)] at q
      exact q
  · exact e0.hok.fresh (Nat.le_of_lt (x.above y c (PySem.mem_of_lookup h)))
  · unfold start
    show _ = N.length
    rw [List.length_append, List.length_map, List.length_replicate]
    omega

/-- THE RULE: a def (or a method) of the text, by its body. The body's reading t is chosen for each entry; it is run at the parameters' values -/
theorem fn_of {CX : CXT} {P : Program} {w : World} {K : PySem.W.Frag} {mg : Str → Option Value} {base : Heap} {k : Nat} {f : Addr} {name qual : Str} {params : Arguments} {body : List Stmt} {scope : Scope} {dV kV doc pm cdv ct oc : Value} {an od : Option Addr}
    {osl : Array (Option Value)} {N ps : List Str} {sp : Sp} (lk : K.lookup f = some ⟨oc, od, .func (PySem.W.fnOf name qual params body scope dV kV doc pm an cdv ct), osl⟩) (hcd : PySem.W.codeIn K cdv qual = true) (S : FnScope N ps scope)
    (len : ∀ vs H Q E, sp vs H Q E → vs.length = ps.length)
    (hbody : ∀ (A : Around) (outer : List Env) (s : Shared) (H : Hp) (vs : List V) (Q : VK) (E : XK), Room k (A.deeper (envOfC qual scope s.heap.objs.size f cdv)) → sp vs H Q E →
      ∃ t, PSs (cxOf CX P w K mg base N qual scope f cdv A outer s H E) body t ∧ t { nx := fun _ H' => Q .non H', rt := Q } (start N vs) H) :
    FnOk P w K mg base CX (k + 1) f (PySem.W.fnOf name qual params body scope dV kV doc pm an cdv ct) ps sp := by
  refine ⟨len, fun A outer s H args us vs Q E hr e0 hb r hsp => ?_⟩
  have hl := len _ _ _ _ hsp
  have KX : K.In s.heap := e0.mod.kin.keeps fun b o e => (e0.bs b o e).1
  have lim : s.heap.NoLimit := e0.mod.nolimit.keeps fun b o e => (e0.bs b o e).1
  have hkind : ∀ y ∈ ps.zip us, scope.names.lookup y.1 = some .local ∨ (scope.names.lookup y.1 = some .cell ∧ ((cellsFrom (s.heap.objs.size + 1) scope.names []).lookup y.1).isSome = true) := fun ⟨n, v⟩ hy => by
    rcases S.par n (List.of_mem_zip hy).1 with q | q
    · exact .inl q
    · exact .inr ⟨q, PySem.W.cellsFrom_some _ _ _ (.inl q)⟩
  refine codeAny_call_function hr.depth (KX _ _ lk) rfl S.co S.gen rfl (PySem.W.codeRec_of KX hcd) (hb _ _ _ _ ?_)
  refine wpAny_newFunctionEnv_cells S.kind hkind fun env he s1 x => ?_
  subst he
  refine ⟨lim.keeps x.toInCall.keep, codeAny_func ?_⟩
  obtain ⟨t, ht, hq⟩ := hbody A outer s H vs Q E (hr.deeper _) hsp
  have I : Inv (cxOf CX P w K mg base N qual scope f cdv A outer s H E) [] (start N vs) H s1 := inv_start S hr.hd e0 hl r x
  refine wpAny_mono (ht [] s1 (start N vs) H _ I hq) (fun fl s' hs => ?_) fun e s' hs => hs
  have fin : ∀ {σ' : St} {H' : Hp} {v : V} {u : Value}, Inv (cxOf CX P w K mg base N qual scope f cdv A outer s H E) [] σ' H' s' → RelV v u → Q v H' → CE outer P w H s Q u s' :=
    fun {σ' H' v u} J rv q => ⟨v, H', J.os, J.bare, J.base, J.hok, rv, q⟩
  cases fl with
  | ret u =>
    obtain ⟨v, σ', H', J, rv, q⟩ := hs
    exact fin J rv q
  | next =>
    obtain ⟨σ', H', J, q⟩ := hs
    exact fin (v := V.non) (u := Value.none) J rfl q
  | brk =>
    obtain ⟨_, _, _, q⟩ := hs
    exact False.elim q
  | cont =>
    obtain ⟨_, _, _, q⟩ := hs
    exact False.elim q
end L2

namespace L2
open PySem PySem.Spec PyProof.Rows
section
variable {X : Cx} {x : Str} {p pos : Pos} {e : Expr} {es : List Expr} {t : TA} {id T : String} {r : List V → Hp → VK → Prop}

def tCB (r : List V → Hp → VK → Prop) (t : TA) : TE := fun σ H Q => t σ H fun vs H1 => r vs H1 Q
/-- f(e, ..), f a built-in function -/
theorem pe_callB (hc : CallR X (.builtin id) r) (hg : Gl X x) (hm : X.mg x = none) (hv : bootBuiltins x = some (.builtin id)) (ha : PA X (e :: es) t) (hn : x ≠ "__name__" := by decide) (hdb : (x == ("__debug__" : Str)) = false := by decide)
    (he : starEach (e :: es) X.env = (false, eval e X.env) :: starEach es X.env := by rfl) (hpl : (backTo pos (starEach es X.env)).any (·.1) = false := by rfl) : PE X (.Call (.Name x p) (e :: es) [] pos) (tCB r t) := by
  intro pins s σ H Q I h
  refine wpAny_Call_Name_kw (ld_blt I hg hm hv ?_ hn hdb)
  exact PyProof.Rows.callWith_builtin1 (thn (ha pos pins s σ H _ I h) fun us s1 ⟨vs, H1, I1, r1, q1⟩ => hc pins s1 σ H1 vs us Q I1 r1 q1) he hpl
/-- T(e, ..), T a built-in type -/
theorem pe_callTy (hc : CallR X (.type T) r) (hg : Gl X x) (hm : X.mg x = none) (hv : bootBuiltins x = some (.type T)) (ha : PA X (e :: es) t) (hn : x ≠ "__name__" := by decide) (hdb : (x == ("__debug__" : Str)) = false := by decide)
    (he : starEach (e :: es) X.env = (false, eval e X.env) :: starEach es X.env := by rfl) (hpl : (backTo pos (starEach es X.env)).any (·.1) = false := by rfl) : PE X (.Call (.Name x p) (e :: es) [] pos) (tCB r t) := by
  intro pins s σ H Q I h
  refine wpAny_Call_Name_kw (ld_blt I hg hm hv ?_ hn hdb)
  exact PyProof.Rows.callWith_type1 (thn (ha pos pins s σ H _ I h) fun us s1 ⟨vs, H1, I1, r1, q1⟩ => hc pins s1 σ H1 vs us Q I1 r1 q1) he hpl
/-- T() -/
theorem pe_callTy0 (hc : CallR X (.type T) r) (hg : Gl X x) (hm : X.mg x = none) (hv : bootBuiltins x = some (.type T)) (hn : x ≠ "__name__" := by decide) (hdb : (x == ("__debug__" : Str)) = false := by decide) :
    PE X (.Call (.Name x p) [] [] pos) (tCB r tNil) := by
  intro pins s σ H Q I h
  refine wpAny_Call_Name_kw (ld_blt I hg hm hv ?_ hn hdb)
  exact PyProof.Rows.callWith_type0 (hc pins s σ H [] [] Q I .nil h)
end
end L2

namespace HT
open PySem PyProof.Rows

/-- t < u of tuples of ints -/
def lexLt : List Int → List Int → Bool
  | [], [] => false
  | [], _ :: _ => true
  | _ :: _, [] => false
  | x :: xs, y :: ys => if x = y then lexLt xs ys else decide (x < y)
theorem lexLt_cons (x y : Int) (xs ys : List Int) : lexLt (x :: xs) (y :: ys) = if x = y then lexLt xs ys else decide (x < y) := rfl
theorem lexLt_nil_nil : lexLt [] [] = false := rfl
theorem lexLt_nil_cons (y : Int) (ys : List Int) : lexLt [] (y :: ys) = true := rfl
theorem lexLt_cons_nil (x : Int) (xs : List Int) : lexLt (x :: xs) [] = false := rfl

theorem eqAt_int (A : Around) (s : Shared) (a : Int) (t : Tok) (c : Int) (u : Tok) : ∃ e, SeqAt.EqAt A s (.int a t) (.int c u) e ∧ (e = true ↔ a = c) :=
  ⟨(a == c), SeqAt.EqAt.int_int a t c u, by simp⟩
theorem rcLt_int (A : Around) (s : Shared) (a : Int) (t : Tok) (c : Int) (u : Tok) (prog : Program) (w : World) (E : Value → Shared → Prop) (Q : Value → Shared → Prop) (h : Q (.bool (decide (a < c))) s) :
    wpAny (model prog w) A (richCompare .Lt (.int a t) (.int c u)) Q E s :=
  (PyProof.Rows.lt_int h : wpAny (model prog w) A (compareOp .Lt (.int a t) (.int c u)) Q E s)

section
open PySem.SeqAt
open PySem.AutoSeq1 (wpAny_loadPart')
open PySem.MeetsSeq PySem.MeetsSeq2 PySem.MeetsSeq3

theorem tuple_lt_ints (l b : Addr) (items items2 : Array Value) (n n2 : Nat) (dd dd2 : Option Addr) (sl sl2 : Array (Option Value)) (ns ms : List Int) (hi : IntsAre items.toList ns) (hj : IntsAre items2.toList ms) :
    Meets (Builtin.«tuple.__lt__» ⟨[.ref l, .ref b], []⟩)
      (fun _ R s => s.heap.get? l = some { cls := .type "tuple", dict := dd, data := .seq items n, slots := sl } ∧ s.heap.get? b = some { cls := .type "tuple", dict := dd2, data := .seq items2 n2, slots := sl2 } ∧
        R (.ok (.ret (.bool (lexLt ns ms)))) s) :=
  .of_wp fun prog w A R s h => by
    obtain ⟨hp, g, d, tk, os⟩ := s; obtain ⟨hl, hb, h⟩ := h
    have f2 := AutoSeq1.sub_tuple_tuple
    have z1 : items.size = ns.length := by rw [← hi.length]; simp
    have z2 : items2.size = ms.length := by rw [← hj.length]; simp
    wp_walk using wpAny_loadPart' hl, wpAny_loadPart' hb, wpAny_forIn_list _ (fun rest b s' => b.1 = none ∧ s' = ⟨hp, g, d, tk, os⟩ ∧ ∃ (vs ws : List Value) (ns' ms' : List Int), rest = vs.zip ws ∧
      IntsAre vs ns' ∧ IntsAre ws ms' ∧ ns'.length + items2.size = ms'.length + items.size ∧ R (.ok (.ret (.bool (lexLt ns' ms')))) ⟨hp, g, d, tk, os⟩) _
    case turn =>
      rintro ⟨y, x⟩ rest b s' ⟨hb', rfl, vs, ws, ns', ms', hz, hvi, hwi, hlen, hR⟩
      cases hvi with
      | nil => rw [List.zip_nil_left] at hz; cases hz
      | cons a t hvi' =>
        cases hwi with
        | nil => rw [List.zip_nil_right] at hz; cases hz
        | cons c u hwi' =>
          rw [List.zip_cons_cons] at hz
          injection hz with hyx hrest
          injection hyx with hy hx
          subst hy hx
          rw [lexLt_cons] at hR
          simp only [List.length_cons] at hlen
          obtain ⟨e, he, hiff⟩ := eqAt_int A.in1 ⟨hp, g, d, tk, os⟩ a t c u
          refine wpAny_bind (he prog w _ _ ?_)
          cases e with
          | true =>
            rw [if_pos (hiff.mp rfl)] at hR
            wp_walk
            exact ⟨rfl, rfl, _, _, _, _, hrest, hvi', hwi', by omega, hR⟩
          | false =>
            rw [if_neg (fun q => absurd (hiff.mpr q) Bool.false_ne_true)] at hR
            have hri := rcLt_int A.in1 ⟨hp, g, d, tk, os⟩ a t c u prog w
            wp_walk using hri
            exact ⟨_, rfl, by simpa using hR⟩
    case fin =>
      rintro ⟨b1, b2⟩ s' ⟨hb', rfl, vs, ws, ns', ms', hz, hvi, hwi, hlen, hR⟩
      simp only at hb'
      subst hb'
      have hv : lexLt ns' ms' = decide (items.size < items2.size) := by
        cases hvi with
        | nil =>
          cases hwi with
          | nil =>
            simp only [List.length_nil] at hlen
            rw [lexLt_nil_nil]
            exact (decide_eq_false (by omega)).symm
          | cons c u hw =>
            simp only [List.length_nil, List.length_cons] at hlen
            rw [lexLt_nil_cons]
            exact (decide_eq_true (by omega)).symm
        | cons a t hv =>
          cases hwi with
          | nil =>
            simp only [List.length_nil, List.length_cons] at hlen
            rw [lexLt_cons_nil]
            exact (decide_eq_false (by omega)).symm
          | cons c u hw =>
            rw [List.zip_cons_cons] at hz
            cases hz
      rw [hv] at hR
      wp_walk
      exact ⟨_, rfl, by simpa [Builtin.Tuple.tupleCompareSizes] using hR⟩
    case h =>
      exact ⟨rfl, rfl, items.toList, items2.toList, ns, ms, rfl, hi, hj, by omega, h⟩
end

section
variable {prog : Program} {w : World} {A : Around} {E : Value → Shared → Prop} {s : Shared}

theorem lt_tupInts {l b : Addr} {items items2 : Array Value} {ns ms : List Int} {Q : Value → Shared → Prop} (hl : IsTup s.heap l items) (hb : IsTup s.heap b items2) (hi : IntsAre items.toList ns) (hj : IntsAre items2.toList ms)
    (hu : A.units < cLine) (h : Q (.bool (lexLt ns ms)) s) : wpAny (model prog w) A (compareOp .Lt (.ref l) (.ref b)) Q E s := by
  obtain ⟨⟨cls, dd, data, sl⟩, ho, hc, n, hd⟩ := id hl
  obtain ⟨⟨cls2, dd2, data2, sl2⟩, ho2, hc2, n2, hd2⟩ := id hb
  simp only at hc hd hc2 hd2
  subst hc hd hc2 hd2
  exact richCompare_meets_room (op := .Lt) ⟨_, ho, rfl⟩ ⟨_, ho2, rfl⟩ PySem.F.slot_tuple_lt PySem.F.entry_tuple_lt (PySem.F.args_tuple_lt_2 _ _) (tuple_lt_ints l b items items2 n n2 dd dd2 sl sl2 ns ms hi hj)
    ⟨ho, ho2, show Value.bool (lexLt ns ms) ≠ Value.notImplemented ∧ Q (.bool (lexLt ns ms)) s from ⟨(fun x => nomatch x), h⟩⟩ hu

/-- t + u, t not empty -/
theorem cat_tup {t b : Addr} {vs ws : List Value} {Q : Value → Shared → Prop} (ht : IsTup s.heap t vs.toArray) (hb : IsTup s.heap b ws.toArray) (hv : vs ≠ [])
    (h1 : ws = [] → Q (.ref t) s) (h2 : ws ≠ [] → Q (.ref s.heap.objs.size) { s with heap := s.heap.push { cls := .type "tuple", data := .seq (vs ++ ws).toArray } })
    (hsz : vs.length + ws.length ≤ sizeLine) : wpAny (model prog w) A (binaryOp .Add (.ref t) (.ref b)) Q E s := by
  obtain ⟨⟨cls, dd, data, sl⟩, ho, hc, n, hd⟩ := id ht
  obtain ⟨⟨cls2, dd2, data2, sl2⟩, ho2, hc2, n2, hd2⟩ := id hb
  simp only at hc hd hc2 hd2
  subst hc hd hc2 hd2
  have e : vs.toArray ++ ws.toArray = (vs ++ ws).toArray := by simp
  by_cases hw : ws = []
  · exact concat_meets ⟨_, ho, rfl⟩ ⟨_, ho2, rfl⟩ noFill_tuple_add seq_tuple_add PySem.F.slot_tuple_add PySem.F.entry_tuple_add (PySem.F.args_tuple_add_2 _ _)
      (tuple_addW1 t b vs.toArray ws.toArray n n2 dd dd2 sl sl2 (by simpa using hv) (by simp [hw])) ⟨ho, ho2, h1 hw⟩
  · refine concat_meets ⟨_, ho, rfl⟩ ⟨_, ho2, rfl⟩ noFill_tuple_add seq_tuple_add PySem.F.slot_tuple_add PySem.F.entry_tuple_add (PySem.F.args_tuple_add_2 _ _)
      (tuple_addW2 t b vs.toArray ws.toArray n n2 dd dd2 sl sl2 (by simpa using hv) (by simpa using hw) (by rw [List.size_toArray, List.size_toArray]; exact hsz)) ⟨ho, ho2, ?_⟩
    rw [e]
    exact h2 hw

/-! ### t[a:b], not the whole -/
/-- a slice's bound as a place among n (d where it is left out) -/
def sIx (n d : Nat) : Option Int → Nat
  | none => d
  | some v => if v < 0 then (v + (n : Int)).toNat else min v.toNat n
theorem sIx_none (n d : Nat) : sIx n d none = d := rfl
theorem sIx_nat (n d k : Nat) : sIx n d (some (k : Int)) = min k n := by
  show (if (k : Int) < 0 then ((k : Int) + (n : Int)).toNat else min (k : Int).toNat n) = min k n
  rw [if_neg (by omega), Int.toNat_natCast]
theorem sIx_le (n d : Nat) (hd : d ≤ n) (o : Option Int) : sIx n d o ≤ n := by
  cases o with
  | none => exact hd
  | some v =>
    show (if v < 0 then (v + (n : Int)).toNat else min v.toNat n) ≤ n
    by_cases hv : v < 0
    · rw [if_pos hv]; omega
    · rw [if_neg hv]; exact Nat.min_le_right _ _
theorem clip_eq (v : Int) (n d : Nat) : (if v < 0 then max (v + (n : Int)) 0 else min v (n : Int)) = ((sIx n d (some v) : Nat) : Int) := by
  show (if v < 0 then max (v + (n : Int)) 0 else min v (n : Int)) = (((if v < 0 then (v + (n : Int)).toNat else min v.toNat n) : Nat) : Int)
  by_cases hv : v < 0
  · simp only [if_pos hv]; omega
  · simp only [if_neg hv]; omega
theorem adjust_gen (lo hi : Option Int) (n : Nat) : Builtin.Slice.sliceAdjust lo hi 1 (n : Int) = (((sIx n 0 lo : Nat) : Int), ((sIx n n hi : Nat) : Int)) := by
  have h1 : ¬ ((1 : Int) < 0) := by omega
  unfold Builtin.Slice.sliceAdjust
  simp only [h1, if_false]
  refine Prod.ext ?_ ?_
  · cases lo with
    | none => rfl
    | some v => exact clip_eq v n 0
  · cases hi with
    | none => rfl
    | some v => exact clip_eq v n n
theorem places_gen (i j : Nat) : Builtin.Slice.slicePlaces (i : Int) (j : Int) 1 = j - i := by
  unfold Builtin.Slice.slicePlaces
  have h1 : (1 : Int) > 0 := by omega
  simp only [h1, if_true, Int.ediv_one]
  split <;> omega
theorem slicePart_ {v : Value} {o : Option Int} {Q : Option Int → Shared → Prop} (p : IsPart v o) (h : Q o s) : wpAny (model prog w) A (Builtin.Slice.slicePartIndex v) Q E s := by
  cases p with
  | none => exact slicePart_none h
  | int i t => exact slicePart_int h
theorem sliceApplied_gen {sl : Addr} {vl vu : Value} {lo hi : Option Int} {n : Nat} {Q : Int × Int × Nat → Shared → Prop} (hs : s.heap.IsSliceOf sl vl vu .none) (pl : IsPart vl lo) (pu : IsPart vu hi)
    (h : Q (((sIx n 0 lo : Nat) : Int), 1, sIx n n hi - sIx n 0 lo) s) : wpAny (model prog w) A (Builtin.Slice.sliceApplied (.ref sl) (pure (n : Int))) Q E s := by
  obtain ⟨os, hos, hcs, hds⟩ := id hs
  unfold Builtin.Slice.sliceApplied Builtin.Slice.sliceFields
  refine wpAny_bind (wpAny_bind (wpAny_field hos hds (x := vl) rfl (wpAny_bind (wpAny_field hos hds (x := vu) rfl (wpAny_bind (wpAny_field hos hds (x := .none) rfl (wpAny_pure ?_)))))))
  refine wpAny_bind (slicePart_none ?_)
  show wpAny _ _ (if ((1 : Int) == 0) = true then _ else _) _ _ s
  rw [if_neg (by decide)]
  refine wpAny_bind (slicePart_ pl (wpAny_bind (slicePart_ pu (wpAny_bind (wpAny_pure ?_)))))
  show wpAny _ _ (match Builtin.Slice.sliceAdjust lo hi 1 (n : Int) with | (lo, hi) => pure (lo, (1 : Int), Builtin.Slice.slicePlaces lo hi 1)) _ _ s
  rw [adjust_gen lo hi n]
  show wpAny _ _ (pure (((sIx n 0 lo : Nat) : Int), (1 : Int), Builtin.Slice.slicePlaces ((sIx n 0 lo : Nat) : Int) ((sIx n n hi : Nat) : Int) 1)) _ _ s
  rw [places_gen]
  exact wpAny_pure h
theorem pick_gen (xs : Array Value) (i k : Nat) : ((List.range k).filterMap fun (m : Nat) => xs[((i : Int) + (m : Int) * 1).toNat]?).toArray = ((xs.toList.drop i).take k).toArray := by
  have e : (fun (m : Nat) => xs[((i : Int) + (m : Int) * 1).toNat]?) = fun m => xs[i + m]? := by
    funext m
    have : ((i : Int) + (m : Int) * 1).toNat = i + m := by omega
    rw [this]
  rw [e]
  have := pick_run xs i k
  rw [List.filterMap_map] at this
  have e2 : ((fun x => xs[x]?) ∘ fun x => i + x) = fun m => xs[i + m]? := rfl
  rw [e2] at this
  rw [this]

theorem getItem_tuple_cut {t sl : Addr} {items : Array Value} {vl vu : Value} {lo hi : Option Int} {Q : Value → Shared → Prop} (ht : IsTup s.heap t items) (hs : s.heap.IsSliceOf sl vl vu .none) (pl : IsPart vl lo) (pu : IsPart vu hi)
    (hw : ¬ (sIx items.size 0 lo = 0 ∧ sIx items.size items.size hi = items.size))
    (h : Q (.ref s.heap.objs.size) { s with heap := s.heap.push { cls := .type "tuple", data := .seq ((items.toList.drop (sIx items.size 0 lo)).take (sIx items.size items.size hi - sIx items.size 0 lo)).toArray } })
    (hsz : items.size ≤ sizeLine) : wpAny (model prog w) A (getItem (.ref t) (.ref sl)) Q E s := by
  have htake : sizeOk (.seq ((items.toList.drop (sIx items.size 0 lo)).take (sIx items.size items.size hi - sIx items.size 0 lo)).toArray) := by
    show ((items.toList.drop (sIx items.size 0 lo)).take (sIx items.size items.size hi - sIx items.size 0 lo)).toArray.size ≤ sizeLine
    rw [List.size_toArray, List.length_take, List.length_drop, Array.length_toList]
    omega
  have hj : sIx items.size items.size hi ≤ items.size := sIx_le _ _ (Nat.le_refl _) hi
  obtain ⟨os, hos, hcs, hds⟩ := id hs
  have hTs : s.TypeIs (.ref sl) "slice" := ⟨os, hos, hcs⟩
  unfold getItem
  try with_reducible refine wpAny_holding ?_
  first | refine wpAny_bind (wpAny_pure ?_) | skip
  refine wpAny_bind (wpAny_sequenceKey ht.typeIs (by decide) ?_)
  refine wpAny_bind (wpAny_callSpecial?_slot (name := Str.ofString "__getitem__") ht.typeIs PyProof.Rows.slot_tuple_getitem
    (wpAny_call_entry PyProof.Rows.slot_tuple_getitem ht.typeIs entry_tuple_getitem ?_ (args_tuple_getitem _ _)))
  show wpAny _ _ (Builtin.Tuple.tupleItemsOf (.ref t) >>= _) _ _ s
  refine wpAny_bind (tupleItemsOf_ ht ?_)
  refine wpAny_bind (wpAny_typeOf hTs ?_)
  rw [if_pos (by decide)]
  refine wpAny_bind (sliceApplied_gen hs pl pu ?_)
  have hno : ¬ ((((sIx items.size 0 lo : Nat) : Int) == 0 && (1 : Int) == 1 && (sIx items.size items.size hi - sIx items.size 0 lo) == items.size) = true) := by
    intro q
    rw [Bool.and_eq_true, Bool.and_eq_true] at q
    have q1 : ((sIx items.size 0 lo : Nat) : Int) = 0 := eq_of_beq q.1.1
    have q2 : sIx items.size items.size hi - sIx items.size 0 lo = items.size := eq_of_beq q.2
    exact hw ⟨by omega, by omega⟩
  show wpAny _ _ (if (((sIx items.size 0 lo : Nat) : Int) == 0 && (1 : Int) == 1 && (sIx items.size items.size hi - sIx items.size 0 lo) == items.size) = true then _ else _) _ _ s
  rw [if_neg hno, pick_gen]
  first
    | exact wpAny_bind (m := Builtin.Tuple.tupleExact _) (wpAny_newObj_type (wpAny_pure ⟨_, rfl, wpAny_pure h⟩) htake)
    | exact wpAny_bind (m := Builtin.Tuple.tupleExact _) (wpAny_newObj_type (wpAny_bind (wpAny_pure (wpAny_pure ⟨_, rfl, wpAny_pure h⟩))) htake)
    | exact wpAny_bind (wpAny_bind (m := Builtin.Tuple.tupleExact _) (wpAny_newObj_type (wpAny_pure (wpAny_pure ⟨_, rfl, wpAny_pure h⟩)) htake))
    | exact wpAny_bind (wpAny_bind (m := Builtin.Tuple.tupleExact _) (wpAny_newObj_type (wpAny_pure ⟨_, rfl, wpAny_pure h⟩) htake))
end
end HT

namespace L2
open PySem PySem.Spec PyProof.Rows

/-! ### the parts of a slice -/
abbrev TO := St → Hp → (Option Int → Hp → Prop) → Prop
/-- a slice's part (left out, or an int) -/
def PO (X : Cx) (e : Option Expr) (t : TO) : Prop :=
  ∀ (pins : List (Addr × Obj)) (s : Shared) (σ : St) (H : Hp) (Q : Option Int → Hp → Prop), Inv X pins σ H s → t σ H Q →
    wpAny (model X.prog X.w) X.A (evalPart e X.env) (fun u s' => ∃ o H', Inv X pins σ H' s' ∧ IsPart u o ∧ Q o H') X.xe s
def tNoPart : TO := fun _ H Q => Q none H
def tPart (t : TE) : TO := fun σ H Q => t σ H fun x H1 => ∃ i, x = .int i ∧ Q (some i) H1

theorem intsAre_of {ns : List Int} : ∀ {us : List Value}, Vals (ns.map V.int) us → IntsAre us ns := by
  induction ns with
  | nil => intro us r; rw [List.map_nil] at r; cases r; exact .nil
  | cons n ns ih =>
    intro us r
    rw [List.map_cons] at r
    cases r with
    | cons r1 r2 =>
      obtain ⟨t, e⟩ := r1
      subst e
      exact .cons n t (ih r2)

section
variable {X : Cx} {e : Expr} {te : TE} {lo hi : Option Expr} {tl th : TO} {pos p2 : Pos}

theorem po_none : PO X none tNoPart := by
  intro pins s σ H Q I h
  rw [evalPart_none]
  exact wpAny_pure ⟨none, H, I, .none, h⟩
theorem po_some (h : PE X e te) : PO X (some e) (tPart te) := by
  intro pins s σ H Q I hw
  rw [evalPart_some]
  refine thn (h pins s σ H _ I hw) fun u s1 ⟨x, H1, I1, r1, q1⟩ => ?_
  obtain ⟨i, rfl, q⟩ := q1
  obtain ⟨t, rfl⟩ := r1
  exact ⟨some i, H1, I1, .int i t, q⟩

/-- what a slice of a value is, by values: the slice object stands at sl -/
def SlR (X : Cx) (r : V → Option Int → Option Int → Hp → VK → Prop) : Prop :=
  ∀ (pins : List (Addr × Obj)) (s : Shared) (σ : St) (H : Hp) (x : V) (v vl vu : Value) (lo hi : Option Int) (sl : Addr) (Q : VK), Inv X pins σ H s → RelV x v → s.heap.IsSliceOf sl vl vu .none → IsPart vl lo → IsPart vu hi → r x lo hi H Q →
    ∃ T id, typeLookup (.type T) "__getitem__" = pure (some (.builtin id)) ∧ s.TypeIs v T ∧ wpAny (model X.prog X.w) X.A (getItem v (.ref sl)) (EP X pins σ Q) X.xe s
theorem SlR.or {r r' : V → Option Int → Option Int → Hp → VK → Prop} (h : SlR X r) (h' : SlR X r') : SlR X (fun x lo hi H Q => r x lo hi H Q ∨ r' x lo hi H Q) := by
  intro pins s σ H x v vl vu lo hi sl Q I rx hs pl pu q
  rcases q with q | q
  · exact h pins s σ H x v vl vu lo hi sl Q I rx hs pl pu q
  · exact h' pins s σ H x v vl vu lo hi sl Q I rx hs pl pu q
def tSl (r : V → Option Int → Option Int → Hp → VK → Prop) (te : TE) (tl th : TO) : TE := fun σ H Q => te σ H fun x H1 => tl σ H1 fun l H2 => th σ H2 fun u H3 => r x l u H3 Q
/-- a[lo:hi], any a -/
theorem pe_slice {r : V → Option Int → Option Int → Hp → VK → Prop} (hr : SlR X r) (he : PE X e te) (hl : PO X lo tl) (hu : PO X hi th) : PE X (.Subscript e (.Slice lo hi none p2) pos) (tSl r te tl th) := by
  intro pins s σ H Q I h
  refine Subscript_ (thn (he pins s σ H _ I h) fun v s1 ⟨x, H1, I1, r1, q1⟩ => ?_)
  refine wpAny_Slice (thn (hl pins s1 σ H1 _ I1 q1) fun vl s2 ⟨l, H2, I2, pl, q2⟩ => thn (hu pins s2 σ H2 _ I2 q2) fun vu s3 ⟨u, H3, I3, pu, q3⟩ => ?_)
  rw [evalPart_none]
  refine wpAny_pure ?_
  have I4 : Inv X pins σ H3 { s3 with heap := s3.heap.push { cls := .type "slice", data := .fields #[vl, vu, .none] } } := I3.kept (t' := s3.toks) fun b ob q => Heap.get?_push_of_some _ q
  obtain ⟨T, id, hT, ht, hg⟩ := hr pins { s3 with heap := s3.heap.push { cls := .type "slice", data := .fields #[vl, vu, .none] } } σ H3 x v vl vu l u s3.heap.objs.size Q I4 r1 (Heap.IsSliceOf.new ..) pl pu q3
  show wpAny (model X.prog X.w) X.A (subscriptTail e (.Slice lo hi none p2) v (.ref s3.heap.objs.size)) (EP X pins σ Q) X.xe { s3 with heap := s3.heap.push { cls := .type "slice", data := .fields #[vl, vu, .none] } }
  exact tail_any (ops := [.ref s3.heap.objs.size, v]) ht hT hg (by with_unfolding_all rfl)

/-- the items of xs[lo:hi] -/
def cutV (xs : List V) (lo hi : Option Int) : List V := (xs.drop (HT.sIx xs.length 0 lo)).take (HT.sIx xs.length xs.length hi - HT.sIx xs.length 0 lo)
theorem cutV_length (xs : List V) (lo hi : Option Int) : (cutV xs lo hi).length ≤ xs.length := by
  unfold cutV
  rw [List.length_take, List.length_drop]
  omega
/-- t[lo:hi], not the whole of it (the whole would be t itself) -/
def rSlT (K : PySem.W.Frag) : V → Option Int → Option Int → Hp → VK → Prop := fun x lo hi H Q => ∃ a xs, x = .ref a ∧ SqT K H a xs ∧
  ¬ (HT.sIx xs.length 0 lo = 0 ∧ HT.sIx xs.length xs.length hi = xs.length) ∧ ∀ p, H p = none → Q (.ref p) (upd H p (.tup (cutV xs lo hi)))
theorem sl_tup : SlR X (rSlT X.K) := by
  intro pins s σ H x v vl vu lo hi sl Q I rx hs pl pu h
  obtain ⟨a, xs, rfl, hx, hw, q⟩ := h
  cases rx
  obtain ⟨its, r, ht, hz⟩ := I.tuple hx
  have hlen : its.toArray.size = xs.length := by rw [List.size_toArray]; exact r.length.symm
  refine ⟨"tuple", _, PyProof.Rows.slot_tuple_getitem.lookup, ht.typeIs, ?_⟩
  refine HT.getItem_tuple_cut ht hs pl pu (by rw [hlen]; exact hw) ?_ (by rw [hlen]; exact hz)
  rw [hlen]
  refine ⟨.ref s.heap.objs.size, _, I.laid (t' := s.toks) (o := .tup (cutV xs lo hi)) (fun b ob q => Heap.get?_push_of_some _ q) (Nat.le_refl _) ?_, rfl, q _ (I.hok.fresh (Nat.le_refl _))⟩
  exact ⟨Nat.le_trans (cutV_length xs lo hi) hz, _, (r.drop (HT.sIx xs.length 0 lo)).take (HT.sIx xs.length xs.length hi - HT.sIx xs.length 0 lo), IsTup.new _ _⟩

/-! ### t < u, t + u -/
def rLtT (K : PySem.W.Frag) : R2 := fun x y H Q => ∃ a b ns ms, x = .ref a ∧ y = .ref b ∧ SqT K H a (ns.map V.int) ∧ SqT K H b (ms.map V.int) ∧ Q (.bl (HT.lexLt ns ms)) H
theorem op_ltT (hu : X.A.units < cLine) : OpR X (compareOp .Lt) (rLtT X.K) := by
  intro pins s σ H x y v u Q I rx ry h
  obtain ⟨a, b, ns, ms, rfl, rfl, ha, hb, q⟩ := h
  cases rx
  cases ry
  obtain ⟨its, r1, p1, _⟩ := I.tuple ha
  obtain ⟨its2, r2, p2, _⟩ := I.tuple hb
  have i1 : IntsAre its.toArray.toList ns := intsAre_of r1
  have i2 : IntsAre its2.toArray.toList ms := intsAre_of r2
  exact HT.lt_tupInts p1 p2 i1 i2 hu ⟨.bl (HT.lexLt ns ms), H, I, rfl, q⟩
/-- t + u, t not empty: u empty gives t itself -/
def rCatT (K : PySem.W.Frag) : R2 := fun x y H Q => ∃ a b xs ys, x = .ref a ∧ y = .ref b ∧ SqT K H a xs ∧ SqT K H b ys ∧ xs ≠ [] ∧ xs.length + ys.length ≤ sizeLine ∧
  (ys = [] → Q (.ref a) H) ∧ (ys ≠ [] → ∀ p, H p = none → Q (.ref p) (upd H p (.tup (xs ++ ys))))
theorem Vals.nil_iff {xs : List V} {us : List Value} (r : Vals xs us) : us = [] ↔ xs = [] := by
  cases r with
  | nil => simp
  | cons _ _ => simp
theorem op_catT : OpR X (binaryOp .Add) (rCatT X.K) := by
  intro pins s σ H x y v u Q I rx ry h
  obtain ⟨a, b, xs, ys, rfl, rfl, ha, hb, hx, hz, q1, q2⟩ := h
  cases rx
  cases ry
  obtain ⟨its, r1, p1, _⟩ := I.tuple ha
  obtain ⟨its2, r2, p2, _⟩ := I.tuple hb
  refine HT.cat_tup p1 p2 (fun z => hx (r1.nil_iff.mp z)) (fun z => ⟨.ref a, H, I, rfl, q1 (r2.nil_iff.mp z)⟩) (fun z => ?_) (by rw [← r1.length, ← r2.length]; exact hz)
  refine ⟨.ref s.heap.objs.size, _, I.laid (t' := s.toks) (o := .tup (xs ++ ys)) (fun b ob q => Heap.get?_push_of_some _ q) (Nat.le_refl _) ?_, rfl, q2 (fun w => z (r2.nil_iff.mpr w)) _ (I.hok.fresh (Nat.le_refl _))⟩
  exact ⟨by rw [List.length_append]; exact hz, _, r1.append r2, IsTup.new _ _⟩
/-- tuple(t) -/
theorem call_tupleT : CallR X (.type "tuple") (fun xs H Q => ∃ a ys, xs = [.ref a] ∧ SqT X.K H a ys ∧ Q (.ref a) H) := by
  intro pins s σ H xs us Q I r h
  obtain ⟨a, ys, rfl, ha, q⟩ := h
  obtain ⟨u, rfl, ru⟩ := vals1 r
  cases ru
  obtain ⟨its, _, p1, _⟩ := I.tuple ha
  exact call_tuple_same (items := its.toArray) p1 ⟨.ref a, H, I, rfl, q⟩
end
end L2

namespace L2
open PySem PySem.Spec PyProof.Rows

/-! ### places -/
/-- the place that an index of any sign means -/
def ixN (n : Nat) (i : Int) : Option Nat := if 0 ≤ i then (if i < n then some i.toNat else none) else if -(n : Int) ≤ i then some (i + n).toNat else none
def atI {α : Type} (xs : List α) (i : Int) : Option α := (ixN xs.length i).bind fun j => xs[j]?
theorem ixN_seq {n : Nat} {i : Int} {j : Nat} (h : ixN n i = some j) : seqIndex? i n = some j ∧ j < n ∧ -(n : Int) ≤ i ∧ i < n := by
  unfold ixN at h
  by_cases h0 : 0 ≤ i
  · rw [if_pos h0] at h
    by_cases h1 : i < n
    · rw [if_pos h1] at h
      have e : i.toNat = j := Option.some.inj h
      exact ⟨by rw [seqIndex_of h0 h1, e], by omega, by omega, h1⟩
    · rw [if_neg h1] at h; cases h
  · rw [if_neg h0] at h
    by_cases h1 : -(n : Int) ≤ i
    · rw [if_pos h1] at h
      have e : (i + n).toNat = j := Option.some.inj h
      exact ⟨by rw [seqIndex_neg (by omega) h1, e], by omega, h1, by omega⟩
    · rw [if_neg h1] at h; cases h
theorem atI_get {α : Type} {xs : List α} {i : Int} {v : α} (h : atI xs i = some v) : ∃ j, seqIndex? i xs.length = some j ∧ xs[j]? = some v ∧ j < xs.length ∧ -(xs.length : Int) ≤ i ∧ i < xs.length := by
  unfold atI at h
  cases e : ixN xs.length i with
  | none => rw [e] at h; cases h
  | some j =>
    rw [e] at h
    obtain ⟨h1, h2, h3, h4⟩ := ixN_seq e
    exact ⟨j, h1, h, h2, h3, h4⟩
theorem atI_nat {α : Type} {xs : List α} {j : Nat} {v : α} (h : xs[j]? = some v) : atI xs (j : Int) = some v := by
  have hj : j < xs.length := (List.getElem?_eq_some_iff.mp h).1
  have e : ixN xs.length (j : Int) = some j := by
    unfold ixN
    rw [if_pos (by omega), if_pos (by omega)]; simp
  unfold atI; rw [e]; exact h
theorem atI_last {α : Type} (xs : List α) (v : α) : atI (xs ++ [v]) (-1) = some v := by
  have hl : (xs ++ [v]).length = xs.length + 1 := by simp
  have e : ixN (xs ++ [v]).length (-1) = some xs.length := by
    unfold ixN
    rw [hl, if_neg (by decide), if_pos (by omega)]
    congr 1
    omega
  unfold atI
  rw [e]
  show (xs ++ [v])[xs.length]? = some v
  simp

/-! ### what may be subscripted -/
/-- what stands as an index of a plain subscript -/
def PlainIx (b : Expr) : Prop := ∀ o i, subscripted b false o i = operate [o, i] (getItem o i)
/-- a subscript by values -/
def IxR (X : Cx) (r : R2) : Prop :=
  ∀ (value slice : Expr) (pins : List (Addr × Obj)) (s : Shared) (σ : St) (H : Hp) (x y : V) (v u : Value) (Q : VK), Inv X pins σ H s → RelV x v → RelV y u → r x y H Q →
    subscripted slice false v u = operate [v, u] (getItem v u) → wpAny (model X.prog X.w) X.A (subscriptTail value slice v u) (EP X pins σ Q) X.xe s
/-- a call of a builtin's method by values: the receiver, the arguments -/
def MtR (X : Cx) (id : String) (r : V → List V → Hp → VK → Prop) : Prop :=
  ∀ (pins : List (Addr × Obj)) (s : Shared) (σ : St) (H : Hp) (x : V) (xs : List V) (v : Value) (us : List Value) (Q : VK), Inv X pins σ H s → RelV x v → Vals xs us → r x xs H Q →
    wpAny (model X.prog X.w) X.A (call (.builtin id) (v :: us)) (EP X pins σ Q) X.xe s
section
variable {X : Cx} {a b : Expr} {ta tb : TE} {pos : Pos}
theorem IxR.or {r r' : R2} (h : IxR X r) (h' : IxR X r') : IxR X (fun x y H Q => r x y H Q ∨ r' x y H Q) := by
  intro value slice pins s σ H x y v u Q I rx ry q hs
  rcases q with q | q
  · exact h value slice pins s σ H x y v u Q I rx ry q hs
  · exact h' value slice pins s σ H x y v u Q I rx ry q hs
theorem MtR.or {id : String} {r r' : V → List V → Hp → VK → Prop} (h : MtR X id r) (h' : MtR X id r') : MtR X id (fun x xs H Q => r x xs H Q ∨ r' x xs H Q) := by
  intro pins s σ H x xs v us Q I rx rs q
  rcases q with q | q
  · exact h pins s σ H x xs v us Q I rx rs q
  · exact h' pins s σ H x xs v us Q I rx rs q
/-- a[b] -/
theorem pe_ix {r : R2} (hr : IxR X r) (ha : PE X a ta) (hb : PE X b tb) (hs : PlainIx b) : PE X (.Subscript a b pos) (tOp r ta tb) := by
  intro pins s σ H Q I h
  exact Subscript_ (binT ha hb I h fun v u s2 x y H2 I2 rx ry q => hr a b pins s2 σ H2 x y v u Q I2 rx ry q (hs _ _))

def rIxL (K : PySem.W.Frag) : R2 := fun x y H Q => ∃ p xs i v, x = .ref p ∧ y = .int i ∧ SqL K H p xs ∧ atI xs i = some v ∧ Q v H
def rIxT (K : PySem.W.Frag) : R2 := fun x y H Q => ∃ p xs i v, x = .ref p ∧ y = .int i ∧ SqT K H p xs ∧ atI xs i = some v ∧ Q v H
def rIxS : R2 := fun x y H Q => ∃ z i c, x = .str z ∧ y = .int i ∧ z.length ≤ sizeLine ∧ atI z.cps.toList i = some c ∧ Q (.str ⟨#[c]⟩) H
theorem ix_list : IxR X (rIxL X.K) := by
  intro value slice pins s σ H x y v u Q I rx ry h hs
  obtain ⟨p, xs, i, z, rfl, rfl, hq, he, q⟩ := h
  cases rx
  obtain ⟨t, rfl⟩ := ry
  obtain ⟨its, r, pl, hz⟩ := I.list hq
  obtain ⟨j, h1, h2, h3, h4, h5⟩ := atI_get he
  obtain ⟨w, ew, rw'⟩ := r.get h2
  have hl := r.length
  have hn := line63
  have fin : EP X pins σ Q w s := ⟨z, H, I, rw', q⟩
  by_cases h0 : 0 ≤ i
  · have hj : i.toNat = j := by
      rw [seqIndex_of h0 h5] at h1
      exact Option.some.inj h1
    exact item_listR pl.isList h0 (by omega) (by rw [hj]; simpa using ew) fin hs
  · have hj : (i + (its.toArray.size : Int)).toNat = j := by
      rw [seqIndex_neg (by omega) h4] at h1
      rw [List.size_toArray, ← hl]
      exact Option.some.inj h1
    exact subscriptTail_builtinR (x := w) pl.isList.typeIs slot_list_getitem.lookup
      (wpAny_getItem_list_neg (Q := fun r s' => r = w ∧ EP X pins σ Q r s') pl.isList (by omega) (by rw [List.size_toArray] <;> omega) (by omega) (by rw [hj]; simpa using ew) ⟨rfl, fin⟩) hs
theorem ix_tup : IxR X (rIxT X.K) := by
  intro value slice pins s σ H x y v u Q I rx ry h hs
  obtain ⟨p, xs, i, z, rfl, rfl, hq, he, q⟩ := h
  cases rx
  obtain ⟨t, rfl⟩ := ry
  obtain ⟨its, r, pl, hz⟩ := I.tuple hq
  obtain ⟨j, h1, h2, h3, h4, h5⟩ := atI_get he
  obtain ⟨w, ew, rw'⟩ := r.get h2
  have hl := r.length
  have hn := line63
  have fin : EP X pins σ Q w s := ⟨z, H, I, rw', q⟩
  exact subscriptTail_builtinR (x := w) pl.typeIs slot_tuple_getitem.lookup
    (getItem_tuple (j := j) (Q := fun r s' => r = w ∧ EP X pins σ Q r s') pl (by omega) (by omega) (by rw [List.size_toArray, ← hl]; exact h1) (by simpa using ew) ⟨rfl, fin⟩) hs
theorem ix_str : IxR X rIxS := by
  intro value slice pins s σ H x y v u Q I rx ry h hs
  obtain ⟨z, i, c, rfl, rfl, hz, he, q⟩ := h
  obtain ⟨t, rfl⟩ := rx
  obtain ⟨t', rfl⟩ := ry
  obtain ⟨j, h1, h2, h3, h4, h5⟩ := atI_get he
  have hl : z.cps.toList.length = z.length := by simp [Str.length]
  rw [hl] at h1 h4 h5
  have hn := line63
  exact tail_any (typeIs_str s z t) slot_str_getitem.lookup (getItem_str (c := c) (by
    have e1 : decide (i < -(2 ^ 63 : Int)) = false := decide_eq_false (by omega)
    have e2 : decide (i ≥ 2 ^ 63) = false := decide_eq_false (by omega)
    rw [e1, e2, Bool.or_false]) (by rw [h1]; simpa using h2) ⟨.str ⟨#[c]⟩, H, I.tok _, ⟨_, rfl⟩, q⟩) hs
/-- list, tuple or str -/
def rIx (K : PySem.W.Frag) : R2 := fun x y H Q => rIxL K x y H Q ∨ rIxT K x y H Q ∨ rIxS x y H Q
theorem ix_seq : IxR X (rIx X.K) := ix_list.or (ix_tup.or ix_str)

/-! ### xs[i] = v, any sign -/
/-- the list's object behind a store -/
theorem mapSeq_set (its : List Value) (n j : Nat) (u : Value) : Obj.mapSeq (·.setIfInBounds j u) { cls := .type "list", data := .seq its.toArray n } = { cls := .type "list", data := .seq (its.set j u).toArray n } := by
  simp [Obj.mapSeq]
theorem Inv.lst {pins : List (Addr × Obj)} {σ : St} {H : Hp} {s : Shared} {p : Addr} {xs : List V} (I : Inv X pins σ H s) (h : H p = some (.lst xs)) :
    ∃ (its : List Value) (n : Nat), Vals xs its ∧ s.heap.get? p = some { cls := .type "list", data := .seq its.toArray n } ∧ xs.length ≤ sizeLine := by
  obtain ⟨z, its, n, r, e⟩ := I.hok p _ h
  exact ⟨its, n, r, e, z⟩
/-- the list at p is written by an update of its object -/
theorem Inv.lstUpd {pins : List (Addr × Obj)} {σ : St} {H : Hp} {s : Shared} {p : Addr} {xs ys : List V} {its its' : List Value} {n n' : Nat} {f : Obj → Obj} (I : Inv X pins σ H s) (h : H p = some (.lst xs))
    (ho : s.heap.get? p = some { cls := .type "list", data := .seq its.toArray n }) (hf : f { cls := .type "list", data := .seq its.toArray n } = { cls := .type "list", data := .seq its'.toArray n' }) (r : Vals ys its') (hz : ys.length ≤ sizeLine) (t : Nat) :
    Inv X pins σ (upd H p (.lst ys)) { s with heap := s.heap.update p f, toks := t } := by
  have e : (s.heap.update p f).get? p = some { cls := .type "list", data := .seq its'.toArray n' } := by
    rw [Heap.get?_update_self f ho (by rw [hf] <;> rfl), hf]
  refine I.write (x := p) (e := p) (by rw [h]; trivial) (.inl rfl) (fun b u hb q => (Heap.get?_update_other _ _ (Ne.symm hb)).trans q) ⟨_, e⟩ ?_
  exact ⟨hz, its', n', r, e⟩
def rSetL : V → V → V → Hp → (Hp → Prop) → Prop := fun o i v H Q => ∃ p xs k j, o = .ref p ∧ i = .int k ∧ H p = some (.lst xs) ∧ ixN xs.length k = some j ∧ Q (upd H p (.lst (xs.set j v)))
theorem set_list : PSet X rSetL := by
  intro pins s σ H o i v ov iv u Q I ro ri rv h
  obtain ⟨p, xs, k, j, rfl, rfl, hp, hj, q⟩ := h
  cases ro
  obtain ⟨t, rfl⟩ := ri
  obtain ⟨its, n, r, ho, hz⟩ := I.lst hp
  obtain ⟨h1, h2, h3, h4⟩ := ixN_seq hj
  have hl := r.length
  have hn := line63
  have I' : Inv X pins σ (upd H p (.lst (xs.set j v))) { s with heap := s.heap.update p (Obj.mapSeq (·.setIfInBounds j u)) } :=
    I.lstUpd hp ho (mapSeq_set its n j u) (r.set rv j) (by rw [List.length_set]; exact hz) s.toks
  by_cases h0 : 0 ≤ k
  · have hk : k.toNat = j := by
      rw [seqIndex_of h0 h4] at h1
      exact Option.some.inj h1
    exact PySem.W.ki_setAt ho h0 (by omega) (by rw [List.size_toArray, ← hl]; exact h4) (by rw [hk]; exact ⟨_, I', q⟩)
  · have hk : (k + (its.toArray.size : Int)).toNat = j := by
      rw [seqIndex_neg (by omega) h3] at h1
      rw [List.size_toArray, ← hl]
      exact Option.some.inj h1
    exact PySem.W.ki_setBack ho (by omega) (by rw [List.size_toArray, ← hl]; exact h3) (by omega) (by rw [hk]; exact ⟨_, I', q⟩)

/-! ### slices -/
theorem slice_bounds (lo hi : Option Int) (n : Nat) : (sliceBounds lo hi none n).1 = ((HT.sIx n 0 lo : Nat) : Int) ∧ (sliceBounds lo hi none n).2.1 = ((HT.sIx n n hi : Nat) : Int) ∧ (sliceBounds lo hi none n).2.2 = 1 := by
  refine ⟨?_, ?_, rfl⟩
  · cases lo with
    | none => simp [sliceBounds, HT.sIx]
    | some i =>
      simp only [sliceBounds, HT.sIx, Option.getD_none, show (1 : Int) > 0 by decide, if_true]
      by_cases h : i < 0
      · simp only [h, if_true] <;> omega
      · simp only [h, if_false] <;> omega
  · cases hi with
    | none => simp [sliceBounds, HT.sIx]
    | some i =>
      simp only [sliceBounds, HT.sIx, Option.getD_none, show (1 : Int) > 0 by decide, if_true]
      by_cases h : i < 0
      · simp only [h, if_true] <;> omega
      · simp only [h, if_false] <;> omega
theorem slicePick_cut (its : List Value) (lo hi : Option Int) : slicePick its.toArray lo hi none = ((its.drop (HT.sIx its.length 0 lo)).take (HT.sIx its.length its.length hi - HT.sIx its.length 0 lo)).toArray := by
  obtain ⟨h1, h2, h3⟩ := slice_bounds lo hi its.toArray.size
  unfold slicePick
  rw [h1, h2, h3]
  simp only [sliceRange_one, pick_run, List.size_toArray] <;> rfl
/-- xs[lo:hi] of a list: a new list -/
def rSlL (K : PySem.W.Frag) : V → Option Int → Option Int → Hp → VK → Prop := fun x lo hi H Q => ∃ a xs, x = .ref a ∧ SqL K H a xs ∧ ∀ p, H p = none → Q (.ref p) (upd H p (.lst (cutV xs lo hi)))
theorem sl_list : SlR X (rSlL X.K) := by
  intro pins s σ H x v vl vu lo hi sl Q I rx hs pl pu h
  obtain ⟨a, xs, rfl, hx, q⟩ := h
  cases rx
  obtain ⟨its, r, ht, hz⟩ := I.list hx
  have hlen := r.length
  refine ⟨"list", _, slot_list_getitem.lookup, ht.isList.typeIs, ?_⟩
  refine wpAny_getItem_list_slice ht.isList hs pl pu .none (by simp) ?_ (by rw [List.size_toArray] <;> omega)
  rw [slicePick_cut, ← hlen]
  refine ⟨.ref s.heap.objs.size, _, I.laid (t' := s.toks) (o := .lst (cutV xs lo hi)) (fun b ob q => Heap.get?_push_of_some _ q) (Nat.le_refl _) ?_, rfl, q _ (I.hok.fresh (Nat.le_refl _))⟩
  exact ⟨Nat.le_trans (cutV_length xs lo hi) hz, _, 0, (r.drop (HT.sIx xs.length 0 lo)).take (HT.sIx xs.length xs.length hi - HT.sIx xs.length 0 lo), Heap.get?_push_size _ rfl⟩

/-! ### in, not in: flat items -/
def flatV : V → Bool
  | .non => true
  | .bl _ => true
  | .int _ => true
  | .str _ => true
  | _ => false
/-- == of flat values -/
def eqV : V → V → Bool
  | .non, .non => true
  | .bl a, .bl b => a == b
  | .bl a, .int b => (if a then 1 else 0) == b
  | .int a, .bl b => a == (if b then 1 else 0)
  | .int a, .int b => a == b
  | .str a, .str b => a == b
  | _, _ => false
theorem eqAt_V {A : Around} {s : Shared} {y x : V} {u v : Value} (ry : RelV y u) (rx : RelV x v) (fy : flatV y = true) (fx : flatV x = true) : SeqAt.EqAt A s u v (eqV y x) := by
  cases y with
  | non =>
    cases ry
    cases x with
    | non => cases rx; exact SeqAt.EqAt.same _
    | bl b => cases rx; exact SeqAt.EqAt.none_bool b
    | int b => obtain ⟨t, rfl⟩ := rx; exact SeqAt.EqAt.none_int b t
    | str b => obtain ⟨t, rfl⟩ := rx; exact SeqAt.EqAt.none_str b t
    | _ => exact absurd (show false = true from fx) Bool.false_ne_true
  | bl a =>
    cases ry
    cases x with
    | non => cases rx; exact SeqAt.EqAt.bool_none a
    | bl b => cases rx; exact SeqAt.EqAt.bool_bool a b
    | int b => obtain ⟨t, rfl⟩ := rx; exact SeqAt.EqAt.bool_int a b t
    | str b => obtain ⟨t, rfl⟩ := rx; exact SeqAt.EqAt.bool_str a b t
    | _ => exact absurd (show false = true from fx) Bool.false_ne_true
  | int a =>
    obtain ⟨t', rfl⟩ := ry
    cases x with
    | non => cases rx; exact SeqAt.EqAt.int_none a t'
    | bl b => cases rx; exact SeqAt.EqAt.int_bool a t' b
    | int b => obtain ⟨t, rfl⟩ := rx; exact SeqAt.EqAt.int_int a t' b t
    | str b => obtain ⟨t, rfl⟩ := rx; exact SeqAt.EqAt.int_str a t' b t
    | _ => exact absurd (show false = true from fx) Bool.false_ne_true
  | str a =>
    obtain ⟨t', rfl⟩ := ry
    cases x with
    | non => cases rx; exact SeqAt.EqAt.str_none a t'
    | bl b => cases rx; exact SeqAt.EqAt.str_bool a t' b
    | int b => obtain ⟨t, rfl⟩ := rx; exact SeqAt.EqAt.str_int a t' b t
    | str b => obtain ⟨t, rfl⟩ := rx; exact SeqAt.EqAt.str_str a t' b t
    | _ => exact absurd (show false = true from fx) Bool.false_ne_true
  | _ => exact absurd (show false = true from fy) Bool.false_ne_true
/-- the items' answers, read off the values (a value's own answer does not lean on its token) -/
def eqU (x : V) (u : Value) : Bool := match u with
  | .none => eqV .non x
  | .bool b => eqV (.bl b) x
  | .int i _ => eqV (.int i) x
  | .str z _ => eqV (.str z) x
  | _ => false
theorem eqU_of {x y : V} {u : Value} (r : RelV y u) (f : flatV y = true) : eqU x u = eqV y x := by
  cases y with
  | non => cases r; rfl
  | bl b => cases r; rfl
  | int i => obtain ⟨t, rfl⟩ := r; rfl
  | str z => obtain ⟨t, rfl⟩ := r; rfl
  | _ => exact absurd (show false = true from f) Bool.false_ne_true
theorem any_eqU {x : V} : ∀ {xs : List V} {us : List Value}, Vals xs us → xs.all flatV = true → us.any (eqU x) = xs.any fun y => eqV y x
  | _, _, .nil, _ => rfl
  | y :: xs, u :: us, .cons r t, f => by
    rw [List.all_cons, Bool.and_eq_true] at f
    rw [List.any_cons, List.any_cons, eqU_of r f.1, any_eqU t f.2]
theorem mem_eqAt {A : Around} {s : Shared} {x : V} {v : Value} (rx : RelV x v) (fx : flatV x = true) : ∀ {xs : List V} {us : List Value}, Vals xs us → xs.all flatV = true → ∀ u ∈ us, SeqAt.EqAt A s u v (eqU x u)
  | _, _, .nil, _ => fun u hu => by cases hu
  | y :: xs, u :: us, .cons r t, f => fun u' hu => by
    rw [List.all_cons, Bool.and_eq_true] at f
    rcases List.mem_cons.mp hu with rfl | hu
    · rw [eqU_of r f.1]; exact eqAt_V r rx f.1 fx
    · exact mem_eqAt rx fx t f.2 u' hu
def inV (x : V) (xs : List V) : Bool := xs.any fun y => eqV y x
/-- x in a list or tuple of flat items -/
def rIn (K : PySem.W.Frag) (neg : Bool) : R2 := fun x y H Q => ∃ p xs, y = .ref p ∧ (SqL K H p xs ∨ SqT K H p xs) ∧ flatV x = true ∧ xs.all flatV = true ∧ Q (.bl (if neg then !inV x xs else inV x xs)) H
theorem op_in_seq : OpR X (compareOp .In) (rIn X.K false) := by
  intro pins s σ H x y v u Q I rx ry h
  obtain ⟨p, xs, rfl, hq, fx, fs, q⟩ := h
  cases ry
  rcases hq with hq | hq
  · obtain ⟨its, r, pl, hz⟩ := I.list hq
    refine SeqAt.in_listAt (eqU x) pl.isList (fun w hw => mem_eqAt rx fx r fs w (by simpa using hw)) ⟨.bl _, H, I, rfl, ?_⟩
    rw [show its.toArray.any (eqU x) = its.any (eqU x) by simp, any_eqU r fs]
    exact q
  · obtain ⟨its, r, pl, hz⟩ := I.tuple hq
    refine SeqAt.in_tupleAt (eqU x) pl (fun w hw => mem_eqAt rx fx r fs w (by simpa using hw)) ⟨.bl _, H, I, rfl, ?_⟩
    rw [show its.toArray.any (eqU x) = its.any (eqU x) by simp, any_eqU r fs]
    exact q
theorem op_notIn_seq : OpR X (compareOp .NotIn) (rIn X.K true) := by
  intro pins s σ H x y v u Q I rx ry h
  obtain ⟨p, xs, rfl, hq, fx, fs, q⟩ := h
  cases ry
  rcases hq with hq | hq
  · obtain ⟨its, r, pl, hz⟩ := I.list hq
    refine SeqAt.notIn_listAt (eqU x) pl.isList (fun w hw => mem_eqAt rx fx r fs w (by simpa using hw)) ⟨.bl _, H, I, rfl, ?_⟩
    rw [show its.toArray.any (eqU x) = its.any (eqU x) by simp, any_eqU r fs]
    exact q
  · obtain ⟨its, r, pl, hz⟩ := I.tuple hq
    refine SeqAt.notIn_tupleAt (eqU x) pl (fun w hw => mem_eqAt rx fx r fs w (by simpa using hw)) ⟨.bl _, H, I, rfl, ?_⟩
    rw [show its.toArray.any (eqU x) = its.any (eqU x) by simp, any_eqU r fs]
    exact q
theorem op_notIn_str : OpR X (compareOp .NotIn) (fun x y H Q => ∃ i j, x = .str i ∧ y = .str j ∧ Q (.bl (!(!(Builtin.Str.occurrences j i 0 j.length 1).isEmpty))) H) := by
  intro pins s σ H x y v u Q I rx ry h
  obtain ⟨i, j, rfl, rfl, q⟩ := h
  obtain ⟨t, rfl⟩ := rx
  obtain ⟨t', rfl⟩ := ry
  exact notIn_str ⟨.bl _, H, I, rfl, q⟩

/-! ### len, list(x), tuple(x) of any list or tuple that is read -/
theorem call_len_seq : CallR X (.builtin "len") (fun xs H Q => ∃ p ys, xs = [.ref p] ∧ (SqL X.K H p ys ∨ SqT X.K H p ys) ∧ Q (.int ys.length) H) := by
  intro pins s σ H xs us Q I r h
  obtain ⟨p, ys, rfl, hq, q⟩ := h
  obtain ⟨u, rfl, rx⟩ := vals1 r
  cases rx
  have hn := line63
  rcases hq with hq | hq
  · obtain ⟨its, r', pl, hz⟩ := I.list hq
    have hlen := r'.length
    exact Calls.call_len_list pl.isList (by simp only [List.size_toArray] <;> omega) ⟨.int ys.length, H, I.tok _, ⟨s.toks + 1, by rw [List.size_toArray, hlen]⟩, q⟩
  · obtain ⟨its, r', pl, hz⟩ := I.tuple hq
    have hlen := r'.length
    exact len_tuple pl (by simp only [List.size_toArray] <;> omega) ⟨.int ys.length, H, I.tok _, ⟨s.toks + 1, by rw [List.size_toArray, hlen]⟩, q⟩
theorem call_len_str : CallR X (.builtin "len") (fun xs H Q => ∃ z, xs = [.str z] ∧ z.length ≤ sizeLine ∧ Q (.int z.length) H) := by
  intro pins s σ H xs us Q I r h
  obtain ⟨z, rfl, hz, q⟩ := h
  obtain ⟨u, rfl, t, rfl⟩ := vals1 r
  have hn := line63
  exact len_str (by omega) ⟨.int z.length, H, I.tok _, ⟨_, rfl⟩, q⟩
theorem CallR.or {f : Value} {r r' : List V → Hp → VK → Prop} (h : CallR X f r) (h' : CallR X f r') : CallR X f (fun xs H Q => r xs H Q ∨ r' xs H Q) := by
  intro pins s σ H xs us Q I rs q
  rcases q with q | q
  · exact h pins s σ H xs us Q I rs q
  · exact h' pins s σ H xs us Q I rs q
theorem call_list_of : CallR X (.type "list") (fun xs H Q => ∃ p ys, xs = [.ref p] ∧ (SqL X.K H p ys ∨ SqT X.K H p ys) ∧ ∀ l, H l = none → Q (.ref l) (upd H l (.lst ys))) := by
  intro pins s σ H xs us Q I r h
  obtain ⟨p, ys, rfl, hq, q⟩ := h
  obtain ⟨u, rfl, rx⟩ := vals1 r
  cases rx
  have fin : ∀ (its : List Value), Vals ys its → ys.length ≤ sizeLine → ∀ (h' : Heap) (c' : Nat), (∀ b o', s.heap.get? b = some o' → h'.get? b = some o') →
      h'.get? s.heap.objs.size = some { cls := .type "list", dict := none, data := .seq its.toArray c', slots := #[] } → EP X pins σ Q (.ref s.heap.objs.size) { s with heap := h' } := fun its r' hz h' c' kp e =>
    ⟨.ref s.heap.objs.size, _, I.laid (t' := s.toks) kp (Nat.le_refl _) (show ObjOk X.prog X.w _ h' _ (.lst ys) from ⟨hz, its, c', r', e⟩), rfl, q _ (I.hok.fresh (Nat.le_refl _))⟩
  rcases hq with hq | hq
  · obtain ⟨its, r', pl, hz⟩ := I.list hq
    have hlen := r'.length
    obtain ⟨o, ho, hc, n, hd⟩ := pl.isList
    exact call_list_seq p (.inl rfl) ho hc hd (fun h' c' kp e => fin its r' hz h' c' kp e) (by simp only [List.size_toArray] <;> omega)
  · obtain ⟨its, r', pl, hz⟩ := I.tuple hq
    have hlen := r'.length
    obtain ⟨o, ho, hc, n, hd⟩ := pl
    exact call_list_seq p (.inr rfl) ho hc hd (fun h' c' kp e => fin its r' hz h' c' kp e) (by simp only [List.size_toArray] <;> omega)
theorem call_tuple_of : CallR X (.type "tuple") (fun xs H Q => ∃ p ys, xs = [.ref p] ∧ ((SqL X.K H p ys ∧ ∀ l, H l = none → Q (.ref l) (upd H l (.tup ys))) ∨ (SqT X.K H p ys ∧ Q (.ref p) H))) := by
  intro pins s σ H xs us Q I r h
  obtain ⟨p, ys, rfl, h⟩ := h
  obtain ⟨u, rfl, rx⟩ := vals1 r
  cases rx
  rcases h with ⟨hq, q⟩ | ⟨hq, q⟩
  · obtain ⟨its, r', pl, hz⟩ := I.list hq
    have hlen := r'.length
    refine call_tuple_list pl.isList (fun h' kp => ?_) (by simp only [List.size_toArray] <;> omega)
    have I1 : Inv X pins σ H { s with heap := h' } := I.kept (t' := s.toks) kp
    have I2 : Inv X pins σ (upd H h'.objs.size (.tup ys)) { s with heap := h'.push { cls := .type "tuple", data := .seq its.toArray } } :=
      I1.laid (t' := s.toks) (fun b o e => Heap.get?_push_of_some _ e) (Nat.le_refl _) (show ObjOk X.prog X.w _ _ _ (.tup ys) from ⟨hz, its, r', IsTup.new _ _⟩)
    exact ⟨.ref h'.objs.size, _, I2, rfl, q _ (I1.hok.fresh (Nat.le_refl _))⟩
  · obtain ⟨its, r', pl, hz⟩ := I.tuple hq
    exact call_tuple_same pl ⟨.ref p, H, I, rfl, q⟩

/-! ### the call of a builtin's method: o.m(..) -/
/-- the value is of that builtin type -/
def tyV (K : PySem.W.Frag) (T : String) (x : V) (H : Hp) : Prop := match x with
  | .str _ => T = "str"
  | .int _ => T = "int"
  | .ref p => (T = "list" ∧ ∃ xs, SqL K H p xs) ∨ (T = "tuple" ∧ ∃ o, K.lookup p = some o ∧ o.cls = .type "tuple" ∧ o.dict = none) ∨
      (T = "dict" ∧ ((∃ kvs, H p = some (.dK kvs)) ∨ ∃ kvs, H p = some (.dT kvs))) ∨ (T = "set" ∧ ∃ S n, H p = some (.set S n))
  | _ => False
theorem tyV_is {pins : List (Addr × Obj)} {σ : St} {H : Hp} {s : Shared} {T : String} {x : V} {v : Value} (I : Inv X pins σ H s) (r : RelV x v) (ty : tyV X.K T x H) :
    s.TypeIs v T ∧ ∀ a, v = .ref a → ∃ ob, s.heap.get? a = some ob ∧ ob.dict = none := by
  cases x with
  | str z =>
    obtain ⟨t, rfl⟩ := r
    cases (show T = "str" from ty)
    exact ⟨typeIs_str s z t, fun _ e => nomatch e⟩
  | int i =>
    obtain ⟨t, rfl⟩ := r
    cases (show T = "int" from ty)
    exact ⟨typeIs_int s i t, fun _ e => nomatch e⟩
  | ref p =>
    cases r
    rcases ty with ⟨rfl, xs, hq⟩ | ⟨rfl, o, hk, hc, hd⟩ | ⟨rfl, hk⟩ | ⟨rfl, S, n, hk⟩
    · obtain ⟨its, _, pl, _⟩ := I.list hq
      refine ⟨pl.isList.typeIs, fun a e => ?_⟩
      cases e
      obtain ⟨o, n, e, c, hd, _⟩ := pl
      exact ⟨o, e, hd⟩
    · refine ⟨⟨o, I.kIn p o hk, hc⟩, fun a e => ?_⟩
      cases e
      exact ⟨o, I.kIn _ o hk, hd⟩
    · have z : ∃ o, s.heap.get? p = some o ∧ o.ExactDict := by
        rcases hk with ⟨kvs, hk⟩ | ⟨kvs, hk⟩
        · obtain ⟨_, _, _, _, o, _, _, e, ex, _⟩ := I.hok p _ hk
          exact ⟨o, e, ex⟩
        · obtain ⟨_, _, _, _, o, _, _, e, ex, _⟩ := I.hok p _ hk
          exact ⟨o, e, ex⟩
      obtain ⟨o, e, ex⟩ := z
      refine ⟨⟨o, e, ex.1⟩, fun a e2 => ?_⟩
      cases e2
      exact ⟨o, e, ex.2.1⟩
    · obtain ⟨o, _, _, _, e, ex, _⟩ := I.hok p _ hk
      refine ⟨⟨o, e, ex.1⟩, fun a e2 => ?_⟩
      cases e2
      exact ⟨o, e, ex.2.1⟩
  | _ => exact False.elim ty
def tBM0 (K : PySem.W.Frag) (T : String) (r : V → List V → Hp → VK → Prop) (to : TE) : TE := fun σ H Q => to σ H fun x H1 => tyV K T x H1 ∧ r x [] H1 Q
def tBM (K : PySem.W.Frag) (T : String) (r : V → List V → Hp → VK → Prop) (to : TE) (t : TA) : TE := fun σ H Q => to σ H fun x H1 => tyV K T x H1 ∧ t σ H1 fun xs H2 => r x xs H2 Q
variable {o e : Expr} {es : List Expr} {to : TE} {t : TA} {name : Str} {apos cpos : Pos} {T id : String} {r : V → List V → Hp → VK → Prop}
theorem pe_bm0 (pa : PlainAttrs T) (slot : Slot T name id) (hty : typeOf (.builtin id) = pure (.type "method_descriptor")) (hm : MtR X id r) (ho : PE X o to)
    (hbase : attributeBase o name X.env (eval o X.env) = eval o X.env := by rfl) (hline : (apos.endLine == cpos.line) = true := by rfl) : PE X (.Call (.Attribute o name apos) [] [] cpos) (tBM0 X.K T r to) := by
  intro pins s σ H Q I h
  refine wpAny_Call_method0_late hbase hline (thn (ho pins s σ H _ I h) fun v s1 ⟨x, H1, I1, r1, ty, q1⟩ => ?_)
  obtain ⟨h1, h2⟩ := tyV_is I1 r1 ty
  exact ⟨T, id, pa, slot, hty, h1, h2, Calls.callWith_builtin rfl (PySem.evalArgs_none (hm pins s1 σ H1 x [] v [] Q I1 r1 .nil q1))⟩
theorem pe_bm (pa : PlainAttrs T) (slot : Slot T name id) (hty : typeOf (.builtin id) = pure (.type "method_descriptor")) (hm : MtR X id r) (ho : PE X o to) (ha : PA X (e :: es) t)
    (hbase : attributeBase o name X.env (eval o X.env) = eval o X.env := by rfl)
    (hfew : ((backTo cpos (starEach (e :: es) X.env)).all (fun x => !x.1) && (backToKw cpos (keywordEach [] X.env)).all (fun x => x.1.isSome)
      && decide ((e :: es).length + ([] : List Keyword).length + (if ([] : List Keyword).isEmpty then 0 else 1) < 30)) = true := by rfl)
    (hline : (apos.endLine == cpos.line) = true := by rfl) (hs : starEach (e :: es) X.env = (false, eval e X.env) :: starEach es X.env := by rfl) (hplain : (backTo cpos (starEach es X.env)).any (·.1) = false := by rfl) :
    PE X (.Call (.Attribute o name apos) (e :: es) [] cpos) (tBM X.K T r to t) := by
  intro pins s σ H Q I h
  refine wpAny_Call_method_late hbase hfew hline rfl (thn (ho pins s σ H _ I h) fun v s1 ⟨x, H1, I1, r1, ty, q1⟩ => ?_)
  obtain ⟨h1, h2⟩ := tyV_is I1 r1 ty
  refine ⟨T, id, pa, slot, hty, h1, h2, ?_⟩
  have hA := ha cpos pins s1 σ H1 _ I1 q1
  rw [hs] at hA ⊢
  refine Calls.callWith_builtin (by show (false || (backTo cpos (starEach es X.env)).any (·.1)) = false; rw [hplain] <;> rfl) (Calls.evalArgs_plain ?_)
  exact thn hA fun us s2 ⟨vs, H2, I2, r2, q2⟩ => hm pins s2 σ H2 x vs v us Q I2 r1 r2 q2
/- xs.append(e), list.index on a module's tuple .. are MtR facts of 06m -/
end
end L2

namespace L2
open PySem PySem.Spec PyProof.Rows

def MtM (X : Cx) (id : String) (r : V → List V → Hp → VK → Prop) : Prop :=
  ∀ (pins : List (Addr × Obj)) (s : Shared) (σ : St) (H : Hp) (x : V) (xs : List V) (v : Value) (us : List Value) (Q : VK), Inv X pins σ H s → RelV x v → Vals xs us → r x xs H Q →
    wpAny (model X.prog X.w) X.A (call (.builtin id) (v :: us)) (EP X pins σ Q) X.xe s

/-! ### lists of values -/
theorem Vals.one : ∀ {x : V} {us : List Value}, Vals [x] us → ∃ u, us = [u] ∧ RelV x u
  | _, _, .cons r .nil => ⟨_, rfl, r⟩
theorem Vals.two : ∀ {x y : V} {us : List Value}, Vals [x, y] us → ∃ u v, us = [u, v] ∧ RelV x u ∧ RelV y v
  | _, _, _, .cons r (.cons q .nil) => ⟨_, _, rfl, r, q⟩
theorem Vals.zero : ∀ {us : List Value}, Vals [] us → us = []
  | _, .nil => rfl
theorem Vals.dropLast {xs : List V} {us : List Value} (h : Vals xs us) : Vals xs.dropLast us.dropLast := by
  induction h with
  | nil => exact .nil
  | cons r t ih =>
    cases t with
    | nil => exact .nil
    | cons q t' => exact .cons r ih
theorem Vals.eraseIdx : ∀ {xs : List V} {us : List Value} (i : Nat), Vals xs us → Vals (xs.eraseIdx i) (us.eraseIdx i)
  | _, _, _, .nil => .nil
  | _, _, 0, .cons _ t => t
  | _, _, i + 1, .cons r t => .cons r (Vals.eraseIdx i t)
theorem Vals.reverse {xs : List V} {us : List Value} (h : Vals xs us) : Vals xs.reverse us.reverse := by
  induction h with
  | nil => exact .nil
  | cons r t ih => rw [List.reverse_cons, List.reverse_cons]; exact Vals.append ih (.cons r .nil)
theorem Vals.rep {xs : List V} {us : List Value} (h : Vals xs us) : ∀ k : Nat, Vals (List.replicate k xs).flatten (List.replicate k us).flatten
  | 0 => .nil
  | k + 1 => by
    rw [List.replicate_succ, List.replicate_succ, List.flatten_cons, List.flatten_cons]
    exact Vals.append h (Vals.rep h k)
theorem erase_last {α : Type} (l : List α) : l.eraseIdx (l.length - 1) = l.dropLast := by
  induction l with
  | nil => rfl
  | cons a r ih =>
    cases r with
    | nil => rfl
    | cons b r =>
      have e : (a :: b :: r).length - 1 = ((b :: r).length - 1) + 1 := by
        have h1 : (a :: b :: r).length = r.length + 2 := rfl
        have h2 : (b :: r).length = r.length + 1 := rfl
        omega
      rw [e, List.eraseIdx_cons_succ, ih]
      all_goals rfl
theorem len_erase {α : Type} : ∀ (l : List α) (i : Nat), (l.eraseIdx i).length ≤ l.length
  | [], _ => Nat.le_refl _
  | _ :: _, 0 => Nat.le_succ _
  | _ :: r, i + 1 => Nat.succ_le_succ (len_erase r i)
theorem foldl_rep (its : List Value) : ∀ (k : Nat) (acc : List Value),
    List.foldl (fun x1 x2 => x1 ++ x2) acc.toArray (List.replicate k its.toArray) = (acc ++ (List.replicate k its).flatten).toArray
  | 0, acc => by simp
  | k + 1, acc => by
    have e : acc.toArray ++ its.toArray = (acc ++ its).toArray := by simp
    have e2 : (acc ++ its) ++ (List.replicate k its).flatten = acc ++ (List.replicate (k + 1) its).flatten := by
      rw [List.replicate_succ, List.flatten_cons, List.append_assoc]
    rw [← e2, ← foldl_rep its k (acc ++ its), ← e, List.replicate_succ, List.foldl_cons]

section
variable {X : Cx} {pins : List (Addr × Obj)} {σ : St} {H : Hp} {s : Shared} {l b : Addr} {xs ys zs : List V}

/-! ### the two steps: a tracked list is rewritten, a new list is laid -/
theorem Inv.lset {its its' : List Value} {n : Nat} {f : Array Value → Array Value} {t' : Nat} (I : Inv X pins σ H s) (hH : H l = some (.lst xs))
    (e : s.heap.get? l = some { cls := .type "list", data := .seq its.toArray n }) (hf : f its.toArray = its'.toArray) (hv : Vals ys its') (hz : ys.length ≤ sizeLine) :
    Inv X pins σ (upd H l (.lst ys)) { s with heap := s.heap.update l (Obj.mapSeq f), toks := t' } := by
  have q := PySem.IsL.update e f
  rw [hf] at q
  refine I.write (x := l) (e := l) (by rw [hH]; exact trivial) (.inl rfl) (fun b' u hb hu => (Heap.get?_update_other s.heap (Obj.mapSeq f) (Ne.symm hb)).trans hu) ⟨_, q⟩ ?_
  exact ⟨hz, its', _, hv, q⟩
theorem Inv.lnew {its : List Value} {t' : Nat} (I : Inv X pins σ H s) (hv : Vals ys its) (hz : ys.length ≤ sizeLine) :
    Inv X pins σ (upd H s.heap.objs.size (.lst ys)) { s with heap := s.heap.push { cls := .type "list", data := .seq its.toArray }, toks := t' } :=
  I.laid (fun _ _ q => Heap.get?_push_of_some _ q) (Nat.le_refl _) ⟨hz, its, 0, hv, Heap.get?_push_size _ rfl⟩
theorem Inv.fresh (I : Inv X pins σ H s) : H s.heap.objs.size = none := I.hok.fresh (Nat.le_refl _)
theorem Inv.lstM (I : Inv X pins σ H s) (hH : H l = some (.lst xs)) : xs.length ≤ sizeLine ∧ ∃ (its : List Value) (n : Nat), Vals xs its ∧ xs.length = its.length ∧ s.heap.get? l = some { cls := .type "list", data := .seq its.toArray n } := by
  obtain ⟨z, its, n, r, e⟩ := I.hok l _ hH
  exact ⟨z, its, n, r, r.length, e⟩

theorem notLongL {n : Nat} (h : n ≤ sizeLine) : Builtin.List.listTooLong n = false := by
  unfold Builtin.List.listTooLong
  exact decide_eq_false (by omega)
end

section
variable {X : Cx}

/-! ### methods -/
def rAppend : V → List V → Hp → VK → Prop := fun x vs H Q => ∃ l xs y, x = .ref l ∧ vs = [y] ∧ H l = some (.lst xs) ∧ xs.length < sizeLine ∧ Q .non (upd H l (.lst (xs ++ [y])))
theorem mt_append : MtM X "list.append" rAppend := by
  intro pins s σ H x vs v us Q I rx rv h
  obtain ⟨l, xs, y, rfl, rfl, hH, hz, q⟩ := h
  cases rx
  obtain ⟨u, rfl, ru⟩ := rv.one
  obtain ⟨z, its, n, r, hl, e⟩ := I.lstM hH
  refine call_meets F.slot_list_append ⟨_, e, rfl⟩ F.entry_list_append (F.args_list_append_2 _ _) (PySem.list_append l its.toArray n u (by rw [List.size_toArray]; omega)) ⟨e, ?_⟩
  refine ⟨.non, _, I.lset (its' := its ++ [u]) hH e (by simp) (r.append (.cons ru .nil)) ?_, rfl, q⟩
  rw [List.length_append, List.length_singleton]
  omega

def rExtend : V → List V → Hp → VK → Prop := fun x vs H Q => ∃ l b xs zs, x = .ref l ∧ vs = [.ref b] ∧ H l = some (.lst xs) ∧ H b = some (.lst zs) ∧ xs.length + zs.length ≤ sizeLine ∧ Q .non (upd H l (.lst (xs ++ zs)))
theorem mt_extend : MtM X "list.extend" rExtend := by
  intro pins s σ H x vs v us Q I rx rv h
  obtain ⟨l, b, xs, zs, rfl, rfl, hH, hB, hz, q⟩ := h
  cases rx
  obtain ⟨u, rfl, ru⟩ := rv.one
  cases ru
  obtain ⟨z, its, n, r, hl, e⟩ := I.lstM hH
  obtain ⟨z2, its2, n2, r2, hl2, e2⟩ := I.lstM hB
  have hsz : its.toArray.size + its2.toArray.size ≤ sizeLine := by rw [List.size_toArray, List.size_toArray]; omega
  have hlong : ¬ (!its.toArray.isEmpty && Builtin.List.listTooLong (its.toArray.size + its2.toArray.size)) = true := by
    rw [notLongL hsz, Bool.and_false]
    exact Bool.false_ne_true
  refine call_meets F.slot_list_extend ⟨_, e, rfl⟩ F.entry_list_extend (F.args_list_extend_2 _ _)
    (AutoSeq1.list_extend_list_list_0 l its.toArray n b its2.toArray n2 hlong (by rw [List.size_toArray]; omega) (by omega)) ⟨e, e2, ?_⟩
  refine ⟨.non, _, I.lset (its' := its ++ its2) hH e (by simp) (r.append r2) ?_, rfl, q⟩
  rw [List.length_append]
  omega

def rPop : V → List V → Hp → VK → Prop := fun x vs H Q => ∃ l xs y, x = .ref l ∧ vs = [] ∧ H l = some (.lst xs) ∧ xs[xs.length - 1]? = some y ∧ Q y (upd H l (.lst xs.dropLast))
theorem mt_pop : MtM X "list.pop" rPop := by
  intro pins s σ H x vs v us Q I rx rv h
  obtain ⟨l, xs, y, rfl, rfl, hH, hy, q⟩ := h
  cases rx
  have hus := rv.zero
  subst hus
  obtain ⟨z, its, n, r, hl, e⟩ := I.lstM hH
  obtain ⟨u, hu, ru⟩ := r.get hy
  have hy' : its.toArray[its.toArray.size - 1]? = some u := by
    show its.toArray[its.length - 1]? = some u
    rw [← Array.getElem?_toList, ← hl]
    exact hu
  refine call_meets F.slot_list_pop ⟨_, e, rfl⟩ F.entry_list_pop (F.args_list_pop_1 _) (MeetsSeq.list_pop_last l its.toArray n u hy' (by rw [List.size_toArray]; omega)) ⟨e, ?_⟩
  refine ⟨y, _, I.lset (its' := its.dropLast) hH e ?_ r.dropLast ?_, ru, q⟩
  · show its.toArray.eraseIdxIfInBounds (its.toArray.size - 1) = its.dropLast.toArray
    rw [List.size_toArray, List.eraseIdxIfInBounds_toArray, erase_last]
  · rw [List.length_dropLast]
    omega

def rPopAt : V → List V → Hp → VK → Prop := fun x vs H Q => ∃ l xs i k y, x = .ref l ∧ vs = [.int i] ∧ H l = some (.lst xs) ∧ -(2 ^ 63) ≤ i ∧ i < 2 ^ 63 ∧ seqIndex? i xs.length = some k ∧ xs[k]? = some y ∧ Q y (upd H l (.lst (xs.eraseIdx k)))
theorem mt_popAt : MtM X "list.pop" rPopAt := by
  intro pins s σ H x vs v us Q I rx rv h
  obtain ⟨l, xs, i, k, y, rfl, rfl, hH, h1, h2, hk, hy, q⟩ := h
  cases rx
  obtain ⟨u, rfl, ru⟩ := rv.one
  obtain ⟨t, rfl⟩ := ru
  obtain ⟨z, its, n, r, hl, e⟩ := I.lstM hH
  obtain ⟨w, hw, rw'⟩ := r.get hy
  refine call_meets F.slot_list_pop ⟨_, e, rfl⟩ F.entry_list_pop (F.args_list_pop_2 _ _)
    (MeetsSeq.list_pop_at l its.toArray n i t k w (fitsIndex_both h1 h2) (by rw [List.size_toArray, ← hl]; exact hk) (by rw [← Array.getElem?_toList]; exact hw) (by rw [List.size_toArray]; omega)) ⟨e, ?_⟩
  refine ⟨y, _, I.lset (its' := its.eraseIdx k) hH e ?_ (r.eraseIdx k) ?_, rw', q⟩
  · show its.toArray.eraseIdxIfInBounds k = (its.eraseIdx k).toArray
    rw [List.eraseIdxIfInBounds_toArray]
  · have := len_erase xs k
    omega

def rReverse : V → List V → Hp → VK → Prop := fun x vs H Q => ∃ l xs, x = .ref l ∧ vs = [] ∧ H l = some (.lst xs) ∧ Q .non (upd H l (.lst xs.reverse))
theorem mt_reverse : MtM X "list.reverse" rReverse := by
  intro pins s σ H x vs v us Q I rx rv h
  obtain ⟨l, xs, rfl, rfl, hH, q⟩ := h
  cases rx
  have hus := rv.zero
  subst hus
  obtain ⟨z, its, n, r, hl, e⟩ := I.lstM hH
  refine call_meets F.slot_list_reverse ⟨_, e, rfl⟩ F.entry_list_reverse (F.args_list_reverse_1 _) (AutoSeq1.list_reverse_list_0 l its.toArray n (by rw [List.size_toArray]; omega)) ⟨e, ?_⟩
  refine ⟨.non, _, I.lset (its' := its.reverse) hH e (by simp) r.reverse ?_, rfl, q⟩
  rw [List.length_reverse]
  omega

def rClear : V → List V → Hp → VK → Prop := fun x vs H Q => ∃ l xs, x = .ref l ∧ vs = [] ∧ H l = some (.lst xs) ∧ Q .non (upd H l (.lst []))
theorem mt_clear : MtM X "list.clear" rClear := by
  intro pins s σ H x vs v us Q I rx rv h
  obtain ⟨l, xs, rfl, rfl, hH, q⟩ := h
  cases rx
  have hus := rv.zero
  subst hus
  obtain ⟨z, its, n, r, hl, e⟩ := I.lstM hH
  refine call_meets F.slot_list_clear ⟨_, e, rfl⟩ F.entry_list_clear (F.args_list_clear_1 _) (AutoSeq1.list_clear_list_0 l its.toArray n (by rw [List.size_toArray]; omega)) ⟨e, ?_⟩
  exact ⟨.non, _, I.lset (its' := []) (ys := []) hH e rfl .nil (Nat.zero_le _), rfl, q⟩

/-! ### list + list, list += list, list * int -/
def rCat : R2 := fun x y H Q => ∃ l b xs zs, x = .ref l ∧ y = .ref b ∧ H l = some (.lst xs) ∧ H b = some (.lst zs) ∧ xs.length + zs.length ≤ sizeLine ∧ ∀ p, H p = none → Q (.ref p) (upd H p (.lst (xs ++ zs)))
theorem op_cat : OpR X (binaryOp .Add) rCat := by
  intro pins s σ H x y v u Q I rx ry h
  obtain ⟨l, b, xs, zs, rfl, rfl, hH, hB, hz, q⟩ := h
  cases rx
  cases ry
  obtain ⟨z, its, n, r, hl, e⟩ := I.lstM hH
  obtain ⟨z2, its2, n2, r2, hl2, e2⟩ := I.lstM hB
  refine PySem.P.add_list e e2 ?_ (by rw [List.size_toArray, List.size_toArray]; omega)
  have ea : its.toArray ++ its2.toArray = (its ++ its2).toArray := by simp
  rw [ea]
  exact ⟨.ref _, _, I.lnew (t' := s.toks) (r.append r2) (by rw [List.length_append]; omega), rfl, q _ I.fresh⟩
/-- a list times an int (a negative one is nothing) -/
def rRep : R2 := fun x y H Q => ∃ l k xs, x = .ref l ∧ y = .int k ∧ H l = some (.lst xs) ∧ -(2 ^ 63) ≤ k ∧ k < 2 ^ 63 ∧ xs.length * k.toNat ≤ sizeLine ∧
  ∀ p, H p = none → Q (.ref p) (upd H p (.lst (List.replicate k.toNat xs).flatten))
theorem len_rep {α : Type} (xs : List α) (k : Nat) : (List.replicate k xs).flatten.length = k * xs.length := by
  induction k with
  | zero => simp
  | succ k ih => rw [List.replicate_succ, List.flatten_cons, List.length_append, ih, Nat.succ_mul, Nat.add_comm]
theorem op_rep : OpR X (binaryOp .Mult) rRep := by
  intro pins s σ H x y v u Q I rx ry h
  obtain ⟨l, k, xs, rfl, rfl, hH, h1, h2, hz, q⟩ := h
  cases rx
  obtain ⟨t, rfl⟩ := ry
  obtain ⟨z, its, n, r, hl, e⟩ := I.lstM hH
  have hlen : its.toArray.size * k.toNat ≤ sizeLine := by rw [List.size_toArray, ← hl]; exact hz
  have hcap : ¬ its.toArray.size * k.toNat > (2 ^ 63 - 1) / 8 := by
    have : (sizeLine : Nat) ≤ (2 ^ 63 - 1) / 8 := by decide
    omega
  have hfit : ¬ (!Builtin.List.listFitsIndex k) = true := by
    rw [fitsIndex_both h1 h2]
    exact Bool.false_ne_true
  have hlong : ¬ Builtin.List.listTooLong (its.toArray.size * k.toNat) = true := by
    rw [notLongL hlen]
    exact Bool.false_ne_true
  have hnew : List.foldl (fun x1 x2 => x1 ++ x2) #[] (List.replicate (if its.toArray.isEmpty = true then 0 else k.toNat) its.toArray) = (List.replicate k.toNat its).flatten.toArray := by
    have f0 : ∀ m : Nat, List.foldl (fun x1 x2 => x1 ++ x2) #[] (List.replicate m its.toArray) = (List.replicate m its).flatten.toArray := fun m => by
      have := foldl_rep its m []
      rw [List.nil_append] at this
      exact this
    rw [f0]
    cases its with
    | nil => simp
    | cons a r' => rw [if_neg (by simp)]
  refine wpAny_binaryOp_repeat_ref (T := "list") (U := "int") (by decide) ⟨_, e, rfl⟩ (fun s' => typeIs_int s' k t) noFill_list_mul F.fills_int_mul F.slot_int_rmul repeat_list F.slot_int_index.lookup
    (call_meets F.slot_int_rmul (typeIs_int s k t) F.entry_int_rmul (F.args_int_rmul_2 _ _) (int___rmul___int_list k t l its.toArray n)
      ⟨e, rfl, ⟨_, e, rfl⟩, call_meets F.slot_list_mul ⟨_, e, rfl⟩ F.entry_list_mul (F.args_list_mul_2 _ _) (AutoListH.list___mul___list_int_3 l its.toArray n k t hfit hcap hlong) ⟨e, ?_⟩⟩)
  rw [hnew]
  exact ⟨.ref _, _, I.lnew (t' := s.toks) (r.rep k.toNat) (by rw [len_rep, Nat.mul_comm]; exact hz), rfl, q _ I.fresh⟩

/-! ### del xs[i] -/
theorem del_list {pins : List (Addr × Obj)} {s : Shared} {σ : St} {H : Hp} {l : Addr} {xs : List V} {i : Int} {t : Tok} {k : Nat} {Q : Unit → Shared → Prop} (I : Inv X pins σ H s) (hH : H l = some (.lst xs))
    (h1 : -(2 ^ 63) ≤ i) (h2 : i < 2 ^ 63) (hk : seqIndex? i xs.length = some k) (h : ∀ s', Inv X pins σ (upd H l (.lst (xs.eraseIdx k))) s' → Q () s') :
    wpAny (model X.prog X.w) X.A (delItem (.ref l) (.int i t)) Q X.xe s := by
  obtain ⟨z, its, n, r, hl, e⟩ := I.lstM hH
  refine PySem.P.delItem_list (k := k) e (fitsIndex_both h1 h2) (by rw [List.size_toArray, ← hl]; exact hk) (h _ ?_) (by rw [List.size_toArray]; omega)
  refine I.lset (its' := its.eraseIdx k) (t' := s.toks) hH e ?_ (r.eraseIdx k) ?_
  · show its.toArray.eraseIdxIfInBounds k = (its.eraseIdx k).toArray
    rw [List.eraseIdxIfInBounds_toArray]
  · have := len_erase xs k
    omega
end

/-! ### xs[a:b] = ys -/
section
variable {prog : Program} {w : World} {A : Around} {E : Value → Shared → Prop} {s : Shared}
theorem splice_eq (its its2 : List Value) (a c : Nat) : its.toArray.extract 0 a ++ its2.toArray ++ its.toArray.extract c its.toArray.size = (its.take a ++ its2 ++ its.drop c).toArray := by
  apply Array.toList_inj.mp
  first
    | (simp
       exact List.take_of_length_le (by simp))
    | simp [List.take_of_length_le]
    | simp
theorem bounds_run {a c n : Nat} (hac : a ≤ c) (hc : c ≤ n) : sliceBounds (some (a : Int)) (some (c : Int)) none n = ((a : Int), (c : Int), 1) := by
  simp only [sliceBounds, Option.getD_none]
  have h1 : ¬ ((a : Int) < 0) := by omega
  have h2 : ¬ ((c : Int) < 0) := by omega
  simp only [h1, h2, if_false, show (1 : Int) > 0 by decide, if_true]
  congr 1
  · omega
  · congr 1; omega
set_option maxRecDepth 100000 in
/-- list.__setitem__ with a slice of step one and another list -/
theorem setItem_slice {l b sl : Addr} {items new : Array Value} {n n2 : Nat} {vl vu : Value} {a c : Nat} {Q : Unit → Shared → Prop}
    (e : s.heap.get? l = some { cls := .type "list", data := .seq items n }) (e2 : s.heap.get? b = some { cls := .type "list", data := .seq new n2 }) (hne : l ≠ b)
    (hs : s.heap.IsSliceOf sl vl vu .none) (pl : IsPart vl (some (a : Int))) (pu : IsPart vu (some (c : Int))) (hac : a ≤ c) (hc : c ≤ items.size)
    (hsz : items.size + new.size ≤ sizeLine) (h : Q () { s with heap := s.heap.update l (Obj.mapSeq fun xs => xs.extract 0 a ++ new ++ xs.extract c xs.size) }) :
    wpAny (model prog w) A (setItem (.ref l) (.ref sl) (.ref b)) Q E s := by
  have hl : s.heap.IsList l items := PySem.IsL.isList e
  have hb : s.heap.IsList b new := PySem.IsL.isList e2
  obtain ⟨os, hos, hcs, hds⟩ := id hs
  have hTs : s.TypeIs (.ref sl) "slice" := ⟨os, hos, hcs⟩
  have hstep : ¬ ((rawPart none == rawInt 0) = true) := Bool.false_ne_true
  have hsame : Builtin.List.listSameRef (.ref l) (.ref b) = false := by
    unfold Builtin.List.listSameRef
    exact beq_eq_false_iff_ne.mpr hne
  have hmax : (max (a : Int) (c : Int)).toNat = c := by omega
  have hz' : ((fun xs : Array Value => xs.extract 0 a ++ new ++ xs.extract c xs.size) items).size ≤ sizeLine + 1 := by
    simp only [Array.size_append, Array.size_extract]
    omega
  unfold setItem
  try with_reducible refine wpAny_holding ?_
  first | refine wpAny_bind (wpAny_pure ?_) | skip
  refine wpAny_bind (wpAny_sequenceKey hl.typeIs (by decide) ?_)
  refine wpAny_bind (wpAny_callSpecial?_slot (name := Str.ofString "__setitem__") hl.typeIs slot_list_setitem
    (wpAny_call_entry slot_list_setitem hl.typeIs entry_list_setitem ?_ (args_list_setitem _ _ _)))
  show wpAny _ _ (Builtin.List.listSubscript? (.ref sl) >>= _) _ _ s
  refine wpAny_bind ?_
  unfold Builtin.List.listSubscript?
  refine wpAny_bind (wpAny_specialOf hTs slice_no_index ?_)
  simp only [Option.isNone_none, if_true]
  refine wpAny_pure ?_
  show wpAny _ _ (typeOf (.ref sl) >>= _) _ _ s
  refine wpAny_bind (wpAny_typeOf hTs ?_)
  first
    | rw [if_neg (by decide)]
    | refine PySem.W.KFB.if_not (by decide) ?_
  rw [listSliceParts_eq]
  refine wpAny_bind (wpAny_bind (wpAny_field hos hds (x := .none) rfl (wpAny_bind (wpAny_listPart .none ?_))))
  rw [if_neg hstep]
  refine wpAny_bind (wpAny_field hos hds (x := vl) rfl (wpAny_bind (wpAny_listPart pl ?_)))
  refine wpAny_bind (wpAny_field hos hds (x := vu) rfl (wpAny_bind (wpAny_listPart pu (wpAny_pure ?_))))
  first
    | simp only [hsame, Bool.false_eq_true, if_false]
    | refine PySem.W.KFB.if_not hsame ?_
    | (dsimp only
       rw [if_neg (by rw [hsame]; exact Bool.false_ne_true)])
  refine wpAny_bind (m := Builtin.List.listAllItems (.ref b) "must assign iterable to extended slice") ?_
  unfold Builtin.List.listAllItems
  refine wpAny_bind (wpAny_typeOf hb.typeIs ?_)
  first
    | refine PySem.W.KFB.if_so (by decide) ?_
    | rw [if_pos (by decide)]
    | simp only [beq_self_eq_true, Bool.true_or, if_true]
  unfold Builtin.List.listItems
  refine wpAny_bind (wpAny_seqItems e2 rfl (wpAny_pure ?_))
  refine wpAny_bind (wpAny_bind (wpAny_seqItems e rfl (wpAny_pure ?_)))
  refine wpAny_bind (wpAny_of_eq ((sliceIndices_raw (some (a : Int)) (some (c : Int)) none items.size (by simp)).trans (congrArg (pure : Int × Int × Int → Sem (Int × Int × Int)) (bounds_run hac hc))) ?_)
  show wpAny _ _ (if ((1 : Int) == 1) = true then _ else _) _ _ s
  rw [if_pos (by decide)]
  refine wpAny_bind (wpAny_rule ?_)
  first
    | simp only [notLongL hsz, Bool.false_eq_true, if_false]
    | refine PySem.W.KFB.if_not (notLongL hsz) ?_
  first | refine wpAny_bind (wpAny_pure ?_) | skip
  show wpAny _ _ (updateSeq l (fun xs => xs.extract 0 ((a : Int)).toNat ++ new ++ xs.extract (max (a : Int) (c : Int)).toNat xs.size) >>= _) _ _ s
  rw [hmax, Int.toNat_natCast]
  refine wpAny_bind (wpAny_updateSeq (hz := Nat.le_trans (Nat.le_add_right _ _) hsz) (_hz' := hz') e rfl ?_)
  refine wpAny_bind (wpAny_letGo ?_)
  first
    | exact wpAny_bind (wpAny_pure (wpAny_pure ⟨.none, rfl, wpAny_pure h⟩))
    | exact wpAny_pure ⟨.none, rfl, wpAny_pure h⟩
end

section
variable {X : Cx}
/-- xs[a:c] = ys of another list, at the value level: sl is the slice object that was just made -/
theorem set_slice {pins : List (Addr × Obj)} {s : Shared} {σ : St} {H : Hp} {l b sl : Addr} {xs ys : List V} {a c : Int} {vl vu : Value} {Q : Unit → Shared → Prop} (I : Inv X pins σ H s)
    (hH : H l = some (.lst xs)) (hB : H b = some (.lst ys)) (hne : l ≠ b) (hs : s.heap.IsSliceOf sl vl vu .none) (ra : RelV (.int a) vl) (rc : RelV (.int c) vu) (h0 : 0 ≤ a) (hac : a ≤ c) (hc : c ≤ xs.length)
    (hz : xs.length + ys.length ≤ sizeLine) (h : ∀ s', Inv X pins σ (upd H l (.lst (xs.take a.toNat ++ ys ++ xs.drop c.toNat))) s' → Q () s') :
    wpAny (model X.prog X.w) X.A (setItem (.ref l) (.ref sl) (.ref b)) Q X.xe s := by
  obtain ⟨ta, rfl⟩ := ra
  obtain ⟨tc, rfl⟩ := rc
  obtain ⟨z, its, n, r, hl, e⟩ := I.lstM hH
  obtain ⟨z2, its2, n2, r2, hl2, e2⟩ := I.lstM hB
  obtain ⟨a', rfl⟩ := Int.eq_ofNat_of_zero_le h0
  obtain ⟨c', rfl⟩ := Int.eq_ofNat_of_zero_le (Int.le_trans h0 hac)
  simp only [Int.toNat_natCast] at h
  refine setItem_slice (a := a') (c := c') e e2 hne hs (.int _ _) (.int _ _) (by omega) (by rw [List.size_toArray]; omega) (by rw [List.size_toArray, List.size_toArray]; omega) (h _ ?_)
  refine I.lset (its' := its.take a' ++ its2 ++ its.drop c') (t' := s.toks) hH e ?_ (Vals.append (Vals.append (r.take _) r2) (r.drop _)) ?_
  · exact splice_eq its its2 a' c'
  · rw [List.length_append, List.length_append, List.length_take, List.length_drop]
    omega
end
end L2


namespace L2
open PySem PySem.Spec PyProof.Rows

/-! ### lists of pairs as tables -/
section
variable {κ : Type} [DecidableEq κ]
def valV (kvs : List (κ × V)) (k : κ) : Option V := (kvs.find? fun kv => decide (kv.1 = k)).map (·.2)
/-- in its place, or at the end -/
def putK (kvs : List (κ × V)) (k : κ) (v : V) : List (κ × V) :=
  if (kvs.any fun kv => decide (kv.1 = k)) = true then kvs.map (fun kv => if kv.1 = k then (kv.1, v) else kv) else kvs ++ [(k, v)]
def dropK (kvs : List (κ × V)) (k : κ) : List (κ × V) := kvs.filter fun kv => decide (kv.1 ≠ k)

theorem valV_nil {k : κ} : valV ([] : List (κ × V)) k = none := rfl
theorem valV_pos {p : κ × V} {r : List (κ × V)} {k : κ} (e : p.1 = k) : valV (p :: r) k = some p.2 := by simp [valV, List.find?_cons, e]
theorem valV_neg {p : κ × V} {r : List (κ × V)} {k : κ} (e : ¬ p.1 = k) : valV (p :: r) k = valV r k := by simp [valV, List.find?_cons, e]
theorem valV_any (k : κ) : ∀ kvs : List (κ × V), (kvs.any fun kv => decide (kv.1 = k)) = (valV kvs k).isSome
  | [] => rfl
  | p :: r => by
    rw [List.any_cons]
    by_cases e : p.1 = k
    · simp only [valV_pos e, decide_eq_true e, Bool.true_or, Option.isSome_some]
    · rw [valV_neg e, decide_eq_false e, Bool.false_or]; exact valV_any k r
theorem valV_map (k j : κ) (y : V) : ∀ kvs : List (κ × V), valV (kvs.map fun kv => if kv.1 = k then (kv.1, y) else kv) j = (valV kvs j).map fun x => if j = k then y else x
  | [] => rfl
  | p :: r => by
    have ih := valV_map k j y r
    rw [List.map_cons]
    by_cases h : p.1 = k
    · rw [if_pos h]
      by_cases e : p.1 = j
      · rw [valV_pos (p := (p.1, y)) e, valV_pos e, Option.map_some, if_pos (e.symm.trans h)]
      · rw [valV_neg (p := (p.1, y)) e, valV_neg e, ih]
    · rw [if_neg h]
      by_cases e : p.1 = j
      · rw [valV_pos (p := p) e, valV_pos e, Option.map_some, if_neg (fun z => h (e.trans z))]
      · rw [valV_neg (p := p) e, valV_neg e, ih]
theorem valV_snoc (k j : κ) (y : V) : ∀ kvs : List (κ × V), valV kvs k = none → valV (kvs ++ [(k, y)]) j = if j = k then some y else valV kvs j
  | [], _ => by
    by_cases e : k = j
    · rw [if_pos e.symm]; exact valV_pos (p := (k, y)) e
    · rw [if_neg (fun z => e z.symm)]; exact valV_neg (p := (k, y)) e
  | p :: r, hn => by
    rw [List.cons_append]
    have hk : ¬ p.1 = k := fun z => by rw [valV_pos z] at hn; cases hn
    rw [valV_neg hk] at hn
    have ih := valV_snoc k j y r hn
    by_cases e : p.1 = j
    · rw [valV_pos e, valV_pos e, if_neg (fun z => hk (e.trans z))]
    · rw [valV_neg e, valV_neg e, ih]
theorem valV_put (kvs : List (κ × V)) (k j : κ) (y : V) : valV (putK kvs k y) j = if j = k then some y else valV kvs j := by
  unfold putK
  by_cases a : (kvs.any fun kv => decide (kv.1 = k)) = true
  · rw [if_pos a, valV_map]
    rw [valV_any] at a
    by_cases e : j = k
    · obtain ⟨x, hx⟩ := Option.isSome_iff_exists.mp a
      rw [if_pos e, e, hx, Option.map_some, if_pos rfl]
    · rw [if_neg e]
      cases valV kvs j with
      | none => rfl
      | some x => rw [Option.map_some, if_neg e]
  · rw [if_neg a]
    refine valV_snoc k j y kvs ?_
    rw [valV_any] at a
    cases q : valV kvs k with
    | none => rfl
    | some x => rw [q] at a; exact (a rfl).elim
theorem length_putK (kvs : List (κ × V)) (k : κ) (v : V) : (putK kvs k v).length ≤ kvs.length + 1 := by
  unfold putK
  split
  · rw [List.length_map]; omega
  · rw [List.length_append, List.length_cons, List.length_nil]; omega
theorem putK_new {kvs : List (κ × V)} {k : κ} (v : V) (h : valV kvs k = none) : putK kvs k v = kvs ++ [(k, v)] := by
  unfold putK
  rw [valV_any, h]
  exact if_neg (by decide)

theorem RelO.isSome_eq {o : Option V} {u : Option Value} (r : RelO o u) : o.isSome = u.isSome := by
  cases o with
  | none => cases u with
    | none => rfl
    | some _ => exact (show False from r).elim
  | some _ => cases u with
    | none => exact (show False from r).elim
    | some _ => rfl
theorem RelO.getD {o : Option V} {u : Option Value} {d : V} {d' : Value} (r : RelO o u) (rd : RelV d d') : RelV (o.getD d) (u.getD d') := by
  cases o with
  | none => cases u with
    | none => exact rd
    | some _ => exact (show False from r).elim
  | some _ => cases u with
    | none => exact (show False from r).elim
    | some _ => exact r

/-- raw tables of the same keys -/
theorem KV.val {kvs : List (κ × V)} {vs : List (κ × Value)} (r : KV kvs vs) (k : κ) : RelO (valV kvs k) (valueAt vs k) := by
  unfold KV at r
  induction r with
  | nil => exact True.intro
  | @cons p q ps qs h t ih =>
    obtain ⟨h1, h2⟩ := h
    by_cases e : p.1 = k
    · have e' : q.1 = k := h1.symm.trans e
      have b : valueAt (q :: qs) k = some q.2 := by simp [valueAt, List.find?_cons, e']
      rw [valV_pos e, b]; exact h2
    · have e' : ¬ q.1 = k := fun z => e (h1.trans z)
      have b : valueAt (q :: qs) k = valueAt qs k := by simp [valueAt, List.find?_cons, e']
      rw [valV_neg e, b]; exact ih
theorem KV.any {kvs : List (κ × V)} {vs : List (κ × Value)} (r : KV kvs vs) (k : κ) : (kvs.any fun kv => decide (kv.1 = k)) = vs.any fun kv => decide (kv.1 = k) := by
  unfold KV at r
  induction r with
  | nil => rfl
  | cons h t ih => rw [List.any_cons, List.any_cons, ih, h.1]
theorem KV.repl {kvs : List (κ × V)} {vs : List (κ × Value)} (r : KV kvs vs) (k : κ) {y : V} {u : Value} (ry : RelV y u) :
    KV (kvs.map fun kv => if kv.1 = k then (kv.1, y) else kv) (vs.map fun kv => if kv.1 = k then (kv.1, u) else kv) := by
  unfold KV at r ⊢
  induction r with
  | nil => exact .nil
  | @cons p q ps qs h t ih =>
    rw [List.map_cons, List.map_cons]
    refine .cons ?_ ih
    obtain ⟨h1, h2⟩ := h
    by_cases e : p.1 = k
    · rw [if_pos e, if_pos (h1.symm.trans e)]; exact ⟨h1, ry⟩
    · rw [if_neg e, if_neg (fun z => e (h1.trans z))]; exact ⟨h1, h2⟩
theorem KV.put {kvs : List (κ × V)} {vs : List (κ × Value)} (r : KV kvs vs) (k : κ) {y : V} {u : Value} (ry : RelV y u) : KV (putK kvs k y) (stored vs k u) := by
  unfold putK stored
  rw [r.any k]
  by_cases e : (vs.any fun kv => decide (kv.1 = k)) = true
  · rw [if_pos e, if_pos e]; exact r.repl k ry
  · rw [if_neg e, if_neg e]; exact Paired.snoc r ⟨rfl, ry⟩
theorem KV.drop {kvs : List (κ × V)} {vs : List (κ × Value)} (r : KV kvs vs) (k : κ) : KV (dropK kvs k) (without vs k) := by
  unfold KV at r ⊢
  unfold dropK without
  induction r with
  | nil => exact .nil
  | @cons p q ps qs h t ih =>
    obtain ⟨h1, h2⟩ := h
    rw [List.filter_cons, List.filter_cons]
    by_cases e : p.1 = k
    · have a : ¬ decide (p.1 ≠ k) = true := by simp [e]
      have b : ¬ decide (q.1 ≠ k) = true := by simp [h1.symm.trans e]
      rw [if_neg a, if_neg b]; exact ih
    · have e' : ¬ q.1 = k := fun z => e (h1.trans z)
      have a : decide (p.1 ≠ k) = true := by simp [e]
      have b : decide (q.1 ≠ k) = true := by simp [e']
      rw [if_pos a, if_pos b]; exact .cons ⟨h1, h2⟩ ih
theorem KV.keys {kvs : List (κ × V)} {vs : List (κ × Value)} (r : KV kvs vs) : kvs.map (·.1) = vs.map (·.1) := by
  unfold KV at r
  induction r with
  | nil => rfl
  | cons h t ih => rw [List.map_cons, List.map_cons, ih, h.1]
theorem KV.length {kvs : List (κ × V)} {vs : List (κ × Value)} (r : KV kvs vs) : kvs.length = vs.length := Paired.length r
theorem dropK_le (kvs : List (κ × V)) (k : κ) : (dropK kvs k).length ≤ kvs.length := List.length_filter_le _ _
end


/-! ### a tracked dict, its keys ints and texts or tuples of these -/
theorem kV_is {P : Program} {w : World} {k : Key} {u : Value} (r : RelV (kV k) u) : (mixKind P w).is k u = true := by
  cases k with
  | inl i => obtain ⟨t, e⟩ := (show ∃ t, u = Value.int i t from r); subst e; exact mixKind_int P w i t
  | inr x => obtain ⟨t, e⟩ := (show ∃ t, u = Value.str x t from r); subst e; exact mixKind_str P w x t
theorem kV_inj {a b : Key} (e : kV a = kV b) : a = b := by
  cases a with
  | inl i => cases b with
    | inl j => have e' : V.int i = V.int j := e; injection e' with e'; rw [e']
    | inr y => exact nomatch (show V.int i = V.str y from e)
  | inr x => cases b with
    | inl j => exact nomatch (show V.str x = V.int j from e)
    | inr y => have e' : V.str x = V.str y := e; injection e' with e'; rw [e']
theorem kVs_inj : ∀ {a b : List Key}, a.map kV = b.map kV → a = b
  | [], [], _ => rfl
  | [], _ :: _, e => by simp at e
  | _ :: _, [], e => by simp at e
  | x :: xs, y :: ys, e => by
    rw [List.map_cons, List.map_cons] at e
    injection e with e1 e2
    rw [kV_inj e1, kVs_inj e2]
theorem items_are {P : Program} {w : World} : ∀ {ks : List Key} {us : List Value}, Vals (ks.map kV) us → ItemsAre (mixKind P w) ks us
  | [], _, r => by rw [List.map_nil] at r; cases r; exact .nil
  | k :: ks, _, r => by
    rw [List.map_cons] at r
    cases r with
    | cons h t => exact .cons (kV_is h) (items_are t)

/-- raw entries of a dict with tuple keys -/
abbrev KT (H : Hp) : List (List Key × V) → List (List Key × Addr × Value) → Prop := Paired fun p q => p.1 = q.1 ∧ H q.2.1 = some (.tup (p.1.map kV)) ∧ RelV p.2 q.2.2
theorem KT.val {H : Hp} {kvs : List (List Key × V)} {xs : List (List Key × Addr × Value)} (r : KT H kvs xs) (k : List Key) : RelO (valV kvs k) ((atKey xs k).map (·.2)) := by
  induction r with
  | nil => exact True.intro
  | @cons p q ps qs h t ih =>
    obtain ⟨h1, _, h2⟩ := h
    by_cases e : p.1 = k
    · have e' : q.1 = k := h1.symm.trans e
      have b : atKey (q :: qs) k = some q.2 := by simp [atKey, List.find?_cons, e']
      rw [valV_pos e, b]; exact h2
    · have e' : ¬ q.1 = k := fun z => e (h1.trans z)
      have b : atKey (q :: qs) k = atKey qs k := by simp [atKey, List.find?_cons, e']
      rw [valV_neg e, b]; exact ih
theorem KT.repl {H : Hp} {kvs : List (List Key × V)} {xs : List (List Key × Addr × Value)} (r : KT H kvs xs) (k : List Key) {y : V} {u : Value} (ry : RelV y u) :
    KT H (kvs.map fun kv => if kv.1 = k then (kv.1, y) else kv) (xs.map (putAt k u)) := by
  induction r with
  | nil => exact .nil
  | @cons p q ps qs h t ih =>
    rw [List.map_cons, List.map_cons]
    refine .cons ?_ ih
    obtain ⟨h1, h2, h3⟩ := h
    unfold putAt
    by_cases e : p.1 = k
    · rw [if_pos e, if_pos (h1.symm.trans e)]; exact ⟨h1, h2, ry⟩
    · rw [if_neg e, if_neg (fun z => e (h1.trans z))]; exact ⟨h1, h2, h3⟩
theorem KT.put {H : Hp} {kvs : List (List Key × V)} {xs : List (List Key × Addr × Value)} (r : KT H kvs xs) (k : List Key) {b : Addr} {y : V} {u : Value} (hb : H b = some (.tup (k.map kV))) (ry : RelV y u) :
    KT H (putK kvs k y) (storedH xs k b u) := by
  have e : (kvs.any fun kv => decide (kv.1 = k)) = (atKey xs k).isSome := by
    rw [valV_any, (r.val k).isSome_eq, Option.isSome_map]
  unfold putK storedH
  rw [e]
  by_cases q : (atKey xs k).isSome = true
  · rw [if_pos q, if_pos q]; exact r.repl k ry
  · rw [if_neg q, if_neg q]; exact Paired.snoc r ⟨rfl, hb, ry⟩
theorem KT.keeps {H H' : Hp} {kvs : List (List Key × V)} {xs : List (List Key × Addr × Value)} (r : KT H kvs xs) (ht : ∀ b ys, H b = some (.tup ys) → H' b = some (.tup ys)) : KT H' kvs xs :=
  Paired.mapP r fun _ _ z => ⟨z.1, ht _ _ z.2.1, z.2.2⟩

section
variable {P : Program} {w : World} {H : Hp} {h : Heap} {a : Addr}
theorem rd_of {u : HO} (ok : HOk P w H h) (e : Rd H a u) : ObjOk P w H h a u := e.ok ok
theorem dk_rd {kvs : List (Key × V)} (ok : HOk P w H h) (e : Rd H a (.dK kvs)) : kvs.length ≤ sizeLine ∧ (a == sysModules) = false ∧ ∃ vs, KV kvs vs ∧ h.DictOf (mixKind P w) a vs :=
  show ObjOk P w H h a (.dK kvs) from rd_of ok e
theorem dk_of {kvs : List (Key × V)} (ok : HOk P w H h) (e : H a = some (.dK kvs)) : kvs.length ≤ sizeLine ∧ (a == sysModules) = false ∧ ∃ vs, KV kvs vs ∧ h.DictOf (mixKind P w) a vs := dk_rd ok (.inl e)
/-- a tracked tuple of ints and texts is a key -/
theorem key_of {ks : List Key} (ok : HOk P w H h) (e : H a = some (.tup (ks.map kV))) : (tupleKind (mixKind P w)).is h ks a := by
  obtain ⟨_, its, r, o, h1, h2, n, h3⟩ := (show ObjOk P w H h a (.tup (ks.map kV)) from ok a _ e)
  exact ⟨o, its.toArray, n, h1, h2, h3, by simpa using items_are r⟩
theorem dt_rd {kvs : List (List Key × V)} (ok : HOk P w H h) (e : Rd H a (.dT kvs)) : kvs.length ≤ sizeLine ∧ (a == sysModules) = false ∧
    ∃ xs, KT H kvs xs ∧ h.DictOfH (tupleKind (mixKind P w)) a xs := by
  obtain ⟨z, y, xs, r, o, es, ep, h1, h2, h3, h4, h5⟩ := (show ObjOk P w H h a (.dT kvs) from rd_of ok e)
  refine ⟨z, y, xs, r, o, es, ep, h1, h2, h3, h4, fun x hx => ?_, h5⟩
  have all : ∀ {l : List (List Key × V)} {m : List (List Key × Addr × Value)}, KT H l m → ∀ x ∈ m, (tupleKind (mixKind P w)).is h x.1 x.2.1 := by
    intro l m q
    induction q with
    | nil => intro x hx; exact nomatch hx
    | @cons p q ps qs hq t ih =>
      intro x hx
      rcases List.mem_cons.mp hx with e | hx
      · subst e
        exact key_of ok (by rw [← hq.1]; exact hq.2.1)
      · exact ih x hx
  exact all r x hx
theorem dt_of {kvs : List (List Key × V)} (ok : HOk P w H h) (e : H a = some (.dT kvs)) : kvs.length ≤ sizeLine ∧ (a == sysModules) = false ∧
    ∃ xs, KT H kvs xs ∧ h.DictOfH (tupleKind (mixKind P w)) a xs := dt_rd ok (.inl e)
end

/-- what the dict at a holds at the key y -/
def DGet (H : Hp) (a : Addr) (y : V) (r : Option V) : Prop :=
  (∃ kvs k, Rd H a (.dK kvs) ∧ y = kV k ∧ r = valV kvs k) ∨ ∃ kvs k b, Rd H a (.dT kvs) ∧ y = .ref b ∧ H b = some (.tup (k.map kV)) ∧ r = valV kvs k
/-- the heap behind a[y] = v -/
def DPut (H : Hp) (a : Addr) (y v : V) (H' : Hp) : Prop :=
  (∃ kvs k, H a = some (.dK kvs) ∧ y = kV k ∧ kvs.length < sizeLine ∧ H' = upd H a (.dK (putK kvs k v))) ∨
  ∃ kvs k b, H a = some (.dT kvs) ∧ y = .ref b ∧ H b = some (.tup (k.map kV)) ∧ kvs.length < sizeLine ∧ H' = upd H a (.dT (putK kvs k v))
theorem DGet.k {H : Hp} {a : Addr} {kvs : List (Key × V)} {k : Key} (e : H a = some (.dK kvs)) : DGet H a (kV k) (valV kvs k) := .inl ⟨kvs, k, .inl e, rfl, rfl⟩
theorem DGet.t {H : Hp} {a b : Addr} {kvs : List (List Key × V)} {k : List Key} (e : H a = some (.dT kvs)) (eb : H b = some (.tup (k.map kV))) : DGet H a (.ref b) (valV kvs k) := .inr ⟨kvs, k, b, .inl e, rfl, eb, rfl⟩
theorem DPut.k {H : Hp} {a : Addr} {kvs : List (Key × V)} {k : Key} {v : V} (e : H a = some (.dK kvs)) (hl : kvs.length < sizeLine) : DPut H a (kV k) v (upd H a (.dK (putK kvs k v))) := .inl ⟨kvs, k, e, rfl, hl, rfl⟩
theorem DPut.t {H : Hp} {a b : Addr} {kvs : List (List Key × V)} {k : List Key} {v : V} (e : H a = some (.dT kvs)) (eb : H b = some (.tup (k.map kV))) (hl : kvs.length < sizeLine) :
    DPut H a (.ref b) v (upd H a (.dT (putK kvs k v))) := .inr ⟨kvs, k, b, e, rfl, eb, hl, rfl⟩


section
variable {X : Cx} {pins : List (Addr × Obj)} {σ : St} {H : Hp} {s : Shared} {a : Addr} {y v : V} {u r : Value} {o : Option V} {A : Around} {E : Value → Shared → Prop}

theorem Inv.big (I : Inv X pins σ H s) : sysModules < s.heap.objs.size := by
  have h : mainGlobals < s.heap.objs.size := (I.mod.glob.keeps I.bk).lt
  exact Nat.lt_trans (by decide) h

/-- d[y], there -/
theorem d_getItem {Q : Value → Shared → Prop} (hu : A.units + 1 < cLine) (I : Inv X pins σ H s) (g : DGet H a y (some v)) (ry : RelV y u) (h : ∀ w' s', Inv X pins σ H s' → RelV v w' → Q w' s') :
    wpAny (model X.prog X.w) A (getItem (.ref a) u) Q E s := by
  rcases g with ⟨kvs, k, e, ey, l⟩ | ⟨kvs, k, b, e, ey, eb, l⟩
  · subst ey
    obtain ⟨z, hd, vs, rel, dd⟩ := dk_rd I.hok e
    obtain ⟨w', hw, rw'⟩ := RelO.some_of (v := v) (o := valueAt vs k) (by rw [l]; exact rel.val k)
    exact wpAny_getItem_of (kV_is ry) dd.mapOf hw (h w' _ (I.tok _) rw')
  · subst ey
    cases (show u = Value.ref b from ry)
    obtain ⟨z, hd, xs, rel, dd⟩ := dt_rd I.hok e
    obtain ⟨w', hw, rw'⟩ := RelO.some_of (v := v) (o := (atKey xs k).map (·.2)) (by rw [l]; exact rel.val k)
    obtain ⟨p, hp, hp2⟩ := Option.map_eq_some_iff.mp hw
    refine wpAny_getItem_heap (tupleKind_room_in1 hu) (key_of I.hok eb) dd hp ?_
    rw [hp2]
    exact h w' _ (I.tok _) rw'
/-- y in d -/
theorem d_in {Q : Value → Shared → Prop} (hu : A.units + 1 < cLine) (I : Inv X pins σ H s) (g : DGet H a y o) (ry : RelV y u) (h : ∀ s', Inv X pins σ H s' → Q (.bool o.isSome) s') :
    wpAny (model X.prog X.w) A (compareOp .In u (.ref a)) Q E s := by
  rcases g with ⟨kvs, k, e, ey, l⟩ | ⟨kvs, k, b, e, ey, eb, l⟩
  · subst ey
    obtain ⟨z, hd, vs, rel, dd⟩ := dk_rd I.hok e
    refine wpAny_in_of (kV_is ry) hd dd.mapOf ?_
    rw [← (rel.val k).isSome_eq, ← l]
    exact h _ (I.tok _)
  · subst ey
    cases (show u = Value.ref b from ry)
    obtain ⟨z, hd, xs, rel, dd⟩ := dt_rd I.hok e
    refine wpAny_in_heap (tupleKind_room_in1 hu) (key_of I.hok eb) hd dd ?_
    have q := (rel.val k).isSome_eq
    rw [Option.isSome_map] at q
    rw [← q, ← l]
    exact h _ (I.tok _)
theorem d_notIn {Q : Value → Shared → Prop} (hu : A.units + 1 < cLine) (I : Inv X pins σ H s) (g : DGet H a y o) (ry : RelV y u) (h : ∀ s', Inv X pins σ H s' → Q (.bool (!o.isSome)) s') :
    wpAny (model X.prog X.w) A (compareOp .NotIn u (.ref a)) Q E s := by
  rcases g with ⟨kvs, k, e, ey, l⟩ | ⟨kvs, k, b, e, ey, eb, l⟩
  · subst ey
    obtain ⟨z, hd, vs, rel, dd⟩ := dk_rd I.hok e
    refine wpAny_notIn_of (kV_is ry) hd dd.mapOf ?_
    rw [← (rel.val k).isSome_eq, ← l]
    exact h _ (I.tok _)
  · subst ey
    cases (show u = Value.ref b from ry)
    obtain ⟨z, hd, xs, rel, dd⟩ := dt_rd I.hok e
    refine wpAny_notIn_heap (tupleKind_room_in1 hu) (key_of I.hok eb) hd dd ?_
    have q := (rel.val k).isSome_eq
    rw [Option.isSome_map] at q
    rw [← q, ← l]
    exact h _ (I.tok _)
/-- a dict's object is replaced -/
theorem d_write {h' : Heap} {t' : Nat} {ob : HO} (I : Inv X pins σ H s) (mu : Mut (H a)) (hs : Heap.SameBut a s.heap h') (he : ∃ q, h'.get? a = some q) (new : ObjOk X.prog X.w (upd H a ob) h' a ob) :
    Inv X pins σ (upd H a ob) { s with heap := h', toks := t' } :=
  I.write (x := a) (e := a) mu (.inl rfl) (fun b q hb z => (hs.2 b hb).trans z) he new
theorem dk_new {P : Program} {w : World} {H' : Hp} {h' : Heap} {kvs : List (Key × V)} {vs : List (Key × Value)} (z : kvs.length ≤ sizeLine) (hd : (a == sysModules) = false) (rel : KV kvs vs) (dd : h'.DictOf (mixKind P w) a vs) :
    ObjOk P w H' h' a (.dK kvs) := ⟨z, hd, vs, rel, dd⟩
/-- d[y] = v -/
theorem d_setItem {H' : Hp} {Q : Unit → Shared → Prop} (hu : A.units + 1 < cLine) (I : Inv X pins σ H s) (g : DPut H a y v H') (ry : RelV y u) (rv : RelV v r) (h : ∀ s', Inv X pins σ H' s' → Q () s') :
    wpAny (model X.prog X.w) A (setItem (.ref a) u r) Q E s := by
  rcases g with ⟨kvs, k, e, ey, l, eH⟩ | ⟨kvs, k, b, e, ey, eb, l, eH⟩
  · subst ey eH
    obtain ⟨z, hd, vs, rel, dd⟩ := dk_of I.hok e
    have hz : vs.length ≤ sizeLine := by rw [← rel.length]; exact z
    have hl : (putK kvs k v).length ≤ sizeLine := by have := length_putK kvs k v; omega
    refine wpAny_setItem_pairs (hsz := hz) (kV_is ry) dd fun h' dd' hs => h _ ?_
    have he : ∃ q, h'.get? a = some q := let ⟨q, _, _, hq, _⟩ := dd'; ⟨q, hq⟩
    exact d_write I (by rw [e]; exact True.intro) hs he (dk_new hl hd (rel.put k rv) dd')
  · subst ey eH
    cases (show u = Value.ref b from ry)
    obtain ⟨z, hd, xs, rel, dd⟩ := dt_of I.hok e
    have hz : xs.length ≤ sizeLine := by rw [← Paired.length rel]; exact z
    have hl : (putK kvs k v).length ≤ sizeLine := by have := length_putK kvs k v; omega
    refine wpAny_setItem_heap (hsz := hz) (tupleKind_room_in1 hu) (key_of I.hok eb) dd fun h' dd' hs => h _ ?_
    obtain ⟨q, es, ep, hq, h2, h3, h4, _, h5⟩ := dd'
    refine d_write I (by rw [e]; exact True.intro) hs ⟨q, hq⟩ ⟨hl, hd, _, (rel.put k eb rv).keeps fun c ys ec => ?_, q, es, ep, hq, h2, h3, h4, h5⟩
    rw [upd_ne (ne_of ec e (fun z => nomatch z))]
    exact ec
end

section
variable {X : Cx} {pins : List (Addr × Obj)} {σ : St} {H : Hp} {s : Shared} {a : Addr} {kvs : List (Key × V)} {k : Key} {u : Value} {A : Around} {E : Value → Shared → Prop}
/-- del d[k] -/
theorem d_delItem {Q : Unit → Shared → Prop} (I : Inv X pins σ H s) (e : H a = some (.dK kvs)) (ry : RelV (kV k) u) (l : (valV kvs k).isSome = true) (h : ∀ s', Inv X pins σ (upd H a (.dK (dropK kvs k))) s' → Q () s') :
    wpAny (model X.prog X.w) A (delItem (.ref a) u) Q E s := by
  obtain ⟨z, hd, vs, rel, dd⟩ := dk_of I.hok e
  refine wpAny_delItem_slot dd.typeIs (by decide) PySem.F.slot_dict_delitem
    (call_meetsIn PySem.F.slot_dict_delitem dd.typeIs PySem.F.entry_dict_delitem (PySem.F.args_dict_delitem_2 _ _) (meets_dict_delitem_pairs (mixKind X.prog X.w) a (kV_is ry)) ⟨vs, dd, by rw [← rel.length]; exact z, by rw [← (rel.val k).isSome_eq]; exact l, fun h' dd' hs => h _ ?_⟩)
  have he : ∃ q, h'.get? a = some q := let ⟨q, _, _, hq, _⟩ := dd'; ⟨q, hq⟩
  exact d_write I (by rw [e]; exact True.intro) hs he (dk_new (Nat.le_trans (dropK_le kvs k) z) hd (rel.drop k) dd')
/-- d.pop(k[, x]), there -/
theorem d_pop {v : V} {more : List Value} {Q : Value → Shared → Prop} (I : Inv X pins σ H s) (e : H a = some (.dK kvs)) (ry : RelV (kV k) u) (l : valV kvs k = some v) (hm : more = [] ∨ ∃ x, more = [x])
    (h : ∀ w' s', Inv X pins σ (upd H a (.dK (dropK kvs k))) s' → RelV v w' → Q w' s') : wpAny (model X.prog X.w) A (call (.builtin "dict.pop") (.ref a :: u :: more)) Q E s := by
  obtain ⟨z, hd, vs, rel, dd⟩ := dk_of I.hok e
  obtain ⟨w', hw, rw'⟩ := RelO.some_of (v := v) (o := valueAt vs k) (by rw [← l]; exact rel.val k)
  have hp : (keyPart u).isSome = true := by
    cases k with
    | inl i => obtain ⟨t, q⟩ := (show ∃ t, u = Value.int i t from ry); subst q; rfl
    | inr x => obtain ⟨t, q⟩ := (show ∃ t, u = Value.str x t from ry); subst q; rfl
  have ha : argsOk "dict.pop" ⟨.ref a :: u :: more, []⟩ := by
    rcases hm with q | ⟨x, q⟩
    · subst q; exact PySem.F.args_dict_pop_2 _ _
    · subst q; exact PySem.F.args_dict_pop_3 _ _ _
  refine call_meetsIn PySem.F.slot_dict_pop dd.typeIs PySem.F.entry_dict_pop ha (meets_dict_pop_there (mixKind X.prog X.w) a (kV_is ry) more hm hp)
    ⟨vs, w', dd, by rw [← rel.length]; exact z, hw, fun h' dd' hs => h w' _ ?_ rw'⟩
  have he : ∃ q, h'.get? a = some q := let ⟨q, _, _, hq, _⟩ := dd'; ⟨q, hq⟩
  exact d_write I (by rw [e]; exact True.intro) hs he (dk_new (Nat.le_trans (dropK_le kvs k) z) hd (rel.drop k) dd')
/-- d.pop(k, x), not there -/
theorem d_popD {r : Value} {Q : Value → Shared → Prop} (I : Inv X pins σ H s) (e : H a = some (.dK kvs)) (ry : RelV (kV k) u) (l : valV kvs k = none) (h : ∀ s', Inv X pins σ H s' → Q r s') :
    wpAny (model X.prog X.w) A (call (.builtin "dict.pop") [.ref a, u, r]) Q E s := by
  obtain ⟨z, hd, vs, rel, dd⟩ := dk_of I.hok e
  have hn : valueAt vs k = none := RelO.none_of (by rw [← l]; exact rel.val k)
  have hp : (keyPart u).isSome = true := by
    cases k with
    | inl i => obtain ⟨t, q⟩ := (show ∃ t, u = Value.int i t from ry); subst q; rfl
    | inr x => obtain ⟨t, q⟩ := (show ∃ t, u = Value.str x t from ry); subst q; rfl
  exact call_meetsIn PySem.F.slot_dict_pop dd.typeIs PySem.F.entry_dict_pop (PySem.F.args_dict_pop_3 _ _ _) (meets_dict_pop_default (mixKind X.prog X.w) a (kV_is ry) hd hp r) ⟨vs, dd, hn, h _ (I.tok _)⟩
/-- d.clear() -/
theorem d_clear {Q : Value → Shared → Prop} (I : Inv X pins σ H s) (e : H a = some (.dK kvs)) (h : ∀ s', Inv X pins σ (upd H a (.dK [])) s' → Q .none s') : wpAny (model X.prog X.w) A (call (.builtin "dict.clear") [.ref a]) Q E s := by
  obtain ⟨z, hd, vs, rel, dd⟩ := dk_of I.hok e
  refine call_meetsIn PySem.F.slot_dict_clear dd.typeIs PySem.F.entry_dict_clear (PySem.F.args_dict_clear_1 _) (meets_dict_clear (mixKind X.prog X.w) a) ⟨vs, dd, by rw [← rel.length]; exact z, fun h' dd' hs => h _ ?_⟩
  have he : ∃ q, h'.get? a = some q := let ⟨q, _, _, hq, _⟩ := dd'; ⟨q, hq⟩
  exact d_write (t' := s.toks) I (by rw [e]; exact True.intro) hs he (dk_new (Nat.zero_le _) hd .nil dd')
/-- len(d) -/
theorem d_len {Q : Value → Shared → Prop} (I : Inv X pins σ H s) (e : Rd H a (.dK kvs)) (h : ∀ t s', Inv X pins σ H s' → Q (.int kvs.length t) s') : wpAny (model X.prog X.w) A (call (.builtin "len") [.ref a]) Q E s := by
  obtain ⟨z, hd, vs, rel, dd⟩ := dk_rd I.hok e
  refine call_len_dict hd dd (by rw [← rel.length]; rw [sizeLine_eq] at z; omega) ?_
  rw [← rel.length]
  exact h _ _ (I.tok _)
/-- if d -/
theorem d_truth {Q : Bool → Shared → Prop} (I : Inv X pins σ H s) (e : Rd H a (.dK kvs)) (h : ∀ s', Inv X pins σ H s' → Q (!kvs.isEmpty) s') : wpAny (model X.prog X.w) A (truthy (.ref a)) Q E s := by
  obtain ⟨z, hd, vs, rel, dd⟩ := dk_rd I.hok e
  refine wpAny_truthy_dict hd dd (by rw [← rel.length]; rw [sizeLine_eq] at z; omega) ?_
  have q : kvs.isEmpty = vs.isEmpty := by cases rel <;> rfl
  rw [← q]
  exact h _ (I.tok _)
end


/-! ### readings and rules -/
/-- the element of a subscription, not a slice -/
def NoSl (i : Expr) : Prop := ∀ ov iv, subscripted i false ov iv = operate [ov, iv] (getItem ov iv)
theorem subD_of {prog : Program} {w : World} {A : Around} {E : Value → Shared → Prop} {s : Shared} {env : Env} {value slice : Expr} {pos : Pos} {T id : String} {Q : Value → Shared → Prop}
    (hl : typeLookup (.type T) "__getitem__" = pure (some (.builtin id))) (hs : NoSl slice)
    (h : wpAny (model prog w) A (eval value env) (fun o s₁ => wpAny (model prog w) A (eval slice env) (fun i s₂ => s₂.TypeIs o T ∧ wpAny (model prog w) A (getItem o i) Q E s₂) E s₁) E s) :
    wpAny (model prog w) A (eval (.Subscript value slice pos) env) Q E s := by
  refine Subscript_ (wpAny_mono h (fun o s₁ h₁ => wpAny_mono h₁ (fun i s₂ h₂ => ?_) fun _ _ x => x) fun _ _ x => x)
  obtain ⟨hT, h₂⟩ := h₂
  unfold subscriptTail
  refine wpAny_bind ?_
  rw [getitemInPython_of_ne hT.not_modules]
  refine wpAny_bind (wpAny_specialOf hT hl ?_)
  have fin : wpAny (model prog w) A (subscripted slice false o i) (fun r s₃ => wpAny (model prog w) A (letTemporaryGo value o r >>= fun _ => pure r) Q E s₃) E s₂ := by
    rw [hs o i]
    exact wpAny_operating (wpAny_mono h₂ (fun r s₃ h₃ => wpAny_bind (wpAny_letTemporaryGo (wpAny_pure h₃))) fun _ _ x => x)
  first
    | exact wpAny_pure (wpAny_bind fin)
    | exact wpAny_bind (wpAny_pure (wpAny_bind fin))
    | exact wpAny_bind fin

theorem dict_typeIs {X : Cx} {pins : List (Addr × Obj)} {σ : St} {H : Hp} {s : Shared} {a : Addr} {y : V} {o : Option V} (I : Inv X pins σ H s) (g : DGet H a y o) : s.TypeIs (.ref a) "dict" := by
  rcases g with ⟨kvs, k, e, _, _⟩ | ⟨kvs, k, b, e, _, _, _⟩
  · obtain ⟨_, _, vs, _, dd⟩ := dk_rd I.hok e
    exact dd.typeIs
  · obtain ⟨_, _, xs, _, dd⟩ := dt_rd I.hok e
    exact dd.typeIs
theorem dict_noDict {X : Cx} {pins : List (Addr × Obj)} {σ : St} {H : Hp} {s : Shared} {a : Addr} {y : V} {o : Option V} (I : Inv X pins σ H s) (g : DGet H a y o) :
    ∀ b, Value.ref a = .ref b → ∃ ob, s.heap.get? b = some ob ∧ ob.dict = none := fun b q => by
  cases q
  rcases g with ⟨kvs, k, e, _, _⟩ | ⟨kvs, k, b, e, _, _, _⟩
  · obtain ⟨_, _, vs, _, ob, _, _, h1, h2, _⟩ := dk_rd I.hok e
    exact ⟨ob, h1, h2.2.1⟩
  · obtain ⟨_, _, xs, _, ob, _, _, h1, h2, _⟩ := dt_rd I.hok e
    exact ⟨ob, h1, h2.2.1⟩

/-- d[y] -/
def tDGet (td ty : TE) : TE := fun σ H Q => td σ H fun x H1 => ty σ H1 fun y H2 => ∃ a v, x = .ref a ∧ DGet H2 a y (some v) ∧ Q v H2
/-- y in d, y not in d -/
def tDIn (ty td : TE) : TE := fun σ H Q => ty σ H fun y H1 => td σ H1 fun x H2 => ∃ a o, x = .ref a ∧ DGet H2 a y o ∧ Q (.bl o.isSome) H2
def tDNotIn (ty td : TE) : TE := fun σ H Q => ty σ H fun y H1 => td σ H1 fun x H2 => ∃ a o, x = .ref a ∧ DGet H2 a y o ∧ Q (.bl (!o.isSome)) H2
/-- d[y] = v -/
def sDPut (td ty tv : TE) : TS := fun D σ H => tv σ H fun v H1 => td σ H1 fun x H2 => ty σ H2 fun y H3 => ∃ a H4, x = .ref a ∧ DPut H3 a y v H4 ∧ D.nx σ H4
/-- d[y] op= v -/
def sDAug (td ty tv : TE) (rd : V → V → Hp → VK → Prop) : TS := fun D σ H => td σ H fun x H1 => ty σ H1 fun y H2 => ∃ a v, x = .ref a ∧ DGet H2 a y (some v) ∧
  tv σ H2 fun y2 H3 => rd v y2 H3 fun z H4 => ∃ H5, DPut H4 a y z H5 ∧ D.nx σ H5
/-- del d[y] -/
def sDDel (td ty : TE) : TS := fun D σ H => td σ H fun x H1 => ty σ H1 fun y H2 => ∃ a kvs k, x = .ref a ∧ H2 a = some (.dK kvs) ∧ y = kV k ∧ (valV kvs k).isSome = true ∧ D.nx σ (upd H2 a (.dK (dropK kvs k)))

section
variable {X : Cx} {o i e value : Expr} {pos pos' tpos : Pos} {td ty tv : TE}
theorem pe_dget (hu : X.A.units + 1 < cLine) (ho : PE X o td) (hi : PE X i ty) (hs : NoSl i) : PE X (.Subscript o i pos) (tDGet td ty) := by
  intro pins s σ H Q I h
  refine subD_of PySem.F.slot_dict_getitem.lookup hs (thn (ho pins s σ H _ I h) fun u s1 ⟨x, H1, I1, rx, q1⟩ => thn (hi pins s1 σ H1 _ I1 q1) fun iv s2 ⟨y, H2, I2, ry, a, v, ex, g, q2⟩ => ?_)
  subst ex
  obtain rfl : u = Value.ref a := rx
  exact ⟨dict_typeIs I2 g, d_getItem hu I2 g ry fun w' s3 I3 rw' => ⟨v, H2, I3, rw', q2⟩⟩
theorem pc_din (hu : X.A.units + 1 < cLine) (hi : PE X i ty) (ho : PE X o td) : PC X .In i o (tDIn ty td) := by
  intro pins s σ H Q I h
  refine thn (hi pins s σ H _ I h) fun iv s1 ⟨y, H1, I1, ry, q1⟩ => thn (ho pins s1 σ H1 _ I1 q1) fun u s2 ⟨x, H2, I2, rx, a, ov, ex, g, q2⟩ => ?_
  subst ex
  obtain rfl : u = Value.ref a := rx
  exact d_in hu I2 g ry fun s3 I3 => ⟨.bl ov.isSome, H2, I3, rfl, q2⟩
theorem pc_dnotin (hu : X.A.units + 1 < cLine) (hi : PE X i ty) (ho : PE X o td) : PC X .NotIn i o (tDNotIn ty td) := by
  intro pins s σ H Q I h
  refine thn (hi pins s σ H _ I h) fun iv s1 ⟨y, H1, I1, ry, q1⟩ => thn (ho pins s1 σ H1 _ I1 q1) fun u s2 ⟨x, H2, I2, rx, a, ov, ex, g, q2⟩ => ?_
  subst ex
  obtain rfl : u = Value.ref a := rx
  exact d_notIn hu I2 g ry fun s3 I3 => ⟨.bl (!ov.isSome), H2, I3, rfl, q2⟩
theorem ps_dput (hu : X.A.units + 1 < cLine) (ho : PE X o td) (hi : PE X i ty) (hv : PE X value tv) (hs : swapsWith value (some (.Subscript o i pos')) pos.line X.env = pure false) :
    PS X (.Assign [.Subscript o i pos'] value pos) (sDPut td ty tv) := by
  intro pins s σ H D I h
  refine wpAny_Assign_Subscript (thn (hv pins s σ H _ I h) fun r s1 ⟨v, H1, I1, rv, q1⟩ => thn (ho pins s1 σ H1 _ I1 q1) fun u s2 ⟨x, H2, I2, rx, q2⟩ => thn (hi pins s2 σ H2 _ I2 q2) fun iv s3 ⟨y, H3, I3, ry, a, H4, ex, g, q3⟩ => ?_) hs
  subst ex
  obtain rfl : u = Value.ref a := rx
  exact d_setItem hu I3 g ry rv fun s4 I4 => ⟨σ, H4, I4, q3⟩
theorem ps_daug {op : Operator} {rd : V → V → Hp → VK → Prop} (hu : X.A.units + 1 < cLine) (ho : PE X o td) (hi : PE X i ty) (hv : PE X value tv) (hop : InOp X op rd)
    (ha : ∀ ov iv new, augStore i ov iv new = (do holding [new, ov, iv] (setItem ov iv new); release [new, ov, iv] []; pure .next)) : PS X (.AugAssign (.Subscript o i tpos) op value pos) (sDAug td ty tv rd) := by
  intro pins s σ H D I h
  refine wpAny_AugAssign_SubscriptAny (thn (ho pins s σ H _ I h) fun u s1 ⟨x, H1, I1, rx, q1⟩ => thn (hi pins s1 σ H1 _ I1 q1) fun iv s2 ⟨y, H2, I2, ry, a, v, ex, g, q2⟩ => ?_) ha
  subst ex
  obtain rfl : u = Value.ref a := rx
  refine d_getItem hu I2 g ry fun w' s3 I3 rw' => thn (hv pins s3 σ H2 _ I3 q2) fun w2 s4 ⟨y2, H3, I4, ry2, q3⟩ => thn (hop pins s4 σ H3 v y2 w' w2 _ I4 rw' ry2 q3) fun w3 s5 ⟨z, H4, I5, rz, H5, g5, q4⟩ => ?_
  exact d_setItem hu I5 g5 ry rz fun s6 I6 => ⟨σ, H5, I6, q4⟩
theorem ps_ddel (ho : PE X o td) (hi : PE X i ty) : PS X (.Delete [.Subscript o i tpos] pos) (sDDel td ty) := by
  intro pins s σ H D I h
  refine wpAny_Delete (wpAny_deleteEach_cons (wpAny_delete_Subscript (thn (ho pins s σ H _ I h) fun u s1 ⟨x, H1, I1, rx, q1⟩ => thn (hi pins s1 σ H1 _ I1 q1) fun iv s2 ⟨y, H2, I2, ry, a, kvs, k, ex, e, ey, l, q2⟩ => ?_)))
  subst ex ey
  obtain rfl : u = Value.ref a := rx
  exact d_delItem I2 e ry l fun s3 I3 => wpAny_deleteEach_nil ⟨σ, _, I3, q2⟩
end


/-! ### displays -/
theorem dk_empty {P : Program} {w : World} {H : Hp} (h : Heap) (hb : sysModules < h.objs.size) : ObjOk P w H (h.push { cls := .type "dict", data := .dict #[] }) h.objs.size (.dK []) :=
  ⟨Nat.zero_le _, beq_eq_false_iff_ne.mpr (Ne.symm (Nat.ne_of_lt hb)), [], .nil, Heap.DictOf.new h⟩
theorem dt_empty {P : Program} {w : World} {H : Hp} (h : Heap) (hb : sysModules < h.objs.size) : ObjOk P w H (h.push { cls := .type "dict", data := .dict #[] }) h.objs.size (.dT []) :=
  ⟨Nat.zero_le _, beq_eq_false_iff_ne.mpr (Ne.symm (Nat.ne_of_lt hb)), [], .nil, _, #[], 0, Heap.get?_push_size _ rfl, ⟨rfl, rfl, rfl⟩, rfl, rfl, List.nodup_nil⟩
/-- {}, to be a dict of the kind that is wanted -/
def tDNewK : TE := fun _ H Q => ∀ p, H p = none → Q (.ref p) (upd H p (.dK []))
def tDNewT : TE := fun _ H Q => ∀ p, H p = none → Q (.ref p) (upd H p (.dT []))
section
variable {X : Cx} {pos : Pos}
theorem pe_dnewK : PE X (.Dict [] [] pos) tDNewK := fun pins s σ H Q I h =>
  wpAny_Dict_empty ⟨.ref s.heap.objs.size, _, I.laid (a := s.heap.objs.size) (o := .dK []) (t' := s.toks) (fun _ _ q => Heap.get?_push_of_some _ q) (Nat.le_refl _) (dk_empty s.heap I.big), rfl, h _ (I.hok.fresh (Nat.le_refl _))⟩
theorem pe_dnewT : PE X (.Dict [] [] pos) tDNewT := fun pins s σ H Q I h =>
  wpAny_Dict_empty ⟨.ref s.heap.objs.size, _, I.laid (a := s.heap.objs.size) (o := .dT []) (t' := s.toks) (fun _ _ q => Heap.get?_push_of_some _ q) (Nat.le_refl _) (dt_empty s.heap I.big), rfl, h _ (I.hok.fresh (Nat.le_refl _))⟩
end

/-- the pairs of a display, from the left -/
def tPairs : List (TE × TE) → St → Hp → (List (V × V) → Hp → Prop) → Prop
  | [], _, H, Q => Q [] H
  | (tk, tv) :: r, σ, H, Q => tk σ H fun x H1 => tv σ H1 fun y H2 => tPairs r σ H2 fun ps H3 => Q ((x, y) :: ps) H3
abbrev VV : List (V × V) → List (Value × Value) → Prop := Paired fun p q => RelV p.1 q.1 ∧ RelV p.2 q.2
def PPs (X : Cx) (pos : Pos) (keys : List (Option Expr)) (values : List Expr) (trs : List (TE × TE)) : Prop :=
  ∀ (pins : List (Addr × Obj)) (s : Shared) (σ : St) (H : Hp) (Q : List (V × V) → Hp → Prop), Inv X pins σ H s → tPairs trs σ H Q →
    wpAny (model X.prog X.w) X.A (evalPairs (pairTrees keys values X.env pos)) (fun vs s' => ∃ ps H', Inv X pins σ H' s' ∧ VV ps vs ∧ Q ps H') X.xe s
theorem pps_nil {X : Cx} {pos : Pos} : PPs X pos [] [] [] := fun pins s σ H Q I h => pairTrees_nil_walk ⟨[], H, I, .nil, h⟩
theorem pps_cons {X : Cx} {pos : Pos} {k v : Expr} {ks : List (Option Expr)} {vs : List Expr} {tk tv : TE} {trs : List (TE × TE)} (hk : PE X k tk) (hv : PE X v tv) (hr : PPs X pos ks vs trs) :
    PPs X pos (some k :: ks) (v :: vs) ((tk, tv) :: trs) := fun pins s σ H Q I h =>
  pairTrees_cons_walk (thn (hk pins s σ H _ I h) fun u s1 ⟨x, H1, I1, rx, q1⟩ => thn (hv pins s1 σ H1 _ I1 q1) fun w2 s2 ⟨y, H2, I2, ry, q2⟩ =>
    thn (hr pins s2 σ H2 _ I2 q2) fun ws s3 ⟨ps, H3, I3, rel, q3⟩ => ⟨(x, y) :: ps, H3, I3, .cons ⟨rx, ry⟩ rel, q3⟩)

def mergeK (kvs more : List (Key × V)) : List (Key × V) := more.foldl (fun acc kv => putK acc kv.1 kv.2) kvs
theorem KV.merge : ∀ {more : List (Key × V)} {rs : List (Key × Value)} {kvs : List (Key × V)} {vs : List (Key × Value)}, KV more rs → KV kvs vs → KV (mergeK kvs more) (merged vs rs) := by
  intro more rs kvs vs r
  unfold KV at r
  induction r generalizing kvs vs with
  | nil => intro q; exact q
  | @cons p q ps qs h t ih =>
    intro r0
    have e : KV (putK kvs p.1 p.2) (stored vs q.1 q.2) := by
      have := r0.put p.1 h.2
      rw [← h.1]; exact this
    exact ih e
theorem length_mergeK : ∀ (more kvs : List (Key × V)), (mergeK kvs more).length ≤ kvs.length + more.length
  | [], kvs => by show kvs.length ≤ kvs.length + 0; omega
  | p :: r, kvs => by
    have h1 := length_mergeK r (putK kvs p.1 p.2)
    have h2 := length_putK kvs p.1 p.2
    show (mergeK (putK kvs p.1 p.2) r).length ≤ _
    rw [List.length_cons]; omega
theorem carries_of {P : Program} {w : World} : ∀ {kvs : List (Key × V)} {ws : List (Value × Value)}, VV (kvs.map fun kv => (kV kv.1, kv.2)) ws → ∃ rs, Carries (mixKind P w) ws rs ∧ KV kvs rs
  | [], _, r => by rw [List.map_nil] at r; cases r; exact ⟨[], True.intro, .nil⟩
  | p :: kvs, _, r => by
    rw [List.map_cons] at r
    cases r with
    | @cons a b as bs h t =>
      obtain ⟨rs, c, q⟩ := carries_of (P := P) (w := w) t
      obtain ⟨b1, b2⟩ := b
      exact ⟨(p.1, b2) :: rs, ⟨kV_is h.1, rfl, c⟩, .cons ⟨rfl, h.2⟩ q⟩
/-- {k: v, ..} with keys ints and texts; the new dict stands empty while the pairs are made -/
def tDisp (trs : List (TE × TE)) : TE := fun σ H Q => ∀ p, H p = none → tPairs trs σ (upd H p (.dK [])) fun ps H2 => H2 p = some (.dK []) ∧ ∃ kvs : List (Key × V), ps = kvs.map (fun kv => (kV kv.1, kv.2)) ∧ kvs.length ≤ 15 ∧ Q (.ref p) (upd H2 p (.dK (mergeK [] kvs)))
theorem pe_disp {X : Cx} {pos : Pos} {keys : List (Option Expr)} {values : List Expr} {trs : List (TE × TE)} (h : PPs X pos keys values trs) (hall : keys.all (·.isSome) = true) (hl : keys.length = values.length) (h0 : keys ≠ [])
    (h15 : keys.length ≤ 15) : PE X (.Dict keys values pos) (tDisp trs) := by
  intro pins s σ H Q I q
  have hn := I.hok.fresh (Nat.le_refl s.heap.objs.size)
  have I1 := I.laid (a := s.heap.objs.size) (o := .dK []) (h' := s.heap.push { cls := .type "dict", data := .dict #[] }) (t' := s.toks) (fun _ _ q => Heap.get?_push_of_some _ q) (Nat.le_refl _) (dk_empty s.heap I.big)
  refine wpAny_Dict_walk (knd := mixKind X.prog X.w) hall hl h0 h15 (thn (h pins _ σ _ _ I1 (q _ hn)) fun ws s2 ⟨ps, H2, I2, rel, e, kvs, ep, lk, q2⟩ => ?_)
  subst ep
  obtain ⟨rs, c, rk⟩ := carries_of (P := X.prog) (w := X.w) rel
  obtain ⟨z, hd, vs0, r0, dd⟩ := dk_of I2.hok e
  cases r0
  refine ⟨rs, c, dd, fun h' dd' hs => ⟨.ref s.heap.objs.size, _, ?_, rfl, q2⟩⟩
  have hz : (mergeK [] kvs).length ≤ sizeLine := by
    have h1 := length_mergeK kvs []
    rw [List.length_nil] at h1
    rw [sizeLine_eq]; omega
  have he : ∃ q, h'.get? s.heap.objs.size = some q := let ⟨q, _, _, hq, _⟩ := dd'; ⟨q, hq⟩
  exact d_write I2 (by rw [e]; exact True.intro) hs he (dk_new hz hd (rk.merge .nil) dd')


/-! ### methods -/
/-- a method call o.m(e) of a built-in, with one argument: what must be seen of the text -/
structure M1 (X : Cx) (o : Expr) (m : Str) (apos : Pos) (e : Expr) (cpos : Pos) : Prop where
  base : attributeBase o m X.env (eval o X.env) = eval o X.env
  few : ((backTo cpos (starEach [e] X.env)).all (fun x => !x.1) && (backToKw cpos (keywordEach [] X.env)).all (fun x => x.1.isSome)
    && decide (([e] : List Expr).length + ([] : List Keyword).length + (if ([] : List Keyword).isEmpty then 0 else 1) < 30)) = true
  line : (apos.endLine == cpos.line) = true
  trees : backTo cpos (starEach [e] X.env) = [(false, eval e X.env)]
structure M2 (X : Cx) (o : Expr) (m : Str) (apos : Pos) (e f : Expr) (cpos : Pos) : Prop where
  base : attributeBase o m X.env (eval o X.env) = eval o X.env
  few : ((backTo cpos (starEach [e, f] X.env)).all (fun x => !x.1) && (backToKw cpos (keywordEach [] X.env)).all (fun x => x.1.isSome)
    && decide (([e, f] : List Expr).length + ([] : List Keyword).length + (if ([] : List Keyword).isEmpty then 0 else 1) < 30)) = true
  line : (apos.endLine == cpos.line) = true
  trees : backTo cpos (starEach [e, f] X.env) = [(false, eval e X.env), (false, eval f X.env)]

/-- a is a dict, whatever its keys -/
def IsD (H : Hp) (a : Addr) : Prop := (∃ kvs, Rd H a (.dK kvs)) ∨ ∃ kvs, Rd H a (.dT kvs)
theorem isD_at {X : Cx} {pins : List (Addr × Obj)} {σ : St} {H : Hp} {s : Shared} {a : Addr} (I : Inv X pins σ H s) (d : IsD H a) :
    s.TypeIs (.ref a) "dict" ∧ (∀ b, Value.ref a = .ref b → ∃ ob, s.heap.get? b = some ob ∧ ob.dict = none) ∧ (a == sysModules) = false := by
  rcases d with ⟨kvs, e⟩ | ⟨kvs, e⟩
  · obtain ⟨_, hd, vs, _, dd⟩ := dk_rd I.hok e
    refine ⟨dd.typeIs, fun b q => ?_, hd⟩
    cases q
    obtain ⟨ob, _, _, h1, h2, _⟩ := dd
    exact ⟨ob, h1, h2.2.1⟩
  · obtain ⟨_, hd, xs, _, dd⟩ := dt_rd I.hok e
    refine ⟨dd.typeIs, fun b q => ?_, hd⟩
    cases q
    obtain ⟨ob, _, _, h1, h2, _⟩ := dd
    exact ⟨ob, h1, h2.2.1⟩

section
variable {X : Cx} {pins : List (Addr × Obj)} {σ : St} {H : Hp} {s : Shared} {a : Addr} {y d : V} {u r : Value} {o : Option V} {A : Around} {E : Value → Shared → Prop}
/-- d.get(y) -/
theorem d_get1 {Q : Value → Shared → Prop} (hu : A.units + 1 < cLine) (I : Inv X pins σ H s) (g : DGet H a y o) (ry : RelV y u) (h : ∀ w' s', Inv X pins σ H s' → RelV (o.getD .non) w' → Q w' s') :
    wpAny (model X.prog X.w) A (call (.builtin "dict.get") [.ref a, u]) Q E s := by
  rcases g with ⟨kvs, k, e, ey, l⟩ | ⟨kvs, k, b, e, ey, eb, l⟩
  · subst ey
    obtain ⟨z, hd, vs, rel, dd⟩ := dk_rd I.hok e
    refine call_meetsIn PySem.F.slot_dict_get dd.typeIs PySem.F.entry_dict_get (PySem.F.args_dict_get_2 _ _) (meets_dict_get (mixKind X.prog X.w) a (kV_is ry) hd) ⟨_, dd.mapOf, h _ _ (I.tok _) ?_⟩
    rw [l]
    exact (rel.val k).getD rfl
  · subst ey
    cases (show u = Value.ref b from ry)
    obtain ⟨z, hd, xs, rel, dd⟩ := dt_rd I.hok e
    refine call_meetsIn PySem.F.slot_dict_get dd.typeIs PySem.F.entry_dict_get (PySem.F.args_dict_get_2 _ _) (meetsH_dict_get (tupleKind (mixKind X.prog X.w)) a b hd) ⟨tupleKind_room_in1 hu, k, xs, key_of I.hok eb, dd, h _ _ (I.tok _) ?_⟩
    rw [l]
    exact (rel.val k).getD rfl
/-- d.get(y, x) -/
theorem d_get2 {Q : Value → Shared → Prop} (hu : A.units + 1 < cLine) (I : Inv X pins σ H s) (g : DGet H a y o) (ry : RelV y u) (rd : RelV d r) (h : ∀ w' s', Inv X pins σ H s' → RelV (o.getD d) w' → Q w' s') :
    wpAny (model X.prog X.w) A (call (.builtin "dict.get") [.ref a, u, r]) Q E s := by
  rcases g with ⟨kvs, k, e, ey, l⟩ | ⟨kvs, k, b, e, ey, eb, l⟩
  · subst ey
    obtain ⟨z, hd, vs, rel, dd⟩ := dk_rd I.hok e
    refine call_meetsIn PySem.F.slot_dict_get dd.typeIs PySem.F.entry_dict_get (PySem.F.args_dict_get_3 _ _ _) (meets_dict_get_default (mixKind X.prog X.w) a (kV_is ry) hd r) ⟨_, dd.mapOf, h _ _ (I.tok _) ?_⟩
    rw [l]
    exact (rel.val k).getD rd
  · subst ey
    cases (show u = Value.ref b from ry)
    obtain ⟨z, hd, xs, rel, dd⟩ := dt_rd I.hok e
    refine call_meetsIn PySem.F.slot_dict_get dd.typeIs PySem.F.entry_dict_get (PySem.F.args_dict_get_3 _ _ _) (meetsH_dict_get_default (tupleKind (mixKind X.prog X.w)) a b hd r) ⟨tupleKind_room_in1 hu, k, xs, key_of I.hok eb, dd, h _ _ (I.tok _) ?_⟩
    rw [l]
    exact (rel.val k).getD rd
end

def tDGet1 (td ty : TE) : TE := fun σ H Q => td σ H fun x H1 => ∃ a, x = .ref a ∧ IsD H1 a ∧ ty σ H1 fun y H2 => ∃ o, DGet H2 a y o ∧ Q (o.getD .non) H2
def tDGet2 (td ty tx : TE) : TE := fun σ H Q => td σ H fun x H1 => ∃ a, x = .ref a ∧ IsD H1 a ∧ ty σ H1 fun y H2 => tx σ H2 fun z H3 => ∃ o, DGet H3 a y o ∧ Q (o.getD z) H3
/-- d.pop(k): there; d.pop(k, x): there or not -/
def tDPop1 (td ty : TE) : TE := fun σ H Q => td σ H fun x H1 => ∃ a, x = .ref a ∧ IsD H1 a ∧ ty σ H1 fun y H2 => ∃ kvs k v, H2 a = some (.dK kvs) ∧ y = kV k ∧ valV kvs k = some v ∧ Q v (upd H2 a (.dK (dropK kvs k)))
def tDPop2 (td ty tx : TE) : TE := fun σ H Q => td σ H fun x H1 => ∃ a, x = .ref a ∧ IsD H1 a ∧ ty σ H1 fun y H2 => tx σ H2 fun z H3 => ∃ kvs k, H3 a = some (.dK kvs) ∧ y = kV k ∧
  (∀ v, valV kvs k = some v → Q v (upd H3 a (.dK (dropK kvs k)))) ∧ (valV kvs k = none → Q z H3)
section
variable {X : Cx} {o e f : Expr} {apos cpos : Pos} {td ty tx : TE}
theorem pe_dget1 (hu : X.A.units + 1 < cLine) (ho : PE X o td) (he : PE X e ty) (m : M1 X o "get" apos e cpos) : PE X (.Call (.Attribute o "get" apos) [e] [] cpos) (tDGet1 td ty) := by
  intro pins s σ H Q I h
  refine wpAny_Call_method m.base m.few m.line PySem.F.plainAttrs_dict PySem.F.slot_dict_get PySem.F.type_dict_get (thn (ho pins s σ H _ I h) fun u s1 ⟨x, H1, I1, rx, a, ex, d, q1⟩ => ?_)
  subst ex
  obtain rfl : u = Value.ref a := rx
  obtain ⟨t1, t2, _⟩ := isD_at I1 d
  refine ⟨t1, t2, ?_⟩
  rw [m.trees]
  refine Calls.callWith_builtin rfl (Calls.evalArgs_plain (Calls.spliced_cons (thn (he pins s1 σ H1 _ I1 q1) fun iv s2 ⟨y, H2, I2, ry, ov, g, q2⟩ => Calls.spliced_nil ?_)))
  exact d_get1 hu I2 g ry fun w' s3 I3 rw' => ⟨_, H2, I3, rw', q2⟩
theorem pe_dget2 (hu : X.A.units + 1 < cLine) (ho : PE X o td) (he : PE X e ty) (hf : PE X f tx) (m : M2 X o "get" apos e f cpos) : PE X (.Call (.Attribute o "get" apos) [e, f] [] cpos) (tDGet2 td ty tx) := by
  intro pins s σ H Q I h
  refine wpAny_Call_method m.base m.few m.line PySem.F.plainAttrs_dict PySem.F.slot_dict_get PySem.F.type_dict_get (thn (ho pins s σ H _ I h) fun u s1 ⟨x, H1, I1, rx, a, ex, d, q1⟩ => ?_)
  subst ex
  obtain rfl : u = Value.ref a := rx
  obtain ⟨t1, t2, _⟩ := isD_at I1 d
  refine ⟨t1, t2, ?_⟩
  rw [m.trees]
  refine Calls.callWith_builtin rfl (Calls.evalArgs_plain (Calls.spliced_cons (thn (he pins s1 σ H1 _ I1 q1) fun iv s2 ⟨y, H2, I2, ry, q2⟩ =>
    Calls.spliced_cons (thn (hf pins s2 σ H2 _ I2 q2) fun fv s3 ⟨z, H3, I3, rz, ov, g, q3⟩ => Calls.spliced_nil ?_))))
  exact d_get2 hu I3 g ry rz fun w' s4 I4 rw' => ⟨_, H3, I4, rw', q3⟩
theorem pe_dpop1 (ho : PE X o td) (he : PE X e ty) (m : M1 X o "pop" apos e cpos) : PE X (.Call (.Attribute o "pop" apos) [e] [] cpos) (tDPop1 td ty) := by
  intro pins s σ H Q I h
  refine wpAny_Call_method m.base m.few m.line PySem.F.plainAttrs_dict PySem.F.slot_dict_pop PySem.F.type_dict_pop (thn (ho pins s σ H _ I h) fun u s1 ⟨x, H1, I1, rx, a, ex, d, q1⟩ => ?_)
  subst ex
  obtain rfl : u = Value.ref a := rx
  obtain ⟨t1, t2, _⟩ := isD_at I1 d
  refine ⟨t1, t2, ?_⟩
  rw [m.trees]
  refine Calls.callWith_builtin rfl (Calls.evalArgs_plain (Calls.spliced_cons (thn (he pins s1 σ H1 _ I1 q1) fun iv s2 ⟨y, H2, I2, ry, kvs, k, v, ea, ey, l, q2⟩ => Calls.spliced_nil ?_)))
  subst ey
  exact d_pop I2 ea ry l (.inl rfl) fun w' s3 I3 rw' => ⟨v, _, I3, rw', q2⟩
theorem pe_dpop2 (ho : PE X o td) (he : PE X e ty) (hf : PE X f tx) (m : M2 X o "pop" apos e f cpos) : PE X (.Call (.Attribute o "pop" apos) [e, f] [] cpos) (tDPop2 td ty tx) := by
  intro pins s σ H Q I h
  refine wpAny_Call_method m.base m.few m.line PySem.F.plainAttrs_dict PySem.F.slot_dict_pop PySem.F.type_dict_pop (thn (ho pins s σ H _ I h) fun u s1 ⟨x, H1, I1, rx, a, ex, d, q1⟩ => ?_)
  subst ex
  obtain rfl : u = Value.ref a := rx
  obtain ⟨t1, t2, _⟩ := isD_at I1 d
  refine ⟨t1, t2, ?_⟩
  rw [m.trees]
  refine Calls.callWith_builtin rfl (Calls.evalArgs_plain (Calls.spliced_cons (thn (he pins s1 σ H1 _ I1 q1) fun iv s2 ⟨y, H2, I2, ry, q2⟩ =>
    Calls.spliced_cons (thn (hf pins s2 σ H2 _ I2 q2) fun fv s3 ⟨z, H3, I3, rz, kvs, k, ea, ey, q3, q4⟩ => Calls.spliced_nil ?_))))
  subst ey
  cases l : valV kvs k with
  | some v => exact d_pop I3 ea ry l (.inr ⟨fv, rfl⟩) fun w' s4 I4 rw' => ⟨v, _, I4, rw', q3 v l⟩
  | none => exact d_popD I3 ea ry l fun s4 I4 => ⟨z, H3, I4, rz, q4 l⟩
end

/-! ### dict(d): a copy -/
section
variable {X : Cx} {pins : List (Addr × Obj)} {σ : St} {H : Hp} {s : Shared} {a : Addr} {kvs : List (Key × V)} {A : Around} {E : Value → Shared → Prop}
theorem d_copyOf {Q : Value → Shared → Prop} (I : Inv X pins σ H s) (e : Rd H a (.dK kvs)) (h : ∀ p s', H p = none → Inv X pins σ (upd H p (.dK kvs)) s' → Q (.ref p) s') : wpAny (model X.prog X.w) A (call (.type "dict") [.ref a]) Q E s := by
  obtain ⟨z, hd, vs, rel, dd⟩ := dk_rd I.hok e
  refine kt_call_dict hd dd (by rw [← rel.length]; exact z) fun h' dd' hs => ?_
  refine h _ _ (I.hok.fresh (Nat.le_refl _)) (I.laid (a := s.heap.objs.size) (o := .dK kvs) (t' := s.toks) (fun b q hq => ?_) (Nat.le_refl _) (dk_new z (beq_eq_false_iff_ne.mpr (Ne.symm (Nat.ne_of_lt I.big))) rel dd'))
  exact (hs.2 b (Nat.ne_of_lt (Heap.lt_size hq))).trans (Heap.get?_push_of_some _ hq)
end


section
variable {X : Cx} {pins : List (Addr × Obj)} {σ : St} {H : Hp} {s : Shared} {a : Addr} {y : V} {u : Value} {A : Around} {E : Value → Shared → Prop}
/-- d[y], not there: a KeyError -/
theorem d_missing {Q : Value → Shared → Prop} (hu : A.units + 1 < cLine) (hh : A.handled = none) (I : Inv X pins σ H s) (g : DGet H a y none) (ry : RelV y u)
    (h : ∀ h' e t', Heap.NewExc s.heap h' e "KeyError" → E (.ref e) { s with heap := h', toks := t' }) : wpAny (model X.prog X.w) A (getItem (.ref a) u) Q E s := by
  rcases g with ⟨kvs, k, e, ey, l⟩ | ⟨kvs, k, b, e, ey, eb, l⟩
  · subst ey
    obtain ⟨z, hd, vs, rel, dd⟩ := dk_rd I.hok e
    have hn : valueAt vs k = none := RelO.none_of (by rw [l]; exact rel.val k)
    exact wpAny_getItem_missing_of (kV_is ry) hd hh dd.mapOf hn fun h' ex ne => h h' ex _ ne
  · subst ey
    cases (show u = Value.ref b from ry)
    obtain ⟨z, hd, xs, rel, dd⟩ := dt_rd I.hok e
    have hn : (atKey xs k).map (·.2) = none := RelO.none_of (by rw [l]; exact rel.val k)
    exact wpAny_getItem_missing_heap (tupleKind_room_in1 hu) (key_of I.hok eb) hd hh dd (Option.map_eq_none_iff.mp hn) fun h' ex ne => h h' ex _ ne
end
end L2

namespace Att
open PySem PySem.W PySem.Calls PyProof.Rows

/-! ### the script -/
theorem ints_of_wellAll {P : Params} {h : Heap} : ∀ (ns : List Int) (vs : List Value), WellAll P h vs (ns.map WData.int) → IntsAre vs ns := by
  intro ns
  induction ns with
  | nil =>
    intro vs w
    rw [List.map_nil] at w
    cases w
    exact .nil
  | cons n ns ih =>
    intro vs w
    rw [List.map_cons] at w
    cases w with
    | cons a b =>
      cases a
      exact .cons _ _ (ih _ b)

theorem script_of {l : OpenLaw} {n : Nat} (hn : l.most = some n) {P : Params} {h : Heap} {args : List WData} {vals : List Value}
    (hpre : l.row.toRowW.claim.pre args = true) (hwl : WellAll P h vals args) :
    ∃ a vs ns, vals = [Value.ref a] ∧ args = [WData.list (ns.map WData.int)] ∧ h.get? a = some { cls := .type "list", data := .seq vs.toArray } ∧ IntsAre vs ns ∧ ns.length ≤ n := by
  have hsh : WShape.hasAll [] args [.list .int] = true := (pre_splitW hpre).1
  have hc : l.pre.holds [] { args := args } = true := (pre_splitW hpre).2
  obtain ⟨d, r, rfl, h1, h2⟩ := hasAllW_cons hsh
  obtain rfl := hasAllW_nil h2
  obtain ⟨xs, rfl, h3⟩ := hasW_list h1
  obtain ⟨ns, rfl⟩ := items_int h3
  have hlen : ns.length ≤ n := by
    unfold OpenLaw.pre at hc
    have h4 : (WTm.not (.lt (.lit (.int (n : Int))) (.len (.arg 0)))).holds [] { args := [.list (ns.map .int)] } = true := by
      have h4 := (holds_andW hc).1
      rw [hn] at h4
      exact h4
    have h5 := condW_of h4 (w_not (w_lt w_lit (w_len_list (w_arg rfl))))
    rw [List.length_map] at h5
    refine Nat.le_of_not_lt fun q => ?_
    have q' : (n : Int) < ((ns.length : Nat) : Int) := by omega
    first
      | (rw [decide_eq_true q'] at h5; exact absurd h5 (by decide))
      | (simp at h5; omega)
  cases hwl with
  | cons w1 w2 =>
    cases w2
    cases w1 with
    | list ho hall => exact ⟨_, _, ns, rfl, rfl, ho, ints_of_wellAll ns _ hall, hlen⟩

theorem post_true (l : OpenLaw) (args : List WData) : l.row.toRowW.claim.post args (.bool true) args = true :=
  postW_of (r := l.row.toRowW) (X := (true == true))
    (show WShape.has [] (.bool true) .bool = true by first | rfl | decide | simp [WShape.has, WShape.arms, WShape.armsAll])
    (show (WTm.eq .res (.lit (.bool true))).value [] { args := args, res := some (.bool true), after := args } = some (.bool (true == true)) from w_eq_bool (w_res rfl) w_lit) rfl

/-! ### the attachment: holds_open's last premise (the goal 'hc' behind k_head) from a wpAny of the law's body -/
theorem attach {l : OpenLaw} {n : Nat} {q : Program} {loose : List Str} {XP : (Str → Option Value) → Heap → Prop} {YP : World → Heap → Prop} {d : DefRec} {x : Str}
    (hn : l.most = some n) (hdf : d.params.defaults = [])
    (hbind : ∀ pm cd doc v : Value, bindArgs (docDef d.name d.params d.body d.scope pm cd doc) ⟨[v], []⟩ = pure [(x, v)])
    (hx : d.scope.names.lookup x = some .local ∨ d.scope.names.lookup x = some .cell)
    (hk : d.scope.kind = .function) (hco : d.scope.isCoroutine = false) (hgen : d.scope.isGenerator = false)
    (body : ∀ (w : World) (s₀ s₁ s : Shared) (mg mb : Str → Option Value) (fa : Addr) (o : Obj) (pm cd doc : Value) (a : Addr) (vs : List Value) (ns : List Int),
      Ground q loose [] XP w s₀ mg mb s₁.heap → YP w s₁.heap →
      s₁.heap.get? fa = some o → o.data = .func (docDef d.name d.params d.body d.scope pm cd doc) → s₁.heap.CodeRec cd d.name → mg d.name = some (.ref fa) →
      s₁.heap.get? a = some { cls := .type "list", data := .seq vs.toArray } → IntsAre vs ns → ns.length ≤ n →
      s.gens = #[] → s.os = s₁.os →
      Fr s₁.heap s₁.heap.objs.size s.heap (bindL (envOfC d.name d.scope s₁.heap.objs.size fa cd).kindOf [(x, .ref a)] fun _ => none) →
      Cl s₁.heap.objs.size (cellsFrom (s₁.heap.objs.size + 1) d.scope.names []) s.heap (bindC (envOfC d.name d.scope s₁.heap.objs.size fa cd).kindOf [(x, .ref a)] fun _ => none) →
      wpAny (model l.prog w) (callerA.deeper (envOfC d.name d.scope s₁.heap.objs.size fa cd)) (execs d.body (envOfC d.name d.scope s₁.heap.objs.size fa cd))
        (fun f s' => f = .ret (.bool true) ∧ OldK s₁.heap s'.heap ∧ s'.os = s₁.os ∧ AllBare s'.gens) (fun _ _ => False) s) :
    WalkO q loose XP YP l.row.toRowW d [] (fun f vs => PySem.call f vs) := by
  intro w s₀ s₁ mg mb G Y fa o pm cd doc dV kV ho hd hcd hD hmg hg args vals as hpre hlay hrd hwl hlo
  obtain rfl : dV = .none := Dflts.none hD hdf
  obtain rfl : kV = .none := Dflts.noKw hD
  obtain ⟨a, vs, ns, rfl, rfl, hobj, hints, hlen⟩ := script_of hn hpre hwl
  refine enter_call ?_
  refine call_cells_ret (o := o) (by rw [depth_caller]; decide) ho (fd_plain hd) G.T.nolimit hcd (hbind pm cd doc (.ref a)) (fun y hy => ?_) (fun h₁ tk F X => ?_) hco hgen hk
  · obtain rfl : y = (x, Value.ref a) := List.mem_singleton.mp hy
    rcases hx with e | e
    · exact .inl e
    · exact .inr ⟨e, cellsFrom_some _ _ _ (.inl e)⟩
  · refine wpAny_mono (body w s₀ s₁ { s₁ with heap := h₁, toks := tk } mg mb fa o pm cd doc a vs ns G Y ho (fd_plain hd) hcd hmg hobj hints hlen hg rfl F X) (fun f s' hq => ?_) (fun _ _ hq => hq)
    obtain ⟨rfl, h2, h3, h4⟩ := hq
    exact ⟨.inl ⟨.bool true, .bool true, [], rfl, fun _ => rfl, .bool true, post_true l _, fun _ => ⟨List.Pairwise.nil, fun _ hm => (nomatch hm)⟩⟩, h2, h3, h4⟩

/-- the same from a codeAny of the CALL (for a layer whose function contracts speak of calls) -/
theorem attach_call {l : OpenLaw} {n : Nat} {q : Program} {loose : List Str} {XP : (Str → Option Value) → Heap → Prop} {YP : World → Heap → Prop} {d : DefRec}
    (hn : l.most = some n) (hdf : d.params.defaults = [])
    (call : ∀ (w : World) (s₀ s₁ : Shared) (mg mb : Str → Option Value) (fa : Addr) (o : Obj) (pm cd doc : Value) (a : Addr) (vs : List Value) (ns : List Int),
      Ground q loose [] XP w s₀ mg mb s₁.heap → YP w s₁.heap →
      s₁.heap.get? fa = some o → o.data = .func (docDef d.name d.params d.body d.scope pm cd doc) → s₁.heap.CodeRec cd d.name → mg d.name = some (.ref fa) →
      s₁.heap.get? a = some { cls := .type "list", data := .seq vs.toArray } → IntsAre vs ns → ns.length ≤ n → s₁.gens = #[] →
      codeAny (model l.prog w) callerA (.call (.ref fa) ⟨[.ref a], []⟩) (fun r s' => r = .ok (.ret (.bool true)) ∧ OldK s₁.heap s'.heap ∧ s'.os = s₁.os ∧ AllBare s'.gens) s₁) :
    WalkO q loose XP YP l.row.toRowW d [] (fun f vs => PySem.call f vs) := by
  intro w s₀ s₁ mg mb G Y fa o pm cd doc dV kV ho hd hcd hD hmg hg args vals as hpre hlay hrd hwl hlo
  obtain rfl : dV = .none := Dflts.none hD hdf
  obtain rfl : kV = .none := Dflts.noKw hD
  obtain ⟨a, vs, ns, rfl, rfl, hobj, hints, hlen⟩ := script_of hn hpre hwl
  refine enter_call (codeAny_mono (call w s₀ s₁ mg mb fa o pm cd doc a vs ns G Y ho (fd_plain hd) hcd hmg hobj hints hlen hg) fun r s' hq => ?_)
  obtain ⟨rfl, h2, h3, h4⟩ := hq
  exact ⟨.inl ⟨.bool true, .bool true, [], rfl, fun _ => rfl, .bool true, post_true l _, fun _ => ⟨List.Pairwise.nil, fun _ hm => (nomatch hm)⟩⟩, h2, h3, h4⟩

/-- the same where the top left finished generators (o_head chose holds_openN): nothing may have changed at all and no generator may be left -/
theorem attachN {l : OpenLaw} {n : Nat} {q : Program} {loose : List Str} {XP : (Str → Option Value) → Heap → Prop} {YP : World → Heap → Prop} {d : DefRec} {x : Str}
    (hn : l.most = some n) (hdf : d.params.defaults = [])
    (hbind : ∀ pm cd doc v : Value, bindArgs (docDef d.name d.params d.body d.scope pm cd doc) ⟨[v], []⟩ = pure [(x, v)])
    (hx : d.scope.names.lookup x = some .local ∨ d.scope.names.lookup x = some .cell)
    (hk : d.scope.kind = .function) (hco : d.scope.isCoroutine = false) (hgen : d.scope.isGenerator = false)
    (body : ∀ (w : World) (s₀ s₁ s : Shared) (mg mb : Str → Option Value) (fa : Addr) (o : Obj) (pm cd doc : Value) (a : Addr) (vs : List Value) (ns : List Int),
      Ground q loose [] XP w s₀ mg mb s₁.heap → YP w s₁.heap →
      s₁.heap.get? fa = some o → o.data = .func (docDef d.name d.params d.body d.scope pm cd doc) → s₁.heap.CodeRec cd d.name → mg d.name = some (.ref fa) →
      s₁.heap.get? a = some { cls := .type "list", data := .seq vs.toArray } → IntsAre vs ns → ns.length ≤ n →
      s.gens = #[] → s.os = s₁.os →
      Fr s₁.heap s₁.heap.objs.size s.heap (bindL (envOfC d.name d.scope s₁.heap.objs.size fa cd).kindOf [(x, .ref a)] fun _ => none) →
      Cl s₁.heap.objs.size (cellsFrom (s₁.heap.objs.size + 1) d.scope.names []) s.heap (bindC (envOfC d.name d.scope s₁.heap.objs.size fa cd).kindOf [(x, .ref a)] fun _ => none) →
      wpAny (model l.prog w) (callerA.deeper (envOfC d.name d.scope s₁.heap.objs.size fa cd)) (execs d.body (envOfC d.name d.scope s₁.heap.objs.size fa cd))
        (fun f s' => f = .ret (.bool true) ∧ (∀ b o, s₁.heap.get? b = some o → s'.heap.get? b = some o) ∧ s'.os = s₁.os ∧ s'.gens = #[]) (fun _ _ => False) s) :
    WalkN q loose XP YP l.row.toRowW d [] (fun f vs => PySem.call f vs) := by
  intro w s₀ s₁ mg mb G Y fa o pm cd doc dV kV ho hd hcd hD hmg hg args vals as hpre hlay hrd hwl hlo
  obtain rfl : dV = .none := Dflts.none hD hdf
  obtain rfl : kV = .none := Dflts.noKw hD
  obtain ⟨a, vs, ns, rfl, rfl, hobj, hints, hlen⟩ := script_of hn hpre hwl
  refine enter_callW ?_
  refine call_cells_ret (o := o) (by rw [depth_caller]; decide) ho (fd_plain hd) G.T.nolimit hcd (hbind pm cd doc (.ref a)) (fun y hy => ?_) (fun h₁ tk F X => ?_) hco hgen hk
  · obtain rfl : y = (x, Value.ref a) := List.mem_singleton.mp hy
    rcases hx with e | e
    · exact .inl e
    · exact .inr ⟨e, cellsFrom_some _ _ _ (.inl e)⟩
  · refine wpAny_mono (body w s₀ s₁ { s₁ with heap := h₁, toks := tk } mg mb fa o pm cd doc a vs ns G Y ho (fd_plain hd) hcd hmg hobj hints hlen hg rfl F X) (fun f s' hq => ?_) (fun _ _ hq => hq)
    obtain ⟨rfl, h2, h3, h4⟩ := hq
    exact ⟨.inl ⟨.bool true, .bool true, [], rfl, fun _ => rfl, .bool true, post_true l _, fun _ => ⟨List.Pairwise.nil, fun _ hm => (nomatch hm)⟩⟩, h2, h3, h4⟩

/-! ### rules over ANY heap (no ledger) from facts about the written part K: the library's own take a ledger (News) for what they write -/
section
variable {prog : Program} {w : World} {A : Around} {E : Value → Shared → Prop} {s : Shared} {K : Frag}

/-- a def of the module, or a method (qual 'C.m'), entered: the frame is the next address; cells behind it -/
theorem call_fn {R : Result → Shared → Prop} {name qual : Str} {params : Arguments} {body : List Stmt} {scope : Scope} {dV kV doc pm cdv ct oc : Value} {an od : Option Addr} {osl : Array (Option Value)} {f : Addr} {args : Args} {binds : List (Str × Value)}
    (X : K.In s.heap) (hlim : s.heap.NoLimit) (ho : K.lookup f = some ⟨oc, od, .func (fnOf name qual params body scope dV kV doc pm an cdv ct), osl⟩) (hcd : codeIn K cdv qual = true) (hroom : A.depth < recursionLimit)
    (hbind : BindsTo s (fnOf name qual params body scope dV kV doc pm an cdv ct) args binds)
    (hkind : (binds.all fun y => scope.names.lookup y.1 == some .local || scope.names.lookup y.1 == some .cell) = true)
    (h : ∀ s₁, InCallC s s.heap.objs.size (bindL (envOfC qual scope s.heap.objs.size f cdv).kindOf binds fun _ => none) (cellsFrom (s.heap.objs.size + 1) scope.names [])
        (bindC (envOfC qual scope s.heap.objs.size f cdv).kindOf binds fun _ => none) s₁ →
      wpAny (model prog w) (A.deeper (envOfC qual scope s.heap.objs.size f cdv)) (execs body (envOfC qual scope s.heap.objs.size f cdv))
        (fun fl s' => R (.ok (.ret (match fl with | .ret v => v | _ => .none))) s')
        (fun e s' => wpAny (model prog w) (A.deeper (envOfC qual scope s.heap.objs.size f cdv)) (leaving (envOfC qual scope s.heap.objs.size f cdv) e) (fun _ s'' => R (.error e) s'') (fun e' s'' => R (.error e') s'') s') s₁)
    (hco : scope.isCoroutine = false) (hgen : scope.isGenerator = false) (hk : scope.kind = .function) : codeAny (model prog w) A (.call (.ref f) args) R s := by
  refine codeAny_call_function hroom (X _ _ ho) rfl hco hgen rfl (codeRec_of X hcd) (hbind _ _ _ _ ?_)
  refine wpAny_newFunctionEnv_cells hk (kindsX hkind _) fun env he s₁ x => ?_
  subst he
  exact ⟨hlim.keeps x.toInCall.keep, codeAny_func (h s₁ x)⟩

/-- C(..): dict at size, instance at size + 1, then __init__ -/
theorem make_obj {R : Result → Shared → Prop} {C fI : Addr} {rest : List Value} {kw : List (Str × Value)}
    (X : K.In s.heap) (hm : makesIn K C = true) (hi : findIn K (.ref C) "__init__" = some (some (.ref fI))) (hf : isFn K (.ref fI) = true)
    (h : codeAny (model prog w) (A.under (.builtin "type.__call__" ⟨.ref C :: rest, kw⟩)) (.call (.ref fI) ⟨.ref (s.heap.objs.size + 1) :: rest, kw⟩) (InitBack (s.heap.objs.size + 1) R)
      { s with heap := (s.heap.push emptyDict).push (instObj C s.heap.objs.size) }) : codeAny (model prog w) A (.call (.ref C) ⟨rest, kw⟩) R s := by
  obtain ⟨hh, g, d, t, os⟩ := s
  exact make_core (makes_of X hm) (looks_findIn X hi) (fun self => bind_fn X self (beq_iff_eq.mp hf)) (.inl rfl) h

/-- x.name where the instance's dict holds the name and the class does not -/
theorem get_field {x C : Addr} {ox : Obj} {es : List DictEntry} {n : Nat} {name : Str} {expr : Bool} {v : Value} {Q : Value → Shared → Prop}
    (X : K.In s.heap) (I : PySem.W.InstAt s.heap x ox C (some (dictOf es n))) (hg : plainGet K C name = true) (hh : hasDictIn K C = true) (ha : findIn K (.ref C) name = some none)
    (hl : getL name es = some (some v)) (hv : handedIn v = true) (h : Q v { s with toks := s.toks + 1 }) : wpAny (model prog w) A (getAttr (.ref x) name expr) Q E s :=
  get_value X I (plainGet_of hg).1 (findObj_own hh ha rfl hl) hv h

/-- x.m(..): the method found in the class -/
theorem get_method {x C f : Addr} {ox : Obj} {es : List DictEntry} {n : Nat} {name : Str} {pl : Sem Bool} {Q : Value × List Value → Shared → Prop}
    (X : K.In s.heap) (I : PySem.W.InstAt s.heap x ox C (some (dictOf es n))) (hg : plainGet K C name = true) (hf : findIn K (.ref C) name = some (some (.ref f))) (ht : isFn K (.ref f) = true)
    (hl : getL name es = some none) (h : Q (.ref f, [.ref x]) s) : wpAny (model prog w) A (getMethod (.ref x) name pl) Q E s :=
  method_fn X I (plainGet_of hg).1 (plainGet_of hg).2 hf (beq_iff_eq.mp ht) (by show (lookIn name (dictOf es n)).map _ = _; rw [lookIn_dict, hl]; rfl) h

/-! the whole heap as the ledger: makes every rule that writes through a ledger a rule over any heap -/
def noObjs (h : Heap) : Heap := { h with objs := #[] }
theorem noObjs_get (h : Heap) (b : Addr) : (noObjs h).get? b = none := by
  cases e : (noObjs h).get? b with
  | none => rfl
  | some o => exact absurd (Heap.lt_size e) (Nat.not_lt_zero _)
def ledger (h : Heap) (L d : Addr) : List (Addr × Obj) := (List.range h.objs.size).filterMap fun a => if a = L ∨ a = d then none else (h.get? a).map fun o => (a, o)
theorem mem_ledger {h : Heap} {L d a : Addr} {o : Obj} : (a, o) ∈ ledger h L d ↔ a ≠ L ∧ a ≠ d ∧ h.get? a = some o := by
  unfold ledger
  rw [List.mem_filterMap]
  constructor
  · rintro ⟨b, _, e⟩
    split at e
    · cases e
    · rename_i hb
      obtain ⟨o', ho, e'⟩ := Option.map_eq_some_iff.mp e
      cases e'
      exact ⟨fun q => hb (.inl q), fun q => hb (.inr q), ho⟩
  · rintro ⟨n1, n2, ho⟩
    refine ⟨a, List.mem_range.mpr (Heap.lt_size ho), ?_⟩
    rw [if_neg (show ¬ (a = L ∨ a = d) from fun q => q.elim n1 n2), ho] <;> rfl
theorem news_ledger {h : Heap} {L d : Addr} {od : Obj} (hne : d ≠ L) (ho : h.get? d = some od) : News (noObjs h) L h ([] ++ (d, od) :: ledger h L d) := by
  rintro ⟨a, o⟩ hp
  rcases List.mem_cons.mp hp with e | hp
  · cases e
    exact ⟨ho, hne, noObjs_get _ _⟩
  · obtain ⟨n1, n2, e⟩ := mem_ledger.mp hp
    exact ⟨e, n1, noObjs_get _ _⟩
theorem fr_all {h : Heap} {L : Addr} {m : Str → Option Value} (n : h.Ns L m) : Fr (noObjs h) L h m :=
  ⟨n, fun b o e => (by rw [noObjs_get] at e; cases e), Nat.zero_le _⟩
/-- Upd of the head entry (for append_K, setItem_K ..) -/
theorem upd_ledger {h : Heap} {L d : Addr} {o o' : Obj} : Upd d o o' ((d, o) :: ledger h L d) ((d, o') :: ledger h L d) :=
  .head fun ⟨_, _⟩ hp => (mem_ledger.mp hp).2.1

/-- x.name = v over any heap: L is any namespace of the heap (the frame's, say): its map stays, its object is not told; all else but the dict stays -/
theorem set_field {x C dx L : Addr} {ox : Obj} {m : Str → Option Value} {es es' : List DictEntry} {n n' : Nat} {name : Str} {v : Value} {Q : Unit → Shared → Prop}
    (X : K.In s.heap) (I : PySem.W.InstAt s.heap x ox C (some (dictOf es n))) (hd : ox.dict = some dx) (hL : s.heap.Ns L m) (hne : dx ≠ L)
    (hs : findIn K (.ref C) "__setattr__" = some (some (.builtin "object.__setattr__"))) (hp : plainOver K C = true) (ht : takerIn K C name = some none) (hh : hasDictIn K C = true) (hl : (getL name es).isSome = true)
    (e : (putL name (PyData.keyHash w.params name) (.str name (s.toks + 1)) v es, putN name es n) = (es', n')) (hz : es'.length ≤ 1000)
    (h : ∀ h' : Heap, h'.Ns L m → h'.get? dx = some (dictOf es' n') → (∀ b o, b ≠ dx → b ≠ L → s.heap.get? b = some o → h'.get? b = some o) → Q () { s with heap := h', toks := s.toks + 2 }) :
    wpAny (model prog w) A (setAttr (.ref x) name v) Q E s := by
  obtain ⟨e1, e2⟩ := Prod.mk.inj e
  have hdx : s.heap.get? dx = some (dictOf es n) := by
    have := I.dict
    rw [hd] at this
    exact this
  refine set_plain X I hs (osa_dict (s := { s with toks := s.toks + 1 }) (h₀ := noObjs s.heap) (L := L) (m := m) (od := dictOf es n) (od' := dictOf es' n') (es := es') (n := n') (pre := []) (post := ledger s.heap L dx)
    (fr_all hL) (news_ledger hne hdx) X I hd hp ht hh hl (fun _ q => nomatch q) (fun ⟨_, _⟩ q => (mem_ledger.mp q).2.1) (by rw [putName_dict, e1, e2]) rfl hz fun h' F' N' => ?_)
  exact h h' F'.ns (N'.get (List.Mem.head _)) fun b o n1 n2 ho => N'.get (List.Mem.tail _ (mem_ledger.mpr ⟨n2, n1, ho⟩))
end
end Att

namespace L2
open PySem PySem.Spec PyProof.Rows

theorem vals_ints : ∀ {vs : List Value} {ns : List Int}, IntsAre vs ns → Vals (ns.map V.int) vs
  | _, _, .nil => .nil
  | _, _, .cons n t h => .cons ⟨t, rfl⟩ (vals_ints h)

/-- nothing is tracked but the script, known to the object (or it is an object of the module) -/
def Only (H : Hp) : Prop := ∀ b, H b = none ∨ ∃ o xs, H b = some (.frz o (.lst xs))

/-- THE HEAD: the law's promise, at the heap behind the top. F, the promise of the law's def, may use that base is part of the heap (so K.In base, base.Ns mainGlobals mg stand in Mod) -/
theorem law_call {P : Program} {w : World} {K : PySem.W.Frag} {mg mb : Str → Option Value} {CX : CXT} {k : Nat} {fa a : Addr} {fd : FuncData} {x : Str} {sp : Sp} {s₁ : Shared} {vs : List Value} {ns : List Int}
    (KX : K.In s₁.heap) (hns : s₁.heap.Ns mainGlobals mg) (hb : s₁.heap.Ns builtinsNs mb) (hbb : ∀ x : Str, x ≠ "__name__" → mb x = bootBuiltins x) (hlim : s₁.heap.NoLimit) (hg : s₁.gens = #[])
    (ha : s₁.heap.get? a = some { cls := .type "list", data := .seq vs.toArray }) (hi : IntsAre vs ns) (hl : ns.length ≤ sizeLine) (hr : Room k callerA)
    (F : ∀ base : Heap, K.In base → base.Ns mainGlobals mg → FnOk P w K mg base CX k fa fd [x] sp) (hbind : ∀ (s : Shared) (u : Value), BindsTo s fd ⟨[u], []⟩ [(x, u)])
    (hsp : ∀ H : Hp, Only H → SqL K H a (ns.map V.int) → sp [.ref a] H (fun v _ => v = .bl true) fun _ _ _ => False)
    (hCX : ∀ H e s', CX [] H s₁ (fun _ _ _ => False) e s' → False) :
    codeAny (model P w) callerA (.call (.ref fa) ⟨[.ref a], []⟩) (fun r s' => r = .ok (.ret (.bool true)) ∧ OldK s₁.heap s'.heap ∧ s'.os = s₁.os ∧ AllBare s'.gens) s₁ := by
  have rv := vals_ints hi
  have lenV := hi.length
  -- from an abstract heap in which nothing but the script may be tracked
  have core : ∀ H : Hp, Only H → SqL K H a (ns.map V.int) → HOk P w H s₁.heap → (∀ b, H b ≠ none → b = a) → (H a ≠ none → K.lookup a = none) →
      codeAny (model P w) callerA (.call (.ref fa) ⟨[.ref a], []⟩) (fun r s' => r = .ok (.ret (.bool true)) ∧ OldK s₁.heap s'.heap ∧ s'.os = s₁.os ∧ AllBare s'.gens) s₁ := by
    intro H hO hS hok hA hK
    have base_of : ∀ {b : Addr} {o : Obj}, s₁.heap.get? b = some o → H b = none → (hidT s₁.heap H).get? b = some o := fun e n => hidT_get e n
    have noA : ∀ {b : Addr} {o : Obj} {es : Array DictEntry} {ep : Nat}, s₁.heap.get? b = some o → o.data = .dict es ep → H b = none := fun {b o es ep} e d => by
      cases q : H b with
      | none => rfl
      | some u =>
        have e' : b = a := hA b (by rw [q]; simp)
        subst e'
        rw [ha] at e; cases e
        have d' : Data.seq vs.toArray _ = Data.dict es ep := d
        cases d'
    have nsK : ∀ {b : Addr} {m : Str → Option Value}, s₁.heap.Ns b m → (hidT s₁.heap H).Ns b m := fun {b m} ⟨o, es, ep, e, d, r⟩ => ⟨o, es, ep, base_of e (noA e d), d, r⟩
    have hKb : K.In (hidT s₁.heap H) := fun b o e => base_of (KX b o e) (by
      cases q : H b with
      | none => rfl
      | some u =>
        have e' : b = a := hA b (by rw [q]; simp)
        subst e'
        rw [hK (by rw [q]; simp)] at e; cases e)
    have hM : Mod K mg (hidT s₁.heap H) := ⟨hKb, nsK hns, ⟨mb, nsK hb, hbb⟩, let ⟨mc, h1, h2⟩ := hlim; ⟨mc, nsK h1, h2⟩⟩
    have e0 : Env0 P w K mg (hidT s₁.heap H) callerA [] s₁ H := ⟨rfl, hM, fun b o e => of_hidT e, Nat.le_of_eq (hidT_size _ _), trivial, fun b hb => absurd (show b ∈ ([] : List Addr) from hb) (by simp), hok, .of_eq hg⟩
    refine codeAny_mono ((F _ hKb (nsK hns)).run callerA [] s₁ H ⟨[.ref a], []⟩ [.ref a] [.ref a] _ _ hr e0 (hbind s₁ (.ref a)) (.cons rfl .nil) (hsp H hO hS)) fun r s' h => ?_
    cases r with
    | error e => exact (hCX H e s' h).elim
    | ok fl =>
      cases fl with
      | next => exact False.elim h
      | brk => exact False.elim h
      | cont => exact False.elim h
      | ret u =>
        obtain ⟨v, H', os, bare, un, hok', r', q⟩ := h
        have q' : v = .bl true := q
        subst q'
        obtain rfl : u = Value.bool true := r'
        refine ⟨rfl, OldK.of_keep fun b o e => ?_, os, bare⟩
        cases q : H b with
        | none => exact un.keep b o e q (by intro z; exact absurd (show b ∈ ([] : List Addr) from z) (by simp)) (by simp)
        | some u =>
          rcases hO b with z | ⟨ob, xs, z⟩
          · rw [q] at z; cases z
          · have z2 := un.frzs b ob _ z
            obtain ⟨e1, _⟩ := hok b _ z
            obtain ⟨e2, _⟩ := hok' b _ z2
            rw [e] at e1; cases e1
            exact e2
  cases hk : K.lookup a with
  | some o =>
    -- the script is one of the module's own objects
    have e := KX a o hk
    rw [ha] at e
    cases e
    refine core (fun _ => none) (fun _ => .inl rfl) (.inr ⟨_, vs.toArray, _, hk, rfl, rfl, rfl, by rw [List.size_toArray, lenV]; exact hl, by simpa using rv⟩) (fun b u z => by have z' : (none : Option HO) = some u := z; cases z') (fun b z => absurd rfl z) fun z => absurd rfl z
  | none =>
    refine core (fun b => if b = a then some (.frz { cls := .type "list", data := .seq vs.toArray } (.lst (ns.map V.int))) else none) (fun b => ?_) (.inl (.inr ⟨{ cls := .type "list", data := .seq vs.toArray }, if_pos rfl⟩)) (fun b u z => ?_) (fun b z => ?_) fun _ => hk
    · by_cases hb : b = a
      · exact .inr ⟨_, _, if_pos hb⟩
      · exact .inl (if_neg hb)
    · by_cases hb : b = a
      · have z' := (if_pos hb).symm.trans z
        cases z'
        subst hb
        exact ⟨ha, by rw [List.length_map]; exact hl, vs, _, rv, ha⟩
      · have z' := (if_neg hb).symm.trans z
        cases z'
    · by_cases hb : b = a
      · exact hb
      · exact absurd (if_neg hb) z
end L2

namespace L2
open PySem PySem.Spec PyProof.Rows

abbrev KOf {K : PySem.W.Frag} {h : Heap} (_ : K.In h) : PySem.W.Frag := K

/-- the goal that k_head leaves (case hc), from the law's promise. F gives the function object fd (K's own) once, then the promise over every base -/
theorem walk_of {l : PySem.W.OpenLaw} {n k : Nat} {q : Program} {loose : List Str} {XP : (Str → Option Value) → Heap → Prop} {YP : World → Heap → Prop} {d : DefRec} {K : Params → PySem.W.Frag} {CX : World → CXT} {sp : World → Sp} {x : Str}
    (hn : l.most = some n) (hn2 : n ≤ sizeLine) (hdf : d.params.defaults = []) (hr : Room k callerA)
    (hY : ∀ (w : World) (h : Heap), YP w h → (K w.params).In h)
    (F : ∀ (w : World) (mg : Str → Option Value) (fa : Addr) (h : Heap), (K w.params).In h → h.Ns mainGlobals mg → mg d.name = some (.ref fa) →
      ∃ fd : FuncData, (∀ (s : Shared) (u : Value), BindsTo s fd ⟨[u], []⟩ [(x, u)]) ∧
        ∀ base : Heap, (K w.params).In base → base.Ns mainGlobals mg → FnOk l.prog w (K w.params) mg base (CX w) k fa fd [x] (sp w))
    (hsp : ∀ (w : World) (H : Hp) (a : Addr) (ns : List Int), ns.length ≤ n → Only H → SqL (K w.params) H a (ns.map V.int) → sp w [.ref a] H (fun v _ => v = .bl true) fun _ _ _ => False)
    (hCX : ∀ (w : World) (H : Hp) (s : Shared) (e : Value) (s' : Shared), CX w [] H s (fun _ _ _ => False) e s' → False) :
    PySem.W.WalkO q loose XP YP l.row.toRowW d [] (fun f vs => PySem.call f vs) := by
  refine Att.attach_call hn hdf fun w s₀ s₁ mg mb fa o pm cd doc a vs ns G Y ho hd hcd hmg hobj hints hlen hg => ?_
  have KX := hY w _ Y
  obtain ⟨fd, hb, hF⟩ := F w mg fa _ KX G.T.g hmg
  exact law_call KX G.T.g G.T.b G.T.builtins G.T.nolimit hg hobj hints (Nat.le_trans hlen hn2) hr hF hb (fun H hO hS => hsp w H a ns hlen hO hS) fun H e s' => hCX w H s₁ e s'
/-- the same where the promise hangs on the written part alone: (sp := My.sp_law), no hole under a binder -/
theorem walk_ofK {l : PySem.W.OpenLaw} {n k : Nat} {q : Program} {loose : List Str} {XP : (Str → Option Value) → Heap → Prop} {YP : World → Heap → Prop} {d : DefRec} {K : Params → PySem.W.Frag} {CX : CXT} {sp : PySem.W.Frag → Sp} {x : Str}
    (hn : l.most = some n) (hn2 : n ≤ sizeLine) (hdf : d.params.defaults = []) (hr : Room k callerA)
    (hY : ∀ (w : World) (h : Heap), YP w h → (K w.params).In h)
    (F : ∀ (w : World) (mg : Str → Option Value) (fa : Addr) (h : Heap), (K w.params).In h → h.Ns mainGlobals mg → mg d.name = some (.ref fa) →
      ∃ fd : FuncData, (∀ (s : Shared) (u : Value), BindsTo s fd ⟨[u], []⟩ [(x, u)]) ∧
        ∀ base : Heap, (K w.params).In base → base.Ns mainGlobals mg → FnOk l.prog w (K w.params) mg base CX k fa fd [x] (sp (K w.params)))
    (hsp : ∀ (K : PySem.W.Frag) (H : Hp) (a : Addr) (ns : List Int), ns.length ≤ n → Only H → SqL K H a (ns.map V.int) → sp K [.ref a] H (fun v _ => v = .bl true) fun _ _ _ => False)
    (hCX : ∀ (H : Hp) (s : Shared) (e : Value) (s' : Shared), CX [] H s (fun _ _ _ => False) e s' → False) :
    PySem.W.WalkO q loose XP YP l.row.toRowW d [] (fun f vs => PySem.call f vs) :=
  walk_of (K := K) (CX := fun _ => CX) (sp := fun w => sp (K w.params)) hn hn2 hdf hr hY F (fun w H a ns h1 h2 h3 => hsp (K w.params) H a ns h1 h2 h3) fun _ H s e s' => hCX H s e s'
end L2

/- THE LAST THEOREM (shape; LID, My.* are yours):
   My.Adr: a structure of the addresses that your layer names (classes, functions); My.Txt K t: a structure (Prop) of the equations over K;
   My.txt_mk : {K} {implicit addresses ..} (e1 : nsIn K mainGlobals "law" = some (some (.ref f))) (e2 : K.lookup f = some ⟨oc, od, .func (fnOf "law" "law" params body scope dV kV doc pm an cdv ct), sl⟩) (e3 : codeIn K cdv "law" = true) .. : ∃ t, My.Txt K t

set_option maxRecDepth 100000 in
set_option maxHeartbeats 0 in
theorem PySem.Challenge.cw_LID_holds : PySem.Challenge.rw_LID.Holds := by
  w_on; o_law; k_head; (case hw => w_witness2)
  k_fill
  refine L2.walk_of (l := PySem.Challenge.rw_LID) (n := 63) (k := 40) (x := "script") (CX := fun w => ..) (sp := fun _ => My.sp_law) rfl (by decide) rfl ⟨rfl, by decide, by decide⟩ (fun w h Y => PySem.W.kIn_of Y) ?F ?S ?C
  case F =>
    intro w mg fa h KX G hmg
    have T : ∃ t, My.Txt (L2.KOf KX) t := by
      dsimp only [L2.KOf]                          -- K must stand as «<heap const> w.params» for k_is
      refine' My.txt_mk ?e1 ?e2 ?e3 ..
      (case e1 => PySem.W.k_is)                    -- in the order: a name -> its address -> its object -> its parts
      (case e2 => PySem.W.k_is)
      ..
    obtain ⟨t, T⟩ := T
    have e0 := hmg.symm.trans (PySem.W.mg_of KX G T.law)
    cases e0                                       -- fa is the law's own address
    exact ⟨_, fun s u => .of_eq rfl, fun base kb nb => My.law_fn T kb nb⟩     -- if «.of_eq rfl» comes too early: refine' ⟨_, ?b, fun base kb nb => My.law_fn T kb nb⟩; exact fun s u => .of_eq rfl
  case S => exact fun w H a ns hl hO hS => ..
  case C => exact ..
(the tactic k_is has no namespace: write k_is) -/

/-! SHORT WORDS over the layer: a def of the text, its body, what a loop and a test want. -/
namespace L2
open PySem PySem.Spec PyProof.Rows

/-! ### the text by places -/
/-- the j-th statement of a class's body -/
def inClass (s : Stmt) (j : Nat) : Stmt := match s with
  | .ClassDef _ _ _ body _ _ _ _ _ _ _ => body.getD j (.Pass ⟨0, 0, 0, 0⟩)
  | _ => .Pass ⟨0, 0, 0, 0⟩
def defArgs (s : Stmt) : Arguments := match s with
  | .FunctionDef _ a _ _ _ _ _ _ _ _ => a
  | _ => { posonlyargs := [], args := [], vararg := none, kwonlyargs := [], kw_defaults := [], kwarg := none, defaults := [] }
def defBody (s : Stmt) : List Stmt := match s with
  | .FunctionDef _ _ b _ _ _ _ _ _ _ => b
  | _ => []
def defScope (s : Stmt) : Scope := match s with
  | .FunctionDef _ _ _ _ _ _ sc _ _ _ => sc
  | _ => { kind := .function, names := [], isGenerator := false, isCoroutine := false }

/-! ### no exception leaves a def -/
abbrev CX0 : CXT := fun _ _ _ _ _ _ => False
abbrev E0 : XK := fun _ _ _ => False
theorem pass0 {X : Cx} : Passes CX0 X E0 := fun _ _ _ _ _ _ _ h => h.elim

/-! ### a def (or method) of the text as it stands behind the top -/
structure Fun (K : PySem.W.Frag) (x qual : Str) (st : Stmt) (f : Addr) (fd : FuncData) : Prop where
  ex : ∃ (oc : Value) (od : Option Addr) (kV doc pm : Value) (an : Option Addr) (cdv ct : Value) (osl : Array (Option Value)),
    fd = PySem.W.fnOf x qual (defArgs st) (defBody st) (defScope st) .none kV doc pm an cdv ct ∧ K.lookup f = some ⟨oc, od, .func fd, osl⟩ ∧ PySem.W.codeIn K cdv qual = true
  kp : PySem.W.keepIn K (.ref f) = true
section
variable {P : Program} {w : World} {K : PySem.W.Frag} {mg : Str → Option Value} {base : Heap}
/-- THE RULE for a def: its body as a term of rules, and the reading of that term -/
theorem Fun.ok {x qual : Str} {st : Stmt} {f : Addr} {fd : FuncData} {N ps : List Str} {k : Nat} {sp : Sp} (F : Fun K x qual st f fd) (S : FnScope N ps (defScope st)) (len : ∀ vs H Q E, sp vs H Q E → vs.length = ps.length)
    (hbody : ∀ (cdv : Value) (A : Around) (outer : List Env) (s : Shared) (H : Hp) (vs : List V) (Q : VK) (E : XK), Room k (A.deeper (envOfC qual (defScope st) s.heap.objs.size f cdv)) → sp vs H Q E →
      ∃ t, PSs (cxOf CX0 P w K mg base N qual (defScope st) f cdv A outer s H E).nox (defBody st) t ∧ t { nx := fun _ H' => Q .non H', rt := Q } (start N vs) H) : FnOk P w K mg base CX0 (k + 1) f fd ps sp := by
  obtain ⟨oc, od, kV, doc, pm, an, cdv, ct, osl, rfl, lk, hcd⟩ := F.ex
  refine fn_of lk hcd S len fun A outer s H vs Q E hr hsp => ?_
  obtain ⟨t, h, q⟩ := hbody cdv A outer s H vs Q E hr hsp
  exact ⟨t, h.nox, q⟩
/-- how its arguments bind (no defaults): h is «fun _ _ _ _ _ _ us hl => match us, hl with | [_, _], _ => rfl», one _ a parameter -/
theorem Fun.binds {x qual : Str} {st : Stmt} {f : Addr} {fd : FuncData} {ps : List Str} (F : Fun K x qual st f fd)
    (h : ∀ (kV doc pm : Value) (an : Option Addr) (cdv ct : Value) (us : List Value), us.length = ps.length → bindArgs (PySem.W.fnOf x qual (defArgs st) (defBody st) (defScope st) .none kV doc pm an cdv ct) ⟨us, []⟩ = pure (ps.zip us)) : Binds K fd ps [] := by
  obtain ⟨oc, od, kV, doc, pm, an, cdv, ct, osl, rfl, lk, hcd⟩ := F.ex
  exact .all (h kV doc pm an cdv ct)
theorem fun_mk {x qual : Str} {st : Stmt} {f : Addr} {oc : Value} {od an : Option Addr} {osl : Array (Option Value)} {kV doc pm cdv ct : Value} (l : K.lookup f = some ⟨oc, od, .func (PySem.W.fnOf x qual (defArgs st) (defBody st) (defScope st) .none kV doc pm an cdv ct), osl⟩)
    (c : PySem.W.codeIn K cdv qual = true) (k : PySem.W.keepIn K (.ref f) = true) : Fun K x qual st f (PySem.W.fnOf x qual (defArgs st) (defBody st) (defScope st) .none kV doc pm an cdv ct) := ⟨⟨oc, od, kV, doc, pm, an, cdv, ct, osl, rfl, l, c⟩, k⟩
end
theorem hu_of {A : Around} {k : Nat} (hr : Room k A) : A.units + 1 < cLine := Nat.lt_of_le_of_lt (Nat.add_le_add_left (by decide : 1 ≤ 64) _) hr.units
theorem small1000 {n : Nat} (h : n ≤ 1000) : n < sizeLine := Nat.lt_of_le_of_lt h (by decide)

/-! ### expressions in short: the name that stands in the i-th slot -/
section
variable {X : Cx}
theorem pv (i : Nat) {x : Str} {pos : Pos} (hN : X.N[i]? = some x := by rfl) (hv : Vis X.env.scope x := by first | exact Or.inl rfl | exact Or.inr (Or.inl rfl) | exact Or.inr (Or.inr rfl)) (hd : (x == ("__debug__" : Str)) = false := by decide)
    (hcd : (x == ("__classdict__" : Str)) = false := by decide) : PE X (.Name x pos) (tVar i) := pe_var hN hv hd hcd
end

/-! ### tests -/
theorem iteF {A B : Prop} (h : B) : if false = true then A else B := by
  rw [if_neg Bool.false_ne_true]
  exact h
theorem iteT {A B : Prop} (h : A) : if true = true then A else B := by
  rw [if_pos rfl]
  exact h
theorem ite2 {c A B : Prop} [Decidable c] (h1 : c → A) (h2 : ¬ c → B) : if c then A else B := by
  by_cases h : c
  · rw [if_pos h]
    exact h1 h
  · rw [if_neg h]
    exact h2 h
theorem iteNS {c A B : Prop} [Decidable c] (hc : c) (h : B) : if (!decide c) = true then A else B := by
  rw [decide_eq_true hc]
  exact iteF h

/-! ### heaps -/
/-- all that was tracked is as it was -/
def Same (H H' : Hp) : Prop := ∀ b o, H b = some o → H' b = some o
theorem Same.refl (H : Hp) : Same H H := fun _ _ h => h
theorem Same.trans {H H1 H2 : Hp} (a : Same H H1) (b : Same H1 H2) : Same H H2 := fun c o h => b c o (a c o h)
theorem Same.free {H H' : Hp} (e : Same H H') {l : Addr} (h : H' l = Option.none) : H l = Option.none := by
  cases q : H l with
  | none => rfl
  | some o =>
    rw [e l o q] at h
    cases h
theorem Same.seq {K : PySem.W.Frag} {H H' : Hp} {a : Addr} {xs : List V} (e : Same H H') (h : SqL K H a xs) : SqL K H' a xs := by
  rcases h with (h | ⟨o, h⟩) | h
  · exact .inl (.inl (e _ _ h))
  · exact .inl (.inr ⟨o, e _ _ h⟩)
  · exact .inr h

end L2

end

section
/-! Words, ways between them, and what a search finds: plain lists alone. -/
set_option autoImplicit false
namespace Eo

abbrev W := Int × Bool
def neg (u : W) : W := (u.1, !u.2)
def InN (N : Nat) (x : W) : Prop := 0 ≤ x.1 ∧ x.1 < (N : Int)
/-- every word of every wish is a word of the house -/
def Good (N : Nat) (ws : List (W × W)) : Prop := ∀ p ∈ ws, InN N p.1 ∧ InN N p.2

def Nx (ws : List (W × W)) (u v : W) : Prop := (neg u, v) ∈ ws ∨ (v, neg u) ∈ ws
instance (ws : List (W × W)) (u v : W) : Decidable (Nx ws u v) := inferInstanceAs (Decidable (_ ∨ _))

inductive Way (ws : List (W × W)) (u : W) : Nat → W → Prop
  | here : Way ws u 0 u
  | step {k : Nat} {v x : W} : Way ws u k v → Nx ws v x → Way ws u (k + 1) x

def Reach (ws : List (W × W)) (u v : W) : Prop := ∃ k, Way ws u k v
def Dist (ws : List (W × W)) (u v : W) (k : Nat) : Prop := Way ws u k v ∧ ∀ j, Way ws u j v → k ≤ j

theorem Nx.inN {N : Nat} {ws : List (W × W)} {u v : W} (g : Good N ws) (h : Nx ws u v) : InN N v := by
  rcases h with h | h
  · exact (g _ h).2
  · exact (g _ h).1
theorem Way.inN {N : Nat} {ws : List (W × W)} {u v : W} {k : Nat} (g : Good N ws) (hu : InN N u) (h : Way ws u k v) : InN N v := by
  cases h with
  | here => exact hu
  | step _ n => exact n.inN g
theorem Dist.uniq {ws : List (W × W)} {u v : W} {j k : Nat} (a : Dist ws u v j) (b : Dist ws u v k) : j = k :=
  Nat.le_antisymm (a.2 k b.1) (b.2 j a.1)
theorem Reach.dist {ws : List (W × W)} {u v : W} (h : Reach ws u v) : ∃ k, Dist ws u v k := by
  obtain ⟨k, h⟩ := h
  have all : ∀ n, ∀ k, k ≤ n → Way ws u k v → ∃ k, Dist ws u v k := by
    intro n
    induction n with
    | zero =>
      intro k hk hw
      exact ⟨k, hw, fun j _ => by omega⟩
    | succ n ih =>
      intro k hk hw
      by_cases hs : ∃ j, j < k ∧ Way ws u j v
      · obtain ⟨j, hj, hw'⟩ := hs
        exact ih j (by omega) hw'
      · exact ⟨k, hw, fun j hj => by
          by_cases hjk : k ≤ j
          · exact hjk
          · exact absurd ⟨j, by omega, hj⟩ hs⟩
  exact all k k (Nat.le_refl _) h

/-- all words of a house, in the order of tuples -/
def allW (N : Nat) : List W := (List.range (2 * N)).map fun k => (((k / 2 : Nat) : Int), k % 2 == 1)
def code (x : W) : Int := 2 * x.1 + (if x.2 then 1 else 0)

theorem allW_len (N : Nat) : (allW N).length = 2 * N := by simp [allW]
theorem mem_allW {N : Nat} {x : W} : x ∈ allW N ↔ InN N x := by
  obtain ⟨a, b⟩ := x
  unfold allW InN
  simp only [List.mem_map, List.mem_range, Prod.mk.injEq]
  constructor
  · rintro ⟨k, hk, rfl, rfl⟩
    omega
  · rintro ⟨h0, h1⟩
    cases b with
    | false => exact ⟨2 * a.toNat, by omega, by omega, by simp⟩
    | true => exact ⟨2 * a.toNat + 1, by omega, by omega, by simp⟩
theorem allW_get {N : Nat} {k : Nat} (h : k < 2 * N) : (allW N)[k]? = some (((k / 2 : Nat) : Int), k % 2 == 1) := by
  unfold allW
  rw [List.getElem?_map, List.getElem?_range h]
  rfl
theorem code_all (k : Nat) : code (((k / 2 : Nat) : Int), k % 2 == 1) = (k : Int) := by
  unfold code
  by_cases h : k % 2 = 1
  · simp [h]; omega
  · have h' : k % 2 = 0 := by omega
    simp [h']; omega
theorem code_inj {x y : W} (h : code x = code y) : x = y := by
  obtain ⟨a, b⟩ := x
  obtain ⟨c, d⟩ := y
  unfold code at h
  cases b <;> cases d <;> simp at h <;> first | (have : a = c := by omega) | skip
  all_goals first | (subst this; rfl) | omega

def Up (l : List W) : Prop := l.Pairwise fun a b => code a < code b
theorem up_allW (N : Nat) : Up (allW N) := by
  unfold Up allW
  rw [List.pairwise_map]
  refine List.Pairwise.imp (R := fun a b => a < b) (fun {a b} h => ?_) (List.pairwise_lt_range)
  rw [code_all, code_all]
  omega
theorem Up.filter {l : List W} (h : Up l) (p : W → Bool) : Up (l.filter p) := List.Pairwise.filter _ h
theorem Up.nodup {l : List W} (h : Up l) : l.Nodup := List.Pairwise.imp (fun h e => by rw [e] at h; omega) h
/-- two rising lists of the same words are one -/
theorem Up.ext : ∀ {l m : List W}, Up l → Up m → (∀ x, x ∈ l ↔ x ∈ m) → l = m
  | [], [], _, _, _ => rfl
  | [], y :: m, _, _, h => by have := (h y).2 (by simp); simp at this
  | x :: l, [], _, _, h => by have := (h x).1 (by simp); simp at this
  | x :: l, y :: m, hl, hm, h => by
    have hl' := List.pairwise_cons.mp hl
    have hm' := List.pairwise_cons.mp hm
    have e : x = y := by
      have h1 : x ∈ y :: m := (h x).1 (by simp)
      have h2 : y ∈ x :: l := (h y).2 (by simp)
      rcases List.mem_cons.mp h1 with e | h1
      · exact e
      · rcases List.mem_cons.mp h2 with e | h2
        · exact e.symm
        · have a := hm'.1 x h1
          have b := hl'.1 y h2
          omega
    subst e
    congr 1
    refine Up.ext hl'.2 hm'.2 fun z => ?_
    constructor
    · intro hz
      rcases List.mem_cons.mp ((h z).1 (List.mem_cons_of_mem _ hz)) with e | hz'
      · subst e
        have := hl'.1 z hz
        omega
      · exact hz'
    · intro hz
      rcases List.mem_cons.mp ((h z).2 (List.mem_cons_of_mem _ hz)) with e | hz'
      · subst e
        have := hm'.1 z hz
        omega
      · exact hz'

theorem nodup_sub {α : Type} [DecidableEq α] : ∀ {l m : List α}, l.Nodup → (∀ x ∈ l, x ∈ m) → l.length ≤ m.length
  | [], _, _, _ => Nat.zero_le _
  | a :: r, m, hn, hs => by
    have hn' := List.nodup_cons.mp hn
    have ha : a ∈ m := hs a (by simp)
    have h := nodup_sub (l := r) (m := m.erase a) hn'.2 fun x hx => by
      have hne : x ≠ a := fun e => hn'.1 (e ▸ hx)
      exact (List.mem_erase_of_ne hne).2 (hs x (List.mem_cons_of_mem _ hx))
    have hl : (m.erase a).length = m.length - 1 := List.length_erase_of_mem ha
    have hp : 0 < m.length := List.length_pos_of_mem ha
    simp only [List.length_cons]
    omega
theorem len_words {N : Nat} {l : List W} (hn : l.Nodup) (h : ∀ x ∈ l, InN N x) : l.length ≤ 2 * N := by
  have := nodup_sub (m := allW N) hn fun x hx => mem_allW.2 (h x hx)
  rwa [allW_len] at this

/-- a shortest way passes as many words as it has steps, and one -/
theorem Dist.list {N : Nat} {ws : List (W × W)} {u : W} (g : Good N ws) (hu : InN N u) : ∀ {k : Nat} {x : W}, Dist ws u x k →
    ∃ l : List W, l.length = k + 1 ∧ l.Nodup ∧ ∀ v ∈ l, InN N v ∧ ∃ i, i ≤ k ∧ Dist ws u v i
  | 0, x, h => ⟨[x], rfl, by simp, fun v hv => by
      have e : v = x := by simpa using hv
      subst e
      exact ⟨h.1.inN g hu, 0, Nat.le_refl _, h⟩⟩
  | k + 1, x, h => by
    obtain ⟨hw, hm⟩ := h
    cases hw with
    | @step k' v x hw n =>
      have hv : Dist ws u v k := ⟨hw, fun j hj => by
        have := hm (j + 1) (.step hj n)
        omega⟩
      obtain ⟨l, h1, h2, h3⟩ := Dist.list g hu hv
      have hx : Dist ws u x (k + 1) := ⟨.step hw n, hm⟩
      refine ⟨x :: l, by simp [h1], List.nodup_cons.mpr ⟨fun hx' => ?_, h2⟩, fun y hy => ?_⟩
      · obtain ⟨_, i, hi, hd⟩ := h3 x hx'
        have := hd.uniq hx
        omega
      · rcases List.mem_cons.mp hy with e | hy
        · subst e
          exact ⟨n.inN g, k + 1, Nat.le_refl _, hx⟩
        · obtain ⟨a, i, hi, hd⟩ := h3 y hy
          exact ⟨a, i, by omega, hd⟩
theorem Dist.lt {N : Nat} {ws : List (W × W)} {u x : W} {k : Nat} (g : Good N ws) (hu : InN N u) (h : Dist ws u x k) : k < 2 * N := by
  obtain ⟨l, h1, h2, h3⟩ := h.list g hu
  have := len_words h2 fun v hv => (h3 v hv).1
  omega

/-! ### the search along a queue -/
/-- a word that was reached, the one ahead of it, how many steps -/
abbrev T := W × Option W × Nat
structure Core (ws : List (W × W)) (u : W) (G : List T) : Prop where
  nd : (G.map (·.1)).Nodup
  head : G.head? = some (u, none, 0)
  par : ∀ t ∈ G, t = (u, none, 0) ∨ ∃ p q d, (p, q, d) ∈ G ∧ Nx ws p t.1 ∧ t.2.1 = some p ∧ t.2.2 = d + 1
  way : ∀ t ∈ G, Way ws u t.2.2 t.1
  mono : G.Pairwise fun a b => a.2.2 ≤ b.2.2
/-- the words ahead of place i are gone on from -/
def Closed (ws : List (W × W)) (G : List T) (i : Nat) : Prop := ∀ j t, j < i → G[j]? = some t → ∀ x, Nx ws t.1 x → ∃ q d, (x, q, d) ∈ G ∧ d ≤ t.2.2 + 1
structure Bfs (ws : List (W × W)) (u : W) (i : Nat) (G : List T) : Prop extends Core ws u G where
  near : ∀ c, G[i]? = some c → ∀ t ∈ G, t.2.2 ≤ c.2.2 + 1
  done : Closed ws G i
structure BfsIn (ws : List (W × W)) (u : W) (i : Nat) (c : T) (pre : List W) (G : List T) : Prop extends Core ws u G where
  at_ : G[i]? = some c
  near : ∀ t ∈ G, t.2.2 ≤ c.2.2 + 1
  done : Closed ws G i
  part : ∀ x ∈ pre, ∃ q d, (x, q, d) ∈ G ∧ d ≤ c.2.2 + 1

theorem bfs_start (ws : List (W × W)) (u : W) : Bfs ws u 0 [(u, none, 0)] where
  nd := by simp
  head := rfl
  par := fun t ht => .inl (by simpa using ht)
  way := fun t ht => by
    have e : t = (u, none, 0) := by simpa using ht
    subst e
    exact .here
  mono := by simp
  near := fun c hc t ht => by
    have e : t = (u, none, 0) := by simpa using ht
    subst e
    exact Nat.zero_le _
  done := fun j t hj => by omega
theorem Bfs.enter {ws : List (W × W)} {u : W} {i : Nat} {G : List T} {c : T} (b : Bfs ws u i G) (h : G[i]? = some c) : BfsIn ws u i c [] G :=
  { b.toCore with at_ := h, near := b.near c h, done := b.done, part := fun _ h => by simp at h }
theorem BfsIn.old {ws : List (W × W)} {u : W} {i : Nat} {G : List T} {c : T} {pre : List W} {x : W} (b : BfsIn ws u i c pre G) (hx : x ∈ G.map (·.1)) : BfsIn ws u i c (pre ++ [x]) G :=
  { b with
    part := fun y hy => by
      rcases List.mem_append.mp hy with hy | hy
      · exact b.part y hy
      · have e : y = x := by simpa using hy
        subst e
        obtain ⟨t, ht, e⟩ := List.mem_map.mp hx
        subst e
        exact ⟨t.2.1, t.2.2, ht, b.near t ht⟩ }
theorem BfsIn.new {ws : List (W × W)} {u : W} {i : Nat} {G : List T} {c : T} {pre : List W} {x : W} (b : BfsIn ws u i c pre G) (hx : x ∉ G.map (·.1)) (n : Nx ws c.1 x) :
    BfsIn ws u i c (pre ++ [x]) (G ++ [(x, some c.1, c.2.2 + 1)]) where
  nd := by
    rw [List.map_append, List.nodup_append]
    refine ⟨b.nd, by simp, fun a ha y hy => ?_⟩
    have e : y = x := by simpa using hy
    subst e
    exact fun e => hx (e ▸ ha)
  head := by
    rw [List.head?_append, b.head]
    rfl
  par := fun t ht => by
    rcases List.mem_append.mp ht with ht | ht
    · rcases b.par t ht with e | ⟨p, q, d, h1, h2⟩
      · exact .inl e
      · exact .inr ⟨p, q, d, List.mem_append_left _ h1, h2⟩
    · have e : t = (x, some c.1, c.2.2 + 1) := by simpa using ht
      subst e
      exact .inr ⟨c.1, c.2.1, c.2.2, List.mem_append_left _ (List.mem_of_getElem? b.at_), n, rfl, rfl⟩
  way := fun t ht => by
    rcases List.mem_append.mp ht with ht | ht
    · exact b.way t ht
    · have e : t = (x, some c.1, c.2.2 + 1) := by simpa using ht
      subst e
      exact .step (b.way c (List.mem_of_getElem? b.at_)) n
  mono := by
    rw [List.pairwise_append]
    refine ⟨b.mono, by simp, fun a ha y hy => ?_⟩
    have e : y = (x, some c.1, c.2.2 + 1) := by simpa using hy
    subst e
    exact b.near a ha
  at_ := by
    have hi : i < G.length := (List.getElem?_eq_some_iff.mp b.at_).1
    rw [List.getElem?_append_left hi]
    exact b.at_
  near := fun t ht => by
    rcases List.mem_append.mp ht with ht | ht
    · exact b.near t ht
    · have e : t = (x, some c.1, c.2.2 + 1) := by simpa using ht
      subst e
      exact Nat.le_refl _
  done := fun j t hj ht y hy => by
    have hi : i < G.length := (List.getElem?_eq_some_iff.mp b.at_).1
    rw [List.getElem?_append_left (by omega)] at ht
    obtain ⟨q, d, h1, h2⟩ := b.done j t hj ht y hy
    exact ⟨q, d, List.mem_append_left _ h1, h2⟩
  part := fun y hy => by
    rcases List.mem_append.mp hy with hy | hy
    · obtain ⟨q, d, h1, h2⟩ := b.part y hy
      exact ⟨q, d, List.mem_append_left _ h1, h2⟩
    · have e : y = x := by simpa using hy
      subst e
      exact ⟨some c.1, c.2.2 + 1, by simp, Nat.le_refl _⟩
theorem BfsIn.leave {ws : List (W × W)} {u : W} {i : Nat} {G : List T} {c : T} {pre : List W} (b : BfsIn ws u i c pre G) (h : ∀ x, Nx ws c.1 x → x ∈ pre) : Bfs ws u (i + 1) G :=
  { b.toCore with
    near := fun e he t ht => by
      have h1 := b.near t ht
      have hi : i < G.length := (List.getElem?_eq_some_iff.mp b.at_).1
      have hi' : i + 1 < G.length := (List.getElem?_eq_some_iff.mp he).1
      have h2 := (List.pairwise_iff_getElem.mp b.mono) i (i + 1) hi hi' (by omega)
      have e1 : G[i] = c := (List.getElem?_eq_some_iff.mp b.at_).2
      have e2 : G[i + 1] = e := (List.getElem?_eq_some_iff.mp he).2
      rw [e1, e2] at h2
      omega
    done := fun j t hj ht x hx => by
      by_cases hji : j < i
      · exact b.done j t hji ht x hx
      · have e : j = i := by omega
        subst e
        rw [b.at_] at ht
        cases ht
        exact b.part x (h x hx) }
/-- the search is through -/
structure Found (ws : List (W × W)) (u : W) (G : List T) : Prop extends Core ws u G where
  all : ∀ k x, Way ws u k x → ∃ q d, (x, q, d) ∈ G ∧ d ≤ k
theorem Bfs.found {ws : List (W × W)} {u : W} {i : Nat} {G : List T} (b : Bfs ws u i G) (h : G.length ≤ i) : Found ws u G :=
  { b.toCore with
    all := fun k x hw => by
      induction hw with
      | here =>
        cases hG : G with
        | nil => have := b.head; rw [hG] at this; cases this
        | cons t r =>
          have := b.head
          rw [hG] at this
          have e : t = (u, none, 0) := by simpa using this
          subst e
          exact ⟨none, 0, by simp, Nat.le_refl _⟩
      | @step k v x hw n ih =>
        obtain ⟨q, d, h1, h2⟩ := ih
        obtain ⟨j, hj, e⟩ := List.mem_iff_getElem.mp h1
        obtain ⟨q', d', h3, h4⟩ := b.done j (v, q, d) (by omega) (List.getElem?_eq_some_iff.mpr ⟨hj, e⟩) x n
        exact ⟨q', d', h3, by have : d' ≤ d + 1 := h4; omega⟩ }
theorem Core.key {ws : List (W × W)} {u : W} {G : List T} (f : Core ws u G) {x : W} {p q : Option W} {d e : Nat} (h1 : (x, p, d) ∈ G) (h2 : (x, q, e) ∈ G) : p = q ∧ d = e := by
  obtain ⟨i, hi, ei⟩ := List.mem_iff_getElem.mp h1
  obtain ⟨j, hj, ej⟩ := List.mem_iff_getElem.mp h2
  have h := (List.getElem_inj (xs := G.map (·.1)) (h₀ := by simpa using hi) (h₁ := by simpa using hj) f.nd).mp (by simp [ei, ej])
  subst h
  rw [ei] at ej
  cases ej
  exact ⟨rfl, rfl⟩
theorem Found.dist {ws : List (W × W)} {u : W} {G : List T} (f : Found ws u G) {x : W} {p : Option W} {d : Nat} (h : (x, p, d) ∈ G) : Dist ws u x d :=
  ⟨f.way _ h, fun j hj => by
    obtain ⟨q, e, h1, h2⟩ := f.all j x hj
    have := (f.key h h1).2
    omega⟩
theorem Found.mem {ws : List (W × W)} {u : W} {G : List T} (f : Found ws u G) {x : W} : x ∈ G.map (·.1) ↔ Reach ws u x := by
  constructor
  · intro h
    obtain ⟨t, ht, e⟩ := List.mem_map.mp h
    subst e
    exact ⟨_, f.way t ht⟩
  · rintro ⟨k, hk⟩
    obtain ⟨q, d, h, _⟩ := f.all k x hk
    exact List.mem_map.mpr ⟨_, h, rfl⟩
theorem Core.inN {N : Nat} {ws : List (W × W)} {u : W} {G : List T} (f : Core ws u G) (g : Good N ws) (hu : InN N u) : ∀ x ∈ G.map (·.1), InN N x := fun x hx => by
  obtain ⟨t, ht, e⟩ := List.mem_map.mp hx
  subst e
  exact (f.way t ht).inN g hu
theorem Core.len {N : Nat} {ws : List (W × W)} {u : W} {G : List T} (f : Core ws u G) (g : Good N ws) (hu : InN N u) : G.length ≤ 2 * N := by
  have := len_words f.nd (f.inN g hu)
  simpa using this

/-! ### chains -/
def Chn (ws : List (W × W)) : List W → Prop
  | [] => True
  | [_] => True
  | a :: b :: r => Nx ws a b ∧ Chn ws (b :: r)
theorem Chn.at {ws : List (W × W)} : ∀ {l : List W} {k : Nat} {a b : W}, Chn ws l → l[k]? = some a → l[k + 1]? = some b → Nx ws a b
  | [], _, _, _, _, h, _ => by simp at h
  | [x], k, _, _, _, _, h => by simp at h
  | x :: y :: r, 0, a, b, c, h1, h2 => by
    simp at h1 h2
    subst h1; subst h2
    exact c.1
  | x :: y :: r, k + 1, a, b, c, h1, h2 => Chn.at (l := y :: r) (k := k) c.2 (by simpa using h1) (by simpa using h2)
/-- what stands in hand while a chain is walked back from x: v the next word (none: all is through), l the words taken -/
def Back (ws : List (W × W)) (u x : W) (G : List T) (n : Nat) (link : Option W) (l : List W) : Prop :=
  match link with
  | some v => ∃ q d, (v, q, d) ∈ G ∧ Chn ws (v :: l.reverse) ∧ l.length + d = n ∧ (v :: l.reverse).getLast? = some x
  | none => Chn ws l.reverse ∧ l.reverse.head? = some u ∧ l.reverse.getLast? = some x ∧ l.length = n + 1
theorem Back.start {ws : List (W × W)} {u x : W} {G : List T} {n : Nat} {q : Option W} (h : (x, q, n) ∈ G) : Back ws u x G n (some x) [] :=
  ⟨q, n, h, trivial, by simp, rfl⟩
theorem Back.turn {ws : List (W × W)} {u x v : W} {G : List T} {n : Nat} {q : Option W} {d : Nat} {l : List W} (f : Core ws u G) (b : Back ws u x G n (some v) l) (h : (v, q, d) ∈ G) :
    Back ws u x G n q (l ++ [v]) ∧ l.length ≤ n := by
  obtain ⟨q', d', h1, h2, h3, h4⟩ := b
  obtain ⟨e1, e2⟩ := f.key h h1
  subst e1; subst e2
  refine ⟨?_, by omega⟩
  rcases f.par _ h with e | ⟨p, q', d', h5, h6, h7, h8⟩
  · cases e
    refine ⟨?_, ?_, ?_, ?_⟩
    · simpa using h2
    · simp
    · simpa using h4
    · simp; omega
  · have e7 : q = some p := h7
    have e8 : d = d' + 1 := h8
    subst e7
    refine ⟨q', d', h5, ?_, ?_, ?_⟩
    · rw [List.reverse_append]
      exact ⟨h6, h2⟩
    · simp; omega
    · rw [List.reverse_append]
      show (p :: v :: l.reverse).getLast? = some x
      rw [List.getLast?_cons_cons]
      exact h4

/-! ### the search by turns -/
structure Far0 (ws : List (W × W)) (u : W) (F : List (W × Nat)) : Prop where
  nd : (F.map (·.1)).Nodup
  way : ∀ p ∈ F, Way ws u p.2 p.1
def Covers (ws : List (W × W)) (u : W) (F : List (W × Nat)) (t : Nat) : Prop := ∀ k x, k ≤ t → Way ws u k x → ∃ d, d ≤ k ∧ (x, d) ∈ F
structure Far (ws : List (W × W)) (u : W) (t : Nat) (F : List (W × Nat)) : Prop extends Far0 ws u F where
  low : ∀ p ∈ F, p.2 ≤ t
  cov : Covers ws u F t
structure FarIn (ws : List (W × W)) (u : W) (t : Nat) (pre : List W) (F : List (W × Nat)) : Prop extends Far0 ws u F where
  low : ∀ p ∈ F, p.2 ≤ t + 1
  cov : Covers ws u F t
  part : ∀ v ∈ pre, (v, t) ∈ F → ∀ x, Nx ws v x → ∃ d, d ≤ t + 1 ∧ (x, d) ∈ F
structure FarIn2 (ws : List (W × W)) (u : W) (t : Nat) (pre : List W) (v : W) (pre2 : List W) (F : List (W × Nat)) : Prop extends FarIn ws u t pre F where
  here : (v, t) ∈ F
  part2 : ∀ x ∈ pre2, Nx ws v x → ∃ d, d ≤ t + 1 ∧ (x, d) ∈ F

theorem far_start (ws : List (W × W)) (u : W) : Far ws u 0 [(u, 0)] where
  nd := by simp
  way := fun p hp => by
    have e : p = (u, 0) := by simpa using hp
    subst e
    exact .here
  low := fun p hp => by
    have e : p = (u, 0) := by simpa using hp
    subst e
    exact Nat.le_refl _
  cov := fun k x hk hw => by
    have e : k = 0 := by omega
    subst e
    cases hw
    exact ⟨0, Nat.le_refl _, by simp⟩
theorem Far.enter {ws : List (W × W)} {u : W} {t : Nat} {F : List (W × Nat)} (f : Far ws u t F) : FarIn ws u t [] F :=
  { f.toFar0 with low := fun p hp => Nat.le_succ_of_le (f.low p hp), cov := f.cov, part := fun _ h => by simp at h }
theorem FarIn.skip {ws : List (W × W)} {u : W} {t : Nat} {pre : List W} {F : List (W × Nat)} {v : W} (f : FarIn ws u t pre F) (h : (v, t) ∉ F) : FarIn ws u t (pre ++ [v]) F :=
  { f with
    part := fun y hy hF => by
      rcases List.mem_append.mp hy with hy | hy
      · exact f.part y hy hF
      · have e : y = v := by simpa using hy
        subst e
        exact absurd hF h }
theorem FarIn.enter {ws : List (W × W)} {u : W} {t : Nat} {pre : List W} {F : List (W × Nat)} {v : W} (f : FarIn ws u t pre F) (h : (v, t) ∈ F) : FarIn2 ws u t pre v [] F :=
  { f with here := h, part2 := fun _ h => by simp at h }
theorem FarIn2.old {ws : List (W × W)} {u : W} {t : Nat} {pre pre2 : List W} {F : List (W × Nat)} {v x : W} (f : FarIn2 ws u t pre v pre2 F) (h : x ∈ F.map (·.1) ∨ ¬ Nx ws v x) : FarIn2 ws u t pre v (pre2 ++ [x]) F :=
  { f with
    part2 := fun y hy hn => by
      rcases List.mem_append.mp hy with hy | hy
      · exact f.part2 y hy hn
      · have e : y = x := by simpa using hy
        subst e
        rcases h with h | h
        · obtain ⟨p, hp, e⟩ := List.mem_map.mp h
          subst e
          exact ⟨p.2, f.low p hp, hp⟩
        · exact absurd hn h }
theorem FarIn2.new {ws : List (W × W)} {u : W} {t : Nat} {pre pre2 : List W} {F : List (W × Nat)} {v x : W} (f : FarIn2 ws u t pre v pre2 F) (h : x ∉ F.map (·.1)) (n : Nx ws v x) :
    FarIn2 ws u t pre v (pre2 ++ [x]) (F ++ [(x, t + 1)]) where
  nd := by
    rw [List.map_append, List.nodup_append]
    refine ⟨f.nd, by simp, fun a ha y hy => ?_⟩
    have e : y = x := by simpa using hy
    subst e
    exact fun e => h (e ▸ ha)
  way := fun p hp => by
    rcases List.mem_append.mp hp with hp | hp
    · exact f.way p hp
    · have e : p = (x, t + 1) := by simpa using hp
      subst e
      exact .step (f.way _ f.here) n
  low := fun p hp => by
    rcases List.mem_append.mp hp with hp | hp
    · exact f.low p hp
    · have e : p = (x, t + 1) := by simpa using hp
      subst e
      exact Nat.le_refl _
  cov := fun k y hk hw => by
    obtain ⟨d, h1, h2⟩ := f.cov k y hk hw
    exact ⟨d, h1, List.mem_append_left _ h2⟩
  part := fun y hy hF z hz => by
    have hF' : (y, t) ∈ F := by
      rcases List.mem_append.mp hF with hF | hF
      · exact hF
      · have e : (y, t) = (x, t + 1) := by simpa using hF
        have : t = t + 1 := congrArg Prod.snd e
        omega
    obtain ⟨d, h1, h2⟩ := f.part y hy hF' z hz
    exact ⟨d, h1, List.mem_append_left _ h2⟩
  here := List.mem_append_left _ f.here
  part2 := fun y hy hn => by
    rcases List.mem_append.mp hy with hy | hy
    · obtain ⟨d, h1, h2⟩ := f.part2 y hy hn
      exact ⟨d, h1, List.mem_append_left _ h2⟩
    · have e : y = x := by simpa using hy
      subst e
      exact ⟨t + 1, Nat.le_refl _, by simp⟩
theorem FarIn2.leave {ws : List (W × W)} {u : W} {t : Nat} {pre pre2 : List W} {F : List (W × Nat)} {v : W} (f : FarIn2 ws u t pre v pre2 F) (h : ∀ x, Nx ws v x → x ∈ pre2) : FarIn ws u t (pre ++ [v]) F :=
  { f.toFarIn with
    part := fun y hy hF z hz => by
      rcases List.mem_append.mp hy with hy | hy
      · exact f.part y hy hF z hz
      · have e : y = v := by simpa using hy
        subst e
        exact f.part2 z (h z hz) hz }
theorem FarIn.leave {ws : List (W × W)} {u : W} {t : Nat} {pre : List W} {F : List (W × Nat)} (f : FarIn ws u t pre F) (h : ∀ x, Reach ws u x → x ∈ pre) : Far ws u (t + 1) F :=
  { f.toFar0 with
    low := f.low
    cov := fun k x hk hw => by
      by_cases hkt : k ≤ t
      · exact f.cov k x hkt hw
      · have e : k = t + 1 := by omega
        subst e
        cases hw with
        | @step _ v x hw n =>
          obtain ⟨d, h1, h2⟩ := f.cov t v (Nat.le_refl _) hw
          by_cases hd : d = t
          · subst hd
            obtain ⟨d', h3, h4⟩ := f.part v (h v ⟨_, hw⟩) h2 x n
            exact ⟨d', h3, h4⟩
          · obtain ⟨d', h3, h4⟩ := f.cov (d + 1) x (by omega) (.step (f.way _ h2) n)
            exact ⟨d', by omega, h4⟩ }
/-- the search by turns is through -/
structure FarAll (ws : List (W × W)) (u : W) (F : List (W × Nat)) : Prop extends Far0 ws u F where
  dist : ∀ p ∈ F, Dist ws u p.1 p.2
  mem : ∀ x, x ∈ F.map (·.1) ↔ Reach ws u x
theorem Far0.key {ws : List (W × W)} {u : W} {F : List (W × Nat)} (f : Far0 ws u F) {x : W} {d e : Nat} (h1 : (x, d) ∈ F) (h2 : (x, e) ∈ F) : d = e := by
  obtain ⟨i, hi, ei⟩ := List.mem_iff_getElem.mp h1
  obtain ⟨j, hj, ej⟩ := List.mem_iff_getElem.mp h2
  have h := (List.getElem_inj (xs := F.map (·.1)) (h₀ := by simpa using hi) (h₁ := by simpa using hj) f.nd).mp (by simp [ei, ej])
  subst h
  rw [ei] at ej
  cases ej
  rfl
theorem Far.all {N : Nat} {ws : List (W × W)} {u : W} {F : List (W × Nat)} (f : Far ws u (2 * N) F) (g : Good N ws) (hu : InN N u) : FarAll ws u F :=
  { f.toFar0 with
    dist := fun p hp => by
      have hw := f.way p hp
      obtain ⟨k, hk⟩ := Reach.dist ⟨_, hw⟩
      obtain ⟨d, h1, h2⟩ := f.cov k p.1 (Nat.le_of_lt (hk.lt g hu)) hk.1
      have e : d = p.2 := f.toFar0.key h2 hp
      have := hk.2 _ hw
      have e2 : k = p.2 := by omega
      rw [← e2]; exact hk
    mem := fun x => by
      constructor
      · intro h
        obtain ⟨p, hp, e⟩ := List.mem_map.mp h
        subst e
        exact ⟨_, f.way p hp⟩
      · intro h
        obtain ⟨k, hk⟩ := h.dist
        obtain ⟨d, _, h2⟩ := f.cov k x (Nat.le_of_lt (hk.lt g hu)) hk.1
        exact List.mem_map.mpr ⟨_, h2, rfl⟩ }
theorem Far0.len {N : Nat} {ws : List (W × W)} {u : W} {F : List (W × Nat)} (f : Far0 ws u F) (g : Good N ws) (hu : InN N u) : F.length ≤ 2 * N := by
  have := len_words (N := N) f.nd fun x hx => by
    obtain ⟨p, hp, e⟩ := List.mem_map.mp hx
    subst e
    exact (f.way p hp).inN g hu
  simpa using this

/-! ### what is told -/
open Classical in
noncomputable def R (ws : List (W × W)) (u v : W) : Bool := decide (Reach ws u v)
theorem R_iff {ws : List (W × W)} {u v : W} : R ws u v = true ↔ Reach ws u v := by simp [R]
noncomputable def fol (ws : List (W × W)) (N : Nat) (u : W) : List W := (allW N).filter (R ws u)
noncomputable def grp (ws : List (W × W)) (N : Nat) (u : W) : List W := (allW N).filter fun v => R ws u v && R ws v u
noncomputable def groups (ws : List (W × W)) (N : Nat) : List (List W) := ((allW N).filter fun u => (grp ws N u).head? == some u).map (grp ws N)
theorem mem_fol {ws : List (W × W)} {N : Nat} {u x : W} (g : Good N ws) (hu : InN N u) : x ∈ fol ws N u ↔ Reach ws u x := by
  unfold fol
  rw [List.mem_filter, R_iff, mem_allW]
  exact ⟨fun h => h.2, fun h => ⟨let ⟨_, hk⟩ := h; hk.inN g hu, h⟩⟩
theorem up_fol (ws : List (W × W)) (N : Nat) (u : W) : Up (fol ws N u) := (up_allW N).filter _
/-- any rising list of just the words that follow -/
theorem fol_of {ws : List (W × W)} {N : Nat} {u : W} {l : List W} (g : Good N ws) (hu : InN N u) (h : Up l) (hm : ∀ x, x ∈ l ↔ Reach ws u x) : l = fol ws N u :=
  Up.ext h (up_fol ws N u) fun x => (hm x).trans (mem_fol g hu).symm
theorem grp_eq {ws : List (W × W)} {N : Nat} {u : W} : (fol ws N u).filter (fun v => R ws v u) = grp ws N u := by
  unfold fol grp
  rw [List.filter_filter]
  congr 1
  funext v
  exact Bool.and_comm _ _
theorem self_grp {ws : List (W × W)} {N : Nat} {u : W} (hu : InN N u) : u ∈ grp ws N u := by
  unfold grp
  rw [List.mem_filter, Bool.and_eq_true, R_iff]
  exact ⟨mem_allW.2 hu, ⟨0, .here⟩, ⟨0, .here⟩⟩

/-- what must be said next, in the order of the wishes -/
def said (ws : List (W × W)) (u : W) : List W := ws.flatMap fun p => (if p.1 = neg u then [p.2] else []) ++ (if p.2 = neg u then [p.1] else [])
theorem mem_said {ws : List (W × W)} {u x : W} : x ∈ said ws u ↔ Nx ws u x := by
  unfold said Nx
  simp only [List.mem_flatMap, List.mem_append]
  constructor
  · rintro ⟨⟨a, b⟩, hp, h | h⟩
    · by_cases e : a = neg u
      · rw [if_pos e] at h
        have : x = b := by simpa using h
        subst this; subst e
        exact .inl hp
      · rw [if_neg e] at h; simp at h
    · by_cases e : b = neg u
      · rw [if_pos e] at h
        have : x = a := by simpa using h
        subst this; subst e
        exact .inr hp
      · rw [if_neg e] at h; simp at h
  · rintro (h | h)
    · exact ⟨_, h, .inl (by simp)⟩
    · exact ⟨_, h, .inr (by simp)⟩
theorem said_len (ws : List (W × W)) (u : W) : (said ws u).length ≤ 2 * ws.length := by
  unfold said
  induction ws with
  | nil => simp
  | cons p r ih =>
    rw [List.flatMap_cons, List.length_append, List.length_append, List.length_cons]
    have h1 : (if p.1 = neg u then [p.2] else []).length ≤ 1 := by split <;> simp
    have h2 : (if p.2 = neg u then [p.1] else []).length ≤ 1 := by split <;> simp
    omega
end Eo

end

section
set_option autoImplicit false
set_option maxRecDepth 100000
namespace EoS
open PySem.W PyProof.Rows

/-- a run of the tree by the answers lt, all asked places below n -/
def Ok {α : Type} (n : Nat) (lt : Nat → Nat → Bool) : KasT α → (α → Prop) → Prop
  | .ret a, P => P a
  | .ask i j k, P => i < n ∧ j < n ∧ Ok n lt (k (lt i j)) P
theorem Ok.mono {α : Type} {n : Nat} {lt : Nat → Nat → Bool} {P Q : α → Prop} (h : ∀ a, P a → Q a) : ∀ {t : KasT α}, Ok n lt t P → Ok n lt t Q
  | .ret a, hp => h a hp
  | .ask _ _ _, hp => ⟨hp.1, hp.2.1, Ok.mono h hp.2.2⟩
theorem Ok.bind {α β : Type} {n : Nat} {lt : Nat → Nat → Bool} {f : α → KasT β} {Q : β → Prop} : ∀ {t : KasT α}, Ok n lt t (fun a => Ok n lt (f a) Q) → Ok n lt (t.bind f) Q
  | .ret _, hp => hp
  | .ask _ _ _, hp => ⟨hp.1, hp.2.1, Ok.bind hp.2.2⟩

/-- the run by a question cmp that gives lt's answer where J holds, and keeps J -/
theorem Ok.wp {α : Type} {n : Nat} {lt : Nat → Nat → Bool} {J : PySem.Shared → Prop} {cmp : Nat → Nat → (Bool → PySem.Shared → Prop) → PySem.Shared → Prop}
    (hc : ∀ i j (C : Bool → PySem.Shared → Prop) s, i < n → j < n → J s → (∀ s', J s' → C (lt i j) s') → cmp i j C s) {P : α → Prop} {Q : α → PySem.Shared → Prop} (hq : ∀ a s, P a → J s → Q a s) :
    ∀ (t : KasT α) (s : PySem.Shared), Ok n lt t P → J s → t.kasWp cmp Q s
  | .ret a, s, h, j => hq a s h j
  | .ask i j k, s, h, js => hc i j _ s h.1 h.2.1 js fun s' js' => Ok.wp hc hq (k (lt i j)) s' h.2.2 js'

section
variable {n : Nat} {key : Nat → Int}
/-- the order by keys -/
def ltK (key : Nat → Int) (i j : Nat) : Bool := decide (key i < key j)
abbrev at_ (p : Array Nat) (i : Nat) : Nat := p.getD i 0
/-- p is a shuffling of the places below n, whose keys differ -/
structure Sh (n : Nat) (p : Array Nat) : Prop where
  perm : p.Perm (List.range n).toArray
theorem Sh.size {p : Array Nat} (h : Sh n p) : p.size = n := by
  have := h.perm.size_eq
  simpa using this
theorem Sh.get {p : Array Nat} (h : Sh n p) {i : Nat} (hi : i < n) : p[i]? = some (at_ p i) := by
  have := h.size
  have hi' : i < p.size := by omega
  simp [at_, Array.getD, hi']
theorem Sh.lt {p : Array Nat} (h : Sh n p) {i : Nat} (hi : i < n) : at_ p i < n := by
  have hm : at_ p i ∈ p := Array.mem_of_getElem? (h.get hi)
  have : at_ p i ∈ (List.range n).toArray := h.perm.mem_iff.mp hm
  simpa using this
theorem Sh.inj {p : Array Nat} (h : Sh n p) {i j : Nat} (hi : i < n) (hj : j < n) (e : at_ p i = at_ p j) : i = j := by
  have hn : p.toList.Nodup := by
    have := h.perm.toList
    exact this.symm.nodup (by simpa using List.nodup_range)
  have s := h.size
  have e1 : p.toList[i]? = p.toList[j]? := by
    have := h.get hi
    have := h.get hj
    simp_all
  have hi' : i < p.toList.length := by simp; omega
  have hj' : j < p.toList.length := by simp; omega
  rw [List.getElem?_eq_getElem hi', List.getElem?_eq_getElem hj'] at e1
  exact (List.getElem_inj hn).mp (Option.some.inj e1)
def KInj (n : Nat) (key : Nat → Int) : Prop := ∀ i j, i < n → j < n → key i = key j → i = j
theorem Sh.keyI {p : Array Nat} (h : Sh n p) (hk : KInj n key) {i j : Nat} (hi : i < n) (hj : j < n) (e : key (at_ p i) = key (at_ p j)) : i = j := h.inj hi hj (hk _ _ (h.lt hi) (h.lt hj) e)
/-- the first r stand in order; in falling order -/
def Asc (key : Nat → Int) (p : Array Nat) (r : Nat) : Prop := ∀ i j, i < j → j < r → key (at_ p i) < key (at_ p j)
def Desc (key : Nat → Int) (p : Array Nat) (r : Nat) : Prop := ∀ i j, i < j → j < r → key (at_ p j) < key (at_ p i)
theorem Asc.succ {p : Array Nat} {r : Nat} (h : Asc key p r) (h1 : 0 < r → key (at_ p (r - 1)) < key (at_ p r)) : Asc key p (r + 1) := fun i j hij hj => by
  by_cases hjr : j < r
  · exact h i j hij hjr
  · have e : j = r := by omega
    subst e
    have l := h1 (by omega)
    by_cases hi : i = j - 1
    · subst hi; exact l
    · have := h i (j - 1) (by omega) (by omega)
      omega
theorem Desc.succ {p : Array Nat} {r : Nat} (h : Desc key p r) (h1 : 0 < r → key (at_ p r) < key (at_ p (r - 1))) : Desc key p (r + 1) := fun i j hij hj => by
  by_cases hjr : j < r
  · exact h i j hij hjr
  · have e : j = r := by omega
    subst e
    have l := h1 (by omega)
    by_cases hi : i = j - 1
    · subst hi; exact l
    · have := h i (j - 1) (by omega) (by omega)
      omega
theorem asc_ok {p : Array Nat} (hp : Sh n p) (hk : KInj n key) : ∀ (f m : Nat), 1 ≤ m → m + f = n → Asc key p m →
    Ok n (ltK key) (kas_asc p f m) fun r => m ≤ r ∧ r ≤ n ∧ Asc key p r ∧ (r < n → key (at_ p r) < key (at_ p (r - 1)))
  | 0, m, h1, e, a => ⟨Nat.le_refl _, by omega, a, fun h => by omega⟩
  | f + 1, m, h1, e, a => by
    refine ⟨hp.lt (by omega), hp.lt (by omega), ?_⟩
    show Ok n (ltK key) (if ltK key (at_ p m) (at_ p (m - 1)) = true then _ else _) _
    by_cases hc : ltK key (at_ p m) (at_ p (m - 1)) = true
    · rw [if_pos hc]
      exact ⟨Nat.le_refl _, by omega, a, fun _ => of_decide_eq_true hc⟩
    · rw [if_neg hc]
      have hn : ¬ key (at_ p m) < key (at_ p (m - 1)) := fun h => hc (decide_eq_true h)
      refine Ok.mono (fun r h => ⟨by omega, h.2⟩) (asc_ok hp hk f (m + 1) (by omega) (by omega) (a.succ fun _ => ?_))
      have hne : key (at_ p (m - 1)) ≠ key (at_ p m) := fun e' => by
        have := hp.keyI hk (by omega) (by omega) e'
        omega
      omega
theorem desc_ok {p : Array Nat} (hp : Sh n p) (hk : KInj n key) : ∀ (f m : Nat), 2 ≤ m → m + f = n → Desc key p m →
    Ok n (ltK key) (kas_desc f p m 0) fun r => r.1 = p ∧ r.2.2 = 0 ∧ m ≤ r.2.1 ∧ r.2.1 ≤ n ∧ Desc key p r.2.1
  | 0, m, h1, e, a => ⟨rfl, rfl, Nat.le_refl _, by show m ≤ n; omega, a⟩
  | f + 1, m, h1, e, a => by
    refine ⟨hp.lt (by omega), hp.lt (by omega), ?_⟩
    show Ok n (ltK key) (if ltK key (at_ p m) (at_ p (m - 1)) = true then (if 0 > 0 then _ else _) else _) _
    by_cases hc : ltK key (at_ p m) (at_ p (m - 1)) = true
    · rw [if_pos hc, if_neg (by omega)]
      exact Ok.mono (fun r h => ⟨h.1, h.2.1, by omega, h.2.2.2⟩) (desc_ok hp hk f (m + 1) (by omega) (by omega) (a.succ fun _ => of_decide_eq_true hc))
    · rw [if_neg hc]
      have hn : ¬ key (at_ p m) < key (at_ p (m - 1)) := fun h => hc (decide_eq_true h)
      have hne : key (at_ p (m - 1)) ≠ key (at_ p m) := fun e' => by
        have := hp.keyI hk (by omega) (by omega) e'
        omega
      have hd : ltK key (at_ p (m - 1)) (at_ p m) = true := decide_eq_true (by omega)
      refine ⟨hp.lt (by omega), hp.lt (by omega), ?_⟩
      show Ok n (ltK key) (if ltK key (at_ p (m - 1)) (at_ p m) = true then _ else _) _
      rw [if_pos hd]
      exact ⟨rfl, rfl, Nat.le_refl _, by show m ≤ n; omega, a⟩
theorem rev_sh {p : Array Nat} (hp : Sh n p) (m : Nat) : Sh n (kas_rev p 0 m) := ⟨(mirror_perm p 0 m _).trans hp.perm⟩
theorem rev_at {p : Array Nat} (hp : Sh n p) {m i : Nat} (hm : m ≤ n) (hi : i < m) : at_ (kas_rev p 0 m) i = at_ p (m - 1 - i) := by
  have e := getElem?_mirror_all (xs := p) (i := 0) (j := m) (by rw [hp.size]; exact hm) i
  have h1 := (rev_sh hp m).get (i := i) (by omega)
  unfold kas_rev at h1
  rw [e, if_pos ⟨Nat.zero_le _, hi⟩, show 0 + m - 1 - i = m - 1 - i by omega, hp.get (by omega)] at h1
  exact (Option.some.inj h1).symm
theorem rev_asc {p : Array Nat} (hp : Sh n p) {m : Nat} (hm : m ≤ n) (h : Desc key p m) : Asc key (kas_rev p 0 m) m := fun i j hij hj => by
  rw [rev_at hp hm hj, rev_at hp hm (by omega)]
  exact h _ _ (by omega) (by omega)
theorem count_ok {p : Array Nat} (hp : Sh n p) (hk : KInj n key) (h2 : 2 ≤ n) : Ok n (ltK key) (kas_count n p) fun r => 1 ≤ r.1 ∧ r.1 ≤ n ∧ Sh n r.2 ∧ Asc key r.2 r.1 := by
  unfold kas_count
  refine Ok.bind (Ok.mono (fun r ⟨h1, h3, h4, h5⟩ => ?_) (asc_ok hp hk (n - 1) 1 (Nat.le_refl _) (by omega) fun i j hij hj => by omega))
  by_cases e : r = n
  · subst e
    rw [if_pos (by simp)]
    exact ⟨h1, Nat.le_refl _, hp, h4⟩
  · rw [if_neg (by simpa using e)]
    by_cases hr : r > 1
    · rw [if_pos hr]
      refine ⟨hp.lt (by omega), hp.lt (by omega), ?_⟩
      have hc : ltK key (at_ p 0) (at_ p (r - 1)) = true := decide_eq_true (h4 0 (r - 1) (by omega) (by omega))
      show Ok n (ltK key) (if ltK key (at_ p 0) (at_ p (r - 1)) = true then _ else _) _
      rw [if_pos hc]
      exact ⟨h1, h3, hp, h4⟩
    · rw [if_neg hr]
      have e1 : r = 1 := by omega
      subst e1
      unfold kas_descPart
      have hd : Desc key p 2 := fun i j hij hj => by
        have e1 : i = 0 := by omega
        have e2 : j = 1 := by omega
        subst e1; subst e2
        exact h5 (by omega)
      refine Ok.bind (Ok.mono (fun q ⟨g1, g2, g3, g4, g5⟩ => ?_) (desc_ok hp hk (n - (1 + 1)) 2 (Nat.le_refl _) (by omega) hd))
      rw [g2, if_neg (by omega), g1]
      unfold kas_tail3
      refine Ok.bind (Ok.mono (fun m ⟨k1, k2, k3, _⟩ => ?_) (asc_ok (rev_sh hp q.2.1) hk (n - q.2.1) q.2.1 (by omega) (by omega) (rev_asc hp g4 g5)))
      exact ⟨by show 1 ≤ m; omega, k2, rev_sh hp q.2.1, k3⟩
theorem place_ok {p : Array Nat} (hp : Sh n p) {k : Nat} (hkn : k < n) (ha : Asc key p k) (hk : KInj n key) : ∀ (f l r : Nat), r - l ≤ f → l ≤ r → r ≤ k → (∀ i, i < l → key (at_ p i) < key (at_ p k)) → (∀ i, r ≤ i → i < k → key (at_ p k) < key (at_ p i)) →
    Ok n (ltK key) (kas_place p k f l r) fun l' => l' ≤ k ∧ (∀ i, i < l' → key (at_ p i) < key (at_ p k)) ∧ ∀ i, l' ≤ i → i < k → key (at_ p k) < key (at_ p i)
  | 0, l, r, h1, h2, h3, a, b => ⟨by omega, a, fun i hi => b i (by omega)⟩
  | f + 1, l, r, h1, h2, h3, a, b => by
    unfold kas_place
    by_cases e : l ≥ r
    · rw [if_pos e]
      exact ⟨by omega, a, fun i hi => b i (by omega)⟩
    · rw [if_neg e]
      refine ⟨hp.lt hkn, hp.lt (by omega), ?_⟩
      show Ok n (ltK key) (if ltK key (at_ p k) (at_ p ((l + r) / 2)) = true then _ else _) _
      by_cases hc : ltK key (at_ p k) (at_ p ((l + r) / 2)) = true
      · rw [if_pos hc]
        have hc' : key (at_ p k) < key (at_ p ((l + r) / 2)) := of_decide_eq_true hc
        refine place_ok hp hkn ha hk f l ((l + r) / 2) (by omega) (by omega) (by omega) a fun i hi hik => ?_
        by_cases ei : i = (l + r) / 2
        · subst ei; exact hc'
        · have := ha ((l + r) / 2) i (by omega) hik
          omega
      · rw [if_neg hc]
        have hc' : ¬ key (at_ p k) < key (at_ p ((l + r) / 2)) := fun h => hc (decide_eq_true h)
        have hne : key (at_ p ((l + r) / 2)) ≠ key (at_ p k) := fun e' => by
          have := hp.keyI hk (by omega) hkn e'
          omega
        refine place_ok hp hkn ha hk f ((l + r) / 2 + 1) r (by omega) (by omega) h3 (fun i hi => ?_) b
        by_cases ei : i = (l + r) / 2
        · subst ei; omega
        · have := ha i ((l + r) / 2) (by omega) (by omega)
          omega
theorem bub_sh {p : Array Nat} (hp : Sh n p) (k d : Nat) : Sh n (bubble p k d) := ⟨(bubble_perm p k d).trans hp.perm⟩
theorem bub_at {p : Array Nat} (hp : Sh n p) {k d i : Nat} (hk : k < n) (hd : d ≤ k) (hi : i < n) :
    at_ (bubble p k d) i = if i = k - d then at_ p k else if k - d < i ∧ i ≤ k then at_ p (i - 1) else at_ p i := by
  have e := getElem?_bubble (xs := p) (src := k) (by rw [hp.size]; exact hk) d hd i
  have h1 := (bub_sh hp k d).get hi
  rw [e] at h1
  by_cases c1 : i = k - d
  · rw [if_pos c1] at h1 ⊢
    rw [hp.get hk] at h1
    exact (Option.some.inj h1).symm
  · rw [if_neg c1] at h1 ⊢
    by_cases c2 : k - d < i ∧ i ≤ k
    · rw [if_pos c2] at h1 ⊢
      rw [hp.get (by omega)] at h1
      exact (Option.some.inj h1).symm
    · rw [if_neg c2] at h1 ⊢
      rw [hp.get hi] at h1
      exact (Option.some.inj h1).symm
theorem bin_ok (hk : KInj n key) : ∀ (f : Nat) (p : Array Nat) (k : Nat), Sh n p → k + f = n → Asc key p k → Ok n (ltK key) (kas_bin f p k) fun q => Sh n q ∧ Asc key q n
  | 0, p, k, hp, e, a => by
    have : k = n := by omega
    subst this
    exact ⟨hp, a⟩
  | f + 1, p, k, hp, e, a => by
    unfold kas_bin
    have hkn : k < n := by omega
    refine Ok.bind (Ok.mono (fun l ⟨h1, h2, h3⟩ => ?_) (place_ok hp hkn a hk k 0 k (by omega) (Nat.zero_le _) (Nat.le_refl _) (fun i hi => by omega) fun i hi hi' => by omega))
    refine bin_ok hk f _ (k + 1) (bub_sh hp k _) (by omega) fun i j hij hj => ?_
    rw [bub_at hp hkn (by omega) (by omega), bub_at hp hkn (by omega) (by omega)]
    have e1 : k - (k - l) = l := by omega
    rw [e1]
    by_cases ci : i = l
    · rw [if_pos ci, if_neg (by omega), if_pos (by omega)]
      exact h3 _ (by omega) (by omega)
    · rw [if_neg ci]
      by_cases cj : j = l
      · rw [if_pos cj, if_neg (by omega)]
        exact h2 i (by omega)
      · rw [if_neg cj]
        by_cases di : l < i ∧ i ≤ k
        · rw [if_pos di, if_pos (by omega)]
          exact a _ _ (by omega) (by omega)
        · rw [if_neg di]
          by_cases dj : l < j ∧ j ≤ k
          · rw [if_pos dj]
            exact a _ _ (by omega) (by omega)
          · rw [if_neg dj]
            exact a _ _ hij (by omega)
theorem sort_ok (hk : KInj n key) (h2 : 2 ≤ n) : Ok n (ltK key) (kas_sort n) fun p => Sh n p ∧ Asc key p n := by
  unfold kas_sort
  have hp : Sh n (List.toArray (List.range n)) := ⟨Array.Perm.refl _⟩
  refine Ok.bind (Ok.mono (fun r ⟨h1, h3, h4, h5⟩ => ?_) (count_ok hp hk h2))
  by_cases e : r.1 < n
  · rw [if_pos e]
    have em : max r.1 1 = r.1 := by omega
    rw [em]
    exact bin_ok hk _ _ _ h4 (by omega) h5
  · rw [if_neg e]
    have : r.1 = n := by omega
    rw [this] at h5
    exact ⟨h4, h5⟩
end
end EoS

end

section
set_option autoImplicit false
set_option maxRecDepth 100000
/-! A dict read by its raw entries, whatever its keys are: its iterator. -/
namespace EoD
open PySem
def RawD (h : Heap) (d : Addr) (es : Array DictEntry) (ep : Nat) : Prop := ∃ o, h.get? d = some o ∧ o.ExactDict ∧ o.data = .dict es ep
section
variable {prog : Program} {w : World} {A : Around} {E : Value → Shared → Prop} {s : Shared} {d it : Addr} {es : Array DictEntry} {ep i : Nat}
theorem RawD.ty (x : RawD s.heap d es ep) : s.TypeIs (.ref d) "dict" := let ⟨o, e, c, _⟩ := x; ⟨o, e, c.1⟩
theorem RawD.move {h h' : Heap} (x : RawD h d es ep) (k : ∀ o, h.get? d = some o → h'.get? d = some o) : RawD h' d es ep := let ⟨o, e, r⟩ := x; ⟨o, k o e, r⟩
theorem RawD.lt {h : Heap} (x : RawD h d es ep) : d < h.objs.size := let ⟨_, e, _⟩ := x; Heap.lt_size e
/-- the iterator's record -/
abbrev keyIt (d : Addr) (i n ep : Nat) : Obj := { cls := .type "dict_keyiterator", data := .fields #[.ref d, .int i 0, .int n 0, .int ep 0] }
theorem raw_iter {Q : Value → Shared → Prop} (nd : (d == sysModules) = false) (x : RawD s.heap d es ep)
    (q : Q (.ref s.heap.objs.size) { s with heap := s.heap.push (keyIt d 0 es.size ep) }) : wpAny (model prog w) A (pyIter (.ref d)) Q E s := by
  have ty := x.ty
  obtain ⟨o, e1, e2, e3⟩ := x
  refine wpAny_pyIter_slot ty F.slot_dict_iter (wpAny_call_entry F.slot_dict_iter ty F.entry_dict_iter ?tree (F.args_dict_iter_1 _))
  unfold Builtin.«dict.__iter__» Builtin.Dict.dictSlotNone
  refine wpAny_bind (wpAny_bind (wpAny_notOrdered_dict ty (wpAny_pure (a := Value.ref d) ?_)))
  refine wpAny_bind (m := Builtin.Dict.showsAll d) ?_
  unfold Builtin.Dict.showsAll
  rw [nd, if_neg Bool.false_ne_true]
  refine wpAny_pure (wpAny_bind (wpAny_dictEntries e1 e3 (wpAny_bind (wpAny_dictEpoch e1 e3 (wpAny_bind (wpAny_newObj_type (wpAny_pure ?_)))))))
  exact ⟨_, rfl, "dict_keyiterator", _, ⟨_, Heap.get?_push_size _ rfl, rfl⟩, F.slot_dict_keyiterator_next.lookup, q⟩
theorem raw_item {Q : Option Value → Shared → Prop} (y : s.heap.IsKeyIter it d i es.size ep) (x : RawD s.heap d es ep) (hi : i < es.size)
    (q : ∀ h', h'.IsKeyIter it d (i + 1) es.size ep → Heap.SameBut it s.heap h' → Q (some es[i].key) { s with heap := h' }) : wpAny (model prog w) A (pyNext (.ref it)) Q E s := by
  obtain ⟨oi, f1, f2, f3⟩ := id y
  obtain ⟨o, e1, e2, e3⟩ := x
  have ty := y.typeIs
  unfold pyNext
  refine wpAny_bind (wpAny_attempt (wpAny_callSpecial?_slot (name := Str.ofString "__next__") ty F.slot_dict_keyiterator_next (wpAny_call_entry F.slot_dict_keyiterator_next ty F.entry_dict_keyiterator_next ?tree (F.args_dict_keyiterator_next_1 _))))
  refine wpAny_bind (wpAny_pure (wpAny_bind (wpAny_bind ?_)))
  first
    | refine wpAny_bind (wpAny_typeNameOfWhole_keyiter ty (wpAny_pure (wpAny_bind (wpAny_fieldsOf f1 f3 ?_))))
    | refine wpAny_bind (wpAny_typeNameOf_keyiter ty (wpAny_pure (wpAny_bind (wpAny_fieldsOf f1 f3 ?_))))
  have own : Builtin.Dict_items.ownsTuple "dict_keyiterator" = false := by decide
  simp only [own, Bool.false_eq_true, if_false]
  have nn : ¬ (Value.ref d == Value.none) = true := Bool.false_ne_true
  show wpAny _ _ (if (Value.ref d == .none) = true then _ else _) _ _ s
  rw [if_neg nn]
  refine wpAny_bind (wpAny_pure (wpAny_bind (wpAny_dictEntries e1 e3 ?_)))
  rw [if_neg (fun z => by simp at z)]
  refine wpAny_bind (wpAny_pure (wpAny_bind (wpAny_dictEpoch e1 e3 ?_)))
  rw [if_neg (fun z => by simp at z)]
  refine wpAny_pure ?_
  have ni : ¬ ((i : Int) < 0) := by omega
  simp only [ni, if_false, Int.toNat_natCast, Array.getElem?_eq_getElem hi]
  refine wpAny_bind ?_
  first
    | refine wpAny_bind (wpAny_typeNameOfWhole_keyiter ty (wpAny_pure (wpAny_bind (wpAny_isOneOf_keyiter ty ?_))))
    | refine wpAny_bind (wpAny_typeNameOf_keyiter ty (wpAny_pure (wpAny_bind (wpAny_isOneOf_keyiter ty ?_))))
  refine wpAny_bind (m := setField (.ref it) 1 (rawInt ((i : Int) + 1))) (wpAny_setField f1 f3 (by simp) ?_)
  have y' : (s.heap.update it (Obj.mapFields (·.setIfInBounds 1 (rawInt ((i : Int) + 1))))).IsKeyIter it d (i + 1) es.size ep := by
    refine ⟨_, Heap.get?_update_self _ f1 (Obj.isFreed_of_fields (Obj.data_mapFields f3 _)), (Obj.cls_mapFields ..).trans f2, ?_⟩
    rw [Obj.data_mapFields f3]
    simp [rawInt]
  refine wpAny_bind (wpAny_holding (wpAny_bind (wpAny_isOneOf_keyiter (s := { s with heap := s.heap.update it (Obj.mapFields (·.setIfInBounds 1 (rawInt ((i : Int) + 1)))) }) y'.typeIs ?_)))
  exact wpAny_pure (a := es[i].key) (wpAny_pure ⟨_, rfl, wpAny_pure (q _ y' (Heap.SameBut.update ..))⟩)
theorem raw_end {Q : Option Value → Shared → Prop} (hh : A.handled = none) (y : s.heap.IsKeyIter it d i es.size ep) (x : RawD s.heap d es ep) (hi : es.size ≤ i)
    (q : ∀ h', Heap.ExtBut it s.heap h' → Q none { s with heap := h' }) : wpAny (model prog w) A (pyNext (.ref it)) Q E s := by
  obtain ⟨oi, f1, f2, f3⟩ := id y
  obtain ⟨o, e1, e2, e3⟩ := x
  have ty := y.typeIs
  unfold pyNext
  refine wpAny_bind (wpAny_attempt (wpAny_callSpecial?_slot (name := Str.ofString "__next__") ty F.slot_dict_keyiterator_next (wpAny_call_entry F.slot_dict_keyiterator_next ty F.entry_dict_keyiterator_next ?tree (F.args_dict_keyiterator_next_1 _))))
  refine wpAny_bind (wpAny_pure (wpAny_bind (wpAny_bind ?_)))
  first
    | refine wpAny_bind (wpAny_typeNameOfWhole_keyiter ty (wpAny_pure (wpAny_bind (wpAny_fieldsOf f1 f3 ?_))))
    | refine wpAny_bind (wpAny_typeNameOf_keyiter ty (wpAny_pure (wpAny_bind (wpAny_fieldsOf f1 f3 ?_))))
  have own : Builtin.Dict_items.ownsTuple "dict_keyiterator" = false := by decide
  simp only [own, Bool.false_eq_true, if_false]
  have nn : ¬ (Value.ref d == Value.none) = true := Bool.false_ne_true
  show wpAny _ _ (if (Value.ref d == .none) = true then _ else _) _ _ s
  rw [if_neg nn]
  refine wpAny_bind (wpAny_pure (wpAny_bind (wpAny_dictEntries e1 e3 ?_)))
  rw [if_neg (fun z => by simp at z)]
  refine wpAny_bind (wpAny_pure (wpAny_bind (wpAny_dictEpoch e1 e3 ?_)))
  rw [if_neg (fun z => by simp at z)]
  refine wpAny_pure ?_
  have ni : ¬ ((i : Int) < 0) := by omega
  simp only [ni, if_false, Int.toNat_natCast, Array.getElem?_eq_none hi]
  refine wpAny_bind ?_
  first
    | refine wpAny_bind (wpAny_typeNameOfWhole_keyiter ty (wpAny_pure ?_))
    | refine wpAny_bind (wpAny_typeNameOf_keyiter ty (wpAny_pure ?_))
  refine wpAny_bind (m := setField (.ref it) 0 .none) (wpAny_setField f1 f3 (by simp) ?_)
  refine wpAny_bind (m := newExc (.type "StopIteration") []) ?_
  simp only [newExc, newTuple]
  refine wpAny_bind (wpAny_newObj_type (wpAny_bind (m := firstArgMember _ _) (wpAny_of_eq (a := Value.none) (by first | rfl | (simp only [firstArgMember]; rfl)) ?_)) (by size_fits))
  refine wpAny_newObj_type (h := ?_) (hd := by size_fits)
  simp only [raiseNew]
  refine wpAny_bind (wpAny_handled ?_)
  have h1 : A.in1.handled = none := hh
  rw [h1]
  refine wpAny_bind (wpAny_pure (wpAny_throw ?thrown))
  refine wpAny_bind (wpAny_isInstance (b := true) (T := "StopIteration") ⟨_, Heap.get?_push_size _ rfl, rfl⟩ isSubtype_stop (wpAny_pure (q _ ?_)))
  exact ((Heap.SameBut.update ..).extBut.push _).push _
theorem raw_walks (hh : A.handled = none) (ne : d ≠ it) : Walks prog w A it [it, d] [it] es.size (fun i v => ∃ e, es[i]? = some e ∧ v = e.key) (fun i h => h.IsKeyIter it d i es.size ep ∧ RawD h d es ep) where
  sub := fun b hb => by
    rw [List.mem_singleton.mp hb]
    simp
  frame := fun _ _ _ st k => ⟨st.1.at fun o e => k it (by simp) o e, st.2.move fun o e => k d (by simp) o e⟩
  item := fun i s Q E hi st q => raw_item st.1 st.2 hi fun h' y sb => by
    have other : ∀ b o, b ∉ [it] → s.heap.get? b = some o → h'.get? b = some o := fun b o hb e => sb.extBut b o (fun z => hb (by simp [z])) e
    exact q _ h' s.toks ⟨_, Array.getElem?_eq_getElem hi, rfl⟩ ⟨y, st.2.move fun o e => other d o (by simpa using ne) e⟩ other
  done := fun s Q E st q => raw_end hh st.1 st.2 (Nat.le_refl _) fun h' ex => q h' s.toks fun b o hb e => ex b o (fun z => hb (by simp [z])) e
  self := fun _ _ _ _ st q => wpAny_pyIter_keyiter st.1 q
end
end EoD

end

section
set_option autoImplicit false
set_option maxRecDepth 100000
namespace EoD
open PySem
section
variable {prog : Program} {w : World} {A : Around} {E : Value → Shared → Prop} {s : Shared}
def b2n (b : Bool) : Int := if b then 1 else 0
theorem raw_b2n (b : Bool) : rawHash (b2n b) = b2n b := by cases b <;> decide
theorem hash_bool {b : Bool} {Q : Int → Shared → Prop} (q : Q (hashInt (b2n b)) { s with toks := s.toks + 1 }) : wpAny (model prog w) A (pyHash (.bool b)) Q E s := by
  have ty : s.TypeIs (.bool b) "bool" := rfl
  unfold pyHash
  first | unfold pyHashByItsType | skip
  refine wpAny_bind ?_
  rw [cRoomFor, if_neg (show ¬ [Value.bool b].any Value.onHeap = true from Bool.false_ne_true)]
  refine wpAny_pure (wpAny_bind (wpAny_specialOf ty F.slot_bool_hash.lookup ?_))
  rw [if_neg (by rw [beq_builtin_none]; exact Bool.false_ne_true)]
  refine wpAny_bind (wpAny_specialOf ty F.slot_bool_hash.lookup ?_)
  have hr := rawHash_range (b2n b)
  have tree : ∀ {K : Value → Shared → Prop} {E' : Value → Shared → Prop}, K (.int (rawHash (b2n b)) s.toks) { s with toks := s.toks + 1 } → wpAny (model prog w) A.in1 (Builtin.«int.__hash__» ⟨[.bool b], []⟩) (fun fin s' => ∃ v, fin = PySem.Fin.done (Flow.ret v) ∧ K v s') E' s := by
    intro K E' hp
    cases b <;> exact (show wpAny _ _ (do ret (← mkInt _)) _ _ s from wpAny_ret_mkInt hp)
  refine wpAny_bind (wpAny_callSpecialIfBoundUnlessNone?_slot ty F.slot_bool_hash (wpAny_call_entry F.slot_bool_hash ty entry_int_hash (tree ?_) (args_int_hash _)))
  show wpAny _ _ (if (decide (-(2 : Int) ^ 63 ≤ rawHash (b2n b)) && decide (rawHash (b2n b) < 2 ^ 63)) = true then _ else _) Q E _
  rw [decide_eq_true hr.1, decide_eq_true hr.2, if_pos (show (true && true) = true from rfl)]
  exact wpAny_pure q
end
end EoD

end

section
set_option autoImplicit false
set_option maxRecDepth 100000
namespace EoD
open PySem Eo
def biIs (k : Int) : Value → Bool
  | .int i _ => i == k
  | .bool b => b2n b == k
  | _ => false
theorem biIs_shape {k : Int} {v : Value} (h : biIs k v = true) : (∃ t, v = .int k t) ∨ ∃ b, v = .bool b ∧ b2n b = k := by
  unfold biIs at h
  split at h
  · rename_i i t
    exact .inl ⟨t, by rw [eq_of_beq h]⟩
  · rename_i b
    exact .inr ⟨b, rfl, eq_of_beq h⟩
  · cases h
theorem b2n_inj {a b : Bool} (h : b2n a = b2n b) : a = b := by cases a <;> cases b <;> first | rfl | (exact absurd h (by decide))
/-- ints and bools as keys, as Python holds them for the same -/
def biKind (prog : Program) (w : World) : KeyKind prog w Int where
  is := biIs
  hash := hashInt
  inj := fun v a b ha hb => by
    rcases biIs_shape ha with ⟨t, rfl⟩ | ⟨x, rfl, rfl⟩
    · rcases biIs_shape hb with ⟨u, e⟩ | ⟨y, e, _⟩
      · injection e
      · cases e
    · rcases biIs_shape hb with ⟨u, e⟩ | ⟨y, e, rfl⟩
      · cases e
      · injection e with e
        rw [e]
  byValue := fun k v h => by
    rcases biIs_shape h with ⟨t, rfl⟩ | ⟨x, rfl, rfl⟩ <;> rfl
  pyHash := fun hv h => by
    rcases biIs_shape hv with ⟨t, rfl⟩ | ⟨x, rfl, rfl⟩
    · exact wpAny_pyHash_int h
    · exact hash_bool h
  eqBool := fun {A E s a b u v Q} hu hv h => by
    rcases biIs_shape hu with ⟨t, rfl⟩ | ⟨x, rfl, rfl⟩
    · rcases biIs_shape hv with ⟨t', rfl⟩ | ⟨y, rfl, rfl⟩
      · exact SeqAt.EqAt.int_int a t b t' prog w E Q (by rw [show (a == b) = decide (a = b) from by rw [Bool.eq_iff_iff]; simp]; exact h)
      · exact SeqAt.EqAt.int_bool a t y prog w E Q (by rw [show (a == if y then 1 else 0) = decide (a = b2n y) from by rw [Bool.eq_iff_iff, beq_iff_eq, decide_eq_true_iff]; rfl]; exact h)
    · rcases biIs_shape hv with ⟨t', rfl⟩ | ⟨y, rfl, rfl⟩
      · exact SeqAt.EqAt.bool_int x b t' prog w E Q (by rw [show ((if x then 1 else 0) == b) = decide (b2n x = b) from by rw [Bool.eq_iff_iff, beq_iff_eq, decide_eq_true_iff]; rfl]; exact h)
      · exact SeqAt.EqAt.bool_bool x y prog w E Q (by rw [show (x == y) = decide (b2n x = b2n y) from by cases x <;> cases y <;> decide]; exact h)
  «strs» := fun k x t v h => by
    rcases biIs_shape h with ⟨u, e⟩ | ⟨y, e, _⟩ <;> cases e

def wkey (x : W) : List Int := [x.1, b2n x.2]
theorem wkey_inj {x y : W} (h : wkey x = wkey y) : x = y := by
  unfold wkey at h
  injection h with h1 h2
  injection h2 with h2 _
  exact Prod.ext h1 (b2n_inj h2)
theorem wkey_dec (x y : W) : decide (wkey x = wkey y) = decide (x = y) := by
  by_cases h : x = y
  · subst h; simp
  · rw [decide_eq_false h, decide_eq_false fun e => h (wkey_inj e)]
/-- words as keys -/
def wordKind (prog : Program) (w : World) : HeapKind prog w W where
  is := fun h x a => IsTupleKey (biKind prog w) h (wkey x) a
  hash := fun x => tupleKeyHash (biKind prog w) (wkey x)
  draws := fun x => (wkey x).length + 1
  room := fun A => A.units < cLine
  inj := fun hx hy => wkey_inj (hx.inj hy)
  keeps := fun x ho hd hs => x.keeps ho hd hs
  pyHash := fun hu hk h => wpAny_pyHash_tuple hu hk h
  eqBool := fun hu hx hy h => wpAny_eqBool_tuple hu hx hy (by rw [wkey_dec]; exact h)
  quiet := fun hk h => wpAny_eqIsQuiet_tuple hk h
theorem wordKind_room {prog : Program} {w : World} {A : Around} (hu : A.units + 1 < cLine) : (wordKind prog w).room A.in1 := hu
/-- a tuple of an int and a bool is a word -/
theorem word_is {prog : Program} {w : World} {h : Heap} {a : Addr} {x : W} {o : Obj} {its : Array Value} {n : Nat} {t : Tok} (e : h.get? a = some o) (c : o.cls = .type "tuple") (d : o.data = .seq its n) (i : its.toList = [.int x.1 t, .bool x.2]) :
    (wordKind prog w).is h x a := by
  refine ⟨o, its, n, e, c, d, ?_⟩
  rw [i]
  refine .cons ?_ (.cons ?_ .nil)
  · show biIs x.1 (.int x.1 t) = true
    simp [biIs]
  · show biIs (b2n x.2) (.bool x.2) = true
    simp [biIs]
end EoD

end

section
set_option autoImplicit false
set_option maxRecDepth 100000
namespace EoD
open PySem
section
variable {prog : Program} {w : World} {A : Around} {E : Value → Shared → Prop} {s : Shared} {it l : Addr} {items : Array Value}
theorem rev_len : typeLookup (.type "list_reverseiterator") "__len__" = pure none := by rw [typeLookup_type, builtinLookup_eq_fast]; kernel_rfl
theorem rev_lh : typeLookup (.type "list_reverseiterator") "__length_hint__" = pure (some (.builtin "list_reverseiterator.__length_hint__")) := by rw [typeLookup_type, builtinLookup_eq_fast]; kernel_rfl
theorem rev_hint {Q : Bool → Shared → Prop} (ty : s.TypeIs (.ref it) "list_reverseiterator") (q : Q false s) : wpAny (model prog w) A (Builtin.List.listLengthHint (.ref it)) Q E s := by
  unfold Builtin.List.listLengthHint
  refine wpAny_bind (wpAny_specialOf ty rev_len ?_)
  dsimp only
  refine wpAny_ite_split (fun h => absurd h (by decide +kernel)) (fun _ => ?_)
  refine wpAny_ite_split (fun h => absurd h (by decide)) (fun _ => ?_)
  refine wpAny_bind (wpAny_specialOf ty rev_lh ?_)
  dsimp only
  rw [show splitId "list_reverseiterator.__length_hint__" = some ("list_reverseiterator", "__length_hint__") from by decide +kernel]
  dsimp only
  refine wpAny_bind (wpAny_isInstance (T := "list_reverseiterator") (b := true) ty (by rw [isSubtype_type]; kernel_rfl) ?_)
  refine wpAny_ite_split (fun h => absurd h (by decide)) (fun _ => ?_)
  refine wpAny_ite_split (fun _ => ?_) (fun h => absurd (by decide +kernel) h)
  refine wpAny_ite_split (fun h => absurd h (by decide)) (fun _ => ?_)
  exact wpAny_pure q
/-- list(it), it the backward iterator of a list, just made -/
theorem list_rev {Q : Value → Shared → Prop} (hh : A.handled = none) (y : s.heap.IsRevIter it l ((items.size : Int) - 1)) (x : s.heap.IsList l items) (ne : l ≠ it) (hn : items.size ≤ sizeLine)
    (q : ∀ h' tk acc c, (∀ b o, b ≠ it → s.heap.get? b = some o → h'.get? b = some o) → h'.get? s.heap.objs.size = some { cls := .type "list", dict := none, data := .seq acc c, slots := #[] } → ItemsOf (fun i v => items[items.size - 1 - i]? = some v) acc items.size → Q (.ref s.heap.objs.size) { s with heap := h', toks := tk }) :
    wpAny (model prog w) A (call (.type "list") [.ref it]) Q E s := by
  have ily : it < s.heap.objs.size := let ⟨_, e, _⟩ := y; Heap.lt_size e
  have ilx : l < s.heap.objs.size := let ⟨_, e, _⟩ := x; Heap.lt_size e
  refine callType_codes (Q₁ := fun obj s₁ => obj = .ref s.heap.objs.size ∧ s₁ = { s with heap := s.heap.push { cls := .type "list", data := .seq #[] } }) PySem.F.called_list (PySem.F.typeCall_list_1 _) PySem.F.entry_list_init (code_list_new _ ⟨rfl, rfl⟩) fun obj s₁ h₁ => ?_
  obtain ⟨rfl, rfl⟩ := h₁
  generalize hS : s.heap.objs.size = S at q ily ilx ⊢
  have e0 : (s.heap.push { cls := .type "list", data := .seq #[] }).get? S = some { cls := .type "list", data := .seq #[] } := by rw [← hS]; exact Heap.get?_push_size _ rfl
  refine ⟨⟨_, e0, rfl⟩, PySem.F.args_list_init_2 _ _, ?_⟩
  generalize hp : s.heap.push { cls := .type "list", data := .seq #[] } = h0 at e0 ⊢
  have k0 : ∀ b o, s.heap.get? b = some o → h0.get? b = some o := fun b o e => by rw [← hp]; exact Heap.get?_push_of_some _ e
  show wpAny _ _ (do let old ← Builtin.List.listItems (.ref S); Builtin.List.listUpdate (.ref S) (fun _ => #[]); letGo old.toList.reverse; Builtin.List.listExtendWith (.ref S) (.ref it) .none) _ _ { s with heap := h0 }
  refine wpAny_bind ?_
  unfold Builtin.List.listItems
  refine wpAny_bind (wpAny_seqItems e0 rfl (wpAny_pure ?_))
  refine wpAny_bind (m := updateSeq S (fun _ => #[])) (wpAny_updateSeq e0 rfl ?_)
  have e1 := Heap.get?_update_self (Obj.mapSeq (fun _ => (#[] : Array Value))) e0 rfl
  generalize hq : h0.update S (Obj.mapSeq fun _ => (#[] : Array Value)) = h1 at e1 ⊢
  have k1 : ∀ b o, b ≠ S → h0.get? b = some o → h1.get? b = some o := fun b o hb e => by rw [← hq]; exact (Heap.get?_update_other _ _ (Ne.symm hb)).trans e
  refine wpAny_bind (wpAny_letGo ?_)
  have nS : it ≠ S := Nat.ne_of_lt ily
  have nS' : l ≠ S := Nat.ne_of_lt ilx
  have y1 : h1.IsRevIter it l ((items.size : Int) - 1) := y.at fun o e => k1 _ _ nS (k0 _ _ e)
  have x1 : h1.IsList l items := x.at fun o e => k1 _ _ nS' (k0 _ _ e)
  unfold Builtin.List.listExtendWith
  refine wpAny_bind (wpAny_typeOf (s := { s with heap := h1 }) (T := "list_reverseiterator") y1.typeIs ?_)
  have ns : Builtin.List.listSameRef (.ref S) (.ref it) = false := by simp [Builtin.List.listSameRef, Ne.symm nS]
  have n1 : (Value.type "list_reverseiterator" == Value.type "list") = false := by decide
  have n2 : (Value.type "list_reverseiterator" == Value.type "tuple") = false := by decide
  simp only [ns, n1, n2, Bool.or_false, Bool.false_eq_true, if_false]
  refine wpAny_bind (wpAny_pyIter_revIter (s := { s with heap := h1 }) y1 ?_)
  refine wpAny_bind (wpAny_holding (rev_hint (s := { s with heap := h1 }) y1.typeIs ?_))
  refine wpAny_ite_split (fun h => absurd h (by decide +kernel)) (fun _ => wpAny_pure ⟨plainId_quiet PySem.F.plain_extend_loop _, ?_⟩)
  have nf : S ∉ [it, l] := by simp [Ne.symm nS, Ne.symm nS']
  refine codeAny_extend_loopS (Walks.listRev (A := A.in1.in1) hh it l ne items).toS hn S nf .none items.size 0 { s with heap := h1 } #[] _ (by omega) (Nat.zero_le _) ⟨Nat.zero_le _, by simpa using y1, x1⟩ e1 (ItemsOf.nil _) fun s' acc c mv e2 it2 => ?_
  rw [Moved.eq_with mv]
  refine ⟨rfl, q s'.heap s'.toks acc c (fun b o hb e => mv.heap b o (fun hm => ?_) (k1 b o ?_ (k0 b o e))) e2 it2⟩
  · rcases List.mem_cons.mp hm with z | z
    · rw [z] at e
      exact absurd (Heap.lt_size e) (by rw [hS]; exact Nat.lt_irrefl _)
    · exact hb (List.mem_singleton.mp z)
  · intro z
    rw [z] at e
    exact absurd (Heap.lt_size e) (by rw [hS]; exact Nat.lt_irrefl _)
end
end EoD

end

section
set_option autoImplicit false
set_option maxRecDepth 100000
set_option linter.all false
/-! A list comprehension of one clause, over the layer: its block is a context of its own. -/
namespace L2
open PySem PySem.Spec PyProof.Rows

/-! ### what the block closes over -/
def cellAt (env : Env) (n : Str) : Addr := (env.cells.lookup n).getD 0
def clOf (env : Env) (l : List (Str × NameKind)) : List (Str × Addr) := ((l.filter fun x => x.2 == .free).map fun x => (x.1, cellAt env x.1)).reverse
theorem closure_go {env : Env} : ∀ (l : List (Str × NameKind)) (acc : List (Str × Addr)), (∀ x ∈ l, x.2 = .free → ∃ c, env.cells.lookup x.1 = some c) →
    (forIn l acc fun (x : Str × NameKind) (cs : List (Str × Addr)) => (do
      if x.2 == .free then pure (ForInStep.yield ((x.1, ← cellOf env x.1) :: cs)) else pure (ForInStep.yield cs) : Sem (ForInStep (List (Str × Addr))))) = (pure (clOf env l ++ acc) : Sem (List (Str × Addr)))
  | [], acc, _ => rfl
  | x :: r, acc, h => by
    have hr : ∀ y ∈ r, y.2 = .free → ∃ c, env.cells.lookup y.1 = some c := fun y hy => h y (List.mem_cons_of_mem _ hy)
    rw [List.forIn_cons]
    by_cases e : x.2 = .free
    · obtain ⟨c, hc⟩ := h x List.mem_cons_self e
      have e1 : (x.2 == NameKind.free) = true := by rw [e]; rfl
      have e2 : cellOf env x.1 = pure c := by unfold cellOf; rw [hc]
      have e3 : cellAt env x.1 = c := by unfold cellAt; rw [hc]; rfl
      simp only [e1, if_true, e2, pure_bind]
      rw [closure_go r _ hr]
      simp [clOf, e1, e3]
    · have e1 : (x.2 == NameKind.free) = false := by
        cases h2 : x.2 <;> first | rfl | exact absurd h2 e
      simp only [e1, Bool.false_eq_true, if_false, pure_bind]
      rw [closure_go r _ hr]
      simp [clOf, e1]
theorem closure_of {env : Env} {sc : Scope} (h : ∀ x ∈ sc.names, x.2 = .free → ∃ c, env.cells.lookup x.1 = some c) : closureFor sc env = pure (clOf env sc.names) := by
  have e := closure_go (env := env) sc.names [] h
  rw [List.append_nil] at e
  unfold closureFor
  exact (bind_congr (x := _) fun _ => rfl).trans ((congrArg (· >>= pure) e).trans (by simp))
theorem clOf_in {env : Env} {l : List (Str × NameKind)} {x : Str} {c : Addr} (hl : ∀ x ∈ l, x.2 = .free → ∃ c, env.cells.lookup x.1 = some c) (h : (clOf env l).lookup x = some c) : env.cells.lookup x = some c ∧ (x, NameKind.free) ∈ l := by
  have hm := PySem.mem_of_lookup h
  unfold clOf at hm
  rw [List.mem_reverse, List.mem_map] at hm
  obtain ⟨p, hp, e⟩ := hm
  obtain ⟨h1, h2⟩ := List.mem_filter.mp hp
  have e2 : p.2 = .free := by cases h3 : p.2 <;> rw [h3] at h2 <;> first | rfl | cases h2
  obtain ⟨c', hc⟩ := hl p h1 e2
  have e3 : p.1 = x := congrArg Prod.fst e
  have e4 : cellAt env p.1 = c := congrArg Prod.snd e
  unfold cellAt at e4
  rw [hc] at e4
  cases e4
  subst e3
  exact ⟨hc, by rw [← e2]; exact h1⟩
theorem lookup_some {α : Type} {x : Str} : ∀ {l : List (Str × α)}, (∃ a, (x, a) ∈ l) → ∃ c, l.lookup x = some c
  | [], ⟨a, h⟩ => by simp at h
  | (y, b) :: r, ⟨a, h⟩ => by
    by_cases e : x = y
    · subst e
      exact ⟨b, by simp [List.lookup_cons]⟩
    · have h' : ∃ a, (x, a) ∈ r := by
        rcases List.mem_cons.mp h with z | z
        · exact absurd (congrArg Prod.fst z) e
        · exact ⟨a, z⟩
      obtain ⟨c, hc⟩ := lookup_some h'
      have ef : (x == y) = false := beq_eq_false_iff_ne.mpr e
      exact ⟨c, by rw [List.lookup_cons, ef]; exact hc⟩
theorem clOf_has {env : Env} {l : List (Str × NameKind)} {x : Str} (h : (x, NameKind.free) ∈ l) : ∃ c, (clOf env l).lookup x = some c :=
  lookup_some ⟨cellAt env x, by
    unfold clOf
    rw [List.mem_reverse, List.mem_map]
    exact ⟨(x, .free), List.mem_filter.mpr ⟨h, rfl⟩, rfl⟩⟩
/-- a name of the block that is no local of it is one that it closes over -/
theorem relabel_free {env : Env} {x : Str} {k : NameKind} (hk : k = .cell ∨ k = .free) : ∀ {l : List (Str × NameKind)}, (∀ y ∈ l, y.2 ≠ .cell) →
    (l.map fun (n, k) => if (k == NameKind.free && env.scope.kind == .function && env.kindOf n == some .cell) then (n, NameKind.cell) else (n, k)).lookup x = some k → (x, NameKind.free) ∈ l
  | [], _, h => by simp at h
  | (n, q) :: r, hc, h => by
    have hr : ∀ y ∈ r, y.2 ≠ .cell := fun y hy => hc y (List.mem_cons_of_mem _ hy)
    by_cases e : x = n
    · subst e
      have hq : q = .free := by
        by_cases hq : q = .free
        · exact hq
        · exfalso
          have e1 : (q == NameKind.free) = false := by cases q <;> first | rfl | exact absurd rfl hq
          rw [List.map_cons] at h
          simp only [e1, Bool.false_and, Bool.false_eq_true, if_false] at h
          rw [List.lookup_cons, beq_self_eq_true] at h
          have e2 : q = k := by simpa using h
          rcases hk with z | z
          · exact hc (x, q) List.mem_cons_self (e2.trans z)
          · exact hq (e2.trans z)
      rw [hq]
      exact List.mem_cons_self
    · have ef : (x == n) = false := beq_eq_false_iff_ne.mpr e
      refine List.mem_cons_of_mem _ (relabel_free (env := env) hk hr ?_)
      rw [List.map_cons] at h
      by_cases c : (q == NameKind.free && env.scope.kind == .function && env.kindOf n == some .cell) = true
      · simp only [c, if_true] at h
        rw [List.lookup_cons, ef] at h
        exact h
      · simp only [c, Bool.false_eq_true, if_false] at h
        rw [List.lookup_cons, ef] at h
        exact h
theorem relabel_cell {env : Env} {x : Str} (hf : env.scope.kind = .function) (hx : env.kindOf x = some .cell) : ∀ {l : List (Str × NameKind)}, l.lookup x = some .free →
    (l.map fun (n, k) => if (k == NameKind.free && env.scope.kind == .function && env.kindOf n == some .cell) then (n, NameKind.cell) else (n, k)).lookup x = some .cell
  | [], h => by simp at h
  | (n, q) :: r, h => by
    by_cases e : x = n
    · subst e
      rw [List.lookup_cons, beq_self_eq_true] at h
      have e2 : q = .free := by simpa using h
      subst e2
      rw [List.map_cons]
      have c : (NameKind.free == NameKind.free && env.scope.kind == .function && env.kindOf x == some .cell) = true := by rw [hf, hx]; rfl
      simp only [c, if_true]
      rw [List.lookup_cons, beq_self_eq_true]
    · have ef : (x == n) = false := beq_eq_false_iff_ne.mpr e
      rw [List.lookup_cons, ef] at h
      have ih := relabel_cell hf hx h
      rw [List.map_cons]
      by_cases c : (q == NameKind.free && env.scope.kind == .function && env.kindOf n == some .cell) = true
      · simp only [c, if_true]
        rw [List.lookup_cons, ef]
        exact ih
      · simp only [c, Bool.false_eq_true, if_false]
        rw [List.lookup_cons, ef]
        exact ih

/-! ### the block's context -/
def cxC (X : Cx) (N : List Str) (sc : Scope) (s : Shared) (H : Hp) (fp : List Addr) (pins : List (Addr × Obj)) (C : Addr) : Cx :=
  { X with N := N, s₀ := s, H₀ := H, env := compEnvC sc (clOf X.env sc.names) C X.env, outer := X.stack, ex := fp, fn := fun _ => false, pn := X.pn ++ pins, xe := fun _ _ => False }
structure ScOk (X : Cx) (sc : Scope) (x : Str) : Prop where
  kind : sc.kind = .function
  nocell : ∀ y ∈ sc.names, y.2 ≠ .cell
  var : sc.names.lookup x = some .local
  names : ∀ y ∈ sc.names, y.2 = .local → sc.names.lookup y.1 = some .local
  frees : ∀ y ∈ sc.names, y.2 = .free → X.env.kindOf y.1 = some .cell
/-- the names that the block closes over, with their slots outside -/
def FreeOk (X : Cx) (sc : Scope) : List Str → List Nat → Prop
  | [], [] => True
  | y :: ys, j :: js => X.N[j]? = some y ∧ X.env.kindOf y = some .cell ∧ sc.names.lookup y = some .free ∧ FreeOk X sc ys js
  | _, _ => False
def look (σ : St) (js : List Nat) : St := js.map fun j => (σ[j]?).join
theorem FreeOk.get {X : Cx} {sc : Scope} {σ : St} : ∀ {ys : List Str} {js : List Nat}, FreeOk X sc ys js → ∀ {i : Nat} {y : Str} {v : V}, ys[i]? = some y → (look σ js)[i]? = some (some v) →
    ∃ j : Nat, X.N[j]? = some y ∧ σ[j]? = some (some v) ∧ X.env.kindOf y = some .cell ∧ sc.names.lookup y = some .free
  | [], [], _, i, y, v, h, _ => by simp at h
  | y' :: ys, j :: js, f, 0, y, v, h, g => by
    obtain ⟨f1, f2, f3, _⟩ := f
    have e : y' = y := by simpa using h
    subst e
    have g' : (σ[j]?).join = some v := by simpa [look] using g
    cases q : σ[j]? with
    | none => rw [q] at g'; cases g'
    | some z =>
      rw [q] at g'
      have : z = some v := g'
      subst this
      exact ⟨j, f1, q, f2, f3⟩
  | y' :: ys, j :: js, f, i + 1, y, v, h, g => FreeOk.get f.2.2.2 (by simpa using h) (by simpa [look] using g)
  | [], _ :: _, f, _, _, _, _, _ => f.elim
  | _ :: _, [], f, _, _, _, _, _ => f.elim
theorem FreeOk.len {X : Cx} {sc : Scope} : ∀ {ys : List Str} {js : List Nat}, FreeOk X sc ys js → ys.length = js.length
  | [], [], _ => rfl
  | _ :: _, _ :: _, f => by simp [FreeOk.len f.2.2.2]
  | [], _ :: _, f => f.elim
  | _ :: _, [], f => f.elim

section
variable {X : Cx} {pins : List (Addr × Obj)} {σ : St} {H : Hp} {s : Shared} {sc : Scope} {x : Str} {ys : List Str} {js : List Nat} {fp : List Addr} {C D : Addr}

theorem ScOk.cells (S : ScOk X sc x) (I : Inv X pins σ H s) : ∀ y ∈ sc.names, y.2 = .free → ∃ c, X.env.cells.lookup y.1 = some c := fun y hy e => I.ok.has y.1 (.inl (S.frees y hy e))
theorem cxC_ok {N : List Str} (S : ScOk X sc x) (I : Inv X pins σ H s) (hf : ∀ b ∈ fp, FpOk X pins H b) (hl : ∀ b ∈ fp, b < s.heap.objs.size) (hC : s.heap.objs.size ≤ C) : (cxC X N sc s H fp pins C).Ok where
  mod := I.ok.mod
  kind := S.kind
  glob := I.ok.glob
  blt := I.ok.blt
  above := hC
  inj := fun y z c h1 h2 => I.ok.inj y z c (clOf_in (S.cells I) h1).1 (clOf_in (S.cells I) h2).1
  has := fun y hy => by
    have hm : (y, NameKind.free) ∈ sc.names := by
      rcases hy with hy | hy
      · exact relabel_free (.inl rfl) S.nocell hy
      · exact relabel_free (.inr rfl) S.nocell hy
    exact clOf_has hm
  cab := fun _ _ h _ => nomatch h
  hd := I.ok.hd
  frames := I.ok.frames
  stk := .inl rfl
  exf := fun b hb => ⟨Nat.ne_of_lt (Nat.lt_of_lt_of_le (hl b hb) hC), fun y c hc => (hf b hb).2.2.2.2.1 y c (clOf_in (S.cells I) hc).1⟩
  bs := fun b o e => I.bs b o e
  bsz := Nat.le_trans I.ok.bsz I.sz
  noex := fun b o e hb => by
    rcases (hf b hb).2.2.2.1 with z | z
    · exact I.ok.noex b o e z
    · exact absurd (Nat.lt_of_lt_of_le (Heap.lt_size e) (Nat.le_trans I.ok.bsz z)) (Nat.lt_irrefl _)
  exfs := fun b hb hz => by
    rcases List.mem_cons.mp (I.stkSub b hz) with e | e
    · exact (hf b hb).2.1 e
    · exact (hf b hb).2.2.1 e
  funs := I.stack
  frf := I.stkFree
theorem notStk (I : Inv X pins σ H s) {b : Addr} (h1 : b ≠ X.env.locals) (h2 : b ∉ X.fs) : b ∉ frs X.stack := fun z => (List.mem_cons.mp (I.stkSub b z)).elim h1 h2
/-- the block begins: the new list stands at D, the frame at C -/
theorem inv_block {h' : Heap} {t' : Nat} {m : Str → Option Value} {H' : Hp} (S : ScOk X sc x) (Fo : FreeOk X sc ys js) (I : Inv X pins σ H s) (hf : ∀ b ∈ fp, FpOk X pins H b) (hl : ∀ b ∈ fp, b < s.heap.objs.size) (hC : s.heap.objs.size ≤ C)
    (kp : ∀ b o, s.heap.get? b = some o → h'.get? b = some o) (hn : h'.Ns C m) (un : Un (frs X.stack) fp H H' s.heap h') (ok : HOk X.prog X.w H' h') (nC : H' C = none) (nf : ∀ b o, s.heap.get? b = some o → H b = none → H' b = none) :
    Inv (cxC X (x :: ys) sc s H fp pins C) [] (none :: look σ js) H' { s with heap := h', toks := t' } where
  ok := cxC_ok S I hf hl hC
  os := rfl
  bare := I.bare
  base := un
  loc := ⟨m, hn, fun i y v e1 e2 e3 => by
    cases i with
    | zero => simp at e2
    | succ i =>
      have z1 : ((x :: ys) : List Str)[i + 1]? = some y := e1
      obtain ⟨j, g1, g2, g3, g4⟩ := Fo.get (σ := σ) (i := i) (y := y) (v := v) (by simpa using z1) (by simpa using e2)
      obtain ⟨mo, hmo, lo⟩ := I.loc
      have vis : Vis X.env.scope y := .inr (.inl g3)
      obtain ⟨u, ru, lk⟩ := lo j y v g1 g2 vis
      refine ⟨u, ru, .inr ⟨.inl (relabel_cell I.ok.kind g3 g4), ?_⟩⟩
      rcases lk with ⟨k, _⟩ | ⟨_, c, hc, cell⟩
      · rw [g3] at k; cases k
      · obtain ⟨c', hc'⟩ := clOf_has (env := X.env) (PySem.mem_of_lookup g4)
        have e : c' = c := by
          have := (clOf_in (S.cells I) hc').1
          rw [hc] at this
          cases this; rfl
        subst e
        obtain ⟨oc, ho, hd⟩ := cell
        exact ⟨c', hc', oc, kp _ _ ho, hd⟩⟩
  cell := fun y c hc => by
    obtain ⟨v, oc, ho, hd⟩ := I.cell y c (clOf_in (S.cells I) hc).1
    exact ⟨v, oc, kp _ _ ho, hd⟩
  free := nC
  freeC := fun y c hc => by
    obtain ⟨v, oc, ho, hd⟩ := I.cell y c (clOf_in (S.cells I) hc).1
    exact nf c oc ho (I.freeC y c (clOf_in (S.cells I) hc).1)
  pin := fun p hp => by
    rw [List.append_nil] at hp
    obtain ⟨e, n, ne, nfs, d⟩ := I.pin p hp
    exact ⟨kp _ _ e, nf _ _ e n, Nat.ne_of_lt (Nat.lt_of_lt_of_le (Heap.lt_size e) hC), notStk I ne nfs, d⟩
  hok := ok
  len := by
    have := Fo.len
    simp [look, cxC, this]
/-- .. and ends -/
theorem inv_out {s2 : Shared} {H2 H' : Hp} {N : List Str} {σ' : St} {pl : List (Addr × Obj)} (I : Inv X pins σ H2 s2) (hf : ∀ b ∈ fp, FpOk X pins H2 b) (I' : Inv (cxC X N sc s2 H2 fp pins C) pl σ' H' s) : Inv X pins σ H' s :=
  I.call' I'.os I'.base I'.hok I'.bare fun b hb => ⟨(hf b hb).2.2.2.1, (hf b hb).2.1, (hf b hb).2.2.2.2.1, (hf b hb).2.2.2.2.2⟩
end

/-! ### the loop -/
def PIfs (X : Cx) (ifs : List Expr) (t : TT) : Prop :=
  ∀ (pins : List (Addr × Obj)) (s : Shared) (σ : St) (H : Hp) (Q : Bool → Hp → Prop), Inv X pins σ H s → t σ H Q →
    wpAny (model X.prog X.w) X.A (forIn ifs true fun c r => if r = true then do let ok ← isTrue c X.env (eval c X.env); pure (ForInStep.yield ok) else pure (ForInStep.yield r)) (TP X pins σ Q) X.xe s
def tYes : TT := fun _ H Q => Q true H
theorem pifs_nil {X : Cx} : PIfs X [] tYes := fun _ _ _ H _ I h => wpAny_tests_nil ⟨H, I, h⟩
theorem pifs_one {X : Cx} {c : Expr} {t : TT} (h : PT X c t) : PIfs X [c] t := fun pins s σ H Q I q => wpAny_tests_one (h pins s σ H Q I q)

section
variable {prog : Program} {w : World} {A : Around} {R : Result → Shared → Prop} {s : Shared}
theorem comp_loop {elt tg iter : Expr} {ifs : List Expr} {scope : Scope} {pos : Pos} {it acc : Value} {env : Env} (J : Nat → Shared → Prop)
    (turn : ∀ n s, J n s → wpAny (model prog w) A (pyNext it) (fun r s1 => match r with
      | none => R (.ok .next) s1
      | some v => wpAny (model prog w) A (letOwnedTupleGo tg it v) (fun _ s2 => wpAny (model prog w) A (assign tg env v) (fun _ s3 =>
          wpAny (model prog w) A (forIn ifs true fun c r => if r = true then do let ok ← isTrue c env (eval c env); pure (ForInStep.yield ok) else pure (ForInStep.yield r)) (fun ok s4 =>
            if ok = true then wpAny (model prog w) A (eval elt env) (fun x s5 => wpAny (model prog w) A (call (.builtin "list.append") [acc, x]) (fun _ s6 => ∃ m, m < n ∧ J m s6) (fun _ _ => False) s5) (fun _ _ => False) s4
            else ∃ m, m < n ∧ J m s4) (fun _ _ => False) s3) (fun _ _ => False) s2) (fun _ _ => False) s1) (fun _ _ => False) s)
    (n : Nat) (h : J n s) : codeAny (model prog w) A (.compLoop (.ListComp elt [⟨tg, iter, ifs, 0⟩] scope pos) 0 it acc env) R s := by
  refine codeAny_loop rfl J (fun n s j => ?_) n h
  refine wpAny_noted (m := compTurn (.ListComp elt [⟨tg, iter, ifs, 0⟩] scope pos) 0 it acc env) ?_
  rw [compTurn_list]
  refine wpAny_bind (wpAny_standAt (wpAny_bind (wpAny_mono (turn n s j) (fun r s1 h1 => ?_) fun _ _ z => z.elim)))
  cases r with
  | none => exact wpAny_pure h1
  | some v =>
    refine wpAny_bind (wpAny_mono h1 (fun _ s2 h2 => wpAny_bind (wpAny_mono h2 (fun _ s3 h3 => wpAny_bind (wpAny_mono h3 (fun ok s4 h4 => ?_) fun _ _ z => z.elim)) fun _ _ z => z.elim)) fun _ _ z => z.elim)
    cases ok with
    | false => exact wpAny_pure ⟨rfl, h4⟩
    | true => exact wpAny_bind (wpAny_bind (wpAny_mono h4 (fun y s5 h5 => wpAny_bind (wpAny_mono h5 (fun _ s6 h6 => wpAny_pure (wpAny_pure ⟨rfl, h6⟩)) fun _ _ z => z.elim)) fun _ _ z => z.elim))
end

/-! ### the reading -/
def tComp (wi : TI) (js : List Nat) (tc : TT) (te : TE) : TE := fun σ H Q => wi σ H fun J H1 => ∀ D, H1 D = none → ∃ W : Nat → Nat → List V → Hp → Prop, (∃ m, W 0 m [] (upd H1 D (.lst []))) ∧
  ∀ i m acc H2, W i m acc H2 → H2 D = some (.lst acc) ∧ acc.length < sizeLine ∧ ((J.stop i H2 ∧ Q (.ref D) H2) ∨
    (J.go i H2 ∧ ∀ x H3, J.yld i H2 x H3 → tc (some x :: look σ js) H3 fun b H4 => if b = true then te (some x :: look σ js) H4 fun v H5 => H5 D = some (.lst acc) ∧ ∃ m', m' < m ∧ W (i + 1) m' (acc ++ [v]) (upd H5 D (.lst (acc ++ [v])))
      else ∃ m', m' < m ∧ W (i + 1) m' acc H4))
section
variable {X : Cx} {elt iter : Expr} {x : Str} {px pos : Pos} {ifs : List Expr} {sc : Scope} {wi : TI} {ys : List Str} {js : List Nat} {tc : TT} {te : TE}
theorem comp_core {pins : List (Addr × Obj)} {σ : St} {H : Hp} {s : Shared} {Q : VK} {RR : Value → Addr → Result → Shared → Prop} (hc : X.calm = true) (S : ScOk X sc x) (Fo : FreeOk X sc ys js) (hN : (x :: ys).Nodup) (hi : PI X (.Name x px) iter wi)
    (hifs : ∀ s H fp pins C, PIfs (cxC X (x :: ys) sc s H fp pins C) ifs tc) (helt : ∀ s H fp pins C, PE (cxC X (x :: ys) sc s H fp pins C) elt te)
    (I : Inv X pins σ H s) (h : tComp wi js tc te σ H Q)
    (hRR : ∀ D C H' s' m, Inv X pins σ H' s' → s'.heap.Ns C m → FpOk X pins H' C → Q (.ref D) H' → RR (.ref D) C (.ok .next) s') :
    wpAny (model X.prog X.w) X.A (eval iter X.env) (fun v s1 => wpAny (model X.prog X.w) X.A (pyIter v) (fun it s2 => wpAny (model X.prog X.w) X.A (newList []) (fun acc s3 =>
      wpAny (model X.prog X.w) X.A (newFunctionEnv sc X.env.globals (clOf X.env sc.names) [] X.env.qual none .none (some X.env)) (fun cenv s4 =>
        codeAny (model X.prog X.w) X.A (.compStart (.ListComp elt [⟨.Name x px, iter, ifs, 0⟩] sc pos) 0 it acc { cenv with scope := relabel sc X.env }) (RR acc cenv.locals) s4) X.xe s3) X.xe s2) X.xe s1) X.xe s := by
  refine thn (hi pins s σ H _ I h) fun v s1 h1 => thn h1 fun itv s2 h2 => ?_
  obtain ⟨it, fp, tn, J, H2, e, I2, T, st2, f2, q⟩ := h2
  subst e
  have hl : ∀ b ∈ fp, b < s2.heap.objs.size := fun b hb => let ⟨_, e, _⟩ := T.obj 0 _ st2 b hb; Heap.lt_size e
  have hfr := I2.hok.fresh (Nat.le_refl s2.heap.objs.size)
  obtain ⟨W, ⟨m0, w0⟩, turn⟩ := q s2.heap.objs.size hfr
  refine wpAny_newObj_type (wpAny_newFunctionEnv S.nocell (by intro y hy; simp at hy) (fun h4 hn4 hb4 => ?_) S.kind) (by size_fits)
  dsimp only at hn4 hb4 ⊢
  generalize hD : s2.heap.objs.size = D at hfr w0 turn hn4 hb4 ⊢
  generalize hp : s2.heap.push { cls := .type "list", data := .seq ([] : List Value).toArray } = h3 at hn4 hb4 ⊢
  have hC : h3.objs.size = D + 1 := by rw [← hp, Heap.size_push, hD]
  generalize hCe : h3.objs.size = C at hC hn4 hb4 ⊢
  have hDs : s2.heap.objs.size ≤ D := Nat.le_of_eq hD
  have hCs : s2.heap.objs.size ≤ C := by rw [hD, hC]; exact Nat.le_succ _
  have hDC : D ≠ C := by rw [hC]; exact Nat.ne_of_lt (Nat.lt_succ_self D)
  have k3 : ∀ b o, s2.heap.get? b = some o → h3.get? b = some o := fun b o e => by rw [← hp]; exact Heap.get?_push_of_some _ e
  have k4 : ∀ b o, b ≠ C → h3.get? b = some o → h4.get? b = some o := fun b o ne e => hb4.extBut b o ne (Heap.get?_push_of_some _ e)
  have kp : ∀ b o, s2.heap.get? b = some o → h4.get? b = some o := fun b o e => k4 b o (Nat.ne_of_lt (Nat.lt_of_lt_of_le (Heap.lt_size e) hCs)) (k3 b o e)
  have hDo : h4.get? D = some { cls := .type "list", data := .seq ([] : List Value).toArray } := k4 D _ hDC (by rw [← hp, ← hD]; exact Heap.get?_push_size _ rfl)
  have new : ObjOk X.prog X.w (upd H2 D (.lst [])) h4 D (.lst []) := ⟨Nat.zero_le _, [], 0, .nil, hDo⟩
  have ok4 : HOk X.prog X.w (upd H2 D (.lst [])) h4 := I2.hok.laid kp hDs new
  have un4 : Un (frs X.stack) fp H2 (upd H2 D (.lst [])) s2.heap h4 := Un.laid kp hDs hfr
  have nC : upd H2 D (.lst []) C = none := by
    rw [upd_ne hDC.symm]
    exact I2.hok.fresh hCs
  have nf : ∀ b o, s2.heap.get? b = some o → H2 b = none → upd H2 D (.lst []) b = none := fun b o e n => by
    rw [upd_ne (Nat.ne_of_lt (Nat.lt_of_lt_of_le (Heap.lt_size e) hDs))]
    exact n
  have I4 := inv_block (t' := s2.toks) S Fo I2 f2 hl hCs kp hn4 un4 ok4 nC nf
  have stat : ∀ {H' : Hp} {pl : List (Addr × Obj)}, (∀ b ∈ fp, H' b = none) → ∀ b ∈ fp, FpOk (cxC X (x :: ys) sc s2 H2 fp pins C) [] H' b := fun {H' pl} hn b hb =>
    ⟨hn b hb, Nat.ne_of_lt (Nat.lt_of_lt_of_le (hl b hb) hCs), notStk I2 (f2 b hb).2.1 (f2 b hb).2.2.1, .inl hb, fun y c e => (f2 b hb).2.2.2.2.1 y c (clOf_in (S.cells I2) e).1, fun p hp => (f2 b hb).2.2.2.2.2 p (by simpa [cxC] using hp)⟩
  have loop : ∀ s', s' = { s2 with heap := h4, toks := s2.toks + ([] : List (Str × Value)).length } → codeAny (model X.prog X.w) X.A (.compLoop (.ListComp elt [⟨.Name x px, iter, ifs, 0⟩] sc pos) 0 (.ref it) (.ref D) (cxC X (x :: ys) sc s2 H2 fp pins C).env) (RR (.ref D) C) s' := by
    rintro s' rfl
    refine comp_loop (fun n s' => ∃ i a H' z, Inv (cxC X (x :: ys) sc s2 H2 fp pins C) [] (z :: look σ js) H' s' ∧ tn i s'.heap ∧ (∀ b ∈ fp, H' b = none) ∧ W i n a H') ?_ m0
      ⟨0, [], _, none, I4, T.keep _ _ _ st2 fun b hb o e => kp b o e, fun b hb => nf b _ (T.obj 0 _ st2 b hb).choose_spec.1 (f2 b hb).1, w0⟩
    rintro n s5 ⟨i, a, H5, z, I5, t5, n5, w5⟩
    obtain ⟨eD, hz, alt⟩ := turn i n a H5 w5
    rcases alt with ⟨stop, qn⟩ | ⟨go, step⟩
    · refine wpAny_mono (T.done (cxC X (x :: ys) sc s2 H2 fp pins C) rfl rfl rfl hc i [] s5 _ H5 (fun _ _ => False) I5 (stat (pl := []) n5) t5 stop) (fun r s6 ⟨hr, I6⟩ => ?_) fun _ _ z => z
      subst hr
      obtain ⟨m6, hn6, _⟩ := I6.loc
      exact hRR D C H5 s6 m6 (inv_out I2 f2 I6) hn6 (I2.fpOk hCs I6.free) qn
    · refine wpAny_mono (T.item (cxC X (x :: ys) sc s2 H2 fp pins C) rfl rfl rfl hc i [] s5 _ H5 (fun _ _ => False) I5 (stat (pl := []) n5) t5 go) (fun r s6 ⟨u, hr, h6⟩ => ?_) fun _ _ z => z
      subst hr
      refine wpAny_mono h6 (fun _ s7 ⟨y, H7, I7, r7, y7, t7, n7⟩ => ?_) fun _ _ z => z
      have I7' := I7.pinned (stat (pl := []) n7) (T.obj _ _ t7)
      have q7 := step y H7 y7
      have hx : Loc (cxC X (x :: ys) sc s2 H2 fp pins C).env.scope x := .inl (lookup_relabel_local S.var)
      refine wpAny_mono (pg_name (X := cxC X (x :: ys) sc s2 H2 fp pins C) (i := 0) (x := x) (pos := px) hN rfl hx (.inr (lookup_relabel_local S.var)) _ s7 _ H7 y u (fun σ' H' => σ' = some y :: look σ js ∧ H' = H7) I7' r7 ⟨rfl, rfl⟩) (fun _ s8 ⟨σ8, H8, I8, e8, e8'⟩ => ?_) fun _ _ z => z
      subst e8; subst e8'
      have again : ∀ {s9 : Shared} {H9 : Hp} {m' : Nat} {a' : List V}, Inv (cxC X (x :: ys) sc s2 H2 fp pins C) ([] ++ pinsAt fp s7.heap) (some y :: look σ js) H9 s9 → m' < n → W (i + 1) m' a' H9 →
          ∃ m, m < n ∧ ∃ i a H' z, Inv (cxC X (x :: ys) sc s2 H2 fp pins C) [] (z :: look σ js) H' s9 ∧ tn i s9.heap ∧ (∀ b ∈ fp, H' b = none) ∧ W i m a H' := fun {s9 H9 m' a'} I9 hm w9 =>
        ⟨m', hm, i + 1, a', H9, some y, I9.unpinned, T.keep _ _ _ t7 fun b hb o e => (I9.pin (b, o) (List.mem_append_right _ (List.mem_append_right _ (mem_pinsAt hb e)))).1, fun b hb => by
          obtain ⟨o, e, _⟩ := T.obj _ _ t7 b hb
          exact (I9.pin (b, o) (List.mem_append_right _ (List.mem_append_right _ (mem_pinsAt hb e)))).2.1, w9⟩
      refine wpAny_mono (hifs s2 H2 fp pins C _ s8 _ H8 _ I8 q7) (fun ok s9 ⟨H9, I9, q9⟩ => ?_) fun _ _ z => z
      cases ok with
      | false =>
        rw [if_neg Bool.false_ne_true] at q9 ⊢
        obtain ⟨m', hm, w9⟩ := q9
        exact again I9 hm w9
      | true =>
        rw [if_pos rfl] at q9 ⊢
        refine wpAny_mono (helt s2 H2 fp pins C _ s9 _ H9 _ I9 q9) (fun ev s10 ⟨ve, H10, I10, r10, e10, m', hm, w10⟩ => ?_) fun _ _ z => z
        refine wpAny_mono (mt_append (X := cxC X (x :: ys) sc s2 H2 fp pins C) _ s10 _ H10 (.ref D) [ve] (.ref D) [ev] (fun _ H' => H' = upd H10 D (.lst (a ++ [ve]))) I10 rfl (.cons r10 .nil) ⟨D, a, ve, rfl, rfl, e10, hz, rfl⟩) (fun _ s11 ⟨_, H11, I11, _, e11⟩ => ?_) fun _ _ z => z
        subst e11
        exact again I11 hm w10
  exact codeAny_compStart_list (loop _ rfl) (T.self _ 0 _ _ _ (T.keep _ _ _ st2 fun b hb o e => kp b o e) (loop _ rfl))
theorem pe_comp (hc : X.calm = true) (S : ScOk X sc x) (Fo : FreeOk X sc ys js) (hN : (x :: ys).Nodup) (hi : PI X (.Name x px) iter wi)
    (hifs : ∀ s H fp pins C, PIfs (cxC X (x :: ys) sc s H fp pins C) ifs tc) (helt : ∀ s H fp pins C, PE (cxC X (x :: ys) sc s H fp pins C) elt te) (hs : ∀ v, foldedSetIterable iter X.env v = pure v := by intro _; rfl) :
    PE X (.ListComp elt [⟨.Name x px, iter, ifs, 0⟩] sc pos) (tComp wi js tc te) := by
  intro pins s σ H Q I h
  rw [eval_ListComp]
  refine wpAny_comprehension_free rfl hs (closure_of (S.cells I)) S.kind S.names (comp_core (Q := Q) hc S Fo hN hi hifs helt I h fun D C H' s' m I' hn fo q => ?_)
  exact ⟨m, hn, fun h' sb => ⟨.ref D, H', I'.turned (t' := s'.toks) (fun b o ne e => sb.extBut b o ne e) fo.1 fo.2.1 fo.2.2.2.1 fo.2.2.2.2.1 fo.2.2.2.2.2, rfl, q⟩⟩
/-- name = [..]: the name is stored ahead of the variable's end -/
theorem ps_comp {j : Nat} {y : Str} {py spos : Pos} (hc : X.calm = true) (hXN : X.N.Nodup) (hj : X.N[j]? = some y) (hy : X.env.scope.names.lookup y = some .local) (S : ScOk X sc x) (Fo : FreeOk X sc ys js) (hN : (x :: ys).Nodup) (hi : PI X (.Name x px) iter wi)
    (hifs : ∀ s H fp pins C, PIfs (cxC X (x :: ys) sc s H fp pins C) ifs tc) (helt : ∀ s H fp pins C, PE (cxC X (x :: ys) sc s H fp pins C) elt te)
    (hsw : swapsWith (.ListComp elt [⟨.Name x px, iter, ifs, 0⟩] sc pos) (some (.Name y py)) spos.line X.env = pure true := by rfl) (hs : ∀ v, foldedSetIterable iter X.env v = pure v := by intro _; rfl) :
    PS X (.Assign [.Name y py] (.ListComp elt [⟨.Name x px, iter, ifs, 0⟩] sc pos) spos) (tAsg (tComp wi js tc te) (gName j)) := by
  intro pins s σ H D I h
  rw [exec_Assign_Name_used _ _ _ _ hsw]
  refine wpAny_bind (wpAny_standAt (wpAny_bind ?_))
  refine wpAny_bind (m := comprehension (.ListComp elt [⟨.Name x px, iter, ifs, 0⟩] sc pos) sc X.env _ (newList []) _ _ (some (assign (.Name y py) X.env))) ?_
  refine wpAny_comprehension_free rfl hs (closure_of (S.cells I)) S.kind S.names (comp_core (Q := fun v H' => gName j v σ H' D.nx) hc S Fo hN hi hifs helt I h fun E C H' s' m I' hn fo q => ?_)
  refine wpAny_assign_Name (store_ok2 I' hXN hj (.inl hy) (v := .ref E) rfl (fun s3 I3 hs3 => ?_) (.inr hy))
  obtain ⟨a, sb, ha⟩ := hs3
  have neC : C ≠ a := by
    rcases ha with e | e
    · rw [e]; exact fo.2.1
    · exact (fo.2.2.2.2.1 y a e).symm
  refine ⟨m, hn.sameBut sb neC, fun h' sb' => ?_⟩
  have I5 : Inv X pins (σ.set j (some (.ref E))) H' { s3 with heap := h' } := I3.turned (t' := s3.toks) (fun b o ne e => sb'.extBut b o ne e) fo.1 fo.2.1 fo.2.2.2.1 fo.2.2.2.2.1 fo.2.2.2.2.2
  exact wpAny_pure (wpAny_pure ⟨_, H', I5, q⟩)
end
end L2

end

section
set_option autoImplicit false
set_option maxRecDepth 100000
set_option linter.all false
/-! Rules over the layer: data compared deep, dicts by words, their keys in order, all, reversed. -/
namespace L2
open PySem PySem.Spec PyProof.Rows EoD Eo

/-! ### data -/
mutual
inductive Rep (K : PySem.W.Frag) (H : Hp) : V → PyData → Prop
  | non : Rep K H .non .none
  | bl (b : Bool) : Rep K H (.bl b) (.bool b)
  | int (i : Int) : Rep K H (.int i) (.int i)
  | tup {a : Addr} {xs : List V} {ds : List PyData} : SqT K H a xs → Reps K H xs ds → Rep K H (.ref a) (.tuple ds)
  | lst {a : Addr} {xs : List V} {ds : List PyData} : SqL K H a xs → Reps K H xs ds → Rep K H (.ref a) (.list ds)
inductive Reps (K : PySem.W.Frag) (H : Hp) : List V → List PyData → Prop
  | nil : Reps K H [] []
  | cons {v : V} {d : PyData} {vs : List V} {ds : List PyData} : Rep K H v d → Reps K H vs ds → Reps K H (v :: vs) (d :: ds)
end
mutual
theorem Rep.reads {X : Cx} {pins : List (Addr × Obj)} {σ : St} {H : Hp} {s : Shared} (I : Inv X pins σ H s) : ∀ {v : V} {d : PyData} {u : Value}, Rep X.K H v d → RelV v u → ∃ as, Reads s.heap u d as
  | _, _, _, .non, r => by cases r; exact ⟨_, .none⟩
  | _, _, _, .bl b, r => by cases r; exact ⟨_, .bool b⟩
  | _, _, _, .int i, r => by obtain ⟨t, rfl⟩ := r; exact ⟨_, .int i t⟩
  | _, _, _, .tup h rs, r => by
    cases r
    obtain ⟨its, rv, ⟨o, e, c, n, d⟩, _⟩ := I.tuple h
    obtain ⟨as, ra⟩ := Reps.reads I rs rv
    exact ⟨_, .tuple e c d ra⟩
  | _, _, _, .lst h rs, r => by
    cases r
    obtain ⟨its, rv, ⟨o, n, e, c, _, d⟩, _⟩ := I.list h
    obtain ⟨as, ra⟩ := Reps.reads I rs rv
    exact ⟨_, .list e c d ra⟩
theorem Reps.reads {X : Cx} {pins : List (Addr × Obj)} {σ : St} {H : Hp} {s : Shared} (I : Inv X pins σ H s) : ∀ {vs : List V} {ds : List PyData} {us : List Value}, Reps X.K H vs ds → Vals vs us → ∃ as, ReadsAll s.heap us ds as
  | _, _, _, .nil, .nil => ⟨_, .nil⟩
  | _, _, _, .cons a b, .cons r t => by
    obtain ⟨as, ra⟩ := Rep.reads I a r
    obtain ⟨bs, rb⟩ := Reps.reads I b t
    exact ⟨_, .cons ra rb⟩
end
theorem same_tup {K : PySem.W.Frag} {H H' : Hp} {a : Addr} {xs : List V} (e : Same H H') (h : SqT K H a xs) : SqT K H' a xs := by
  rcases h with (h | ⟨o, h⟩) | h
  · exact .inl (.inl (e _ _ h))
  · exact .inl (.inr ⟨o, e _ _ h⟩)
  · exact .inr h
mutual
theorem Rep.same {K : PySem.W.Frag} {H H' : Hp} (e : Same H H') : ∀ {v : V} {d : PyData}, Rep K H v d → Rep K H' v d
  | _, _, .non => .non
  | _, _, .bl b => .bl b
  | _, _, .int i => .int i
  | _, _, .tup h r => .tup (same_tup e h) (Reps.same e r)
  | _, _, .lst h r => .lst (e.seq h) (Reps.same e r)
theorem Reps.same {K : PySem.W.Frag} {H H' : Hp} (e : Same H H') : ∀ {v : List V} {d : List PyData}, Reps K H v d → Reps K H' v d
  | _, _, .nil => .nil
  | _, _, .cons a b => .cons (Rep.same e a) (Reps.same e b)
end
def rEqD (K : PySem.W.Frag) : R2 := fun x y H Q => ∃ dx dy, Rep K H x dx ∧ Rep K H y dy ∧ SeqAt.shaped dx = true ∧ SeqAt.shaped dy = true ∧ Q (.bl (PyData.eqv dx dy)) H
def rNeD (K : PySem.W.Frag) : R2 := fun x y H Q => ∃ dx dy, Rep K H x dx ∧ Rep K H y dy ∧ SeqAt.shaped dx = true ∧ SeqAt.shaped dy = true ∧ Q (.bl (!PyData.eqv dx dy)) H
def rInD (K : PySem.W.Frag) : R2 := fun x y H Q => ∃ dx ds, Rep K H x dx ∧ Rep K H y (.list ds) ∧ SeqAt.shaped dx = true ∧ SeqAt.shaped (.list ds) = true ∧ Q (.bl (ds.any fun z => PyData.eqv z dx)) H
section
variable {X : Cx}
theorem op_eqD (hu : X.A.units + 64 < cLine) : OpR X (compareOp .Eq) (rEqD X.K) := by
  intro pins s σ H x y v u Q I rx ry ⟨dx, dy, hx, hy, sx, sy, q⟩
  obtain ⟨as, ra⟩ := hx.reads I rx
  obtain ⟨bs, rb⟩ := hy.reads I ry
  exact eq_dataH ra rb sx sy hu ⟨.bl _, H, I, rfl, q⟩
theorem op_neD (hu : X.A.units + 64 < cLine) : OpR X (compareOp .NotEq) (rNeD X.K) := by
  intro pins s σ H x y v u Q I rx ry ⟨dx, dy, hx, hy, sx, sy, q⟩
  obtain ⟨as, ra⟩ := hx.reads I rx
  obtain ⟨bs, rb⟩ := hy.reads I ry
  exact ne_dataH ra rb sx sy hu ⟨.bl _, H, I, rfl, q⟩
theorem op_inD (hu : X.A.units + 65 < cLine) : OpR X (compareOp .In) (rInD X.K) := by
  intro pins s σ H x y v u Q I rx ry ⟨dx, ds, hx, hy, sx, sy, q⟩
  obtain ⟨as, ra⟩ := hx.reads I rx
  obtain ⟨bs, rb⟩ := hy.reads I ry
  exact SeqAt.in_list_reads rb ra (SeqAt.canLay_of_shaped sy) (SeqAt.canLay_of_shaped sx) (room_in_shaped sx hu) ⟨.bl _, H, I, rfl, q⟩
end

/-! ### words as data -/
def wd (x : W) : PyData := .tuple [.int x.1, .bool x.2]
def pd (p : W × W) : PyData := .tuple [wd p.1, wd p.2]
theorem eqv_wd (x y : W) : PyData.eqv (wd x) (wd y) = decide (x = y) := by
  obtain ⟨a, b⟩ := x
  obtain ⟨c, d⟩ := y
  simp only [wd, PyData.eqv, PyData.eqvAll, Bool.and_true]
  rw [Bool.eq_iff_iff]
  simp [Prod.ext_iff]
theorem eqv_pd (x y : W × W) : PyData.eqv (pd x) (pd y) = decide (x = y) := by
  obtain ⟨a, b⟩ := x
  obtain ⟨c, d⟩ := y
  have e : PyData.eqv (pd (a, b)) (pd (c, d)) = (PyData.eqv (wd a) (wd c) && (PyData.eqv (wd b) (wd d) && true)) := by simp only [pd, PyData.eqv, PyData.eqvAll]
  rw [e, eqv_wd, eqv_wd, Bool.and_true, Bool.eq_iff_iff]
  simp
theorem eqvAll_map {α : Type} [DecidableEq α] {f : α → PyData} (h : ∀ x y, PyData.eqv (f x) (f y) = decide (x = y)) : ∀ l m : List α, PyData.eqvAll (l.map f) (m.map f) = decide (l = m)
  | [], [] => by simp [PyData.eqvAll]
  | [], _ :: _ => by simp [PyData.eqvAll]
  | _ :: _, [] => by simp [PyData.eqvAll]
  | a :: l, b :: m => by
    simp only [List.map_cons, PyData.eqvAll, h, eqvAll_map h l m]
    rw [Bool.eq_iff_iff]
    simp

/-! ### words in the heap -/
def IsW (H : Hp) (v : V) (x : W) : Prop := ∃ p, v = .ref p ∧ H p = some (.tup [.int x.1, .bl x.2])
def IsP (H : Hp) (v : V) (p : W × W) : Prop := ∃ q a b, v = .ref q ∧ H q = some (.tup [a, b]) ∧ IsW H a p.1 ∧ IsW H b p.2
abbrev Ws (H : Hp) : List V → List W → Prop := Paired (IsW H)
abbrev Ps (H : Hp) : List V → List (W × W) → Prop := Paired (IsP H)
section
variable {K : PySem.W.Frag} {H H' : Hp} {v : V} {x : W} {p : W × W}
theorem IsW.same (e : Same H H') (h : IsW H v x) : IsW H' v x := let ⟨q, h1, h2⟩ := h; ⟨q, h1, e _ _ h2⟩
theorem IsP.same (e : Same H H') (h : IsP H v p) : IsP H' v p := let ⟨q, a, b, h1, h2, h3, h4⟩ := h; ⟨q, a, b, h1, e _ _ h2, h3.same e, h4.same e⟩
theorem IsW.rep (h : IsW H v x) : Rep K H v (wd x) := by
  obtain ⟨q, rfl, h2⟩ := h
  exact .tup (SqT.of h2) (.cons (.int _) (.cons (.bl _) .nil))
theorem IsP.rep (h : IsP H v p) : Rep K H v (pd p) := by
  obtain ⟨q, a, b, rfl, h2, h3, h4⟩ := h
  exact .tup (SqT.of h2) (.cons h3.rep (.cons h4.rep .nil))
theorem Ws.same (e : Same H H') {vs : List V} {xs : List W} (h : Ws H vs xs) : Ws H' vs xs := Paired.mapP h fun _ _ z => z.same e
theorem Ps.same (e : Same H H') {vs : List V} {xs : List (W × W)} (h : Ps H vs xs) : Ps H' vs xs := Paired.mapP h fun _ _ z => z.same e
theorem Ws.reps : ∀ {vs : List V} {xs : List W}, Ws H vs xs → Reps K H vs (xs.map wd)
  | _, _, .nil => .nil
  | _, _, .cons a b => .cons a.rep (Ws.reps b)
theorem Ps.reps : ∀ {vs : List V} {xs : List (W × W)}, Ps H vs xs → Reps K H vs (xs.map pd)
  | _, _, .nil => .nil
  | _, _, .cons a b => .cons a.rep (Ps.reps b)
theorem paired_get {α β : Type} {F : α → β → Prop} : ∀ {l : List α} {m : List β}, Paired F l m → ∀ {i : Nat} {a : α}, l[i]? = some a → ∃ b, m[i]? = some b ∧ F a b
  | _, _, .nil, i, a, h => by simp at h
  | _, _, .cons f t, 0, a, h => by simp at h; subst h; exact ⟨_, rfl, f⟩
  | _, _, .cons f t, i + 1, a, h => by
    obtain ⟨b, h1, h2⟩ := paired_get t (i := i) (a := a) (by simpa using h)
    exact ⟨b, by simpa using h1, h2⟩
theorem paired_get' {α β : Type} {F : α → β → Prop} : ∀ {l : List α} {m : List β}, Paired F l m → ∀ {i : Nat} {b : β}, m[i]? = some b → ∃ a, l[i]? = some a ∧ F a b
  | _, _, .nil, i, a, h => by simp at h
  | _, _, .cons f t, 0, a, h => by simp at h; subst h; exact ⟨_, rfl, f⟩
  | _, _, .cons f t, i + 1, a, h => by
    obtain ⟨b, h1, h2⟩ := paired_get' t (i := i) (b := a) (by simpa using h)
    exact ⟨b, by simpa using h1, h2⟩
end

/-! ### a dict by words -/
abbrev R3 (p : W × Addr × V) (q : W × Addr × Value) : Prop := p.1 = q.1 ∧ p.2.1 = q.2.1 ∧ RelV p.2.2 q.2.2
def DO (P : Program) (w : World) (a : Addr) (xs : List (W × Addr × V)) : HO := .ext fun h => (a == sysModules) = false ∧ ∃ ys : List (W × Addr × Value), Paired R3 xs ys ∧
  ∃ o es ep, h.get? a = some o ∧ o.ExactDict ∧ o.data = .dict es ep ∧ es.toList = ys.map (entryOfKey (wordKind P w)) ∧ (ys.map (·.1)).Nodup
theorem do_ok {P : Program} {w : World} {H : Hp} {h : Heap} {a : Addr} {xs : List (W × Addr × V)} {ys : List (W × Addr × Value)} {o : Obj} {es : Array DictEntry} {ep : Nat} (hd : (a == sysModules) = false) (r : Paired R3 xs ys) (e : h.get? a = some o) (c : o.ExactDict) (d : o.data = .dict es ep)
    (t : es.toList = ys.map (entryOfKey (wordKind P w))) (n : (ys.map (·.1)).Nodup) : ObjOk P w H h a (DO P w a xs) :=
  ⟨⟨hd, ys, r, o, es, ep, e, c, d, t, n⟩, ⟨o, e⟩, fun h1 h2 ⟨hd, ys, r, o, es, ep, e, c⟩ k => ⟨hd, ys, r, o, es, ep, k o e, c⟩⟩
/-- the dict at a holds the pairs kvs -/
structure DW (P : Program) (w : World) (H : Hp) (a : Addr) (kvs : List (W × V)) : Prop where
  ex : ∃ xs : List (W × Addr × V), H a = some (DO P w a xs) ∧ (∀ x ∈ xs, H x.2.1 = some (.tup [.int x.1.1, .bl x.1.2])) ∧ kvs = xs.map fun x => (x.1, x.2.2)
  len : kvs.length ≤ 1000
theorem DW.same {P : Program} {w : World} {H H' : Hp} {a : Addr} {kvs : List (W × V)} (e : Same H H') (d : DW P w H a kvs) : DW P w H' a kvs :=
  ⟨let ⟨xs, h1, h2, h3⟩ := d.ex; ⟨xs, e _ _ h1, fun x hx => e _ _ (h2 x hx), h3⟩, d.len⟩
theorem val_rel {xs : List (W × Addr × V)} {ys : List (W × Addr × Value)} (r : Paired R3 xs ys) (k : W) : RelO (valV (xs.map fun x => (x.1, x.2.2)) k) ((atKey ys k).map (·.2)) := by
  induction r with
  | nil => exact True.intro
  | @cons p q xs ys h t ih =>
    obtain ⟨h1, h2, h3⟩ := h
    rw [List.map_cons]
    by_cases e : p.1 = k
    · have e' : q.1 = k := h1.symm.trans e
      rw [valV_pos (p := (p.1, p.2.2)) e]
      have : atKey (q :: ys) k = some q.2 := by simp [atKey, List.find?_cons, e']
      rw [this]
      exact h3
    · have e' : ¬ q.1 = k := fun z => e (h1.trans z)
      rw [valV_neg (p := (p.1, p.2.2)) e]
      have : atKey (q :: ys) k = atKey ys k := by simp [atKey, List.find?_cons, e']
      rw [this]
      exact ih
theorem keys_rel {xs : List (W × Addr × V)} {ys : List (W × Addr × Value)} (r : Paired R3 xs ys) : xs.map (·.1) = ys.map (·.1) := by
  induction r with
  | nil => rfl
  | cons h _ ih => rw [List.map_cons, List.map_cons, h.1, ih]
section
variable {X : Cx} {pins : List (Addr × Obj)} {σ : St} {H : Hp} {s : Shared} {a : Addr} {kvs : List (W × V)} {A : Around} {E : Value → Shared → Prop}
theorem key_at (I : Inv X pins σ H s) {p : Addr} {x : W} (h : H p = some (.tup [.int x.1, .bl x.2])) : (wordKind X.prog X.w).is s.heap x p := by
  obtain ⟨_, its, r, o, e, c, n, d⟩ := (show ObjOk X.prog X.w H s.heap p (.tup _) from I.hok p _ h)
  obtain ⟨u, v, rfl, ⟨t, rfl⟩, rb⟩ := vals2 r
  cases rb
  exact word_is e c d rfl
structure At (X : Cx) (H : Hp) (s : Shared) (a : Addr) (kvs : List (W × V)) (xs : List (W × Addr × V)) (ys : List (W × Addr × Value)) : Prop where
  eH : H a = some (DO X.prog X.w a xs)
  tups : ∀ x ∈ xs, H x.2.1 = some (.tup [.int x.1.1, .bl x.1.2])
  kv : kvs = xs.map fun x => (x.1, x.2.2)
  nm : (a == sysModules) = false
  rel : Paired R3 xs ys
  dict : s.heap.DictOfH (wordKind X.prog X.w) a ys
theorem DW.at (I : Inv X pins σ H s) (d : DW X.prog X.w H a kvs) : ∃ xs ys, At X H s a kvs xs ys := by
  obtain ⟨xs, h1, h2, h3⟩ := d.ex
  obtain ⟨⟨hd, ys, r, o, es, ep, e, c, dd, t, n⟩, _⟩ := (show ObjOk X.prog X.w H s.heap a (DO X.prog X.w a xs) from I.hok a _ h1)
  refine ⟨xs, ys, h1, h2, h3, hd, r, o, es, ep, e, c, dd, t, fun y hy => ?_, n⟩
  obtain ⟨i, hi⟩ := List.mem_iff_getElem?.mp hy
  obtain ⟨x, hx, r1, r2, _⟩ := paired_get' r hi
  rw [← r1, ← r2]
  exact key_at I (h2 x (List.mem_of_getElem? hx))
theorem At.val {xs : List (W × Addr × V)} {ys : List (W × Addr × Value)} (t : At X H s a kvs xs ys) (k : W) : RelO (valV kvs k) ((atKey ys k).map (·.2)) := by
  rw [t.kv]
  exact val_rel t.rel k
theorem At.some_eq {xs : List (W × Addr × V)} {ys : List (W × Addr × Value)} (t : At X H s a kvs xs ys) (k : W) : (atKey ys k).isSome = (valV kvs k).isSome := by
  rw [(t.val k).isSome_eq]
  simp
def rInW (P : Program) (w : World) : R2 := fun x y H Q => ∃ a k kvs, y = .ref a ∧ IsW H x k ∧ DW P w H a kvs ∧ Q (.bl (valV kvs k).isSome) H
def rNiW (P : Program) (w : World) : R2 := fun x y H Q => ∃ a k kvs, y = .ref a ∧ IsW H x k ∧ DW P w H a kvs ∧ Q (.bl (!(valV kvs k).isSome)) H
theorem op_inW (hu : X.A.units + 1 < cLine) : OpR X (compareOp .In) (rInW X.prog X.w) := by
  intro pins s σ H x y v u Q I rx ry ⟨a, k, kvs, e, ⟨p, ep, hp⟩, d, q⟩
  subst e; subst ep
  cases rx; cases ry
  obtain ⟨xs, ys, t⟩ := d.at I
  exact wpAny_in_heap (wordKind_room hu) (key_at I hp) t.nm t.dict (by rw [t.some_eq]; exact ⟨.bl _, H, I.tok _, rfl, q⟩)
theorem op_niW (hu : X.A.units + 1 < cLine) : OpR X (compareOp .NotIn) (rNiW X.prog X.w) := by
  intro pins s σ H x y v u Q I rx ry ⟨a, k, kvs, e, ⟨p, ep, hp⟩, d, q⟩
  subst e; subst ep
  cases rx; cases ry
  obtain ⟨xs, ys, t⟩ := d.at I
  exact wpAny_notIn_heap (wordKind_room hu) (key_at I hp) t.nm t.dict (by rw [t.some_eq]; exact ⟨.bl _, H, I.tok _, rfl, q⟩)
def tWGet (P : Program) (w : World) (td ty : TE) : TE := fun σ H Q => td σ H fun x H1 => ty σ H1 fun y H2 => ∃ a k kvs v, x = .ref a ∧ IsW H2 y k ∧ DW P w H2 a kvs ∧ valV kvs k = some v ∧ Q v H2
theorem At.ty {xs : List (W × Addr × V)} {ys : List (W × Addr × Value)} (t : At X H s a kvs xs ys) : s.TypeIs (.ref a) "dict" := t.dict.typeIs
theorem pe_wget {o i : Expr} {pos : Pos} {td ty : TE} (hu : X.A.units + 1 < cLine) (ho : PE X o td) (hi : PE X i ty) (hs : NoSl i) : PE X (.Subscript o i pos) (tWGet X.prog X.w td ty) := by
  intro pins s σ H Q I h
  refine subD_of PySem.F.slot_dict_getitem.lookup hs (thn (ho pins s σ H _ I h) fun u s1 ⟨x, H1, I1, rx, q1⟩ => thn (hi pins s1 σ H1 _ I1 q1) fun iv s2 ⟨y, H2, I2, ry, a, k, kvs, v, e, ⟨p, ep, hp⟩, d, l, q2⟩ => ?_)
  subst e; subst ep
  cases rx; cases ry
  obtain ⟨xs, ys, t⟩ := d.at I2
  refine ⟨t.ty, ?_⟩
  have r := t.val k
  rw [l] at r
  obtain ⟨w', hw, rw'⟩ := r.some_of
  obtain ⟨z, hz, ez⟩ := Option.map_eq_some_iff.mp hw
  exact wpAny_getItem_heap (wordKind_room hu) (key_at I2 hp) t.dict hz (by rw [ez]; exact ⟨v, H2, I2.tok _, rw', q2⟩)
/-- d[y] = v, a new key -/
def sWPut (P : Program) (w : World) (td ty tv : TE) : TS := fun D σ H => tv σ H fun v H1 => td σ H1 fun x H2 => ty σ H2 fun y H3 => ∃ a k kvs, x = .ref a ∧ IsW H3 y k ∧ DW P w H3 a kvs ∧ valV kvs k = none ∧ kvs.length < 1000 ∧
  ∀ o, DW P w (upd H3 a o) a (kvs ++ [(k, v)]) → D.nx σ (upd H3 a o)
theorem atKey_none {xs : List (W × Addr × V)} {ys : List (W × Addr × Value)} (t : At X H s a kvs xs ys) {k : W} (l : valV kvs k = none) : atKey ys k = none := by
  have r := t.some_eq k
  rw [l] at r
  cases q : atKey ys k with
  | none => rfl
  | some z => rw [q] at r; cases r
/-- behind a store of a new key -/
theorem put_new {h' : Heap} {t' : Nat} {p : Addr} {k : W} {v : V} {u : Value} {xs : List (W × Addr × V)} {ys : List (W × Addr × Value)} (I : Inv X pins σ H s) (t : At X H s a kvs xs ys) (hp : H p = some (.tup [.int k.1, .bl k.2])) (rv : RelV v u) (l : valV kvs k = none)
    (hn : kvs.length < 1000) (dd : h'.DictOfH (wordKind X.prog X.w) a (storedH ys k p u)) (hs : Heap.SameBut a s.heap h') :
    Inv X pins σ (upd H a (DO X.prog X.w a (xs ++ [(k, p, v)]))) { s with heap := h', toks := t' } ∧ DW X.prog X.w (upd H a (DO X.prog X.w a (xs ++ [(k, p, v)]))) a (kvs ++ [(k, v)]) := by
  rw [storedH_new (atKey_none t l)] at dd
  obtain ⟨o, es, ep, e, c, d, es', _, n⟩ := dd
  have rel : Paired R3 (xs ++ [(k, p, v)]) (ys ++ [(k, p, u)]) := t.rel.snoc ⟨rfl, rfl, rv⟩
  have tupNe : ∀ {b : Addr} {zs : List V}, H b = some (.tup zs) → b ≠ a := fun hb => ne_of hb t.eH (fun z => nomatch z)
  refine ⟨d_write I (by rw [t.eH]; exact True.intro) hs ⟨o, e⟩ (do_ok t.nm rel e c d es' n), ⟨xs ++ [(k, p, v)], upd_same, fun x hx => ?_, ?_⟩, ?_⟩
  · rcases List.mem_append.mp hx with hx | hx
    · rw [upd_ne (tupNe (t.tups x hx))]
      exact t.tups x hx
    · have ex : x = (k, p, v) := by simpa using hx
      subst ex
      rw [upd_ne (tupNe hp)]
      exact hp
  · rw [t.kv, List.map_append]
    rfl
  · rw [List.length_append]
    show kvs.length + 1 ≤ 1000
    omega
theorem ys_len {xs : List (W × Addr × V)} {ys : List (W × Addr × Value)} (t : At X H s a kvs xs ys) : ys.length = kvs.length := by
  rw [t.kv, List.length_map, ← Paired.length t.rel]
theorem ps_wput {o i value : Expr} {pos pos' : Pos} {td ty tv : TE} (hu : X.A.units + 1 < cLine) (ho : PE X o td) (hi : PE X i ty) (hv : PE X value tv) (hs : swapsWith value (some (.Subscript o i pos')) pos.line X.env = pure false := by rfl) :
    PS X (.Assign [.Subscript o i pos'] value pos) (sWPut X.prog X.w td ty tv) := by
  intro pins s σ H D I h
  refine wpAny_Assign_Subscript (thn (hv pins s σ H _ I h) fun r s1 ⟨v, H1, I1, rv, q1⟩ => thn (ho pins s1 σ H1 _ I1 q1) fun u s2 ⟨x, H2, I2, rx, q2⟩ => thn (hi pins s2 σ H2 _ I2 q2) fun iv s3 ⟨y, H3, I3, ry, a, k, kvs, e, ⟨p, ep, hp⟩, d, l, hn, q3⟩ => ?_) hs
  subst e; subst ep
  cases rx; cases ry
  obtain ⟨xs, ys, t⟩ := d.at I3
  have hz : ys.length ≤ sizeLine := by rw [ys_len t, sizeLine_eq]; omega
  refine wpAny_setItem_heap (hsz := hz) (wordKind_room hu) (key_at I3 hp) t.dict fun h' dd sb => ?_
  obtain ⟨I4, d4⟩ := put_new (t' := s3.toks + (wordKind X.prog X.w).draws k) I3 t hp rv l hn dd sb
  exact ⟨σ, _, I4, q3 _ d4⟩
/-- {} -/
def tWNew (P : Program) (w : World) : TE := fun _ H Q => ∀ p o, H p = none → DW P w (upd H p o) p [] → Q (.ref p) (upd H p o)
theorem dw_empty (I : Inv X pins σ H s) : Inv X pins σ (upd H s.heap.objs.size (DO X.prog X.w s.heap.objs.size [])) { s with heap := s.heap.push { cls := .type "dict", data := .dict #[] } } ∧ DW X.prog X.w (upd H s.heap.objs.size (DO X.prog X.w s.heap.objs.size [])) s.heap.objs.size [] := by
  have hb := I.big
  have nm : (s.heap.objs.size == sysModules) = false := beq_eq_false_iff_ne.mpr (Ne.symm (Nat.ne_of_lt hb))
  refine ⟨I.laid (t' := s.toks) (fun _ _ q => Heap.get?_push_of_some _ q) (Nat.le_refl _) (do_ok (ys := []) nm .nil (Heap.get?_push_size _ rfl) ⟨rfl, rfl, rfl⟩ rfl rfl List.nodup_nil), ⟨[], upd_same, fun x hx => by simp at hx, rfl⟩, Nat.zero_le _⟩
theorem pe_wnew {pos : Pos} : PE X (.Dict [] [] pos) (tWNew X.prog X.w) := fun pins s σ H Q I h =>
  wpAny_Dict_empty ⟨.ref s.heap.objs.size, _, (dw_empty I).1, rfl, h _ _ (I.hok.fresh (Nat.le_refl _)) (dw_empty I).2⟩
/-- {k: v} -/
def tWOne (P : Program) (w : World) (tk tv : TE) : TE := fun σ H Q => ∀ p o, H p = none → tk σ (upd H p o) fun x H1 => tv σ H1 fun y H2 => ∃ k, IsW H2 x k ∧ H2 p = some o ∧ ∀ o', DW P w (upd H2 p o') p [(k, y)] → Q (.ref p) (upd H2 p o')
theorem pe_wone {ke ve : Expr} {pos : Pos} {tk tv : TE} (hu : X.A.units < cLine) (hk : PE X ke tk) (hv : PE X ve tv) : PE X (.Dict [some ke] [ve] pos) (tWOne X.prog X.w tk tv) := by
  intro pins s σ H Q I h
  obtain ⟨I1, d1⟩ := dw_empty I
  have q := h s.heap.objs.size (DO X.prog X.w s.heap.objs.size []) (I.hok.fresh (Nat.le_refl _))
  refine wpAny_Dict_any (by rfl) rfl (by simp) (by simp) (pairTrees_cons_walk (thn (hk pins _ σ _ _ I1 q) fun kv s2 ⟨x, H2, I2, rx, q2⟩ => thn (hv pins s2 σ H2 _ I2 q2) fun vv s3 ⟨y, H3, I3, ry, k, ⟨p, ep, hp⟩, e3, q3⟩ => pairTrees_nil_walk ?_))
  subst ep
  cases rx
  have d3 : DW X.prog X.w H3 s.heap.objs.size [] := ⟨⟨[], e3, fun x hx => by simp at hx, rfl⟩, Nat.zero_le _⟩
  obtain ⟨xs, ys, t⟩ := d3.at I3
  have hz : ys.length ≤ sizeLine := by rw [ys_len t]; exact Nat.zero_le _
  unfold storeAll
  rw [List.forIn_cons]
  refine wpAny_bind (wpAny_bind (wpAny_dictSet_heap (hsz := hz) (knd := wordKind X.prog X.w) hu (key_at I3 hp) t.dict fun h' dd sb => wpAny_pure ?_))
  dsimp only
  rw [List.forIn_nil]
  obtain ⟨I4, d4⟩ := put_new (t' := s3.toks + (wordKind X.prog X.w).draws k) I3 t hp ry rfl (by decide) dd sb
  exact wpAny_pure ⟨.ref s.heap.objs.size, _, I4, rfl, q3 _ d4⟩
/-- d.get(y, z) -/
def tWGet2 (P : Program) (w : World) (td ty tx : TE) : TE := fun σ H Q => td σ H fun x H1 => ∃ a kvs, x = .ref a ∧ DW P w H1 a kvs ∧ ty σ H1 fun y H2 => tx σ H2 fun z H3 => ∃ k kvs', IsW H3 y k ∧ DW P w H3 a kvs' ∧ Q ((valV kvs' k).getD z) H3
theorem pe_wget2 {o e f : Expr} {apos cpos : Pos} {td ty tx : TE} (hu : X.A.units + 1 < cLine) (ho : PE X o td) (he : PE X e ty) (hf : PE X f tx) (m : M2 X o "get" apos e f cpos) : PE X (.Call (.Attribute o "get" apos) [e, f] [] cpos) (tWGet2 X.prog X.w td ty tx) := by
  intro pins s σ H Q I h
  refine wpAny_Call_method m.base m.few m.line PySem.F.plainAttrs_dict PySem.F.slot_dict_get PySem.F.type_dict_get (thn (ho pins s σ H _ I h) fun u s1 ⟨x, H1, I1, rx, a, kvs, ex, d, q1⟩ => ?_)
  subst ex
  cases rx
  obtain ⟨xs, ys, t⟩ := d.at I1
  refine ⟨t.ty, fun b eb => ?_, ?_⟩
  · cases eb
    obtain ⟨o, _, _, h1, h2, _⟩ := t.dict
    exact ⟨o, h1, h2.2.1⟩
  rw [m.trees]
  refine Calls.callWith_builtin rfl (Calls.evalArgs_plain (Calls.spliced_cons (thn (he pins s1 σ H1 _ I1 q1) fun iv s2 ⟨y, H2, I2, ry, q2⟩ => Calls.spliced_cons (thn (hf pins s2 σ H2 _ I2 q2) fun fv s3 ⟨z, H3, I3, rz, k, kvs', ⟨p, ep, hp⟩, d3, q3⟩ => Calls.spliced_nil ?_))))
  subst ep
  cases ry
  obtain ⟨xs3, ys3, t3⟩ := d3.at I3
  refine call_meetsIn PySem.F.slot_dict_get t3.dict.typeIs PySem.F.entry_dict_get (PySem.F.args_dict_get_3 _ _ _) (meetsH_dict_get_default (wordKind X.prog X.w) a p t3.nm fv) ⟨wordKind_room hu, k, ys3, key_at I3 hp, t3.dict, ?_⟩
  exact ⟨_, H3, I3.tok _, (t3.val k).getD rz, q3⟩
end
end L2

end

section
set_option autoImplicit false
set_option maxRecDepth 100000
set_option linter.all false
namespace L2
open PySem PySem.Spec PyProof.Rows EoD Eo

theorem ObjOk.there {P : Program} {w : World} {H : Hp} {h : Heap} {a : Addr} {o : HO} (x : ObjOk P w H h a o) : ∃ u, h.get? a = some u := by
  cases o with
  | lst xs => obtain ⟨_, _, _, _, e⟩ := x; exact ⟨_, e⟩
  | tup xs => obtain ⟨_, _, _, o, e, _⟩ := x; exact ⟨o, e⟩
  | dK kvs => obtain ⟨_, _, _, _, o, _, _, e, _⟩ := x; exact ⟨o, e⟩
  | dT kvs => obtain ⟨_, _, _, _, o, _, _, e, _⟩ := x; exact ⟨o, e⟩
  | set S n => obtain ⟨o, _, _, _, e, _⟩ := x; exact ⟨o, e⟩
  | ins C dx fs => obtain ⟨_, _, _, e, _⟩ := x; exact ⟨_, e⟩
  | own y => exact x
  | xd fs => obtain ⟨_, ⟨o, _, _, e, _⟩, _⟩ := x; exact ⟨o, e⟩
  | rng lo hi => obtain ⟨_, _, _, e⟩ := x; exact ⟨_, e⟩
  | frz ob u => obtain ⟨e, _⟩ := x; exact ⟨_, e⟩
  | tbl ps => exact ⟨_, x⟩
  | met f y => exact ⟨_, x⟩
  | ext φ => exact x.2.1
theorem ns_one {h : Heap} {a : Addr} {m m' : Str → Option Value} (x : h.Ns a m) (y : h.Ns a m') : m = m' := by
  obtain ⟨o, es, ep, e, d, _, f⟩ := x
  obtain ⟨o', es', ep', e', d', _, f'⟩ := y
  rw [e] at e'
  cases e'
  rw [d] at d'
  cases d'
  funext n
  rw [← f n, ← f' n]
section
variable {X : Cx} {pins : List (Addr × Obj)} {σ : St} {H : Hp} {s : Shared}
/-- all but the frame is kept, the frame's map too; a new list stands at D -/
theorem Inv.grew {h' : Heap} {t' : Nat} {D : Addr} {vs : List V} {its : List Value} {n : Nat} (I : Inv X pins σ H s) (hn : s.heap.get? D = none) (hL : D ≠ X.env.locals) (k : ∀ b o, b ≠ X.env.locals → s.heap.get? b = some o → h'.get? b = some o)
    (ns : ∀ m, s.heap.Ns X.env.locals m → h'.Ns X.env.locals m) (e : h'.get? D = some { cls := .type "list", data := .seq its.toArray n }) (r : Vals vs its) (z : vs.length ≤ sizeLine) : H D = none ∧ Inv X pins σ (upd H D (.lst vs)) { s with heap := h', toks := t' } := by
  have hD : H D = none := by
    cases q : H D with
    | none => rfl
    | some o =>
      obtain ⟨u, hu⟩ := (I.hok D o q).there
      rw [hn] at hu
      cases hu
  have ne : ∀ b o, s.heap.get? b = some o → b ≠ D := fun b o e z => by rw [z, hn] at e; cases e
  have neT : ∀ b u, H b = some u → b ≠ D := fun b u e z => by rw [z, hD] at e; cases e
  have nL : ∀ b u, H b = some u → b ≠ X.env.locals := fun b u e z => by rw [z, I.free] at e; cases e
  have there : ∀ b o, s.heap.get? b = some o → ∃ o', h'.get? b = some o' := fun b o e => by
    by_cases hb : b = X.env.locals
    · obtain ⟨m, hm, _⟩ := I.loc
      obtain ⟨o', _, _, e', _⟩ := ns m hm
      exact ⟨o', by rw [hb]; exact e'⟩
    · exact ⟨o, k b o hb e⟩
  refine ⟨hD, I.step (g' := s.gens) (d' := s.drawn) (ch := []) (fun _ z => nomatch z) (fun b o h1 _ _ e _ => k b o h1 e) (fun b o h1 _ _ e _ => ⟨o.slots, k b o h1 e⟩) (fun b o _ e n => by rw [upd_ne (ne b o e)]; exact n) (fun b o _ e => there b o e)
    (fun b xs e => by rw [upd_ne (neT b _ e)]; exact e) (fun b o u e => by rw [upd_ne (neT b _ e)]; exact e) (fun b ps e => ⟨#[], by rw [upd_ne (neT b _ e), e]; simp⟩) ns (fun b u q => ?_) I.bare⟩
  by_cases hb : b = D
  · subst hb
    rw [upd_same] at q
    cases q
    exact ⟨z, its, n, r, e⟩
  · rw [upd_ne hb] at q
    refine (I.hok b u q).stay (fun c v hc w => ?_) (fun c w => by rw [upd_ne (neT c _ w)]; exact w) fun c xs w => by rw [upd_ne (neT c _ w)]; exact w
    rcases hc with rfl | hc
    · exact k _ v (nL _ _ q) w
    · exact k _ v (nL _ _ hc) w
theorem news_keep {base h h' : Heap} {L : Addr} {m m' : Str → Option Value} {q : List (Addr × Obj)} (F : Fr base L h m) (F' : Fr base L h' m') (N : News base L h' q) (hq : ∀ p ∈ allNews base h L, p ∈ q) : ∀ b o, b ≠ L → h.get? b = some o → h'.get? b = some o := fun b o hb e => by
  cases z : base.get? b with
  | some u =>
    have := F.keep b u z
    rw [e] at this
    cases this
    exact F'.keep b _ z
  | none => exact (N (b, o) (hq _ (mem_allNews hb z e))).1
end

/-! ### the order of words, as the sort asks it -/
section
variable {prog : Program} {w : World} {A : Around} {E : Value → Shared → Prop} {s : Shared} {Q : Bool → Shared → Prop}
theorem word_lt {a b : Addr} {oa ob : Obj} {x y : W} {ia ib : Array Value} {na nb : Nat} {t u : Tok} (e1 : s.heap.get? a = some oa) (d1 : oa.data = .seq ia na) (i1 : ia.toList = [.int x.1 t, .bool x.2]) (e2 : s.heap.get? b = some ob) (d2 : ob.data = .seq ib nb) (i2 : ib.toList = [.int y.1 u, .bool y.2])
    (q : Q (decide (code x < code y)) s) : wpAny (model prog w) A (keyLt' (tuples' true) (.ref a) (.ref b)) Q E s := by
  have z1 : ia.size = 2 := by rw [← Array.length_toList, i1]; rfl
  have z2 : ib.size = 2 := by rw [← Array.length_toList, i2]; rfl
  refine PySem.W.kat_lt e1 d1 e2 d2 ?_
  rw [i1, i2, z1, z2]
  show PySem.W.KatLex prog w A true (decide (2 < 2)) Q [(.int x.1 t, .int y.1 u), (.bool x.2, .bool y.2)] 0 s
  refine PySem.W.kat_cons (SeqAt.EqAt.int_int x.1 t y.1 u prog w _ _ ?_)
  by_cases h : x.1 = y.1
  · have hb : (x.1 == y.1) = true := by simp [h]
    rw [hb]
    refine PySem.W.kat_yes (PySem.W.kat_cons (SeqAt.EqAt.bool_bool x.2 y.2 prog w _ _ ?_))
    by_cases g : x.2 = y.2
    · have gb : (x.2 == y.2) = true := by simp [g]
      rw [gb]
      refine PySem.W.kat_yes (PySem.W.kat_nil ?_)
      have e : decide (code x < code y) = decide (2 < 2) := by
        rw [show x = y from Prod.ext h g]
        simp
      rw [← e]
      exact q
    · have gb : (x.2 == y.2) = false := by simp [g]
      rw [gb]
      refine PySem.W.kat_no (PySem.W.kat_one _ _ (lt_bool ?_))
      have e : decide (code x < code y) = decide (b2i x.2 < b2i y.2) := by
        unfold Eo.code b2i
        rw [h]
        revert g
        cases x.2 <;> cases y.2 <;> simp <;> omega
      show Q (decide (b2i x.2 < b2i y.2)) s
      rw [← e]
      exact q
  · have hb : (x.1 == y.1) = false := by simp [h]
    rw [hb]
    refine PySem.W.kat_no (oneLt_int ?_)
    have e : decide (code x < code y) = decide (x.1 < y.1) := by
      unfold Eo.code
      rw [Bool.eq_iff_iff]
      simp only [decide_eq_true_iff]
      cases x.2 <;> cases y.2 <;> simp <;> omega
    rw [← e]
    exact q
end

/-! ### sorted(d) -/
theorem raw_src {prog : Program} {w : World} {d : Addr} {es : Array DictEntry} {ep : Nat} (nm : (d == sysModules) = false) : PySem.W.KdlSrc prog w "dict" d d es.size (fun i v => ∃ e, es[i]? = some e ∧ v = e.key) (fun h => RawD h d es ep) where
  type := fun s x => x.ty
  there := fun h x => ⟨x.lt, x.lt⟩
  keep := fun h h' x k => x.move fun o e => k d (.inl rfl) o e
  notList := by decide
  notTuple := by decide
  hint := fun A E s Q x q => PySem.W.kdl_hint_dict x.ty q
  iter := fun A s hh x => ⟨_, _, fun E Q q => raw_iter nm x q, raw_walks hh (Nat.ne_of_lt x.lt), ⟨⟨_, Heap.get?_push_size _ rfl, rfl, rfl⟩, x.move fun o e => Heap.get?_push_of_some _ e⟩⟩
/-- where the word y stands -/
def TupAt (h : Heap) (y : W × Addr × Value) : Prop := ∃ o its n t, h.get? y.2.1 = some o ∧ o.cls = .type "tuple" ∧ o.data = .seq its n ∧ its.toList = [Value.int y.1.1 t, .bool y.1.2]
theorem firsts {h : Heap} : ∀ {ys : List (W × Addr × Value)}, (∀ y ∈ ys, TupAt h y) → ∃ fs : List Value, fs.length = ys.length ∧ PySem.W.KatTups h (ys.map fun y => Value.ref y.2.1) fs ∧ ∀ v ∈ fs, ∃ i t, v = Value.int i t
  | [], _ => ⟨[], rfl, .nil, fun v hv => by simp at hv⟩
  | y :: ys, hy => by
    obtain ⟨fs, h1, h2, h3⟩ := firsts (ys := ys) fun z hz => hy z (List.mem_cons_of_mem _ hz)
    obtain ⟨o, its, n, t, e, c, d, i⟩ := hy y List.mem_cons_self
    refine ⟨.int y.1.1 t :: fs, by simp [h1], .cons e c d ?_ h2, fun v hv => ?_⟩
    · rw [← Array.getElem?_toList, i]; rfl
    · rcases List.mem_cons.mp hv with rfl | hv
      · exact ⟨_, _, rfl⟩
      · exact h3 v hv
section
variable {prog : Program} {w : World} {A : Around} {E : Value → Shared → Prop} {s : Shared}
/-- a list of one item, sorted -/
theorem sort_one {a : Addr} {v : Value} {n : Nat} {P : PySem.Fin → Shared → Prop} (ho : s.heap.get? a = some (seqObj "list" [v].toArray n))
    (h : ∀ h' c, h'.get? a = some (seqObj "list" [v].toArray c) → (∀ b o, b ≠ a → s.heap.get? b = some o → h'.get? b = some o) → P (.done (.ret .none)) { s with heap := h' }) : wpAny (model prog w) A (Builtin.«list.sort» ⟨[.ref a], []⟩) P E s := by
  rw [list_sort_plain]
  have lt : a < s.heap.objs.size := Heap.lt_size ho
  refine wpAny_bind (listItems_at ho rfl (wpAny_bind (listUpdate_at ho rfl ?_)))
  obtain ⟨c1, e1⟩ : ∃ c, (s.heap.update a (Obj.mapSeq fun _ => #[])).get? a = some (seqObj "list" #[] c) := ⟨_, get?_update_seq ho fun _ => #[]⟩
  refine wpAny_bind (seqEpoch_at e1 rfl (wpAny_bind (wpAny_newTuple (wpAny_bind (wpAny_newList (wpAny_holding ?_))))))
  have e2 : (((s.heap.update a (Obj.mapSeq fun _ => #[])).push (seqObj "tuple" [v].toArray 0)).push (seqObj "list" #[] 0)).get? a = some (seqObj "list" #[] c1) := Heap.get?_push_of_some _ (Heap.get?_push_of_some _ e1)
  show wpAny (model prog w) A _ P E { s with heap := ((s.heap.update a (Obj.mapSeq fun _ => #[])).push (seqObj "tuple" [v].toArray 0)).push (seqObj "list" #[] 0) }
  dsimp only
  rw [if_pos (show ([v].toArray).size < 2 by simp), if_pos (show ([v].toArray).size < 2 by simp)]
  refine wpAny_bind (wpAny_pure ?_)
  rw [StateT.run_pure]
  refine wpAny_bind (wpAny_pure ?_)
  dsimp only
  have ea : (arrOf (SortSt.mk' general' ([v].toArray.zip [v].toArray) #[] 7 none)).map (·.2) = [v].toArray := by show ([v].toArray.zip [v].toArray).map (·.2) = [v].toArray; simp
  rw [ea]
  refine wpAny_bind (seqEpoch_at e2 rfl (wpAny_bind (listUpdate_at e2 rfl ?_)))
  simp only [bne_self_eq_false, Bool.false_eq_true, if_false]
  obtain ⟨c3, e3⟩ : ∃ c, ((((s.heap.update a (Obj.mapSeq fun _ => #[])).push (seqObj "tuple" [v].toArray 0)).push (seqObj "list" #[] 0)).update a (Obj.mapSeq fun _ => [v].toArray)).get? a = some (seqObj "list" [v].toArray c) := ⟨_, get?_update_seq e2 fun _ => [v].toArray⟩
  refine wpAny_pure (h _ c3 e3 fun b o hb e => ?_)
  exact (Heap.get?_update_other _ _ (Ne.symm hb)).trans (Heap.get?_push_of_some _ (Heap.get?_push_of_some _ ((Heap.get?_update_other _ _ (Ne.symm hb)).trans e)))
end
theorem getD_map {α β : Type} {f : α → β} {l : List α} {i : Nat} (h : i < l.length) (d : β) : (l.map f).getD i d = f l[i] := by simp [List.getD, h]
def rSorted (P : Program) (w : World) : List V → Hp → VK → Prop := fun xs H Q => ∃ a kvs, xs = [.ref a] ∧ DW P w H a kvs ∧ 1 ≤ kvs.length ∧ kvs.length < 64 ∧
  ∀ l vs ws, H l = none → Ws H vs ws → Up ws → (∀ x, x ∈ ws ↔ x ∈ kvs.map (·.1)) → Q (.ref l) (upd H l (.lst vs))
section
variable {X : Cx}
theorem call_sortedW (hc : X.calm = true) : CallR X (.builtin "sorted") (rSorted X.prog X.w) := by
  intro pins s σ H xs us Q I r ⟨a, kvs, e, d, n1, n64, q⟩
  subst e
  obtain ⟨u, rfl, ru⟩ := vals1 r
  cases ru
  obtain ⟨xs, ys, t⟩ := d.at I
  obtain ⟨o, es, ep, e1, e2, e3, e4, hk, nd⟩ := t.dict
  obtain ⟨m, F⟩ := I.fr
  have ny := ys_len t
  have hsz : es.size = ys.length := by rw [← Array.length_toList, e4, List.length_map]
  have isW : ∀ y ∈ ys, IsW H (.ref y.2.1) y.1 := fun y hy => by
    obtain ⟨i, hi⟩ := List.mem_iff_getElem?.mp hy
    obtain ⟨x, hx, r1, r2, _⟩ := paired_get' t.rel hi
    exact ⟨y.2.1, rfl, by rw [← r1, ← r2]; exact t.tups x (List.mem_of_getElem? hx)⟩
  have tup : ∀ y ∈ ys, TupAt s.heap y := fun y hy => by
    obtain ⟨p, ep, hp⟩ := isW y hy
    cases ep
    obtain ⟨_, its, rv, ob, g1, g2, n, g3⟩ := (show ObjOk X.prog X.w H s.heap y.2.1 (.tup _) from I.hok _ _ hp)
    obtain ⟨u1, u2, rfl, ⟨tk, rfl⟩, rb⟩ := vals2 rv
    cases rb
    exact ⟨ob, _, n, tk, g1, g2, g3, rfl⟩
  refine PySem.W.kdu_sorted (raw_src t.nm) (I.ok.hd hc) F (news_all (g := X.base) (h := s.heap) (L := X.env.locals)) ⟨o, e1, e2, e3⟩ (by rw [hsz, ny, sizeLine_eq]; omega) fun D h1 tk vs F1 N1 lt1 hl hv => ?_
  have evs : vs = ys.map fun y => Value.ref y.2.1 := by
    apply List.ext_getElem?
    intro i
    cases z : vs[i]? with
    | none =>
      have : vs.length ≤ i := List.getElem?_eq_none_iff.mp z
      rw [List.getElem?_eq_none_iff.mpr (by rw [List.length_map]; omega)]
    | some v =>
      obtain ⟨en, g1, g2⟩ := hv i v z
      rw [← Array.getElem?_toList, e4, List.getElem?_map] at g1
      obtain ⟨y, g3, g4⟩ := Option.map_eq_some_iff.mp g1
      rw [List.getElem?_map, g3, g2, ← g4]
      rfl
  subst evs
  obtain ⟨nD1, nD2, nD3⟩ := N1 _ (List.mem_cons_self ..)
  have sD : s.heap.get? D = none := by
    cases z : s.heap.get? D with
    | none => rfl
    | some ob => exact absurd (lt1 (D, ob) (mem_allNews nD2 nD3 z)) (Nat.lt_irrefl _)
  have lenV : (ys.map fun y => Value.ref y.2.1).length = ys.length := List.length_map ..
  have fin : ∀ (p : List Nat) (h2 : Heap) (c : Nat) (m2 : Str → Option Value), (∀ i ∈ p, i < ys.length) → (∀ i, i < ys.length → i ∈ p) → p.length = ys.length → p.Pairwise (fun i j => ∀ (hi : i < ys.length) (hj : j < ys.length), code ys[i].1 < code ys[j].1) →
      (∀ b o, b ≠ X.env.locals → s.heap.get? b = some o → h2.get? b = some o) → h2.Ns X.env.locals m → h2.get? D = some { cls := .type "list", data := .seq (p.map fun i => (ys.map fun y => Value.ref y.2.1).getD i Value.none).toArray c } → EP X pins σ Q (.ref D) { s with heap := h2, toks := tk } := by
    intro p h2 c m2 hp1 hp2 hp3 hp4 k hns e
    have hget : ∀ i ∈ p, ∃ h : i < ys.length, (ys.map fun y => Value.ref y.2.1).getD i Value.none = .ref ys[i].2.1 := fun i hi => ⟨hp1 i hi, getD_map (hp1 i hi) _⟩
    have rel : ∀ l : List Nat, (∀ i ∈ l, i < ys.length) → ∃ vs ws, vs.length = l.length ∧ Vals vs (l.map fun i => (ys.map fun y => Value.ref y.2.1).getD i Value.none) ∧ Ws H vs ws ∧ ws.length = l.length ∧ ∀ j i : Nat, l[j]? = some i → ∃ h : i < ys.length, ws[j]? = some ys[i].1 := by
      intro l
      induction l with
      | nil => intro _; exact ⟨[], [], rfl, .nil, .nil, rfl, fun j i h => by simp at h⟩
      | cons i l ih =>
        intro hl
        obtain ⟨vs, ws, l1, r1, r2, l2, r3⟩ := ih fun j hj => hl j (List.mem_cons_of_mem _ hj)
        have hi := hl i List.mem_cons_self
        refine ⟨.ref ys[i].2.1 :: vs, ys[i].1 :: ws, by simp [l1], .cons ?_ r1, .cons (isW _ (List.getElem_mem hi)) r2, by simp [l2], fun j i' hj => ?_⟩
        · show (ys.map fun y => Value.ref y.2.1).getD i Value.none = .ref ys[i].2.1
          exact getD_map hi _
        · cases j with
          | zero => simp at hj; subst hj; exact ⟨hi, rfl⟩
          | succ j => exact r3 j i' (by simpa using hj)
    obtain ⟨vs, ws, l1, r1, r2, l2, r3⟩ := rel p hp1
    obtain ⟨hD, I'⟩ := Inv.grew (t' := tk) I sD nD2 k (fun m' hm' => by rw [← ns_one F.ns hm']; exact hns) e r1 (by rw [l1, hp3, ny, sizeLine_eq]; omega)
    refine ⟨.ref D, _, I', rfl, q D vs ws hD r2 ?_ fun x => ?_⟩
    · refine List.pairwise_iff_getElem.mpr fun i j hi hj hij => ?_
      have hi' : i < p.length := by omega
      have hj' : j < p.length := by omega
      obtain ⟨g1, g2⟩ := r3 i p[i] (List.getElem?_eq_getElem hi')
      obtain ⟨g3, g4⟩ := r3 j p[j] (List.getElem?_eq_getElem hj')
      rw [List.getElem?_eq_getElem hi] at g2
      rw [List.getElem?_eq_getElem hj] at g4
      rw [Option.some.inj g2, Option.some.inj g4]
      exact List.pairwise_iff_getElem.mp hp4 i j hi' hj' hij g1 g3
    · rw [t.kv, List.map_map]
      have ek : (xs.map ((·.1) ∘ fun x : W × Addr × V => (x.1, x.2.2))) = ys.map (·.1) := (List.map_congr_left fun _ _ => rfl).trans (keys_rel t.rel)
      rw [ek]
      constructor
      · intro hx
        obtain ⟨j, hj, ex⟩ := List.mem_iff_getElem.mp hx
        obtain ⟨g1, g2⟩ := r3 j p[j] (List.getElem?_eq_getElem (by omega))
        rw [List.getElem?_eq_getElem hj] at g2
        rw [← ex, Option.some.inj g2]
        exact List.mem_map.mpr ⟨_, List.getElem_mem g1, rfl⟩
      · intro hx
        obtain ⟨y, hy, ex⟩ := List.mem_map.mp hx
        obtain ⟨i, hi, ey⟩ := List.mem_iff_getElem.mp hy
        obtain ⟨j, hj, ej⟩ := List.mem_iff_getElem.mp (hp2 i hi)
        obtain ⟨g1, g2⟩ := r3 j i (by rw [List.getElem?_eq_getElem hj, ej])
        rw [← ex, ← ey]
        exact List.mem_of_getElem? g2
  have tailN : News X.base X.env.locals h1 (allNews X.base s.heap X.env.locals) := fun p hp => N1 p (List.mem_cons_of_mem _ hp)
  by_cases one : ys.length = 1
  · obtain ⟨y, ey⟩ := List.length_eq_one_iff.mp one
    subst ey
    refine wpAny_call_entry slot_list_sort ⟨_, nD1, rfl⟩ entry_list_sort (sort_one nD1 fun h2 c g1 g2 => ⟨_, rfl, ?_⟩) (args_list_sort _)
    refine fin [0] h2 c m (by simp) (fun i hi => by simp at hi; simp [hi]) rfl (by simp) (fun b o hb e => g2 b o (fun z => by rw [z, sD] at e; cases e) (news_keep F F1 tailN (fun _ hp => hp) b o hb e)) ?_ g1
    obtain ⟨oL, es', ep', f1, f2⟩ := F1.ns
    exact ⟨oL, es', ep', g2 _ _ nD2.symm f1, f2⟩
  · have two : 2 ≤ (ys.map fun y => Value.ref y.2.1).length := by rw [lenV]; omega
    refine wpAny_call_entry slot_list_sort ⟨_, nD1, rfl⟩ entry_list_sort (PySem.W.kat_list_sort F1 tailN nD1 nD2 nD3 (fun p hp => Nat.ne_of_lt (lt1 p hp)) two (by rw [lenV]; omega) fun c1 h2 F2 N2 => ?_) (args_list_sort _)
    have k2 := news_keep F F2 N2 fun p hp => List.mem_cons_of_mem _ hp
    have tup2 : ∀ y ∈ ys, TupAt h2 y := fun y hy => by
      obtain ⟨ob, its, n, tk', g1, g2⟩ := tup y hy
      obtain ⟨p, ep, hp⟩ := isW y hy
      cases ep
      exact ⟨ob, its, n, tk', k2 _ _ (fun z => by rw [z, I.free] at hp; cases hp) g1, g2⟩
    obtain ⟨fs, f1, f2, f3⟩ := firsts tup2
    refine PySem.W.kat_kind (T := .type "int") f2 (by omega) (fun v hv => ?_) rfl ?_
    · obtain ⟨i, tk', rfl⟩ := f3 v hv
      exact PySem.W.Looks.of_pure rfl
    show (PySem.W.kas_sort (ys.map fun y => Value.ref y.2.1).length).kasWp (PySem.W.kas_ask X.prog X.w _ (tuples' true) (ys.map fun y => Value.ref y.2.1)) _ _
    have key0 : ∃ key : Nat → Int, ∀ i (hi : i < ys.length), key i = code ys[i].1 := ⟨fun i => if hi : i < ys.length then code ys[i].1 else 0, fun i hi => by simp [hi]⟩
    obtain ⟨key, hkey⟩ := key0
    have inj : EoS.KInj (ys.map fun y => Value.ref y.2.1).length key := fun i j hi hj e => by
      rw [lenV] at hi hj
      rw [hkey i hi, hkey j hj] at e
      have e' := code_inj e
      have := (List.getElem_inj (xs := ys.map (·.1)) (h₀ := by simpa using hi) (h₁ := by simpa using hj) nd).mp (by simpa using e')
      exact this
    refine EoS.Ok.wp (J := fun s' => s' = { s with heap := h2, toks := tk }) (lt := EoS.ltK key) (fun i j C s' hi hj es' hC => ?_) (fun p s' hp es' => ?_) _ _ (EoS.sort_ok inj two) rfl
    · subst es'
      rw [lenV] at hi hj
      show wpAny _ _ (keyLt' (tuples' true) ((ys.map fun y => Value.ref y.2.1).getD i Value.none) ((ys.map fun y => Value.ref y.2.1).getD j Value.none)) C _ _
      rw [getD_map hi, getD_map hj]
      obtain ⟨o1, i1, n1', t1, g1, _, g2, g3⟩ := tup2 ys[i] (List.getElem_mem hi)
      obtain ⟨o2, i2, n2', t2, g4, _, g5, g6⟩ := tup2 ys[j] (List.getElem_mem hj)
      refine word_lt (s := { s with heap := h2, toks := tk }) g1 g2 g3 g4 g5 g6 ?_
      have := hC _ rfl
      unfold EoS.ltK at this
      rw [hkey i hi, hkey j hj] at this
      exact this
    · subst es'
      obtain ⟨sh, asc⟩ := hp
      have psz := sh.size
      rw [lenV] at psz
      refine PySem.W.KasFin.intro F2 N2 (.head fun p hp => Nat.ne_of_lt (lt1 p hp)) fun h3 c F3 N3 => ⟨_, rfl, ?_⟩
      have pmem : ∀ i, i ∈ p.toList ↔ i < ys.length := fun i => by
        have := sh.perm.mem_iff (a := i)
        rw [lenV] at this
        simpa using this
      refine fin p.toList h3 c m (fun i hi => (pmem i).1 hi) (fun i hi => (pmem i).2 hi) (by rw [Array.length_toList, psz]) ?_ (news_keep F F3 N3 fun p hp => List.mem_cons_of_mem _ hp) F3.ns (N3 _ List.mem_cons_self).1
      refine List.pairwise_iff_getElem.mpr fun i j hi hj hij h1' h2' => ?_
      rw [Array.length_toList] at hi hj
      have := asc i j hij (by rw [lenV]; omega)
      unfold EoS.at_ at this
      have g1 : p.getD i 0 = p[i] := by simp [Array.getD, hi]
      have g2 : p.getD j 0 = p[j] := by simp [Array.getD, hj]
      rw [g1, g2] at this
      have g3 := hkey p[i] (by simpa using h1')
      have g4 := hkey p[j] (by simpa using h2')
      rw [g3, g4] at this
      simpa using this
end
end L2

end

section
set_option autoImplicit false
set_option maxRecDepth 100000
set_option linter.all false
namespace L2
open PySem PySem.Spec PyProof.Rows EoD Eo
section
variable {X : Cx}
theorem vals_bools : ∀ {bs : List Bool} {us : List Value}, Vals (bs.map V.bl) us → LSm.BoolsAre us bs
  | [], _, .nil => .nil
  | b :: bs, _, .cons r t => by cases r; exact .cons b (vals_bools t)
/-- all([..]) of truths -/
theorem call_allB (hc : X.calm = true) : CallR X (.builtin "all") (fun xs H Q => ∃ (p : Addr) (bs : List Bool), xs = [.ref p] ∧ SqL X.K H p (bs.map V.bl) ∧ Q (.bl (bs.all id)) H) := by
  intro pins s σ H xs us Q I r ⟨p, bs, e, hq, q⟩
  subst e
  obtain ⟨u, rfl, ru⟩ := vals1 r
  cases ru
  obtain ⟨its, rv, pl, hz⟩ := I.list hq
  obtain ⟨m, F⟩ := I.fr
  refine LSm.all_bools F (news_all (g := X.base) (h := s.heap) (L := X.env.locals)) (I.ok.hd hc) pl.isList (vals_bools rv) fun h' tk F' N' => ⟨.bl _, H, ?_, rfl, q⟩
  have k := news_keep F F' N' fun _ hp => hp
  have nL : ∀ b u, H b = some u → b ≠ X.env.locals := fun b u e z => by rw [z, I.free] at e; cases e
  have there : ∀ b o, s.heap.get? b = some o → ∃ o', h'.get? b = some o' := fun b o e => by
    by_cases hb : b = X.env.locals
    · obtain ⟨o', _, _, e', _⟩ := F'.ns
      exact ⟨o', by rw [hb]; exact e'⟩
    · exact ⟨o, k b o hb e⟩
  refine I.step (g' := s.gens) (d' := s.drawn) (ch := []) (fun _ z => nomatch z) (fun b o h1 _ _ e _ => k b o h1 e) (fun b o h1 _ _ e _ => ⟨o.slots, k b o h1 e⟩) (fun b o _ e n => n) (fun b o _ e => there b o e) (fun _ _ e => e) (fun _ _ _ e => e) (fun b ps e => ⟨#[], by rw [e]; simp⟩)
    (fun m' hm' => by rw [← ns_one F.ns hm']; exact F'.ns) (fun b u w => (I.hok b u w).stay (fun c v hc z => ?_) (fun _ z => z) fun _ _ z => z) I.bare
  rcases hc with rfl | hc
  · exact k _ v (nL _ _ w) z
  · exact k _ v (nL _ _ hc) z
/-- isinstance(x, T) of a built-in type -/
theorem call_isinst : CallR X (.builtin "isinstance") (fun xs H Q => ∃ x T t b, xs = [x, .ty T] ∧ TyOf X.K H x t ∧ PySem.W.kitOne X.K t (.type T) = some b ∧ Q (.bl b) H) := by
  intro pins s σ H xs us Q I r ⟨x, T, t, b, e, ty, hk, q⟩
  subst e
  obtain ⟨u, v, rfl, ru, rv⟩ := vals2 r
  cases rv
  exact isinst_ok I ru ty hk fun tk => ⟨.bl b, H, I.tok tk, rfl, q⟩
/-- list(reversed(e)) -/
def tRev (K : PySem.W.Frag) (te : TE) : TE := fun σ H Q => te σ H fun x H1 => ∃ p ys, x = .ref p ∧ SqL K H1 p ys ∧ ys.length ≤ 1000 ∧ ∀ l, H1 l = none → Q (.ref l) (upd H1 l (.lst ys.reverse))
theorem rev_vals {ys : List V} {its : List Value} {acc : Array Value} (r : Vals ys its) (h : ItemsOf (fun i v => its.toArray[its.toArray.size - 1 - i]? = some v) acc its.toArray.size) : acc.toList = its.reverse := by
  apply List.ext_getElem?
  intro i
  have hs : acc.toList.length = its.length := by simpa using h.1
  by_cases hi : i < its.length
  · have hi' : i < acc.size := by simpa using (show i < acc.toList.length by omega)
    have g : its.toArray[its.toArray.size - 1 - i]? = some acc[i] := h.2 i acc[i] (Array.getElem?_eq_getElem hi')
    rw [← Array.getElem?_toList] at g
    have e1 : acc.toList[i]? = some acc[i] := by simp [hi']
    rw [e1, List.getElem?_reverse hi, ← g]
    simp
  · rw [List.getElem?_eq_none (by omega), List.getElem?_eq_none (by rw [List.length_reverse]; omega)]
theorem pe_listrev {e : Expr} {te : TE} {p1 p2 p3 p4 : Pos} (hc : X.calm = true) (he : PE X e te) (g1 : Gl X "list") (m1 : X.mg "list" = none) (g2 : Gl X "reversed") (m2 : X.mg "reversed" = none) (v2 : bootBuiltins "reversed" = some (.type "reversed"))
    (s1 : starEach [.Call (.Name "reversed" p2) [e] [] p3] X.env = [(false, eval (.Call (.Name "reversed" p2) [e] [] p3) X.env)] := by rfl) (s2 : starEach [e] X.env = [(false, eval e X.env)] := by rfl) :
    PE X (.Call (.Name "list" p1) [.Call (.Name "reversed" p2) [e] [] p3] [] p4) (tRev X.K te) := by
  intro pins s σ H Q I h
  refine wpAny_Call_Name_kw (ld_blt I g1 m1 boot_list (PyProof.Rows.callWith_type1 ?_ s1 rfl))
  rw [s1]
  refine Calls.spliced_cons ?_
  refine wpAny_Call_Name_kw (ld_blt I g2 m2 v2 (PyProof.Rows.callWith_type1 ?_ s2 rfl))
  rw [s2]
  refine Calls.spliced_cons (thn (he pins s σ H _ I h) fun u s1 ⟨x, H1, I1, rx, p, ys, ex, hq, hl, q⟩ => Calls.spliced_nil ?_)
  subst ex
  cases rx
  obtain ⟨its, rv, pl, hz⟩ := I1.list hq
  have hp : p < s1.heap.objs.size := let ⟨_, e, _⟩ := pl.isList; Heap.lt_size e
  refine call_reversed_list pl.isList (Calls.spliced_nil ?_)
  have I2 : Inv X pins σ H1 { s1 with heap := s1.heap.push (revObj p ((its.toArray.size : Int) - 1)) } := I1.kept (t' := s1.toks) fun b o e => Heap.get?_push_of_some _ e
  refine list_rev (s := { s1 with heap := s1.heap.push (revObj p ((its.toArray.size : Int) - 1)) }) (items := its.toArray) (I.ok.hd hc) ⟨_, Heap.get?_push_size _ rfl, rfl, rfl⟩ (pl.isList.push _) (Nat.ne_of_lt hp) (by rw [List.size_toArray, ← rv.length]; exact hz) fun h' tk acc c k e io => ?_
  have er : acc.toList = its.reverse := rev_vals rv io
  have fr : H1 (s1.heap.push (revObj p ((its.toArray.size : Int) - 1))).objs.size = none := I2.hok.fresh (Nat.le_refl _)
  refine ⟨.ref _, _, I1.laid (t' := tk) (fun b o eb => k b o (Nat.ne_of_lt (Heap.lt_size eb)) (Heap.get?_push_of_some _ eb)) (by rw [Heap.size_push]; exact Nat.le_succ _) (show ObjOk X.prog X.w _ h' _ (.lst ys.reverse) from ⟨?_, its.reverse, c, rv.reverse, ?_⟩), rfl, q _ fr⟩
  · rw [List.length_reverse]; exact hz
  · rw [e, ← er]
end
end L2

end

section
set_option autoImplicit false
set_option maxRecDepth 100000
set_option linter.all false
/-! Defs and their promises. -/
namespace L2
open PySem PySem.Spec PyProof.Rows EoD Eo
theorem bt_isinstance : bootBuiltins "isinstance" = some (.builtin "isinstance") := by decide +kernel
theorem bt_len : bootBuiltins "len" = some (.builtin "len") := by decide +kernel
theorem bt_all : bootBuiltins "all" = some (.builtin "all") := by decide +kernel
theorem bt_min : bootBuiltins "min" = some (.builtin "min") := by decide +kernel
theorem bt_sorted : bootBuiltins "sorted" = some (.builtin "sorted") := by decide +kernel
theorem bt_int : bootBuiltins "int" = some (.type "int") := by decide +kernel
theorem bt_bool : bootBuiltins "bool" = some (.type "bool") := by decide +kernel
theorem bt_tuple : bootBuiltins "tuple" = some (.type "tuple") := by decide +kernel
theorem bt_list : bootBuiltins "list" = some (.type "list") := by decide +kernel
theorem bt_reversed : bootBuiltins "reversed" = some (.type "reversed") := by decide +kernel
/-- the built-in names stand as they were -/
structure Bare (mg : Str → Option Value) : Prop where
  isin : mg "isinstance" = none
  len : mg "len" = none
  all : mg "all" = none
  min : mg "min" = none
  srt : mg "sorted" = none
  int : mg "int" = none
  bool : mg "bool" = none
  tup : mg "tuple" = none
  lst : mg "list" = none
  rev : mg "reversed" = none
  rng : mg "range" = none
/-- a def of the top -/
structure Def (K : PySem.W.Frag) (mg : Str → Option Value) (x : Str) (st : Stmt) (ps : List Str) : Prop where
  ex : ∃ f fd, Fun K x x st f fd ∧ mg x = some (.ref f) ∧ Binds K fd ps []
/-- a def of the top may be called, and keeps its promise -/
def Cal (P : Program) (w : World) (K : PySem.W.Frag) (mg : Str → Option Value) (base : Heap) (x : Str) (k : Nat) (ps : List Str) (sp : Sp) : Prop :=
  ∃ f fd, FnOk P w K mg base CX0 k f fd ps sp ∧ mg x = some (.ref f) ∧ PySem.W.keepIn K (.ref f) = true ∧ Binds K fd ps []
section
variable {P : Program} {w : World} {K : PySem.W.Frag} {mg : Str → Option Value} {base : Heap}
theorem Def.cal {x : Str} {st : Stmt} {N ps : List Str} {k : Nat} {sp : Sp} (D : Def K mg x st ps) (S : FnScope N ps (defScope st)) (len : ∀ vs H Q E, sp vs H Q E → vs.length = ps.length)
    (hbody : ∀ (f : Addr) (cdv : Value) (A : Around) (outer : List Env) (s : Shared) (H : Hp) (vs : List V) (Q : VK) (E : XK), Room k (A.deeper (envOfC x (defScope st) s.heap.objs.size f cdv)) → sp vs H Q E →
      ∃ t, PSs (cxOf CX0 P w K mg base N x (defScope st) f cdv A outer s H E).nox (defBody st) t ∧ t { nx := fun _ H' => Q .non H', rt := Q } (start N vs) H) : Cal P w K mg base x (k + 1) ps sp := by
  obtain ⟨f, fd, F, m, b⟩ := D.ex
  exact ⟨f, fd, F.ok S len (hbody f), m, F.kp, b⟩
theorem Cal.mono {x : Str} {ps : List Str} {j k : Nat} {sp : Sp} (c : Cal P w K mg base x j ps sp) (h : j ≤ k) : Cal P w K mg base x k ps sp :=
  let ⟨f, fd, F, r⟩ := c; ⟨f, fd, F.mono h, r⟩
end
theorem pe_cal {X : Cx} {x : Str} {k : Nat} {ps : List Str} {sp : Sp} {e : Expr} {es : List Expr} {t : TA} {p pos : Pos} (c : Cal X.prog X.w X.K X.mg X.base x k ps sp) (hr : Room k X.A) (hg : Gl X x) (ha : PA X (e :: es) t) (hdb : (x == ("__debug__" : Str)) = false := by decide)
    (he : starEach (e :: es) X.env = (false, eval e X.env) :: starEach es X.env := by rfl) (hpl : (backTo pos (starEach es X.env)).any (·.1) = false := by rfl) : PE X (.Call (.Name x p) (e :: es) [] pos) (tCall sp [] E0 t) :=
  let ⟨_, _, F, m, kp, b⟩ := c; pe_call F hr hg m kp b .nil pass0 ha hdb he hpl
/-- isinstance(e, T) -/
theorem pe_isin {X : Cx} (B : Bare X.mg) {e : Expr} {te : TE} {T : String} {x : Str} {p1 p2 pos : Pos} (he : PE X e te) (hg : Gl X "isinstance") (hx : Gl X x) (hm : X.mg x = none) (hv : bootBuiltins x = some (.type T)) (hn : x ≠ "__name__" := by decide) (hd : (x == ("__debug__" : Str)) = false := by decide)
    (s1 : starEach [e, .Name x p2] X.env = [(false, eval e X.env), (false, eval (.Name x p2) X.env)] := by rfl) (s2 : starEach [.Name x p2] X.env = [(false, eval (.Name x p2) X.env)] := by rfl) :
    PE X (.Call (.Name "isinstance" p1) [e, .Name x p2] [] pos) (tCB (fun xs H Q => ∃ x T t b, xs = [x, .ty T] ∧ TyOf X.K H x t ∧ PySem.W.kitOne X.K t (.type T) = some b ∧ Q (.bl b) H) (tCons te (tCons (tC (.ty T)) tNil))) :=
  pe_callB call_isinst hg B.isin bt_isinstance (pa_cons he (pa_cons (pe_bltn hx hm hv rfl hn hd) pa_nil s2) (by rw [s1, s2])) (he := by rw [s1, s2]) (hpl := by rw [s2]; rfl)

/-! ### heaps -/
/-- the tuples stay -/
def Tups (H H' : Hp) : Prop := ∀ b xs, H b = some (.tup xs) → H' b = some (.tup xs)
theorem Same.tups {H H' : Hp} (e : Same H H') : Tups H H' := fun b xs h => e b _ h
theorem Tups.trans {H H1 H2 : Hp} (a : Tups H H1) (b : Tups H1 H2) : Tups H H2 := fun c xs h => b c xs (a c xs h)
theorem Tups.upd {H : Hp} {a : Addr} {o : HO} (h : ∀ xs, H a ≠ some (.tup xs)) : Tups H (upd H a o) := fun b xs e => by
  by_cases z : b = a
  · subst z; exact absurd e (h xs)
  · rw [upd_ne z]; exact e
theorem IsW.tups {H H' : Hp} {v : V} {x : W} (e : Tups H H') (h : IsW H v x) : IsW H' v x := let ⟨q, h1, h2⟩ := h; ⟨q, h1, e _ _ h2⟩
theorem IsP.tups {H H' : Hp} {v : V} {p : W × W} (e : Tups H H') (h : IsP H v p) : IsP H' v p := let ⟨q, a, b, h1, h2, h3, h4⟩ := h; ⟨q, a, b, h1, e _ _ h2, h3.tups e, h4.tups e⟩
theorem Ws.tups {H H' : Hp} (e : Tups H H') {vs : List V} {xs : List W} (h : Ws H vs xs) : Ws H' vs xs := Paired.mapP h fun _ _ z => z.tups e
theorem Ps.tups {H H' : Hp} (e : Tups H H') {vs : List V} {xs : List (W × W)} (h : Ps H vs xs) : Ps H' vs xs := Paired.mapP h fun _ _ z => z.tups e
theorem Same.laid {H : Hp} {a : Addr} {o : HO} (h : H a = Option.none) : Same H (upd H a o) := fun b u e => by
  rw [upd_ne (ne_of_none e h)]; exact e
theorem Same.laidT {H H' : Hp} {a : Addr} {o : HO} (e : Same H H') (h : H' a = Option.none) : Same H (upd H' a o) := e.trans (Same.laid h)
/-- what was fresh then may change -/
theorem Same.chg {H H' : Hp} {a : Addr} {o : HO} (e : Same H H') (h : H a = Option.none) : Same H (upd H' a o) := fun b u z => by
  rw [upd_ne (ne_of_none z h)]; exact e b u z

/-! ### a house -/
def flds (N : Nat) (q : Addr) : List (Str × V) := putF "kept" (.ref q) (putF "names" (.int N) [])
theorem nk : ¬ (("names" : Str) = "kept") := by decide +kernel
theorem flds_names (N : Nat) (q : Addr) : (flds N q).lookup ("names" : Str) = some (.int N) := by
  unfold flds
  rw [lookup_putF, if_neg nk, lookup_putF, if_pos rfl]
theorem flds_kept (N : Nat) (q : Addr) : (flds N q).lookup ("kept" : Str) = some (.ref q) := by
  unfold flds
  rw [lookup_putF, if_pos rfl]
theorem flds_no (N : Nat) (q : Addr) {m : Str} (h1 : ¬ m = "kept") (h2 : ¬ m = "names") : (flds N q).lookup m = none := by
  unfold flds
  rw [lookup_putF, if_neg h1, lookup_putF, if_neg h2]
  all_goals rfl
structure HouseAt (C : Addr) (H : Hp) (v : V) (N : Nat) (ws : List (W × W)) : Prop where
  ob : ∃ p dx q vs, v = .ref p ∧ H p = some (.ins C dx (flds N q)) ∧ H q = some (.tup vs) ∧ Ps H vs ws ∧ vs.length ≤ 24
theorem HouseAt.same {C : Addr} {H H' : Hp} {v : V} {N : Nat} {ws : List (W × W)} (e : Same H H') (h : HouseAt C H v N ws) : HouseAt C H' v N ws :=
  let ⟨p, dx, q, vs, h1, h2, h3, h4, h5⟩ := h.ob; ⟨p, dx, q, vs, h1, e _ _ h2, e _ _ h3, h4.same e, h5⟩
/-- a house that is one -/
structure GoodH (N : Nat) (ws : List (W × W)) : Prop where
  lo : 1 ≤ N
  hi : N ≤ 8
  len : ws.length ≤ 24
  good : Good N ws

theorem iteP {c A B : Prop} [Decidable c] (hc : c) (h : A) : if decide c = true then A else B := by rw [decide_eq_true hc]; exact iteT h
theorem iteN {c A B : Prop} [Decidable c] (hc : ¬ c) (h : B) : if decide c = true then A else B := by rw [decide_eq_false hc]; exact iteF h
theorem iteD {c A B : Prop} [Decidable c] (h1 : c → A) (h2 : ¬ c → B) : if decide c = true then A else B := by
  by_cases hc : c
  · exact iteP hc (h1 hc)
  · exact iteN hc (h2 hc)
theorem iteB {b : Bool} {A B : Prop} (h1 : b = true → A) (h2 : b = false → B) : if b = true then A else B := by
  cases b with
  | true => exact iteT (h1 rfl)
  | false => exact iteF (h2 rfl)

/-! ### comparisons of words, wishes and their lists -/
theorem shp {d : PyData} (h1 : d.canLay0 = true) (h2 : d.depth ≤ 64) : SeqAt.shaped d = true := by
  unfold SeqAt.shaped
  rw [h1, decide_eq_true h2]; rfl
theorem lay_wd (x : W) : (wd x).canLay0 = true := by simp [wd, PyData.canLay0, PyData.canLayAll0]
theorem lay_pd (x : W × W) : (pd x).canLay0 = true := by simp [pd, wd, PyData.canLay0, PyData.canLayAll0]
theorem dep_wd (x : W) : (wd x).depth ≤ 8 := by simp [wd, PyData.depth, PyData.depthAll]
theorem dep_pd (x : W × W) : (pd x).depth ≤ 8 := by simp [pd, wd, PyData.depth, PyData.depthAll]
theorem lay_all {α : Type} {f : α → PyData} (h : ∀ x, (f x).canLay0 = true) : ∀ l : List α, PyData.canLayAll0 (l.map f) = true
  | [] => rfl
  | x :: l => by simp [PyData.canLayAll0, h x, lay_all h l]
theorem dep_all {α : Type} {f : α → PyData} {n : Nat} (h : ∀ x, (f x).depth ≤ n) : ∀ l : List α, PyData.depthAll (l.map f) ≤ n
  | [] => by simp [PyData.depthAll]
  | x :: l => by
    have := h x
    have := dep_all h l
    simp only [List.map_cons, PyData.depthAll]
    omega
theorem shp_list {α : Type} {f : α → PyData} {n : Nat} (h1 : ∀ x, (f x).canLay0 = true) (h2 : ∀ x, (f x).depth ≤ n) (hn : n ≤ 60) (l : List α) : SeqAt.shaped (.list (l.map f)) = true := by
  refine shp ?_ ?_
  · show PyData.canLayAll0 _ = true
    exact lay_all h1 l
  · have := dep_all h2 l
    simp only [PyData.depth]
    omega
theorem lay_wl (l : List W) : (PyData.list (l.map wd)).canLay0 = true := by show PyData.canLayAll0 _ = true; exact lay_all lay_wd l
theorem dep_wl (l : List W) : (PyData.list (l.map wd)).depth ≤ 20 := by
  have := dep_all dep_wd l
  simp only [PyData.depth]
  omega
theorem eqv_wl (l m : List W) : PyData.eqv (.list (l.map wd)) (.list (m.map wd)) = decide (l = m) := by
  simp only [PyData.eqv]
  exact eqvAll_map eqv_wd l m
theorem any_mem {α : Type} [DecidableEq α] {f : α → PyData} (h : ∀ x y, PyData.eqv (f x) (f y) = decide (x = y)) (x : α) : ∀ l : List α, ((l.map f).any fun z => PyData.eqv z (f x)) = decide (x ∈ l)
  | [] => by simp
  | y :: l => by
    simp only [List.map_cons, List.any_cons, h, any_mem h x l]
    rw [Bool.eq_iff_iff]
    simp only [Bool.or_eq_true, decide_eq_true_iff, List.mem_cons]
    exact ⟨fun z => z.imp Eq.symm id, fun z => z.imp Eq.symm id⟩
theorem any_in {α : Type} [DecidableEq α] {f : α → PyData} (h : ∀ x y, PyData.eqv (f x) (f y) = decide (x = y)) (x : α) (l : List α) [d : Decidable (x ∈ l)] : ((l.map f).any fun z => PyData.eqv z (f x)) = decide (x ∈ l) := by
  rw [any_mem h x l, Bool.eq_iff_iff]
  simp
section
variable {X : Cx}
theorem OpR.imp {f : Value → Value → Sem Value} {r r' : R2} (h : OpR X f r) (i : ∀ x y H Q, r' x y H Q → r x y H Q) : OpR X f r' := fun pins s σ H x y v u Q I rx ry q => h pins s σ H x y v u Q I rx ry (i x y H Q q)
def rEqW : R2 := fun x y H Q => ∃ a b, IsW H x a ∧ IsW H y b ∧ Q (.bl (decide (a = b))) H
def rNeW : R2 := fun x y H Q => ∃ a b, IsW H x a ∧ IsW H y b ∧ Q (.bl (!decide (a = b))) H
theorem op_eqW (hu : X.A.units + 64 < cLine) : OpR X (compareOp .Eq) rEqW := (op_eqD hu).imp fun x y H Q ⟨a, b, h1, h2, q⟩ => ⟨wd a, wd b, h1.rep, h2.rep, shp (lay_wd a) (by have := dep_wd a; omega), shp (lay_wd b) (by have := dep_wd b; omega), by rw [eqv_wd]; exact q⟩
theorem op_neW (hu : X.A.units + 64 < cLine) : OpR X (compareOp .NotEq) rNeW := (op_neD hu).imp fun x y H Q ⟨a, b, h1, h2, q⟩ => ⟨wd a, wd b, h1.rep, h2.rep, shp (lay_wd a) (by have := dep_wd a; omega), shp (lay_wd b) (by have := dep_wd b; omega), by rw [eqv_wd]; exact q⟩
/-- lists of words; lists of wishes -/
def WL (K : PySem.W.Frag) (H : Hp) (v : V) (l : List W) : Prop := ∃ a vs, v = .ref a ∧ SqL K H a vs ∧ Ws H vs l
def PL (K : PySem.W.Frag) (H : Hp) (v : V) (l : List (W × W)) : Prop := ∃ a vs, v = .ref a ∧ SqL K H a vs ∧ Ps H vs l
theorem WL.rep {K : PySem.W.Frag} {H : Hp} {v : V} {l : List W} (h : WL K H v l) : Rep K H v (.list (l.map wd)) := by
  obtain ⟨a, vs, rfl, h1, h2⟩ := h
  exact .lst h1 h2.reps
theorem PL.rep {K : PySem.W.Frag} {H : Hp} {v : V} {l : List (W × W)} (h : PL K H v l) : Rep K H v (.list (l.map pd)) := by
  obtain ⟨a, vs, rfl, h1, h2⟩ := h
  exact .lst h1 h2.reps
theorem eqv_pl (l m : List (W × W)) : PyData.eqv (.list (l.map pd)) (.list (m.map pd)) = decide (l = m) := by
  simp only [PyData.eqv]
  exact eqvAll_map eqv_pd l m
def rEqWL (K : PySem.W.Frag) : R2 := fun x y H Q => ∃ a b, WL K H x a ∧ WL K H y b ∧ Q (.bl (decide (a = b))) H
def rNeWL (K : PySem.W.Frag) : R2 := fun x y H Q => ∃ a b, WL K H x a ∧ WL K H y b ∧ Q (.bl (!decide (a = b))) H
def rEqPL (K : PySem.W.Frag) : R2 := fun x y H Q => ∃ a b, PL K H x a ∧ PL K H y b ∧ Q (.bl (decide (a = b))) H
def rNePL (K : PySem.W.Frag) : R2 := fun x y H Q => ∃ a b, PL K H x a ∧ PL K H y b ∧ Q (.bl (!decide (a = b))) H
theorem op_eqWL (hu : X.A.units + 64 < cLine) : OpR X (compareOp .Eq) (rEqWL X.K) := (op_eqD hu).imp fun x y H Q ⟨a, b, h1, h2, q⟩ => ⟨_, _, h1.rep, h2.rep, shp_list lay_wd dep_wd (by decide) a, shp_list lay_wd dep_wd (by decide) b, by rw [eqv_wl]; exact q⟩
theorem op_neWL (hu : X.A.units + 64 < cLine) : OpR X (compareOp .NotEq) (rNeWL X.K) := (op_neD hu).imp fun x y H Q ⟨a, b, h1, h2, q⟩ => ⟨_, _, h1.rep, h2.rep, shp_list lay_wd dep_wd (by decide) a, shp_list lay_wd dep_wd (by decide) b, by rw [eqv_wl]; exact q⟩
theorem op_eqPL (hu : X.A.units + 64 < cLine) : OpR X (compareOp .Eq) (rEqPL X.K) := (op_eqD hu).imp fun x y H Q ⟨a, b, h1, h2, q⟩ => ⟨_, _, h1.rep, h2.rep, shp_list lay_pd dep_pd (by decide) a, shp_list lay_pd dep_pd (by decide) b, by rw [eqv_pl]; exact q⟩
theorem op_nePL (hu : X.A.units + 64 < cLine) : OpR X (compareOp .NotEq) (rNePL X.K) := (op_neD hu).imp fun x y H Q ⟨a, b, h1, h2, q⟩ => ⟨_, _, h1.rep, h2.rep, shp_list lay_pd dep_pd (by decide) a, shp_list lay_pd dep_pd (by decide) b, by rw [eqv_pl]; exact q⟩
def rInWL (K : PySem.W.Frag) : R2 := fun x y H Q => ∃ a l, IsW H x a ∧ WL K H y l ∧ Q (.bl (decide (a ∈ l))) H
def rInPL (K : PySem.W.Frag) : R2 := fun x y H Q => ∃ a l, IsP H x a ∧ PL K H y l ∧ Q (.bl (decide (a ∈ l))) H
theorem op_inWL (hu : X.A.units + 65 < cLine) : OpR X (compareOp .In) (rInWL X.K) := (op_inD hu).imp fun x y H Q ⟨a, l, h1, h2, q⟩ => ⟨wd a, _, h1.rep, h2.rep, shp (lay_wd a) (by have := dep_wd a; omega), shp_list lay_wd dep_wd (by decide) l, by rw [any_in eqv_wd]; exact q⟩
theorem op_inPL (hu : X.A.units + 65 < cLine) : OpR X (compareOp .In) (rInPL X.K) := (op_inD hu).imp fun x y H Q ⟨a, l, h1, h2, q⟩ => ⟨pd a, _, h1.rep, h2.rep, shp (lay_pd a) (by have := dep_pd a; omega), shp_list lay_pd dep_pd (by decide) l, by rw [any_in eqv_pd]; exact q⟩
/-- lists of lists of words -/
def GL (K : PySem.W.Frag) (H : Hp) (v : V) (g : List (List W)) : Prop := ∃ a vs, v = .ref a ∧ SqL K H a vs ∧ Paired (WL K H) vs g
theorem glReps {K : PySem.W.Frag} {H : Hp} : ∀ {vs : List V} {g : List (List W)}, Paired (WL K H) vs g → Reps K H vs (g.map fun l => .list (l.map wd))
  | _, _, .nil => .nil
  | _, _, .cons a b => .cons a.rep (glReps b)
theorem eqv_gl (l m : List (List W)) : PyData.eqv (.list (l.map fun l => .list (l.map wd))) (.list (m.map fun l => .list (l.map wd))) = decide (l = m) := by
  simp only [PyData.eqv]
  exact eqvAll_map eqv_wl l m
def rEqGL (K : PySem.W.Frag) : R2 := fun x y H Q => ∃ a b, GL K H x a ∧ GL K H y b ∧ Q (.bl (decide (a = b))) H
def rNeGL (K : PySem.W.Frag) : R2 := fun x y H Q => ∃ a b, GL K H x a ∧ GL K H y b ∧ Q (.bl (!decide (a = b))) H
theorem GL.rep {K : PySem.W.Frag} {H : Hp} {v : V} {l : List (List W)} (h : GL K H v l) : Rep K H v (.list (l.map fun l => .list (l.map wd))) := by
  obtain ⟨a, vs, rfl, h1, h2⟩ := h
  exact .lst h1 (glReps h2)
theorem op_eqGL (hu : X.A.units + 64 < cLine) : OpR X (compareOp .Eq) (rEqGL X.K) := (op_eqD hu).imp fun x y H Q ⟨a, b, h1, h2, q⟩ => ⟨_, _, h1.rep, h2.rep, shp_list lay_wl dep_wl (by decide) a, shp_list lay_wl dep_wl (by decide) b, by rw [eqv_gl]; exact q⟩
theorem op_neGL (hu : X.A.units + 64 < cLine) : OpR X (compareOp .NotEq) (rNeGL X.K) := (op_neD hu).imp fun x y H Q ⟨a, b, h1, h2, q⟩ => ⟨_, _, h1.rep, h2.rep, shp_list lay_wl dep_wl (by decide) a, shp_list lay_wl dep_wl (by decide) b, by rw [eqv_gl]; exact q⟩
end
/-- xs.append(e) -/
theorem ps_app {X : Cx} {o e : Expr} {to te : TE} {p1 p2 p3 : Pos} (ho : PE X o to) (he : PE X e te) (hb : attributeBase o "append" X.env (eval o X.env) = eval o X.env := by rfl)
    (hf : ((backTo p2 (starEach [e] X.env)).all (fun x => !x.1) && (backToKw p2 (keywordEach [] X.env)).all (fun x => x.1.isSome) && decide (([e] : List Expr).length + ([] : List Keyword).length + (if ([] : List Keyword).isEmpty then 0 else 1) < 30)) = true := by rfl)
    (hl : (p1.endLine == p2.line) = true := by rfl) (hs : swapsWith (.Call (.Attribute o "append" p1) [e] [] p2) none p3.line X.env = pure false := by rfl) (s1 : starEach [e] X.env = (false, eval e X.env) :: starEach [] X.env := by rfl) :
    PS X (.Expr (.Call (.Attribute o "append" p1) [e] [] p2) p3) (tDrop (tBM X.K "list" rAppend to (tCons te tNil))) :=
  ps_expr (pe_bm (hbase := hb) (hfew := hf) (hline := hl) (hs := s1) PySem.F.plainAttrs_list PySem.F.slot_list_append PySem.F.type_list_append mt_append ho (pa_cons he pa_nil s1)) hs
end L2

end

section
set_option autoImplicit false
set_option maxRecDepth 100000
set_option linter.all false
namespace L2
open PySem PySem.Spec PyProof.Rows EoD Eo
def top (i : Nat) : Stmt := PySem.Challenge.pw_eitheror_k01_what_follows.main.body.getD i (.Pass ⟨0, 0, 0, 0⟩)
abbrev S_num : Stmt := top 11
abbrev S_word : Stmt := top 12
abbrev S_wish : Stmt := top 13
abbrev S_check : Stmt := top 14
abbrev S_opp : Stmt := top 15
section
variable {P : Program} {w : World} {K : PySem.W.Frag} {mg : Str → Option Value} {base : Heap}
/-! is_number -/
def sp_num : Sp := fun vs H Q _ => ∃ i, vs = [.int i] ∧ Q (.bl true) H
theorem sc_num : FnScope ["value"] ["value"] (defScope S_num) := ⟨rfl, rfl, rfl, by decide +kernel, rfl, by decide +kernel, by decide +kernel⟩
theorem ok_num (D : Def K mg "is_number" S_num ["value"]) (B : Bare mg) : Cal P w K mg base "is_number" 1 ["value"] sp_num := by
  refine D.cal (k := 0) sc_num (fun vs H Q E h => by obtain ⟨i, rfl, _⟩ := h; rfl) (fun f cdv A outer s H vs Q E hr h => ?_)
  obtain ⟨i, rfl, k⟩ := h
  refine ⟨_, pss_one (ps_ret (pe_and (pe_isin B (pv 0) rfl rfl B.int bt_int) (pe_one (pe_not (pe_isin B (pv 0) rfl rfl B.bool bt_bool))))), ?_⟩
  refine ⟨_, rfl, _, _, _, true, rfl, .int i, rfl, true, rfl, iteT ⟨_, rfl, _, _, _, false, rfl, .int i, rfl, false, rfl, k⟩⟩
/-! is_word -/
def sp_word : Sp := fun vs H Q _ => ∃ (N : Nat) (v : V) (x : W), vs = [.int N, v] ∧ IsW H v x ∧ InN N x ∧ Q (.bl true) H
theorem sc_word : FnScope ["names", "value"] ["names", "value"] (defScope S_word) := ⟨rfl, rfl, rfl, by decide +kernel, rfl, by decide +kernel, by decide +kernel⟩
theorem ok_word (D : Def K mg "is_word" S_word ["names", "value"]) (B : Bare mg) (cn : Cal P w K mg base "is_number" 1 ["value"] sp_num) : Cal P w K mg base "is_word" 2 ["names", "value"] sp_word := by
  refine D.cal (k := 1) sc_word (fun vs H Q E h => by obtain ⟨N, v, x, rfl, _⟩ := h; rfl) (fun f cdv A outer s H vs Q E hr h => ?_)
  obtain ⟨N, v, x, rfl, ⟨p, rfl, hp⟩, hx, k⟩ := h
  refine ⟨_, pss_cons (ps_if (PW.pt (pw_or (pt_not (pt_val (pe_isin B (pv 1) rfl rfl B.tup bt_tuple))) (pw_or1 (pt_cmpR op_ne (pe_callB call_len_seq rfl B.len bt_len (pa_cons (pv 1) pa_nil)) pe_int (nomark _))))) (pss_one (ps_ret pe_bl)) pss_nil)
    (pss_one (ps_ret (pe_and (pe_cal cn hr rfl (pa_cons (pe_ix ix_tup (pv 1) pe_int (fun _ _ => rfl)) pa_nil)) (pe_and (pe_chain op_le op_lt pe_int (pe_ix ix_tup (pv 1) pe_int (fun _ _ => rfl)) (pv 0)) (pe_one (pe_isin B (pe_ix ix_tup (pv 1) pe_int (fun _ _ => rfl)) rfl rfl B.bool bt_bool)))))), ?_⟩
  have h0 : atI [V.int x.1, V.bl x.2] 0 = some (V.int x.1) := rfl
  have h1 : atI [V.int x.1, V.bl x.2] 1 = some (V.bl x.2) := rfl
  refine ⟨_, rfl, _, _, _, true, rfl, .tup hp, rfl, true, rfl, iteF ⟨_, rfl, p, _, rfl, .inr (SqT.of hp), rfl, _, rfl, iteNS rfl ?_⟩⟩
  refine ⟨_, rfl, p, _, 0, _, rfl, rfl, SqT.of hp, h0, x.1, rfl, true, rfl, iteT ?_⟩
  refine ⟨_, rfl, p, _, 0, _, rfl, rfl, SqT.of hp, h0, ?_⟩
  refine ⟨_, _, rfl, rfl, _, rfl, iteP hx.1 ⟨_, rfl, _, _, rfl, rfl, _, rfl, iteP hx.2 ?_⟩⟩
  exact ⟨_, rfl, p, _, 1, _, rfl, rfl, SqT.of hp, h1, _, _, _, true, rfl, .bl _, rfl, k⟩
/-! is_wish -/
def sp_wish : Sp := fun vs H Q _ => ∃ (N : Nat) (v : V) (x : W × W), vs = [.int N, v] ∧ IsP H v x ∧ InN N x.1 ∧ InN N x.2 ∧ Q (.bl true) H
theorem sc_wish : FnScope ["names", "value"] ["names", "value"] (defScope S_wish) := ⟨rfl, rfl, rfl, by decide +kernel, rfl, by decide +kernel, by decide +kernel⟩
theorem ok_wish (D : Def K mg "is_wish" S_wish ["names", "value"]) (B : Bare mg) (cw : Cal P w K mg base "is_word" 2 ["names", "value"] sp_word) : Cal P w K mg base "is_wish" 3 ["names", "value"] sp_wish := by
  refine D.cal (k := 2) sc_wish (fun vs H Q E h => by obtain ⟨N, v, x, rfl, _⟩ := h; rfl) (fun f cdv A outer s H vs Q E hr h => ?_)
  obtain ⟨N, v, x, rfl, ⟨p, a, b, rfl, hp, ha, hb⟩, h1, h2, k⟩ := h
  refine ⟨_, pss_cons (ps_if (PW.pt (pw_or (pt_not (pt_val (pe_isin B (pv 1) rfl rfl B.tup bt_tuple))) (pw_or1 (pt_cmpR op_ne (pe_callB call_len_seq rfl B.len bt_len (pa_cons (pv 1) pa_nil)) pe_int (nomark _))))) (pss_one (ps_ret pe_bl)) pss_nil)
    (pss_one (ps_ret (pe_and (pe_cal cw hr rfl (pa_cons (pv 0) (pa_cons (pe_ix ix_tup (pv 1) pe_int (fun _ _ => rfl)) pa_nil))) (pe_one (pe_cal cw hr rfl (pa_cons (pv 0) (pa_cons (pe_ix ix_tup (pv 1) pe_int (fun _ _ => rfl)) pa_nil))))))), ?_⟩
  have i0 : atI [a, b] 0 = some a := rfl
  have i1 : atI [a, b] 1 = some b := rfl
  refine ⟨_, rfl, _, _, _, true, rfl, .tup hp, rfl, true, rfl, iteF ⟨_, rfl, p, _, rfl, .inr (SqT.of hp), rfl, _, rfl, iteNS rfl ?_⟩⟩
  refine ⟨_, rfl, _, rfl, p, _, 0, _, rfl, rfl, SqT.of hp, i0, N, a, x.1, rfl, ha, h1, true, rfl, iteT ?_⟩
  exact ⟨_, rfl, _, rfl, p, _, 1, _, rfl, rfl, SqT.of hp, i1, N, b, x.2, rfl, hb, h2, k⟩
/-- what the walk asks of the class House -/
structure TxtH (K : PySem.W.Frag) (C : Addr) : Prop where
  cl : Cls K C
  nN : NoAttr K C "names"
  nK : NoAttr K C "kept"
/-! check_word -/
def sp_check (C : Addr) : Sp := fun vs H Q _ => ∃ (h v : V) (N : Nat) (ws : List (W × W)) (x : W), vs = [h, v] ∧ HouseAt C H h N ws ∧ IsW H v x ∧ InN N x ∧ Q .non H
theorem sc_check : FnScope ["house", "value"] ["house", "value"] (defScope S_check) := ⟨rfl, rfl, rfl, by decide +kernel, rfl, by decide +kernel, by decide +kernel⟩
theorem ok_check {C : Addr} (D : Def K mg "check_word" S_check ["house", "value"]) (T : TxtH K C) (cw : Cal P w K mg base "is_word" 2 ["names", "value"] sp_word) : Cal P w K mg base "check_word" 3 ["house", "value"] (sp_check C) := by
  refine D.cal (k := 2) sc_check (fun vs H Q E h => by obtain ⟨_, _, _, _, _, rfl, _⟩ := h; rfl) (fun f cdv A outer s H vs Q E hr h => ?_)
  obtain ⟨h, v, N, ws, x, rfl, ⟨p, dx, q, us, rfl, hp, _⟩, hv, hx, k⟩ := h
  refine ⟨_, pss_one (ps_if (pt_not (pt_val (pe_cal cw hr rfl (pa_cons (pe_fld (pv 0) rfl) (pa_cons (pv 1) pa_nil))))) pss_never pss_nil), ?_⟩
  exact ⟨_, rfl, p, C, dx, _, _, rfl, hp, T.cl, T.nN, flds_names _ _, _, rfl, N, v, x, rfl, hv, hx, true, rfl, iteF k⟩
/-! opposite -/
def sp_opp : Sp := fun vs H Q _ => ∃ (v : V) (x : W), vs = [v] ∧ IsW H v x ∧ ∀ H' v', Same H H' → IsW H' v' (neg x) → Q v' H'
theorem sc_opp : FnScope ["word"] ["word"] (defScope S_opp) := ⟨rfl, rfl, rfl, by decide +kernel, rfl, by decide +kernel, by decide +kernel⟩
theorem ok_opp (D : Def K mg "opposite" S_opp ["word"]) : Cal P w K mg base "opposite" 1 ["word"] sp_opp := by
  refine D.cal (k := 0) sc_opp (fun vs H Q E h => by obtain ⟨_, _, rfl, _⟩ := h; rfl) (fun f cdv A outer s H vs Q E hr h => ?_)
  obtain ⟨v, x, rfl, ⟨p, rfl, hp⟩, k⟩ := h
  refine ⟨_, pss_one (ps_ret (pe_tup (pa_cons (pe_ix ix_tup (pv 0) pe_int (fun _ _ => rfl)) (pa_cons (pe_not (pe_ix ix_tup (pv 0) pe_int (fun _ _ => rfl))) pa_nil)))), ?_⟩
  have i0 : atI [V.int x.1, V.bl x.2] 0 = some (V.int x.1) := rfl
  have i1 : atI [V.int x.1, V.bl x.2] 1 = some (V.bl x.2) := rfl
  refine ⟨_, rfl, p, _, 0, _, rfl, rfl, SqT.of hp, i0, _, rfl, p, _, 1, _, rfl, rfl, SqT.of hp, i1, _, rfl, (by show 2 ≤ sizeLine; decide), fun q hq => ?_⟩
  exact k _ _ (Same.laid hq) ⟨q, rfl, upd_same⟩
end
end L2

end

section
set_option autoImplicit false
set_option maxRecDepth 100000
set_option linter.all false
namespace L2
open PySem PySem.Spec PyProof.Rows EoD Eo
abbrev S_all : Stmt := top 16
abbrev S_said : Stmt := top 17
abbrev S_wishes : Stmt := inClass (top 7) 1
/-- a new list of words -/
def NewWs (H H' : Hp) (v : V) (l : List W) : Prop := ∃ a vs, v = .ref a ∧ H a = none ∧ H' a = some (.lst vs) ∧ Ws H' vs l
theorem allW_two (N i : Nat) (h : i < N) : (allW N).take (2 * (i + 1)) = (allW N).take (2 * i) ++ [((i : Int), false)] ++ [((i : Int), true)] := by
  have e1 : (allW N)[2 * i]? = some ((i : Int), false) := by
    rw [allW_get (by omega)]
    have : 2 * i / 2 = i := by omega
    have h2 : 2 * i % 2 = 0 := by omega
    rw [this, h2]; rfl
  have e2 : (allW N)[2 * i + 1]? = some ((i : Int), true) := by
    rw [allW_get (by omega)]
    have : (2 * i + 1) / 2 = i := by omega
    have h2 : (2 * i + 1) % 2 = 1 := by omega
    rw [this, h2]; rfl
  rw [show 2 * (i + 1) = 2 * i + 1 + 1 by omega, List.take_add_one, List.take_add_one, e1, e2]
  rfl
section
variable {P : Program} {w : World} {K : PySem.W.Frag} {mg : Str → Option Value} {base : Heap} {C : Addr}
/-! all_words -/
def sp_all (C : Addr) : Sp := fun vs H Q _ => ∃ (h : V) (N : Nat) (ws : List (W × W)), vs = [h] ∧ HouseAt C H h N ws ∧ N ≤ 8 ∧ ∀ H' v, Same H H' → NewWs H H' v (allW N) → Q v H'
theorem sc_all : FnScope ["house", "words", "name"] ["house"] (defScope S_all) := ⟨rfl, rfl, rfl, by decide +kernel, rfl, by decide +kernel, by decide +kernel⟩
theorem ok_all (D : Def K mg "all_words" S_all ["house"]) (B : Bare mg) (T : TxtH K C) : Cal P w K mg base "all_words" 1 ["house"] (sp_all C) := by
  refine D.cal (k := 0) sc_all (fun vs H Q E h => by obtain ⟨_, _, _, rfl, _⟩ := h; rfl) (fun f cdv A outer s H vs Q E hr h => ?_)
  obtain ⟨h, N, ws, rfl, ⟨p, dx, q, us, rfl, hp, _⟩, hN, k⟩ := h
  refine ⟨_, pss_cons (ps_set (i := 1) sc_all.nd rfl (Or.inl rfl) (pe_lst pa_nil)) (pss_cons (ps_for PassesOwn.never rfl (pi_range1 rfl B.rng (pa_cons (pe_fld (pv 0) rfl) pa_nil)) (pg_name (i := 2) sc_all.nd rfl (Or.inl rfl))
    (pss_cons (ps_app (pv 1) (pe_tup (pa_cons (pv 2) (pa_cons pe_bl pa_nil)))) (pss_one (ps_app (pv 1) (pe_tup (pa_cons (pv 2) (pa_cons pe_bl pa_nil))))))) (pss_one (ps_ret (pv 1)))), ?_⟩
  refine ⟨Nat.zero_le _, fun l hl => ?_⟩
  have s1 : Same H (upd H l (.lst [])) := Same.laid hl
  refine ⟨_, rfl, p, C, dx, _, _, rfl, s1 _ _ hp, T.cl, T.nN, flds_names _ _, (N : Int), rfl, by omega, by omega, for_range (n := (N : Int).toNat) (fun i σ H2 => ∃ (vs : List V) (v : Option V), σ = [some (.ref p), some (.ref l), v] ∧ Same H H2 ∧ H2 l = some (.lst vs) ∧ Ws H2 vs ((allW N).take (2 * i)) ∧ vs.length = 2 * i)
    ⟨[], none, rfl, s1, upd_same, by simpa using Paired.nil, rfl⟩ ?_ ?_⟩
  · rintro i σ H2 hi ⟨vs, v, rfl, s2, el, wl, nl⟩
    have hi' : i < N := by simpa using hi
    refine ⟨_, rfl, .inl ⟨rfl, _, SqL.of el⟩, _, rfl, (by show 2 ≤ sizeLine; decide), fun t ht => ?_⟩
    have nt : l ≠ t := ne_of_none el ht
    have el1 : (upd H2 t (.tup [V.int (0 + (i : Int)), V.bl false])) l = some (.lst vs) := by rw [upd_ne nt]; exact el
    refine ⟨l, vs, _, rfl, rfl, el1, (by rw [sizeLine_eq]; omega), ?_⟩
    refine ⟨_, rfl, .inl ⟨rfl, _, SqL.of upd_same⟩, _, rfl, (by show 2 ≤ sizeLine; decide), fun u hu => ?_⟩
    have nu : l ≠ u := ne_of_none upd_same hu
    refine ⟨l, _, _, rfl, rfl, (by rw [upd_ne nu]; exact upd_same), (by rw [List.length_append, sizeLine_eq]; show vs.length + 1 < _; omega), ?_⟩
    generalize hT : upd (upd (upd (upd H2 t (.tup [V.int (0 + (i : Int)), V.bl false])) l (.lst (vs ++ [.ref t]))) u (.tup [V.int (0 + (i : Int)), V.bl true])) l (.lst (vs ++ [.ref t] ++ [.ref u])) = H3
    have tp : Tups H2 H3 := by
      rw [← hT]
      refine ((((Same.laid ht).tups).trans (Tups.upd (by rw [el1]; intro _ z; cases z))).trans (Same.laid hu).tups).trans (Tups.upd (by rw [upd_ne nu, upd_same]; intro _ z; cases z))
    have htu : t ≠ u := ne_of_none (H := upd (upd H2 t (.tup [V.int (0 + (i : Int)), V.bl false])) l (.lst (vs ++ [.ref t]))) (by rw [upd_ne nt.symm]; exact upd_same) hu
    refine ⟨vs ++ [.ref t] ++ [.ref u], _, rfl, ?_, by rw [← hT]; exact upd_same, ?_, by simp [nl]; omega⟩
    · rw [← hT]
      exact (((s2.laidT ht).chg hl).laidT hu).chg hl
    · rw [allW_two N i hi']
      refine ((Ws.tups tp wl).snoc ⟨t, rfl, ?_⟩).snoc ⟨u, rfl, ?_⟩
      · rw [← hT, upd_ne nt.symm, upd_ne htu, upd_ne nt.symm, upd_same]
        simp
      · rw [← hT, upd_ne nu.symm, upd_same]
        simp
  · rintro σ H2 ⟨vs, v, rfl, s2, el, wl, nl⟩
    refine ⟨_, rfl, k H2 _ s2 ⟨l, vs, rfl, hl, el, ?_⟩⟩
    have e : 2 * (N : Int).toNat = (allW N).length := by rw [allW_len]; simp
    rw [e, List.take_length] at wl
    exact wl
/-! House.wishes -/
def sp_wishes (C : Addr) : Sp := fun vs H Q _ => ∃ (h : V) (N : Nat) (ws : List (W × W)), vs = [h] ∧ HouseAt C H h N ws ∧ ∀ l us, H l = none → Ps H us ws → us.length ≤ 24 → Q (.ref l) (upd H l (.lst us))
theorem sc_wishes : FnScope ["self"] ["self"] (defScope S_wishes) := ⟨rfl, rfl, rfl, by decide +kernel, rfl, by decide +kernel, by decide +kernel⟩
theorem ok_wishes {f : Addr} {fd : FuncData} (F : Fun K "wishes" "House.wishes" S_wishes f fd) (B : Bare mg) (T : TxtH K C) : FnOk P w K mg base CX0 1 f fd ["self"] (sp_wishes C) := by
  refine F.ok sc_wishes (fun vs H Q E h => by obtain ⟨_, _, _, rfl, _⟩ := h; rfl) (fun cdv A outer s H vs Q E hr h => ?_)
  obtain ⟨h, N, ws, rfl, ⟨p, dx, q, us, rfl, hp, hq, hu, hn⟩, k⟩ := h
  refine ⟨_, pss_one (ps_ret (pe_callTy call_list_of rfl B.lst bt_list (pa_cons (pe_fld (pv 0) rfl) pa_nil))), ?_⟩
  exact ⟨_, rfl, p, C, dx, _, _, rfl, hp, T.cl, T.nK, flds_kept _ _, q, us, rfl, .inr (SqT.of hq), fun l hl => k l us hl hu hn⟩
/-- the method wishes may be called -/
def CalW (P : Program) (w : World) (K : PySem.W.Frag) (mg : Str → Option Value) (base : Heap) (C : Addr) : Prop := ∃ f fd, FnOk P w K mg base CX0 1 f fd ["self"] (sp_wishes C) ∧ Meth K C "wishes" f ∧ Binds K fd ["self"] []
theorem pe_wishes {X : Cx} {o : Expr} {to : TE} {p1 p2 : Pos} (c : CalW X.prog X.w X.K X.mg X.base C) (T : TxtH X.K C) (hr : Room 1 X.A) (ho : PE X o to) {pl : Sem Bool}
    (ht : eval (.Call (.Attribute o "wishes" p1) [] [] p2) X.env = (do
      let ov ← eval o X.env
      standAt p1.atName
      let (f, first) ← holding [ov] (getMethod ov "wishes" pl)
      callWith p2 f first (backTo p2 (starEach [] X.env)) (backToKw p2 (keywordEach [] X.env))) := by rfl) : PE X (.Call (.Attribute o "wishes" p1) [] [] p2) (tMeth C "wishes" (sp_wishes C) [] E0 to tNil) :=
  let ⟨_, _, F, m, b⟩ := c; pe_meth0 ho T.cl m F hr b .nil pass0 ht
end
end L2

end

section
set_option autoImplicit false
set_option maxRecDepth 100000
set_option linter.all false
namespace L2
open PySem PySem.Spec PyProof.Rows EoD Eo
abbrev S_ahead : Stmt := top 18
theorem said_take (ws : List (W × W)) (x : W) (i : Nat) (p : W × W) (h : ws[i]? = some p) : said (ws.take (i + 1)) x = said (ws.take i) x ++ (if p.1 = neg x then [p.2] else []) ++ (if p.2 = neg x then [p.1] else []) := by
  rw [List.take_add_one, h]
  unfold said
  rw [List.flatMap_append]
  simp [List.append_assoc]
section
variable {P : Program} {w : World} {K : PySem.W.Frag} {mg : Str → Option Value} {base : Heap} {C : Addr}
/-! said_next -/
theorem said_if {i j : Int} {D : Ends} {σ : St} {H : Hp} {wq f : Addr} {a b ai aj dv : V} {xi d : W} {vs : List V} (e4 : σ[4]? = some (some (.ref wq))) (e2 : σ[2]? = some (some dv)) (e3 : σ[3]? = some (some (.ref f))) (hw : H wq = some (.tup [a, b])) (hi : atI [a, b] i = some ai) (hj : atI [a, b] j = some aj)
    (wi : IsW H ai xi) (wdv : IsW H dv d) (ef : H f = some (.lst vs)) (sz : vs.length < sizeLine) (k1 : xi = d → D.nx σ (upd H f (.lst (vs ++ [aj])))) (k2 : ¬ xi = d → D.nx σ H) :
    tIfS (tTest (tOp rEqW (tOp (rIxT K) (tVar 4) (tC (.int i))) (tVar 2))) (tDrop (tBM K "list" rAppend (tVar 3) (tCons (tOp (rIxT K) (tVar 4) (tC (.int j))) tNil))) tNext D σ H := by
  refine ⟨_, e4, wq, _, i, _, rfl, rfl, SqT.of hw, hi, _, e2, xi, d, wi, wdv, _, rfl, iteD (fun e => ?_) (fun e => k2 e)⟩
  exact ⟨_, e3, .inl ⟨rfl, _, SqL.of ef⟩, _, e4, wq, _, j, _, rfl, rfl, SqT.of hw, hj, f, vs, _, rfl, rfl, ef, sz, k1 e⟩
def sp_said (C : Addr) : Sp := fun vs H Q _ => ∃ (h v : V) (N : Nat) (ws : List (W × W)) (x : W), vs = [h, v] ∧ HouseAt C H h N ws ∧ IsW H v x ∧ ∀ H' v', Same H H' → NewWs H H' v' (said ws x) → Q v' H'
theorem sc_said : FnScope ["house", "word", "denied", "found", "wish"] ["house", "word"] (defScope S_said) := ⟨rfl, rfl, rfl, by decide +kernel, rfl, by decide +kernel, by decide +kernel⟩
theorem ok_said (D : Def K mg "said_next" S_said ["house", "word"]) (T : TxtH K C) (co : Cal P w K mg base "opposite" 1 ["word"] sp_opp) (cw : CalW P w K mg base C) : Cal P w K mg base "said_next" 2 ["house", "word"] (sp_said C) := by
  refine D.cal (k := 1) sc_said (fun vs H Q E h => by obtain ⟨_, _, _, _, _, rfl, _⟩ := h; rfl) (fun f cdv A outer s H vs Q E hr h => ?_)
  obtain ⟨h, v, N, ws, x, rfl, hh, hv, k⟩ := h
  have hu := hr.units
  refine ⟨_, pss_cons (ps_set (i := 2) sc_said.nd rfl (Or.inl rfl) (pe_cal co hr rfl (pa_cons (pv 1) pa_nil))) (pss_cons (ps_set (i := 3) sc_said.nd rfl (Or.inl rfl) (pe_lst pa_nil)) (pss_cons (ps_for PassesOwn.never rfl (pi_list (pe_wishes cw T hr (pv 0))) (pg_name (i := 4) sc_said.nd rfl (Or.inl rfl))
    (pss_cons (ps_if (pt_cmpR (op_eqW hu) (pe_ix ix_tup (pv 4) pe_int (fun _ _ => rfl)) (pv 2) (nomark _)) (pss_one (ps_app (pv 3) (pe_ix ix_tup (pv 4) pe_int (fun _ _ => rfl)))) pss_nil)
      (pss_one (ps_if (pt_cmpR (op_eqW hu) (pe_ix ix_tup (pv 4) pe_int (fun _ _ => rfl)) (pv 2) (nomark _)) (pss_one (ps_app (pv 3) (pe_ix ix_tup (pv 4) pe_int (fun _ _ => rfl)))) pss_nil)))) (pss_one (ps_ret (pv 3))))), ?_⟩
  refine ⟨_, rfl, v, x, rfl, hv, fun H1 dv s1 hd => ⟨Nat.zero_le _, fun g hg => ?_⟩⟩
  have s2 : Same H (upd H1 g (.lst [])) := s1.laidT hg
  have hh2 := hh.same s2
  obtain ⟨p, dx, q, us0, rfl, hp, _⟩ := id hh2
  have ng : H g = none := s1.free hg
  refine ⟨_, rfl, p, dx, _, rfl, hp, flds_no _ _ (by decide +kernel) (by decide +kernel), _, N, ws, rfl, hh2, fun l us hl hu' hn => ⟨l, rfl, ⟨_, SqL.of upd_same⟩, ?_⟩⟩
  have lg : l ≠ g := fun z => by rw [z, upd_same] at hl; cases hl
  have nl : H l = none := s2.free hl
  refine for_list (K := K) (a := l) (xs := us) (fun i σ H2 => ∃ (vs : List V) (z : Option V), σ = [some (.ref p), some v, some dv, some (.ref g), z] ∧ Same H H2 ∧ H2 l = some (.lst us) ∧ Ps H2 us ws ∧ IsW H2 dv (neg x) ∧ H2 g = some (.lst vs) ∧ Ws H2 vs (said (ws.take i) x) ∧ vs.length ≤ 2 * i)
    ⟨[], none, rfl, s2.laidT hl, upd_same, hu'.same (Same.laid hl), hd.same ((Same.laid hg).laidT hl), by rw [upd_ne lg.symm]; exact upd_same, .nil, Nat.le_refl _⟩ (fun i σ H2 _ ⟨_, _, _, _, z, _⟩ => SqL.of z) ?_ ?_
  · rintro i y σ H2 hi ⟨vs, z, rfl, sH, el, pu, wd', eg, wv, nv⟩
    obtain ⟨pr, hpr, wq, a, b, rfl, hw, ha, hb⟩ := paired_get pu hi
    have hil : i < us.length := (List.getElem?_eq_some_iff.mp hi).1
    have i0 : atI [a, b] 0 = some a := rfl
    have i1 : atI [a, b] 1 = some b := rfl
    have sz : vs.length < sizeLine := by rw [sizeLine_eq]; omega
    have tpg : ∀ {H3 : Hp} {vs' : List V} {o : HO}, H3 g = some (.lst vs') → Tups H3 (upd H3 g o) := fun {H3 vs' o} e => Tups.upd (by rw [e]; intro _ z; cases z)
    have fin : ∀ (H3 : Hp) (vs3 : List V), Same H H3 → H3 l = some (.lst us) → Tups H2 H3 → H3 g = some (.lst vs3) → Ws H3 vs3 (said (ws.take (i + 1)) x) → vs3.length ≤ 2 * (i + 1) →
        ∃ (vs : List V) (z : Option V), [some (.ref p), some v, some dv, some (.ref g), some (.ref wq)] = [some (.ref p), some v, some dv, some (.ref g), z] ∧ Same H H3 ∧ H3 l = some (.lst us) ∧ Ps H3 us ws ∧ IsW H3 dv (neg x) ∧ H3 g = some (.lst vs) ∧ Ws H3 vs (said (ws.take (i + 1)) x) ∧ vs.length ≤ 2 * (i + 1) :=
      fun H3 vs3 a1 a2 a3 a4 a5 a6 => ⟨vs3, _, rfl, a1, a2, pu.tups a3, wd'.tups a3, a4, a5, a6⟩
    refine said_if (K := K) (xi := pr.1) rfl rfl rfl hw i0 i1 ha wd' eg sz (fun e1 => ?_) (fun e1 => ?_)
    · have t1 : Tups H2 (upd H2 g (.lst (vs ++ [b]))) := tpg eg
      refine said_if (K := K) (xi := pr.2) rfl rfl rfl (t1 _ _ hw) i1 i0 (hb.tups t1) (wd'.tups t1) upd_same (by rw [List.length_append, sizeLine_eq]; show vs.length + 1 < _; omega) (fun e2 => ?_) (fun e2 => ?_)
      · have t2 : Tups H2 (upd (upd H2 g (.lst (vs ++ [b]))) g (.lst (vs ++ [b] ++ [a]))) := t1.trans (tpg upd_same)
        refine fin _ (vs ++ [b] ++ [a]) ((sH.chg ng).chg ng) (by rw [upd_ne lg, upd_ne lg]; exact el) t2 upd_same ?_ (by simp; omega)
        rw [said_take ws x i pr hpr, if_pos e1, if_pos e2]
        exact ((Ws.tups t2 wv).snoc (hb.tups t2)).snoc (ha.tups t2)
      · refine fin _ (vs ++ [b]) (sH.chg ng) (by rw [upd_ne lg]; exact el) t1 upd_same ?_ (by simp; omega)
        rw [said_take ws x i pr hpr, if_pos e1, if_neg e2, List.append_nil]
        exact (Ws.tups t1 wv).snoc (hb.tups t1)
    · refine said_if (K := K) (xi := pr.2) rfl rfl rfl hw i1 i0 hb wd' eg sz (fun e2 => ?_) (fun e2 => ?_)
      · have t1 : Tups H2 (upd H2 g (.lst (vs ++ [a]))) := tpg eg
        refine fin _ (vs ++ [a]) (sH.chg ng) (by rw [upd_ne lg]; exact el) t1 upd_same ?_ (by simp; omega)
        rw [said_take ws x i pr hpr, if_neg e1, if_pos e2, List.append_nil]
        exact (Ws.tups t1 wv).snoc (ha.tups t1)
      · refine fin _ vs sH el (fun _ _ z => z) eg ?_ (by omega)
        rw [said_take ws x i pr hpr, if_neg e1, if_neg e2, List.append_nil, List.append_nil]
        exact wv
  · rintro σ H2 ⟨vs, z, rfl, sH, el, pu, wd', eg, wv, nv⟩
    have e : us.length = ws.length := Paired.length pu
    rw [e, List.take_length] at wv
    exact ⟨_, rfl, k H2 _ sH ⟨g, vs, rfl, ng, eg, wv⟩⟩
end
end L2

end

section
set_option autoImplicit false
set_option maxRecDepth 100000
set_option linter.all false
namespace L2
open PySem PySem.Spec PyProof.Rows EoD Eo
def AhV (H : Hp) (v : V) : Option W → Prop
  | none => v = .non
  | some u => IsW H v u
theorem AhV.tups {H H' : Hp} {v : V} {o : Option W} (e : Tups H H') (h : AhV H v o) : AhV H' v o := by
  cases o with
  | none => exact h
  | some u => exact IsW.tups e h
abbrev AhR (H : Hp) : List (W × V) → List T → Prop := Paired fun kv t => kv.1 = t.1 ∧ AhV H kv.2 t.2.1
theorem AhR.tups {H H' : Hp} {kvs : List (W × V)} {G : List T} (e : Tups H H') (h : AhR H kvs G) : AhR H' kvs G := Paired.mapP h fun _ _ z => ⟨z.1, z.2.tups e⟩
theorem AhR.keys {H : Hp} : ∀ {kvs : List (W × V)} {G : List T}, AhR H kvs G → kvs.map (·.1) = G.map (·.1)
  | _, _, .nil => rfl
  | _, _, .cons h t => by rw [List.map_cons, List.map_cons, h.1, AhR.keys t]
theorem val_none {kvs : List (W × V)} {k : W} : valV kvs k = none ↔ k ∉ kvs.map (·.1) := by
  have h := valV_any k kvs
  constructor
  · intro e hm
    obtain ⟨p, hp, ep⟩ := List.mem_map.mp hm
    have : (kvs.any fun kv => decide (kv.1 = k)) = true := List.any_eq_true.mpr ⟨p, hp, decide_eq_true ep⟩
    rw [h, e] at this
    cases this
  · intro hm
    cases e : valV kvs k with
    | none => rfl
    | some v =>
      rw [e] at h
      obtain ⟨p, hp, ep⟩ := List.any_eq_true.mp h
      exact absurd (List.mem_map.mpr ⟨p, hp, of_decide_eq_true ep⟩) hm
theorem AhR.val {H : Hp} {k : W} : ∀ {kvs : List (W × V)} {G : List T}, AhR H kvs G → (G.map (·.1)).Nodup → ∀ {q : Option W} {d : Nat}, (k, q, d) ∈ G → ∃ v, valV kvs k = some v ∧ AhV H v q
  | _, _, .nil, _, q, d, h => by simp at h
  | kv :: kvs, t :: G, .cons r rs, nd, q, d, h => by
    have nd' := List.nodup_cons.mp (show (t.1 :: G.map (·.1)).Nodup from nd)
    by_cases e : kv.1 = k
    · have e' : t.1 = k := r.1.symm.trans e
      rcases List.mem_cons.mp h with z | z
      · refine ⟨kv.2, valV_pos e, ?_⟩
        have := r.2
        rw [← z] at this
        exact this
      · exact absurd (List.mem_map.mpr ⟨_, z, e'.symm⟩) nd'.1
    · have e' : ¬ t.1 = k := fun z => e (r.1.trans z)
      rcases List.mem_cons.mp h with z | z
      · exact absurd (by rw [← z]) e'
      · obtain ⟨v, h1, h2⟩ := AhR.val rs nd'.2 z
        exact ⟨v, by rw [valV_neg e]; exact h1, h2⟩
theorem DW.obj {P : Program} {w : World} {H : Hp} {a : Addr} {kvs : List (W × V)} (d : DW P w H a kvs) : ∃ φ, H a = some (.ext φ) := let ⟨_, h, _⟩ := d.ex; ⟨_, h⟩
theorem DW.notup {P : Program} {w : World} {H : Hp} {a : Addr} {kvs : List (W × V)} (d : DW P w H a kvs) {o : HO} : Tups H (upd H a o) := by
  obtain ⟨φ, h⟩ := d.obj
  exact Tups.upd (by rw [h]; intro _ z; cases z)
theorem lst_notup {H : Hp} {a : Addr} {vs : List V} {o : HO} (h : H a = some (.lst vs)) : Tups H (upd H a o) := Tups.upd (by rw [h]; intro _ z; cases z)
theorem DW.upd {P : Program} {w : World} {H : Hp} {a b : Addr} {kvs : List (W × V)} {vs : List V} {o : HO} (d : DW P w H a kvs) (h : H b = some (.lst vs)) : DW P w (upd H b o) a kvs := by
  obtain ⟨xs, h1, h2, h3⟩ := d.ex
  refine ⟨⟨xs, ?_, fun x hx => lst_notup h _ _ (h2 x hx), h3⟩, d.len⟩
  rw [upd_ne (ne_of h1 h (by intro z; cases z))]
  exact h1
section
variable {P : Program} {w : World} {K : PySem.W.Frag} {mg : Str → Option Value} {base : Heap} {C : Addr}
/-! words_ahead -/
def sp_ahead (P : Program) (w : World) (C : Addr) : Sp := fun vs H Q _ => ∃ (h v : V) (N : Nat) (ws : List (W × W)) (x : W), vs = [h, v] ∧ HouseAt C H h N ws ∧ GoodH N ws ∧ IsW H v x ∧ InN N x ∧
  ∀ H' d G kvs, Same H H' → H d = none → Found ws x G → DW P w H' d kvs → AhR H' kvs G → Q (.ref d) H'
theorem sc_ahead : FnScope ["house", "word", "ahead", "reached", "at", "current", "found"] ["house", "word"] (defScope S_ahead) := ⟨rfl, rfl, rfl, by decide +kernel, rfl, by decide +kernel, by decide +kernel⟩
theorem ok_ahead (D : Def K mg "words_ahead" S_ahead ["house", "word"]) (B : Bare mg) (cs : Cal P w K mg base "said_next" 2 ["house", "word"] (sp_said C)) : Cal P w K mg base "words_ahead" 3 ["house", "word"] (sp_ahead P w C) := by
  refine D.cal (k := 2) sc_ahead (fun vs H Q E h => by obtain ⟨_, _, _, _, _, rfl, _⟩ := h; rfl) (fun f cdv A outer s H vs Q E hr h => ?_)
  obtain ⟨h, v, N, ws, x, rfl, hh, gh, hv, hx, k⟩ := h
  have hu := hu_of hr
  refine ⟨_, pss_cons (ps_set (i := 2) sc_ahead.nd rfl (Or.inl rfl) (pe_wone hr.units0 (pv 1) pe_non)) (pss_cons (ps_set (i := 3) sc_ahead.nd rfl (Or.inl rfl) (pe_lst (pa_cons (pv 1) pa_nil))) (pss_cons (ps_set (i := 4) sc_ahead.nd rfl (Or.inl rfl) pe_int)
    (pss_cons (ps_while PassesOwn.never (pt_cmpR op_lt (pv 4) (pe_callB call_len_seq rfl B.len bt_len (pa_cons (pv 3) pa_nil)) (nomark _))
      (pss_cons (ps_set (i := 5) sc_ahead.nd rfl (Or.inl rfl) (pe_ix ix_list (pv 3) (pv 4) (fun _ _ => rfl)))
      (pss_cons (ps_for PassesOwn.never rfl (pi_list (pe_cal cs hr rfl (pa_cons (pv 0) (pa_cons (pv 5) pa_nil)))) (pg_name (i := 6) sc_ahead.nd rfl (Or.inl rfl))
        (pss_one (ps_if (pt_cmpR (op_niW hu) (pv 6) (pv 2) (by with_unfolding_all rfl)) (pss_cons (ps_wput hu (pv 2) (pv 6) (pv 5)) (pss_one (ps_app (pv 3) (pv 6)))) pss_nil)))
      (pss_one (ps_set (i := 4) sc_ahead.nd rfl (Or.inl rfl) (pe_op op_add (pv 4) pe_int)))))) (pss_one (ps_ret (pv 2)))))), ?_⟩
  intro d o hd
  have sd : Same H (upd H d o) := Same.laid hd
  refine ⟨_, rfl, x, hv.same sd, upd_same, fun o' dw => ⟨_, rfl, by show 1 ≤ sizeLine; decide, fun r hr' => ?_⟩⟩
  generalize hH1 : upd (upd H d o) d o' = H1 at dw hr' ⊢
  have s1 : Same H H1 := by rw [← hH1]; exact sd.chg hd
  have nr : H r = none := s1.free hr'
  have s2 : Same H (upd H1 r (.lst [v])) := s1.laidT hr'
  have t12 : Same H1 (upd H1 r (.lst [v])) := Same.laid hr'
  refine ⟨fun m σ H2 => ∃ (i : Nat) (G : List T) (kvs : List (W × V)) (rs : List V) (c1 c2 : Option V), σ = [some h, some v, some (.ref d), some (.ref r), some (.int i), c1, c2] ∧ m + i = 2 * N + 1 ∧ Same H H2 ∧ DW P w H2 d kvs ∧ AhR H2 kvs G ∧ H2 r = some (.lst rs) ∧ Ws H2 rs (G.map (·.1)) ∧ Bfs ws x i G ∧ i ≤ G.length,
    ⟨2 * N + 1, 0, [(x, none, 0)], [(x, .non)], [v], none, none, rfl, rfl, s2, dw.same t12, .cons ⟨rfl, rfl⟩ .nil, upd_same, .cons (hv.same s2) .nil, bfs_start ws x, by simp⟩, ?_⟩
  rintro m σ H2 ⟨i, G, kvs, rs, c1, c2, rfl, em, sH, dw2, ah, er, wr, bf, hi⟩
  have lr : rs.length = G.length := by rw [Paired.length wr, List.length_map]
  have lG := bf.toCore.len gh.good hx
  refine ⟨_, rfl, _, rfl, r, rs, rfl, .inl (SqL.of er), _, _, rfl, rfl, _, rfl, iteD (fun lt => ?_) (fun ge => ?_)⟩
  · have lt' : i < rs.length := by omega
    obtain ⟨cv, hcv⟩ : ∃ cv, rs[i]? = some cv := ⟨rs[i], List.getElem?_eq_getElem lt'⟩
    obtain ⟨cw, hcw, iscv⟩ := paired_get wr hcv
    obtain ⟨c, hc, ec⟩ : ∃ c, G[i]? = some c ∧ c.1 = cw := by
      rw [List.getElem?_map] at hcw
      obtain ⟨c, h1, h2⟩ := Option.map_eq_some_iff.mp hcw
      exact ⟨c, h1, h2⟩
    subst ec
    refine ⟨_, fun σ' H' nx => nx, ?_⟩
    refine ⟨_, rfl, _, rfl, r, rs, _, cv, rfl, rfl, SqL.of er, atI_nat hcv, ?_⟩
    refine ⟨_, rfl, _, rfl, h, cv, N, ws, c.1, rfl, hh.same sH, iscv, fun H3 sv s23 nw => ?_⟩
    obtain ⟨sl, ss, rfl, nsl, esl, wss⟩ := nw
    have dr : d ≠ r := by
      obtain ⟨φ, e⟩ := dw2.obj
      exact ne_of e er (by intro z; cases z)
    have nsr : sl ≠ r := (ne_of_none er nsl).symm
    have nsd : sl ≠ d := by
      obtain ⟨φ, e⟩ := dw2.obj
      exact (ne_of_none e nsl).symm
    refine ⟨sl, rfl, ⟨_, SqL.of esl⟩, for_list (K := K) (a := sl) (xs := ss) (fun j σ H4 => ∃ (G' : List T) (kvs' : List (W × V)) (rs' : List V) (c2 : Option V), σ = [some h, some v, some (.ref d), some (.ref r), some (.int i), some cv, c2] ∧ Same H H4 ∧ H4 sl = some (.lst ss) ∧ Ws H4 ss (said ws c.1) ∧ IsW H4 cv c.1 ∧
        DW P w H4 d kvs' ∧ AhR H4 kvs' G' ∧ H4 r = some (.lst rs') ∧ Ws H4 rs' (G'.map (·.1)) ∧ BfsIn ws x i c ((said ws c.1).take j) G')
      ⟨G, kvs, rs, c2, rfl, sH.trans s23, esl, wss, iscv.same s23, dw2.same s23, AhR.tups s23.tups ah, s23 _ _ er, wr.same s23, by simpa using bf.enter hc⟩ (fun j σ H4 _ ⟨_, _, _, _, _, _, z, _⟩ => SqL.of z) ?_ ?_⟩
    · rintro j y σ H4 hj ⟨G', kvs', rs', c2', rfl, s4, esl4, wss4, isc4, dw4, ah4, er4, wr4, bi⟩
      obtain ⟨u, hu', isy⟩ := paired_get wss4 hj
      have nx : Nx ws c.1 u := mem_said.1 (List.mem_of_getElem? hu')
      have etk : (said ws c.1).take (j + 1) = (said ws c.1).take j ++ [u] := by rw [List.take_add_one, hu']; rfl
      have lG' := bi.toCore.len gh.good hx
      have lk : kvs'.length = G'.length := Paired.length ah4
      have lr' : rs'.length = G'.length := by rw [Paired.length wr4, List.length_map]
      have N8 := gh.hi
      refine ⟨_, rfl, _, rfl, d, u, kvs', rfl, isy, dw4, _, rfl, ?_⟩
      cases ev : valV kvs' u with
      | some z =>
        refine iteF ?_
        have hm : u ∈ G'.map (·.1) := by
          rw [← AhR.keys ah4]
          by_cases q : u ∈ kvs'.map (·.1)
          · exact q
          · rw [val_none.2 q] at ev; cases ev
        refine ⟨G', kvs', rs', _, rfl, s4, esl4, wss4, isc4, dw4, ah4, er4, wr4, ?_⟩
        rw [etk]
        exact bi.old hm
      | none =>
        refine iteT ?_
        have hm : u ∉ G'.map (·.1) := by rw [← AhR.keys ah4]; exact val_none.1 ev
        refine ⟨_, rfl, _, rfl, _, rfl, d, u, kvs', rfl, isy, dw4, ev, by omega, fun o5 dw5 => ?_⟩
        have t5 : Tups H4 (upd H4 d o5) := dw4.notup
        have er5 : (upd H4 d o5) r = some (.lst rs') := by rw [upd_ne dr.symm]; exact er4
        refine ⟨_, rfl, .inl ⟨rfl, _, SqL.of er5⟩, _, rfl, r, rs', _, rfl, rfl, er5, by rw [sizeLine_eq]; omega, ?_⟩
        have t6 : Tups H4 (upd (upd H4 d o5) r (.lst (rs' ++ [y]))) := t5.trans (lst_notup er5)
        refine ⟨G' ++ [(u, some c.1, c.2.2 + 1)], kvs' ++ [(u, cv)], rs' ++ [y], _, rfl, (s4.chg hd).chg nr, by rw [upd_ne nsr, upd_ne nsd]; exact esl4, wss4.tups t6, isc4.tups t6, dw5.upd er5, (AhR.tups t6 ah4).snoc ⟨rfl, isc4.tups t6⟩, upd_same, ?_, ?_⟩
        · rw [List.map_append]
          exact (wr4.tups t6).snoc (isy.tups t6)
        · rw [etk]
          exact bi.new hm nx
    · rintro σ H4 ⟨G', kvs', rs', c2', rfl, s4, esl4, wss4, isc4, dw4, ah4, er4, wr4, bi⟩
      have lss : ss.length = (said ws c.1).length := Paired.length wss4
      rw [lss, List.take_length] at bi
      have hi' : i < G'.length := (List.getElem?_eq_some_iff.mp bi.at_).1
      refine ⟨_, rfl, _, _, rfl, rfl, m - 1, by omega, i + 1, G', kvs', rs', some cv, c2', rfl, by omega, s4, dw4, ah4, er4, wr4, bi.leave fun z hz => mem_said.2 hz, hi'⟩
  · refine ⟨_, rfl, k H2 d G kvs sH hd (bf.found ?_) dw2 ah⟩
    have : ¬ ((i : Int) < (rs.length : Int)) := ge
    omega
end
end L2

end

section
set_option autoImplicit false
set_option maxRecDepth 100000
set_option linter.all false
namespace L2
open PySem PySem.Spec PyProof.Rows EoD Eo
abbrev S_fol : Stmt := top 8
abbrev S_chain : Stmt := top 9
theorem paired_app {α β : Type} {F : α → β → Prop} : ∀ {a : List α} {b : List β} {c : List α} {d : List β}, Paired F a b → Paired F c d → Paired F (a ++ c) (b ++ d)
  | _, _, _, _, .nil, r => r
  | _, _, _, _, .cons h t, r => .cons h (paired_app t r)
theorem paired_rev {α β : Type} {F : α → β → Prop} : ∀ {a : List α} {b : List β}, Paired F a b → Paired F a.reverse b.reverse
  | _, _, .nil => .nil
  | _, _, .cons h t => by
    rw [List.reverse_cons, List.reverse_cons]
    exact (paired_rev t).snoc h
def ChainOk (ws : List (W × W)) (x y : W) (cs : List W) : Prop := (¬ Reach ws x y ∧ cs = []) ∨ ∃ k, Dist ws x y k ∧ Chn ws cs ∧ cs.head? = some x ∧ cs.getLast? = some y ∧ cs.length = k + 1
section
variable {P : Program} {w : World} {K : PySem.W.Frag} {mg : Str → Option Value} {base : Heap} {C : Addr}
/-! follows -/
def sp_fol (C : Addr) : Sp := fun vs H Q _ => ∃ (h v : V) (N : Nat) (ws : List (W × W)) (x : W), vs = [h, v] ∧ HouseAt C H h N ws ∧ GoodH N ws ∧ IsW H v x ∧ InN N x ∧ ∀ H' v', Same H H' → NewWs H H' v' (fol ws N x) → Q v' H'
theorem sc_fol : FnScope ["house", "word"] ["house", "word"] (defScope S_fol) := ⟨rfl, rfl, rfl, by decide +kernel, rfl, by decide +kernel, by decide +kernel⟩
theorem ok_fol (D : Def K mg "follows" S_fol ["house", "word"]) (B : Bare mg) (cc : Cal P w K mg base "check_word" 3 ["house", "value"] (sp_check C)) (ca : Cal P w K mg base "words_ahead" 3 ["house", "word"] (sp_ahead P w C)) : Cal P w K mg base "follows" 4 ["house", "word"] (sp_fol C) := by
  refine D.cal (k := 3) sc_fol (fun vs H Q E h => by obtain ⟨_, _, _, _, _, rfl, _⟩ := h; rfl) (fun f cdv A outer s H vs Q E hr h => ?_)
  obtain ⟨h, v, N, ws, x, rfl, hh, gh, hv, hx, k⟩ := h
  refine ⟨_, pss_cons (ps_expr (pe_cal cc hr rfl (pa_cons (pv 0) (pa_cons (pv 1) pa_nil)))) (pss_one (ps_ret (pe_callB (call_sortedW rfl) rfl B.srt bt_sorted (pa_cons (pe_cal ca hr rfl (pa_cons (pv 0) (pa_cons (pv 1) pa_nil))) pa_nil)))), ?_⟩
  refine ⟨_, rfl, _, rfl, h, v, N, ws, x, rfl, hh, hv, hx, _, rfl, _, rfl, h, v, N, ws, x, rfl, hh, gh, hv, hx, fun H' d G kvs s1 nd fo dw ah => ?_⟩
  have lk : kvs.length = G.length := Paired.length ah
  have lG := fo.toCore.len gh.good hx
  have N8 := gh.hi
  have l1 : 1 ≤ G.length := by
    cases hG : G with
    | nil => have := fo.head; rw [hG] at this; cases this
    | cons t r => simp
  refine ⟨d, kvs, rfl, dw, by omega, by omega, fun l vs wl hl hw up hm => k _ _ (s1.laidT hl) ⟨l, vs, rfl, s1.free hl, upd_same, ?_⟩⟩
  have e : wl = fol ws N x := fol_of gh.good hx up fun y => (hm y).trans (by rw [AhR.keys ah]; exact fo.mem)
  rw [← e]
  exact hw.same (Same.laid hl)
/-! chain -/
def sp_chain (C : Addr) : Sp := fun vs H Q _ => ∃ (h v o : V) (N : Nat) (ws : List (W × W)) (x y : W), vs = [h, v, o] ∧ HouseAt C H h N ws ∧ GoodH N ws ∧ IsW H v x ∧ IsW H o y ∧ InN N x ∧ InN N y ∧ ∀ H' v' cs, Same H H' → NewWs H H' v' cs → ChainOk ws x y cs → Q v' H'
theorem sc_chain : FnScope ["house", "word", "other", "ahead", "links", "link"] ["house", "word", "other"] (defScope S_chain) := ⟨rfl, rfl, rfl, by decide +kernel, rfl, by decide +kernel, by decide +kernel⟩
theorem ok_chain (D : Def K mg "chain" S_chain ["house", "word", "other"]) (B : Bare mg) (cc : Cal P w K mg base "check_word" 3 ["house", "value"] (sp_check C)) (ca : Cal P w K mg base "words_ahead" 3 ["house", "word"] (sp_ahead P w C)) : Cal P w K mg base "chain" 4 ["house", "word", "other"] (sp_chain C) := by
  refine D.cal (k := 3) sc_chain (fun vs H Q E h => by obtain ⟨_, _, _, _, _, _, _, rfl, _⟩ := h; rfl) (fun f cdv A outer s H vs Q E hr h => ?_)
  obtain ⟨h, v, o, N, ws, x, y, rfl, hh, gh, hv, ho, hx, hy, k⟩ := h
  have hu := hu_of hr
  refine ⟨_, pss_cons (ps_expr (pe_cal cc hr rfl (pa_cons (pv 0) (pa_cons (pv 1) pa_nil)))) (pss_cons (ps_expr (pe_cal cc hr rfl (pa_cons (pv 0) (pa_cons (pv 2) pa_nil))))
    (pss_cons (ps_set (i := 3) sc_chain.nd rfl (Or.inl rfl) (pe_cal ca hr rfl (pa_cons (pv 0) (pa_cons (pv 1) pa_nil))))
    (pss_cons (ps_if (pt_cmpR (op_niW hu) (pv 2) (pv 3) (by with_unfolding_all rfl)) (pss_one (ps_ret (pe_lst pa_nil))) pss_nil)
    (pss_cons (ps_set (i := 4) sc_chain.nd rfl (Or.inl rfl) (pe_lst pa_nil)) (pss_cons (ps_set (i := 5) sc_chain.nd rfl (Or.inl rfl) (pv 2))
    (pss_cons (ps_while PassesOwn.never (pt_cmp (pc_notN (pv 5))) (pss_cons (ps_app (pv 4) (pv 5)) (pss_one (ps_set (i := 5) sc_chain.nd rfl (Or.inl rfl) (pe_wget hu (pv 3) (pv 5) (fun _ _ => rfl))))))
    (pss_one (ps_ret (pe_listrev rfl (pv 4) rfl B.lst rfl B.rev bt_reversed))))))))), ?_⟩
  refine ⟨_, rfl, _, rfl, h, v, N, ws, x, rfl, hh, hv, hx, _, rfl, _, rfl, h, o, N, ws, y, rfl, hh, ho, hy, _, rfl, _, rfl, h, v, N, ws, x, rfl, hh, gh, hv, hx, fun H1 d G kvs s1 nd fo dw ah => ?_⟩
  refine ⟨_, rfl, _, rfl, d, y, kvs, rfl, ho.same s1, dw, _, rfl, ?_⟩
  cases ev : valV kvs y with
  | none =>
    have nm : ¬ Reach ws x y := fun z => val_none.1 ev (by rw [AhR.keys ah]; exact fo.mem.2 z)
    refine iteT ⟨Nat.zero_le _, fun l hl => k _ _ [] (s1.laidT hl) ⟨l, [], rfl, s1.free hl, upd_same, .nil⟩ (.inl ⟨nm, rfl⟩)⟩
  | some z =>
    refine iteF ⟨Nat.zero_le _, fun lk hlk => ?_⟩
    have hm : y ∈ G.map (·.1) := by
      rw [← AhR.keys ah]
      by_cases q : y ∈ kvs.map (·.1)
      · exact q
      · rw [val_none.2 q] at ev; cases ev
    obtain ⟨t, ht, et⟩ := List.mem_map.mp hm
    obtain ⟨y', qy, n⟩ := t
    have et' : y' = y := et
    subst et'
    have nlk : H lk = none := s1.free hlk
    have s2 : Same H1 (upd H1 lk (.lst [])) := Same.laid hlk
    have lG := fo.toCore.len gh.good hx
    have N8 := gh.hi
    have dn := (fo.dist ht).lt gh.good hx
    refine ⟨_, rfl, ?_⟩
    refine ⟨fun m σ H2 => ∃ (link : Option W) (lv : V) (l : List W) (us : List V), σ = [some h, some v, some o, some (.ref d), some (.ref lk), some lv] ∧ AhV H2 lv link ∧ H2 lk = some (.lst us) ∧ Ws H2 us l ∧ Back ws x y' G n link l ∧ m + l.length = n + 2 ∧ Same H H2 ∧ DW P w H2 d kvs ∧ AhR H2 kvs G,
      ⟨n + 2, some y', o, [], [], rfl, (ho.same s1).same s2, upd_same, .nil, Back.start ht, rfl, s1.laidT hlk, dw.same s2, AhR.tups s2.tups ah⟩, ?_⟩
    rintro m σ H2 ⟨link, lv, l, us, rfl, av, el, wl, bk, em, sH, dw2, ah2⟩
    have lu : us.length = l.length := Paired.length wl
    refine ⟨_, rfl, _, rfl, ?_⟩
    cases link with
    | none =>
      have e : lv = .non := av
      subst e
      refine iteNS rfl ?_
      obtain ⟨b1, b2, b3, b4⟩ := bk
      refine ⟨_, rfl, lk, us, rfl, SqL.of el, by omega, fun l' hl' => k _ _ l.reverse (sH.laidT hl') ⟨l', us.reverse, rfl, sH.free hl', upd_same, paired_rev (wl.same (Same.laid hl'))⟩ (.inr ⟨n, fo.dist ht, b1, b2, b3, by rw [List.length_reverse]; exact b4⟩)⟩
    | some u =>
      obtain ⟨p, rfl, hp⟩ := (show IsW H2 lv u from av)
      have e : decide (V.ref p = V.non) = false := by simp
      rw [e]
      obtain ⟨q', d', g1, g2, g3, g4⟩ := bk
      obtain ⟨bt, bl⟩ := Back.turn fo.toCore ⟨q', d', g1, g2, g3, g4⟩ g1
      refine iteT ⟨_, fun σ' H' nx => nx, _, rfl, .inl ⟨rfl, _, SqL.of el⟩, _, rfl, lk, us, _, rfl, rfl, el, by rw [sizeLine_eq]; omega, ?_⟩
      have t3 : Tups H2 (upd H2 lk (.lst (us ++ [V.ref p]))) := lst_notup el
      have dw3 := dw2.upd (o := .lst (us ++ [V.ref p])) el
      have ah3 := AhR.tups t3 ah2
      obtain ⟨nv, ev', anv⟩ := AhR.val ah3 fo.nd g1
      refine ⟨_, rfl, _, rfl, d, u, kvs, nv, rfl, ⟨p, rfl, t3 _ _ hp⟩, dw3, ev', ?_⟩
      exact ⟨m - 1, by omega, q', nv, l ++ [u], us ++ [V.ref p], rfl, anv, upd_same, (wl.tups t3).snoc ⟨p, rfl, t3 _ _ hp⟩, bt, by simp; omega, sH.chg nlk, dw3, ah3⟩
end
end L2

end

section
set_option autoImplicit false
set_option maxRecDepth 100000
set_option linter.all false
namespace L2
open PySem PySem.Spec PyProof.Rows EoD Eo
abbrev S_hang : Stmt := top 10
theorem Room.units5 {k : Nat} {A : Around} (r : Room k A) : A.units + 65 < cLine := by have := r.un; omega
/-! ### comprehensions, the forms one uses -/
def AllFree (X : Cx) : List (Str × NameKind) → Prop
  | [] => True
  | x :: r => (x.2 = .free → X.env.kindOf x.1 = some .cell) ∧ AllFree X r
theorem AllFree.all {X : Cx} : ∀ {l : List (Str × NameKind)}, AllFree X l → ∀ y ∈ l, y.2 = .free → X.env.kindOf y.1 = some .cell
  | [], _, y, hy => by simp at hy
  | x :: r, h, y, hy => by
    rcases List.mem_cons.mp hy with e | hy
    · subst e; exact h.1
    · exact AllFree.all h.2 y hy
theorem comp_list {K : PySem.W.Frag} {a D : Addr} {xs : List V} {js : List Nat} {tc : TT} {te : TE} {σ : St} {H : Hp} {Qd : Hp → Prop} (Pv : Nat → List V → Hp → Prop) (h0 : Pv 0 [] (upd H D (.lst []))) (hl : ∀ i acc H, i ≤ xs.length → Pv i acc H → SqL K H a xs ∧ H D = some (.lst acc) ∧ acc.length < sizeLine)
    (hs : ∀ i x acc H (R : List V → Hp → Prop), xs[i]? = some x → Pv i acc H → (∀ acc' H', Pv (i + 1) acc' H' → R acc' H') → tc (some x :: look σ js) H fun b H4 => if b = true then te (some x :: look σ js) H4 fun v H5 => H5 D = some (.lst acc) ∧ R (acc ++ [v]) (upd H5 D (.lst (acc ++ [v]))) else R acc H4)
    (hd : ∀ acc H, Pv xs.length acc H → Qd H) :
    ∃ W : Nat → Nat → List V → Hp → Prop, (∃ m, W 0 m [] (upd H D (.lst []))) ∧ ∀ i m acc H2, W i m acc H2 → H2 D = some (.lst acc) ∧ acc.length < sizeLine ∧ (((Itl K a).stop i H2 ∧ Qd H2) ∨
      ((Itl K a).go i H2 ∧ ∀ x H3, (Itl K a).yld i H2 x H3 → tc (some x :: look σ js) H3 fun b H4 => if b = true then te (some x :: look σ js) H4 fun v H5 => H5 D = some (.lst acc) ∧ ∃ m', m' < m ∧ W (i + 1) m' (acc ++ [v]) (upd H5 D (.lst (acc ++ [v])))
        else ∃ m', m' < m ∧ W (i + 1) m' acc H4)) := by
  refine ⟨fun i m acc H => m = xs.length - i ∧ i ≤ xs.length ∧ Pv i acc H, ⟨xs.length, by simp, Nat.zero_le _, h0⟩, ?_⟩
  rintro i m acc H2 ⟨rfl, hi, p⟩
  obtain ⟨q, eD, sz⟩ := hl i acc H2 hi p
  refine ⟨eD, sz, ?_⟩
  by_cases hlt : i < xs.length
  · refine .inr ⟨⟨xs, xs[i], q, by simp [hlt]⟩, fun x H3 y => ?_⟩
    obtain ⟨e, y⟩ := y
    subst e
    exact hs i x acc _ (fun acc' H' => ∃ m', m' < xs.length - i ∧ m' = xs.length - (i + 1) ∧ i + 1 ≤ xs.length ∧ Pv (i + 1) acc' H') (y xs q) p fun acc' H' p' => ⟨_, by omega, rfl, hlt, p'⟩
  · have e : i = xs.length := by omega
    subst e
    exact .inl ⟨⟨xs, q, Nat.le_refl _⟩, hd acc H2 p⟩
theorem comp_range {lo : Int} {n : Nat} {D : Addr} {js : List Nat} {tc : TT} {te : TE} {σ : St} {H : Hp} {Qd : Hp → Prop} (Pv : Nat → List V → Hp → Prop) (h0 : Pv 0 [] (upd H D (.lst []))) (hl : ∀ i acc H, i ≤ n → Pv i acc H → H D = some (.lst acc) ∧ acc.length < sizeLine)
    (hs : ∀ i acc H (R : List V → Hp → Prop), i < n → Pv i acc H → (∀ acc' H', Pv (i + 1) acc' H' → R acc' H') → tc (some (.int (lo + i)) :: look σ js) H fun b H4 => if b = true then te (some (.int (lo + i)) :: look σ js) H4 fun v H5 => H5 D = some (.lst acc) ∧ R (acc ++ [v]) (upd H5 D (.lst (acc ++ [v]))) else R acc H4)
    (hd : ∀ acc H, Pv n acc H → Qd H) :
    ∃ W : Nat → Nat → List V → Hp → Prop, (∃ m, W 0 m [] (upd H D (.lst []))) ∧ ∀ i m acc H2, W i m acc H2 → H2 D = some (.lst acc) ∧ acc.length < sizeLine ∧ (((Itr lo n).stop i H2 ∧ Qd H2) ∨
      ((Itr lo n).go i H2 ∧ ∀ x H3, (Itr lo n).yld i H2 x H3 → tc (some x :: look σ js) H3 fun b H4 => if b = true then te (some x :: look σ js) H4 fun v H5 => H5 D = some (.lst acc) ∧ ∃ m', m' < m ∧ W (i + 1) m' (acc ++ [v]) (upd H5 D (.lst (acc ++ [v])))
        else ∃ m', m' < m ∧ W (i + 1) m' acc H4)) := by
  refine ⟨fun i m acc H => m = n - i ∧ i ≤ n ∧ Pv i acc H, ⟨n, by simp, Nat.zero_le _, h0⟩, ?_⟩
  rintro i m acc H2 ⟨rfl, hi, p⟩
  obtain ⟨eD, sz⟩ := hl i acc H2 hi p
  refine ⟨eD, sz, ?_⟩
  by_cases hlt : i < n
  · refine .inr ⟨hlt, fun x H3 y => ?_⟩
    obtain ⟨e, y⟩ := y
    subst e; subst y
    exact hs i acc _ (fun acc' H' => ∃ m', m' < n - i ∧ m' = n - (i + 1) ∧ i + 1 ≤ n ∧ Pv (i + 1) acc' H') hlt p fun acc' H' p' => ⟨_, by omega, rfl, hlt, p'⟩
  · have e : i = n := by omega
    subst e
    exact .inl ⟨Nat.le_refl _, hd acc H2 p⟩

/-! ### a dict of lists of words -/
theorem NewWs.same {H H' H2 : Hp} {v : V} {l : List W} (h : NewWs H H' v l) (e : Same H' H2) : NewWs H H2 v l := let ⟨a, vs, h1, h2, h3, h4⟩ := h; ⟨a, vs, h1, h2, e _ _ h3, h4.same e⟩
theorem NewWs.upd {H H' : Hp} {v : V} {l : List W} {b : Addr} {o : HO} (h : NewWs H H' v l) (hb : ∀ vs, H' b ≠ some (.lst vs)) (ht : Tups H' (upd H' b o)) : NewWs H (upd H' b o) v l := by
  obtain ⟨a, vs, h1, h2, h3, h4⟩ := h
  refine ⟨a, vs, h1, h2, ?_, h4.tups ht⟩
  by_cases z : a = b
  · subst z; exact absurd h3 (hb vs)
  · rw [upd_ne z]; exact h3
theorem NewWs.wl {H H' : Hp} {v : V} {l : List W} (h : NewWs H H' v l) {K : PySem.W.Frag} : WL K H' v l := let ⟨a, vs, h1, _, h3, h4⟩ := h; ⟨a, vs, h1, SqL.of h3, h4⟩
theorem paired_mem {α β : Type} {F G : α → β → Prop} : ∀ {l : List α} {m : List β}, Paired F l m → (∀ a b, a ∈ l → F a b → G a b) → Paired G l m
  | _, _, .nil, _ => .nil
  | _, _, .cons h t, f => .cons (f _ _ List.mem_cons_self h) (paired_mem t fun a b ha => f a b (List.mem_cons_of_mem _ ha))
theorem paired_has {α β : Type} {F : α → β → Prop} : ∀ {l : List α} {m : List β}, Paired F l m → ∀ a ∈ l, ∃ b, F a b
  | _, _, .nil, a, h => by simp at h
  | _, _, .cons f t, a, h => by
    rcases List.mem_cons.mp h with e | h
    · subst e; exact ⟨_, f⟩
    · exact paired_has t a h
/-- a dict of lists, word by word -/
abbrev FR (f : W → List W) (H H' : Hp) : List (W × V) → List W → Prop := Paired fun kv u => kv.1 = u ∧ NewWs H H' kv.2 (f u)
theorem FR.val {f : W → List W} {H H' : Hp} {k : W} : ∀ {kvs : List (W × V)} {l : List W}, FR f H H' kvs l → k ∈ l → ∃ v, valV kvs k = some v ∧ NewWs H H' v (f k)
  | _, _, .nil, h => by simp at h
  | kv :: kvs, u :: l, .cons r rs, h => by
    by_cases e : kv.1 = k
    · have : u = k := r.1.symm.trans e
      subst this
      exact ⟨kv.2, valV_pos e, r.2⟩
    · rcases List.mem_cons.mp h with z | z
      · exact absurd (r.1.trans z.symm) e
      · obtain ⟨v, h1, h2⟩ := FR.val rs z
        exact ⟨v, by rw [valV_neg e]; exact h1, h2⟩
theorem FR.keys {f : W → List W} {H H' : Hp} : ∀ {kvs : List (W × V)} {l : List W}, FR f H H' kvs l → kvs.map (·.1) = l
  | _, _, .nil => rfl
  | _, _, .cons r rs => by rw [List.map_cons, r.1, FR.keys rs]
/-- a new list of new lists of words -/
def NewGL (H H' : Hp) (v : V) (gs : List (List W)) : Prop := ∃ a vs, v = .ref a ∧ H a = none ∧ H' a = some (.lst vs) ∧ Paired (NewWs H H') vs gs
theorem take_filter {α : Type} {l : List α} {i : Nat} {x : α} (h : l[i]? = some x) (p : α → Bool) : (l.take (i + 1)).filter p = (l.take i).filter p ++ (if p x = true then [x] else []) := by
  rw [List.take_add_one, h, List.filter_append]
  cases e : p x <;> simp [e]
section
variable {P : Program} {w : World} {K : PySem.W.Frag} {mg : Str → Option Value} {base : Heap} {C : Addr}
/-! hanging -/
def sp_hang (C : Addr) : Sp := fun vs H Q _ => ∃ (h : V) (N : Nat) (ws : List (W × W)), vs = [h] ∧ HouseAt C H h N ws ∧ GoodH N ws ∧ ∀ H' v', Same H H' → NewGL H H' v' (groups ws N) → Q v' H'
theorem sc_hang : FnScope ["house", "following", "word", "groups", "group"] ["house"] (defScope S_hang) := ⟨rfl, rfl, rfl, by decide +kernel, rfl, by decide +kernel, by decide +kernel⟩
theorem ok_hang (D : Def K mg "hanging" S_hang ["house"]) (B : Bare mg) (ca : Cal P w K mg base "all_words" 1 ["house"] (sp_all C)) (cf : Cal P w K mg base "follows" 4 ["house", "word"] (sp_fol C)) : Cal P w K mg base "hanging" 5 ["house"] (sp_hang C) := by
  refine D.cal (k := 4) sc_hang (fun vs H Q E h => by obtain ⟨_, _, _, rfl, _⟩ := h; rfl) (fun f cdv A outer s H vs Q E hr h => ?_)
  obtain ⟨h, N, ws, rfl, hh, gh, k⟩ := h
  have hu := hu_of hr
  have hr1 : Room 1 _ := hr.mono (by decide)
  have hu5 := hr.units5
  refine ⟨_, pss_cons (ps_set (i := 1) sc_hang.nd rfl (Or.inr rfl) pe_wnew)
    (pss_cons (ps_for PassesOwn.never rfl (pi_list (pe_cal ca hr1 rfl (pa_cons (pv 0) pa_nil))) (pg_name (i := 2) sc_hang.nd rfl (Or.inr rfl)) (pss_one (ps_wput hu (pv 1) (pv 2) (pe_cal cf hr rfl (pa_cons (pv 0) (pa_cons (pv 2) pa_nil))))))
    (pss_cons (ps_set (i := 3) sc_hang.nd rfl (Or.inl rfl) (pe_lst pa_nil))
    (pss_cons (ps_for PassesOwn.never rfl (pi_list (pe_cal ca hr1 rfl (pa_cons (pv 0) pa_nil))) (pg_name (i := 2) sc_hang.nd rfl (Or.inr rfl))
      (pss_cons (ps_comp (j := 4) (tc := tTest (tOp (rInWL K) (tVar 2) (tWGet P w (tVar 1) (tVar 0)))) (te := tVar 0) rfl sc_hang.nd rfl rfl ⟨rfl, by decide +kernel, rfl, by decide +kernel, AllFree.all ⟨(fun e => nomatch e), (fun e => nomatch e), fun _ => rfl, fun _ => rfl, trivial⟩⟩ (ys := ["following", "word"]) (js := [1, 2]) ⟨rfl, rfl, rfl, rfl, rfl, rfl, trivial⟩ (by decide +kernel) (pi_list (pe_wget hu (pv 1) (pv 2) (fun _ _ => rfl)))
          (fun _ _ _ _ _ => pifs_one (pt_cmpR (op_inWL hu5) (pv 2) (pe_wget hu (pv 1) (pv 0) (fun _ _ => rfl)) (by with_unfolding_all rfl))) (fun _ _ _ _ _ => pv 0))
      (pss_one (ps_if (pt_cmpR (op_eqW hr.units) (pe_ix ix_list (pv 4) pe_int (fun _ _ => rfl)) (pv 2) (nomark _)) (pss_one (ps_app (pv 3) (pv 4))) pss_nil))))
    (pss_one (ps_ret (pv 3)))))), ?_⟩
  intro d o hd dw0
  have s0 : Same H (upd H d o) := Same.laid hd
  have N8 := gh.hi
  refine ⟨_, rfl, h, N, ws, rfl, hh.same s0, gh.hi, fun H1 v1 s01 nw1 => ?_⟩
  obtain ⟨l, us, rfl, nl, el, wu⟩ := nw1
  have s1 : Same H H1 := s0.trans s01
  have dl : l ≠ d := (ne_of_none upd_same nl).symm
  refine ⟨l, rfl, ⟨_, SqL.of el⟩, for_list (K := K) (a := l) (xs := us) (fun i σ H2 => ∃ (kvs : List (W × V)) (z : Option V), σ = [some h, some (.ref d), z, none, none] ∧ Same H H2 ∧ H2 l = some (.lst us) ∧ Ws H2 us (allW N) ∧ DW P w H2 d kvs ∧ FR (fol ws N) H H2 kvs ((allW N).take i))
    ⟨[], none, rfl, s1, el, wu, dw0.same s01, by simpa using Paired.nil⟩ (fun i σ H2 _ ⟨_, _, _, _, z, _⟩ => SqL.of z) ?_ ?_⟩
  · rintro i y σ H2 hi ⟨kvs, z, rfl, s2, el2, wu2, dw2, fr2⟩
    obtain ⟨u, hu', isy⟩ := paired_get wu2 hi
    have iu : InN N u := mem_allW.1 (List.mem_of_getElem? hu')
    refine ⟨_, rfl, _, rfl, h, y, N, ws, u, rfl, hh.same s2, gh, isy, iu, fun H3 fv s23 nw => ?_⟩
    have lk : kvs.length ≤ 16 := by
      have := Paired.length fr2
      rw [List.length_take, allW_len] at this
      omega
    have il : i < 2 * N := by
      have := (List.getElem?_eq_some_iff.mp hu').1
      rw [allW_len] at this
      exact this
    have ev : valV kvs u = none := val_none.2 (by
      rw [FR.keys fr2]
      intro hm
      obtain ⟨j, hj, ej⟩ := List.mem_iff_getElem.mp hm
      rw [List.getElem_take] at ej
      rw [List.length_take] at hj
      have e2 : (allW N)[i]? = some (allW N)[j] := by rw [hu', ej]
      have hi2 : i < (allW N).length := by rw [allW_len]; exact il
      rw [List.getElem?_eq_getElem hi2] at e2
      have := (List.getElem_inj (up_allW N).nodup).mp (Option.some.inj e2)
      omega)
    refine ⟨_, rfl, _, rfl, d, u, kvs, rfl, isy.same s23, dw2.same s23, ev, by omega, fun o' dw' => ?_⟩
    have dw3 := dw2.same s23
    have tp : Tups H3 (upd H3 d o') := dw3.notup
    have nd : ∀ vs, H3 d ≠ some (.lst vs) := fun vs e => by
      obtain ⟨φ, e'⟩ := dw3.obj
      rw [e] at e'; cases e'
    have nw' : NewWs H H3 fv (fol ws N u) := let ⟨a, vs, h1, h2, h3, h4⟩ := nw; ⟨a, vs, h1, s2.free h2, h3, h4⟩
    refine ⟨kvs ++ [(u, fv)], some y, rfl, (s2.trans s23).chg hd, by rw [upd_ne dl]; exact s23 _ _ el2, (wu2.same s23).tups tp, dw', ?_⟩
    have et : (allW N).take (i + 1) = (allW N).take i ++ [u] := by rw [List.take_add_one, hu']; rfl
    rw [et]
    exact Paired.snoc (Paired.mapP fr2 fun kv u' z => ⟨z.1, (z.2.same s23).upd nd tp⟩) ⟨rfl, nw'.upd nd tp⟩
  rintro σ H2 ⟨kvs, z, rfl, s2, el2, wu2, dw2, fr2⟩
  have lus : us.length = (allW N).length := Paired.length wu2
  rw [lus, List.take_length] at fr2
  refine ⟨Nat.zero_le _, fun g hg => ?_⟩
  have s3 : Same H (upd H2 g (.lst [])) := s2.laidT hg
  have ng : H g = none := s2.free hg
  refine ⟨_, rfl, h, N, ws, rfl, hh.same s3, gh.hi, fun H4 v4 s34 nw4 => ?_⟩
  obtain ⟨l4, us4, rfl, nl4, el4, wu4⟩ := nw4
  have s24 : Same H2 H4 := (Same.laid hg).trans s34
  have lg : l4 ≠ g := (ne_of_none upd_same nl4).symm
  have kg : ∀ kv ∈ kvs, kv.2 ≠ .ref g := fun kv hkv e => by
    obtain ⟨u, _, a, vs, h1, _, h3, _⟩ := paired_has fr2 kv hkv
    rw [h1] at e
    cases e
    rw [hg] at h3
    cases h3
  refine ⟨l4, rfl, ⟨_, SqL.of el4⟩, for_list (K := K) (a := l4) (xs := us4) (fun i σ H5 => ∃ (gvs : List V) (z1 z2 : Option V), σ = [some h, some (.ref d), z1, some (.ref g), z2] ∧ Same H H5 ∧ H5 l4 = some (.lst us4) ∧ Ws H5 us4 (allW N) ∧ DW P w H5 d kvs ∧ FR (fol ws N) H H5 kvs (allW N) ∧ H5 g = some (.lst gvs) ∧
      Paired (NewWs H H5) gvs ((((allW N).take i).filter fun u => (grp ws N u).head? == some u).map (grp ws N)) ∧ gvs.length ≤ i ∧ ∀ v ∈ gvs, v ≠ .ref g)
    ⟨[], z, none, rfl, s3.trans s34, el4, wu4, dw2.same s24, Paired.mapP fr2 fun _ _ q => ⟨q.1, q.2.same s24⟩, s34 _ _ upd_same, by simpa using Paired.nil, Nat.le_refl _, fun v hv => by simp at hv⟩ (fun i σ H5 _ ⟨_, _, _, _, _, q, _⟩ => SqL.of q) ?_ ?_⟩
  · rintro i y σ H5 hi ⟨gvs, z1, z2, rfl, s5, el5, wu5, dw5, fr5, eg5, pg5, ng5, gn5⟩
    obtain ⟨u, hu', isy⟩ := paired_get wu5 hi
    have iu : InN N u := mem_allW.1 (List.mem_of_getElem? hu')
    have il : i < 2 * N := by
      have := (List.getElem?_eq_some_iff.mp hu').1
      rw [allW_len] at this
      exact this
    obtain ⟨fv, ev, fa, fvs, rfl, nfa, efa, wfa⟩ := FR.val fr5 (mem_allW.2 iu)
    refine ⟨_, rfl, _, rfl, d, u, kvs, _, rfl, isy, dw5, ev, fa, rfl, ⟨_, SqL.of efa⟩, fun Dd hD => ?_⟩
    have lf : fvs.length ≤ 16 := by
      rw [Paired.length wfa]
      have : (fol ws N u).length ≤ (allW N).length := List.length_filter_le _ _
      rw [allW_len] at this
      omega
    refine comp_list (K := K) (a := fa) (xs := fvs) (js := [1, 2]) (tc := tTest (tOp (rInWL K) (tVar 2) (tWGet P w (tVar 1) (tVar 0)))) (te := tVar 0) (σ := [some h, some (.ref d), z1, some (.ref g), z2].set 2 (some y)) (fun j acc H6 => H6 = upd H5 Dd (.lst acc) ∧ Ws H5 acc (((fol ws N u).take j).filter fun v => R ws v u) ∧ acc.length ≤ j) ⟨rfl, by simpa using Paired.nil, Nat.le_refl _⟩ ?_ ?_ ?_
    · rintro j acc H6 hj ⟨rfl, wa, la⟩
      refine ⟨SqL.of ?_, upd_same, by rw [sizeLine_eq]; omega⟩
      rw [upd_ne (ne_of_none efa hD)]
      exact efa
    · rintro j x' acc H6 R' hj ⟨rfl, wa, la⟩ hR
      have s6 : Same H5 (upd H5 Dd (.lst acc)) := Same.laid hD
      obtain ⟨z', hz, isz⟩ := paired_get wfa hj
      have hzm : z' ∈ allW N := (List.mem_filter.mp (List.mem_of_getElem? hz)).1
      obtain ⟨zv, ezv, nwz⟩ := FR.val fr5 hzm
      refine ⟨_, rfl, _, rfl, _, rfl, d, z', kvs, zv, rfl, isz.same s6, dw5.same s6, ezv, u, fol ws N z', isy.same s6, (nwz.same s6).wl, _, rfl, ?_⟩
      have etk := take_filter hz fun v => R ws v u
      have hmem : u ∈ fol ws N z' ↔ R ws z' u = true := by rw [mem_fol gh.good (mem_allW.1 hzm), R_iff]
      refine iteD (fun hin => ⟨_, rfl, upd_same, hR _ _ ⟨upd_upd, ?_, by simp; omega⟩⟩) (fun hin => hR _ _ ⟨rfl, ?_, by omega⟩)
      · rw [etk, if_pos (hmem.1 hin)]
        exact wa.snoc isz
      · rw [etk, if_neg (fun q => hin (hmem.2 q)), List.append_nil]
        exact wa
    · rintro acc H6 ⟨rfl, wa, la⟩
      have s6 : Same H5 (upd H5 Dd (.lst acc)) := Same.laid hD
      have lfv : fvs.length = (fol ws N u).length := Paired.length wfa
      rw [lfv, List.take_length, grp_eq] at wa
      have nDd : H Dd = none := s5.free hD
      have gD : Dd ≠ g := (ne_of_none eg5 hD).symm
      obtain ⟨g0, gr, eg⟩ : ∃ g0 gr, grp ws N u = g0 :: gr := by
        cases q : grp ws N u with
        | nil => have := self_grp (ws := ws) iu; rw [q] at this; simp at this
        | cons a b => exact ⟨a, b, rfl⟩
      have wa' := wa
      rw [eg] at wa'
      cases wa' with
      | @cons v0 _ r0 _ is0 wr =>
        have h0 : atI (v0 :: r0) 0 = some v0 := atI_nat (j := 0) rfl
        have new : NewWs H (upd H5 Dd (.lst (v0 :: r0))) (.ref Dd) (grp ws N u) := ⟨Dd, _, rfl, nDd, upd_same, wa.same s6⟩
        have pg6 : Paired (NewWs H (upd H5 Dd (.lst (v0 :: r0)))) gvs ((((allW N).take i).filter fun u => (grp ws N u).head? == some u).map (grp ws N)) := Paired.mapP pg5 fun _ _ q => q.same s6
        have etk := take_filter hu' fun u => (grp ws N u).head? == some u
        refine ⟨_, rfl, Dd, _, 0, v0, rfl, rfl, SqL.of upd_same, h0, _, rfl, g0, u, is0.same s6, isy.same s6, _, rfl, iteD (fun e => ?_) (fun e => ?_)⟩
        · have eg6 : (upd H5 Dd (.lst (v0 :: r0))) g = some (.lst gvs) := s6 _ _ eg5
          refine ⟨_, rfl, .inl ⟨rfl, _, SqL.of eg6⟩, _, rfl, g, gvs, _, rfl, rfl, eg6, by rw [sizeLine_eq]; omega, ?_⟩
          have tp : Tups (upd H5 Dd (.lst (v0 :: r0))) (upd (upd H5 Dd (.lst (v0 :: r0))) g (.lst (gvs ++ [.ref Dd]))) := lst_notup eg6
          have dne : d ≠ g := by
            obtain ⟨φ, e'⟩ := dw5.obj
            exact ne_of e' eg5 (by intro q; cases q)
          have keepN : ∀ {v : V} {ll : List W}, NewWs H (upd H5 Dd (.lst (v0 :: r0))) v ll → v ≠ .ref g → NewWs H (upd (upd H5 Dd (.lst (v0 :: r0))) g (.lst (gvs ++ [.ref Dd]))) v ll := fun {v ll} ⟨a, vs, h1, h2, h3, h4⟩ ne => by
            subst h1
            exact ⟨a, vs, rfl, h2, by rw [upd_ne (fun q => ne (by rw [q]))]; exact h3, h4.tups tp⟩
          refine ⟨gvs ++ [.ref Dd], _, _, rfl, (s5.trans s6).chg ng, by rw [upd_ne lg]; exact s6 _ _ el5, (wu5.same s6).tups tp, (dw5.same s6).upd eg6, paired_mem fr5 fun kv u' hkv q => ⟨q.1, keepN (q.2.same s6) (kg kv hkv)⟩, upd_same, ?_, by simp; omega, fun v hv => ?_⟩
          · have heq : ((grp ws N u).head? == some u) = true := by rw [eg, e]; simp
            rw [etk, if_pos heq, List.map_append]
            exact Paired.snoc (paired_mem pg6 fun v ll hv q => keepN q (gn5 v hv)) (keepN new (by intro q; cases q; exact gD rfl))
          · rcases List.mem_append.mp hv with hv | hv
            · exact gn5 v hv
            · have : v = .ref Dd := by simpa using hv
              rw [this]
              intro q; cases q; exact gD rfl
        · refine ⟨gvs, _, _, rfl, s5.trans s6, s6 _ _ el5, wu5.same s6, dw5.same s6, Paired.mapP fr5 fun _ _ q => ⟨q.1, q.2.same s6⟩, s6 _ _ eg5, ?_, by omega, gn5⟩
          have hne : ((grp ws N u).head? == some u) = false := by rw [eg]; simpa using e
          rw [etk, if_neg (by rw [hne]; exact Bool.false_ne_true), List.append_nil]
          exact pg6
  · rintro σ H5 ⟨gvs, z1, z2, rfl, s5, el5, wu5, dw5, fr5, eg5, pg5, ng5, gn5⟩
    have lus4 : us4.length = (allW N).length := Paired.length wu5
    rw [lus4, List.take_length] at pg5
    exact ⟨_, rfl, k H5 _ s5 ⟨g, gvs, rfl, ng, eg5, pg5⟩⟩
end
end L2

end

section
set_option autoImplicit false
set_option maxRecDepth 100000
set_option linter.all false
namespace L2
open PySem PySem.Spec PyProof.Rows EoD Eo
abbrev S_init : Stmt := inClass (top 7) 0
theorem all_rep (n : Nat) : (List.replicate n true).all id = true := by
  induction n with
  | zero => rfl
  | succ n ih => rw [List.replicate_succ, List.all_cons, ih]; rfl
section
variable {P : Program} {w : World} {K : PySem.W.Frag} {mg : Str → Option Value} {base : Heap} {C : Addr}
def sp_init (C : Addr) : Sp := fun vs H Q _ => ∃ (p dx l : Addr) (N : Nat) (us : List V) (ws : List (W × W)), vs = [.ref p, .int N, .ref l] ∧ H p = some (.ins C dx []) ∧ GoodH N ws ∧ H l = some (.lst us) ∧ Ps H us ws ∧
  ∀ H', HouseAt C H' (.ref p) N ws → (∀ b o, H b = some o → b ≠ p → H' b = some o) → Q .non H'
theorem sc_init : FnScope ["self", "names", "wishes"] ["self", "names", "wishes"] (defScope S_init) := ⟨rfl, rfl, rfl, by decide +kernel, rfl, by decide +kernel, by decide +kernel⟩
theorem ok_init {f : Addr} {fd : FuncData} (F : Fun K "__init__" "House.__init__" S_init f fd) (B : Bare mg) (T : TxtH K C) (m8 : ∃ t, mg "MOST_NAMES" = some (.int 8 t)) (m24 : ∃ t, mg "MOST_WISHES" = some (.int 24 t)) (cn : Cal P w K mg base "is_number" 1 ["value"] sp_num) (cw : Cal P w K mg base "is_wish" 3 ["names", "value"] sp_wish) :
    FnOk P w K mg base CX0 4 f fd ["self", "names", "wishes"] (sp_init C) := by
  refine F.ok sc_init (fun vs H Q E h => by obtain ⟨_, _, _, _, _, _, rfl, _⟩ := h; rfl) (fun cdv A outer s H vs Q E hr h => ?_)
  obtain ⟨p, dx, l, N, us, ws, rfl, hp, gh, el, pu, k⟩ := h
  obtain ⟨t8, m8⟩ := m8
  obtain ⟨t24, m24⟩ := m24
  have hr1 : Room 1 _ := hr.mono (by decide)
  refine ⟨_, pss_cons (ps_if (PW.pt (pw_or (pt_not (pt_val (pe_cal cn hr1 rfl (pa_cons (pv 1) pa_nil)))) (pw_or1 (pt_not (pt_chain op_le op_le pe_int (pv 1) (pe_glob (v := .int 8) rfl m8 ⟨_, rfl⟩)))))) pss_never pss_nil)
    (pss_cons (ps_if (PW.pt (pw_or (pt_not (pt_val (pe_isin B (pv 2) rfl rfl B.lst bt_list))) (pw_or1 (pt_cmpR op_gt (pe_callB call_len_seq rfl B.len bt_len (pa_cons (pv 2) pa_nil)) (pe_glob (v := .int 24) rfl m24 ⟨_, rfl⟩) (nomark _))))) pss_never pss_nil)
    (pss_cons (ps_if (pt_not (pt_val (pe_callB (call_allB rfl) rfl B.all bt_all (pa_cons (pe_comp (tc := tYes) (te := tCall sp_wish [] E0 (tCons (tVar 1) (tCons (tVar 0) tNil))) rfl ⟨rfl, by decide +kernel, rfl, by decide +kernel, AllFree.all ⟨(fun e => nomatch e), (fun e => nomatch e), (fun e => nomatch e), fun _ => rfl, trivial⟩⟩
        (ys := ["names"]) (js := [1]) ⟨rfl, rfl, rfl, trivial⟩ (by decide +kernel) (pi_list (pv 2)) (fun _ _ _ _ _ => pifs_nil) (fun _ _ _ _ _ => pe_cal cw hr rfl (pa_cons (pv 1) (pa_cons (pv 0) pa_nil)))) pa_nil)))) pss_never pss_nil)
    (pss_cons (ps_fld (pv 0) (pv 1) rfl) (pss_one (ps_fld (pv 0) (pe_callTy call_tuple_of rfl B.tup bt_tuple (pa_cons (pv 2) pa_nil)) rfl))))), ?_⟩
  have N1 := gh.lo
  have N8 := gh.hi
  have lw : us.length ≤ 24 := by rw [Paired.length pu]; exact gh.len
  refine ⟨_, rfl, N, rfl, true, rfl, iteF ⟨_, rfl, _, _, rfl, rfl, _, rfl, iteP (by omega) ⟨_, _, rfl, rfl, _, rfl, iteNS (by omega) ?_⟩⟩⟩
  refine ⟨_, rfl, _, _, _, true, rfl, .lst el, rfl, true, rfl, iteF ⟨_, rfl, l, us, rfl, .inl (SqL.of el), _, _, rfl, rfl, _, rfl, iteN (by omega) ?_⟩⟩
  refine ⟨_, rfl, l, rfl, ⟨_, SqL.of el⟩, fun Dd hD => ?_⟩
  have s1 : ∀ {acc : List V}, Same H (upd H Dd (.lst acc)) := Same.laid hD
  refine comp_list (K := K) (a := l) (xs := us) (js := [1]) (tc := tYes) (te := tCall sp_wish [] E0 (tCons (tVar 1) (tCons (tVar 0) tNil))) (σ := start ["self", "names", "wishes"] [.ref p, .int N, .ref l]) (fun j acc H6 => H6 = upd H Dd (.lst acc) ∧ acc = (List.replicate j true).map V.bl) ⟨rfl, rfl⟩ ?_ ?_ ?_
  · rintro j acc H6 hj ⟨rfl, ea⟩
    refine ⟨SqL.of (s1 _ _ el), upd_same, ?_⟩
    rw [ea, List.length_map, List.length_replicate, sizeLine_eq]
    omega
  · rintro j x' acc H6 R' hj ⟨rfl, ea⟩ hR
    obtain ⟨pr, hpr, isx⟩ := paired_get pu hj
    have g := gh.good pr (List.mem_of_getElem? hpr)
    simp only [tYes, if_true]
    refine ⟨_, rfl, _, rfl, N, x', pr, rfl, isx.same s1, g.1, g.2, upd_same, hR _ _ ⟨upd_upd, ?_⟩⟩
    rw [ea, List.replicate_succ']
    simp
  · rintro acc H6 ⟨rfl, ea⟩
    refine ⟨Dd, List.replicate us.length true, rfl, SqL.of (by rw [← ea]; exact upd_same), _, rfl, ?_⟩
    rw [all_rep]
    refine iteF ?_
    have pD : p ≠ Dd := ne_of_none hp hD
    have lD : l ≠ Dd := ne_of_none el hD
    have lp : l ≠ p := ne_of el hp (by intro z; cases z)
    refine ⟨_, rfl, _, rfl, p, C, dx, [], rfl, s1 _ _ hp, T.cl, T.nN, (by show 0 < 1000; decide), ?_⟩
    refine ⟨_, rfl, l, us, rfl, .inl ⟨SqL.of (by rw [upd_ne lp, upd_ne lD]; exact el), fun q hq => ?_⟩⟩
    have pq : p ≠ q := fun z => by rw [← z, upd_same] at hq; cases hq
    refine ⟨_, rfl, p, C, dx, _, rfl, by rw [upd_ne pq]; exact upd_same, T.cl, T.nK, (by show 1 < 1000; decide), ?_⟩
    have keep : ∀ b o, H b = some o → b ≠ p → (upd (upd (upd (upd H Dd (.lst acc)) p (.ins C dx (putF "names" (.int N) []))) q (.tup us)) p (.ins C dx (putF "kept" (.ref q) (putF "names" (.int N) [])))) b = some o := fun b o e hb => by
      have bq : b ≠ q := fun z => by
        rw [← z, upd_ne hb, s1 _ _ e] at hq
        cases hq
      rw [upd_ne hb, upd_ne bq, upd_ne hb]
      exact s1 _ _ e
    have tp : Tups H (upd (upd (upd (upd H Dd (.lst acc)) p (.ins C dx (putF "names" (.int N) []))) q (.tup us)) p (.ins C dx (putF "kept" (.ref q) (putF "names" (.int N) [])))) := fun b xs e => keep b _ e (ne_of e hp (by intro z; cases z))
    exact k _ ⟨p, dx, q, us, rfl, upd_same, by rw [upd_ne pq.symm]; exact upd_same, pu.tups tp, lw⟩ keep
end
end L2

end

section
set_option autoImplicit false
set_option maxRecDepth 100000
set_option linter.all false
namespace L2
open PySem PySem.Spec PyProof.Rows EoD Eo
abbrev S_cell : Stmt := top 20
abbrev S_draw : Stmt := top 21
abbrev S_lword : Stmt := top 23
abbrev S_lnot : Stmt := top 24
theorem atI_in {xs : List V} {i : Int} (h0 : 0 ≤ i) (h1 : i < xs.length) : ∃ v, atI xs i = some v ∧ v ∈ xs := by
  obtain ⟨j, rfl⟩ := Int.eq_ofNat_of_zero_le h0
  have hj : j < xs.length := by omega
  exact ⟨xs[j], atI_nat (List.getElem?_eq_getElem hj), List.getElem_mem hj⟩
theorem cmulR {i j : Int} (h1 : -(2 ^ 64) < j) (h2 : j < 2 ^ 64) : CMul i j := .inr ⟨h1, h2⟩
section
variable {P : Program} {w : World} {K : PySem.W.Frag} {mg : Str → Option Value} {base : Heap} {C : Addr}
/-! a cell of the script -/
def sp_cell (K : PySem.W.Frag) : Sp := fun vs H Q _ => ∃ (a : Addr) (ns : List Int) (k : Int), vs = [.ref a, .int k] ∧ SqL K H a (ns.map V.int) ∧ 0 ≤ k ∧ ∀ i, Q (.int i) H
theorem sc_cell : FnScope ["_law_script", "_law_k"] ["_law_script", "_law_k"] (defScope S_cell) := ⟨rfl, rfl, rfl, by decide +kernel, rfl, by decide +kernel, by decide +kernel⟩
theorem ok_cell (D : Def K mg "_law_cell_at" S_cell ["_law_script", "_law_k"]) (B : Bare mg) : Cal P w K mg base "_law_cell_at" 1 ["_law_script", "_law_k"] (sp_cell K) := by
  refine D.cal (k := 0) sc_cell (fun vs H Q E h => by obtain ⟨_, _, _, rfl, _⟩ := h; rfl) (fun f cdv A outer s H vs Q E hr h => ?_)
  obtain ⟨a, ns, k, rfl, hq, hk, q⟩ := h
  refine ⟨_, pss_cons (ps_if (pt_cmpR op_lt (pv 1) (pe_callB call_len_seq rfl B.len bt_len (pa_cons (pv 0) pa_nil)) (nomark _)) (pss_one (ps_ret (pe_ix ix_list (pv 0) (pv 1) (fun _ _ => rfl)))) pss_nil) (pss_one (ps_ret pe_int)), ?_⟩
  refine ⟨_, rfl, _, rfl, a, _, rfl, .inl hq, _, _, rfl, rfl, _, rfl, iteD (fun h => ?_) (fun h => q 0)⟩
  obtain ⟨v, e, hm⟩ := atI_in (xs := ns.map V.int) hk h
  obtain ⟨n, _, rfl⟩ := List.mem_map.mp hm
  exact ⟨_, rfl, _, rfl, a, _, k, _, rfl, rfl, hq, e, q n⟩
/-! a number below m -/
def sp_draw : Sp := fun vs H Q _ => ∃ (c k m : Int), vs = [.int c, .int k, .int m] ∧ 0 < m ∧ ∀ H' r, Same H H' → 0 ≤ r → r < m → Q (.int r) H'
theorem sc_draw : FnScope ["_law_cell", "_law_k", "_law_many", "_law_primes", "_law_blend"] ["_law_cell", "_law_k", "_law_many"] (defScope S_draw) := ⟨rfl, rfl, rfl, by decide +kernel, rfl, by decide +kernel, by decide +kernel⟩

set_option maxHeartbeats 4000000 in
theorem ok_draw (D : Def K mg "_law_draw" S_draw ["_law_cell", "_law_k", "_law_many"]) : Cal P w K mg base "_law_draw" 1 ["_law_cell", "_law_k", "_law_many"] sp_draw := by
  refine D.cal (k := 0) sc_draw (fun vs H Q E h => by obtain ⟨_, _, _, rfl, _⟩ := h; rfl) (fun f cdv A outer s H vs Q E hr h => ?_)
  obtain ⟨c, k, m, rfl, hm, q⟩ := h
  refine ⟨_, pss_cons (ps_set (i := 3) sc_draw.nd rfl (Or.inl rfl) (pe_tup (pa_cons pe_int (pa_cons pe_int (pa_cons pe_int (pa_cons pe_int (pa_cons pe_int (pa_cons pe_int (pa_cons pe_int (pa_cons pe_int pa_nil))))))))))
    (pss_cons (ps_set (i := 4) sc_draw.nd rfl (Or.inl rfl) (pe_op op_add (pe_op op_add (pe_op op_mul (pv 0) pe_int) (pe_op op_mul (pv 1) pe_int)) (pe_op op_mul (pe_op op_mod (pe_op op_fdiv (pv 0) pe_int) pe_int) pe_int)))
    (pss_one (ps_ret (pe_op op_mod (pe_op op_mod (pv 4) (pe_ix ix_tup (pv 3) (pe_op op_mod (pv 1) pe_int) (fun _ _ => rfl))) (pv 2))))), ?_⟩
  refine ⟨(by show 8 ≤ sizeLine; decide), fun p hp => ?_⟩
  refine ⟨_, rfl, _, _, rfl, rfl, cmulR (by decide) (by decide), _, rfl, _, _, rfl, rfl, cmulR (by decide) (by decide), _, _, rfl, rfl, ?_⟩
  refine ⟨_, rfl, _, _, rfl, rfl, ⟨by decide, by decide⟩, _, _, rfl, rfl, (show (0 : Int) < 1000003 by decide), _, _, rfl, rfl, cmulR (by decide) (by decide), _, _, rfl, rfl, ?_⟩
  have h0 : 0 ≤ k % 8 := Int.emod_nonneg _ (by decide)
  have h8 : k % 8 < 8 := Int.emod_lt_of_pos _ (by decide)
  obtain ⟨v, e, hv⟩ := atI_in (xs := [V.int 1000003, .int 1000033, .int 1000037, .int 1000039, .int 1000081, .int 1000099, .int 1000117, .int 1000121]) h0 h8
  have pv' : ∃ n : Int, v = .int n ∧ 0 < n := by
    simp only [List.mem_cons, List.not_mem_nil, or_false] at hv
    rcases hv with rfl | rfl | rfl | rfl | rfl | rfl | rfl | rfl <;> exact ⟨_, rfl, by decide⟩
  obtain ⟨n, rfl, hn⟩ := pv'
  refine ⟨_, rfl, _, rfl, _, rfl, _, _, rfl, rfl, (show (0 : Int) < 8 by decide), p, _, _, _, rfl, rfl, SqT.of upd_same, e, _, _, rfl, rfl, hn, _, rfl, _, _, rfl, rfl, hm, ?_⟩
  exact q _ _ (Same.laid hp) (Int.emod_nonneg _ (by omega)) (Int.emod_lt_of_pos _ hm)
/-! a word, drawn -/
def sp_lword : Sp := fun vs H Q _ => ∃ (c : Int) (N : Nat), vs = [.int c, .int N] ∧ 1 ≤ N ∧ ∀ H' v x, Same H H' → IsW H' v x → InN N x → Q v H'
theorem sc_lword : FnScope ["_law_cell", "_law_names"] ["_law_cell", "_law_names"] (defScope S_lword) := ⟨rfl, rfl, rfl, by decide +kernel, rfl, by decide +kernel, by decide +kernel⟩
theorem ok_lword (D : Def K mg "_law_word" S_lword ["_law_cell", "_law_names"]) (cd : Cal P w K mg base "_law_draw" 1 ["_law_cell", "_law_k", "_law_many"] sp_draw) : Cal P w K mg base "_law_word" 2 ["_law_cell", "_law_names"] sp_lword := by
  refine D.cal (k := 1) sc_lword (fun vs H Q E h => by obtain ⟨_, _, rfl, _⟩ := h; rfl) (fun f cdv A outer s H vs Q E hr h => ?_)
  obtain ⟨c, N, rfl, hN, q⟩ := h
  refine ⟨_, pss_one (ps_ret (pe_tup (pa_cons (pe_cal cd hr rfl (pa_cons (pv 0) (pa_cons pe_int (pa_cons (pv 1) pa_nil)))) (pa_cons (pe_cmpR op_eq (pe_cal cd hr rfl (pa_cons (pv 0) (pa_cons pe_int (pa_cons pe_int pa_nil)))) pe_int (nomark _)) pa_nil)))), ?_⟩
  refine ⟨_, rfl, _, rfl, c, 1, N, rfl, by omega, fun H1 r1 s1 a1 a2 => ⟨_, rfl, c, 2, 2, rfl, by decide, fun H2 r2 s2 b1 b2 => ?_⟩⟩
  refine ⟨rfl, (by show 2 ≤ sizeLine; decide), fun p hp => ?_⟩
  exact q _ _ (r1, decide (V.int r2 = V.int 1)) ((s1.trans s2).laidT hp) ⟨p, rfl, upd_same⟩ ⟨a1, a2⟩
/-! the opposite, by the law -/
theorem sc_lnot : FnScope ["_law_word_here"] ["_law_word_here"] (defScope S_lnot) := ⟨rfl, rfl, rfl, by decide +kernel, rfl, by decide +kernel, by decide +kernel⟩
theorem ok_lnot (D : Def K mg "_law_not" S_lnot ["_law_word_here"]) : Cal P w K mg base "_law_not" 1 ["_law_word_here"] sp_opp := by
  refine D.cal (k := 0) sc_lnot (fun vs H Q E h => by obtain ⟨_, _, rfl, _⟩ := h; rfl) (fun f cdv A outer s H vs Q E hr h => ?_)
  obtain ⟨v, x, rfl, ⟨p, rfl, hp⟩, k⟩ := h
  refine ⟨_, pss_one (ps_ret (pe_tup (pa_cons (pe_ix ix_tup (pv 0) pe_int (fun _ _ => rfl)) (pa_cons (pe_not (pe_ix ix_tup (pv 0) pe_int (fun _ _ => rfl))) pa_nil)))), ?_⟩
  have i0 : atI [V.int x.1, V.bl x.2] 0 = some (V.int x.1) := rfl
  have i1 : atI [V.int x.1, V.bl x.2] 1 = some (V.bl x.2) := rfl
  refine ⟨_, rfl, p, _, 0, _, rfl, rfl, SqT.of hp, i0, _, rfl, p, _, 1, _, rfl, rfl, SqT.of hp, i1, _, rfl, (by show 2 ≤ sizeLine; decide), fun q hq => ?_⟩
  exact k _ _ (Same.laid hq) ⟨q, rfl, upd_same⟩
end
end L2

end

section
set_option autoImplicit false
set_option maxRecDepth 100000
set_option linter.all false
namespace L2
open PySem PySem.Spec PyProof.Rows EoD Eo
abbrev S_told : Stmt := top 22
/-- a house, told plainly -/
def ToldAt (H : Hp) (v : V) (N : Nat) (ws : List (W × W)) : Prop := ∃ (p l : Addr) (us : List V), v = .ref p ∧ H p = some (.tup [.int N, .ref l]) ∧ H l = some (.lst us) ∧ Ps H us ws
theorem ToldAt.same {H H' : Hp} {v : V} {N : Nat} {ws : List (W × W)} (h : ToldAt H v N ws) (e : Same H H') : ToldAt H' v N ws := let ⟨p, l, us, h1, h2, h3, h4⟩ := h; ⟨p, l, us, h1, e _ _ h2, e _ _ h3, h4.same e⟩
theorem ps_last {H : Hp} {us : List V} {ws : List (W × W)} (h : Ps H us ws) (n : us ≠ []) : ∃ u pr, atI us (-1) = some u ∧ IsP H u pr ∧ pr ∈ ws := by
  have g : us[us.length - 1]? = some (us.getLast n) := by
    rw [List.getElem?_eq_getElem (by have := List.length_pos_iff.mpr n; omega), List.getLast_eq_getElem]
  obtain ⟨pr, h1, h2⟩ := paired_get h g
  have z := atI_last us.dropLast (us.getLast n)
  rw [List.dropLast_concat_getLast] at z
  exact ⟨us.getLast n, pr, z, h2, List.mem_of_getElem? h1⟩
section
variable {P : Program} {w : World} {K : PySem.W.Frag} {mg : Str → Option Value} {base : Heap} {C : Addr}
theorem told_app {D : Ends} {σ : St} {H : Hp} {l : Addr} {vo vt : V} {us : List V} (e6 : σ[6]? = some (some (.ref l))) (e8 : σ[8]? = some (some vo)) (e9 : σ[9]? = some (some vt)) (el : H l = some (.lst us)) (sz : us.length < sizeLine)
    (k : ∀ t, H t = none → D.nx σ (upd (upd H t (.tup [vo, vt])) l (.lst (us ++ [.ref t])))) : tDrop (tBM K "list" rAppend (tVar 6) (tCons (tTup (tCons (tVar 8) (tCons (tVar 9) tNil))) tNil)) D σ H :=
  ⟨_, e6, .inl ⟨rfl, _, SqL.of el⟩, _, e8, _, e9, (by show 2 ≤ sizeLine; decide), fun t ht => ⟨l, us, _, rfl, rfl, by rw [upd_ne (ne_of_none el ht)]; exact el, sz, k t ht⟩⟩
def PvTold (H : Hp) (a l : Addr) (f0 c o m : Int) (N : Nat) (i : Nat) (σ : St) (H4 : Hp) : Prop := ∃ (us : List V) (ws : List (W × W)) (z7 z8 z9 : Option V), σ = [some (.ref a), some (.int f0), some (.int c), some (.int o), some (.int N), some (.int m), some (.ref l), z7, z8, z9] ∧ Same H H4 ∧ H4 l = some (.lst us) ∧ Ps H4 us ws ∧ us.length = i ∧ Good N ws
def sp_told (K : PySem.W.Frag) : Sp := fun vs H Q _ => ∃ (a : Addr) (ns : List Int) (f : Int), vs = [.ref a, .int f] ∧ SqL K H a (ns.map V.int) ∧ 0 ≤ f ∧ ∀ H' v N ws, Same H H' → ToldAt H' v N ws → GoodH N ws → Q v H'
abbrev N_told : List Str := ["_law_script", "_law_first", "_law_cell", "_law_other", "_law_names", "_law_many", "_law_wishes", "_law_k", "_law_one", "_law_two"]
theorem sc_told : FnScope N_told ["_law_script", "_law_first"] (defScope S_told) := ⟨rfl, rfl, rfl, by decide +kernel, rfl, by decide +kernel, by decide +kernel⟩
set_option maxHeartbeats 4000000 in
theorem ok_told (D : Def K mg "_law_told" S_told ["_law_script", "_law_first"]) (B : Bare mg) (cc : Cal P w K mg base "_law_cell_at" 1 ["_law_script", "_law_k"] (sp_cell K)) (cd : Cal P w K mg base "_law_draw" 1 ["_law_cell", "_law_k", "_law_many"] sp_draw)
    (cw : Cal P w K mg base "_law_word" 2 ["_law_cell", "_law_names"] sp_lword) (cn : Cal P w K mg base "_law_not" 1 ["_law_word_here"] sp_opp) : Cal P w K mg base "_law_told" 3 ["_law_script", "_law_first"] (sp_told K) := by
  refine D.cal (k := 2) sc_told (fun vs H Q E h => by obtain ⟨_, _, _, rfl, _⟩ := h; rfl) (fun f cdv A outer s H vs Q E hr h => ?_)
  obtain ⟨a, ns, f0, rfl, hq, hf, k⟩ := h
  have hr1 : Room 1 _ := hr.mono (by decide)
  have T2 : ∃ u, PSs (cxOf CX0 P w K mg base N_told "_law_told" (defScope S_told) f cdv A outer s H E).nox ((defBody S_told).drop 4) u ∧
      ∀ (N : Nat) (H2 : Hp) (c o : Int), 1 ≤ N → N ≤ 8 → Same H H2 → u { nx := fun _ H' => Q .non H', rt := Q } [some (.ref a), some (.int f0), some (.int c), some (.int o), some (.int N), none, none, none, none, none] H2 := by
    refine ⟨_, pss_cons (ps_set (i := 5) sc_told.nd rfl (Or.inl rfl) (pe_cal cd hr1 rfl (pa_cons (pv 3) (pa_cons pe_int (pa_cons (pe_op op_add (pe_op op_mul (pe_ix ix_tup (pe_tup (pa_cons pe_int (pa_cons pe_int (pa_cons pe_int (pa_cons pe_int pa_nil))))) (pe_op op_mod (pe_op op_fdiv (pv 2) pe_int) pe_int) (fun _ _ => rfl)) (pv 4)) pe_int) pa_nil)))))
      (pss_cons (ps_set (i := 6) sc_told.nd rfl (Or.inl rfl) (pe_lst pa_nil))
      (pss_cons (ps_for PassesOwn.never rfl (pi_range1 rfl B.rng (pa_cons (pe_callB (call_min2 rfl) rfl B.min bt_min (pa_cons (pv 5) (pa_cons pe_int pa_nil))) pa_nil)) (pg_name (i := 7) sc_told.nd rfl (Or.inl rfl))
        (pss_cons (ps_set (i := 8) sc_told.nd rfl (Or.inl rfl) (pe_cal cw hr rfl (pa_cons (pe_op op_add (pe_op op_fdiv (pv 3) (pe_op op_add (pv 7) pe_int)) (pe_op op_mul pe_int (pv 7))) (pa_cons (pv 4) pa_nil))))
        (pss_cons (ps_set (i := 9) sc_told.nd rfl (Or.inl rfl) (pe_cal cw hr rfl (pa_cons (pe_op op_add (pe_op op_add (pe_op op_mul (pe_op op_fdiv (pv 3) (pe_op op_add (pv 7) pe_int)) pe_int) (pe_op op_mul pe_int (pv 7))) pe_int) (pa_cons (pv 4) pa_nil))))
        (pss_cons (ps_if (PW.pt (pw_and (pt_cmpR op_eq (pe_op op_mod (pe_op op_fdiv (pv 2) pe_int) pe_int) pe_int (nomark _)) (pw_and1 (pt_cmpR op_gt (pv 7) pe_int (nomark _)))))
          (pss_one (ps_set (i := 8) sc_told.nd rfl (Or.inl rfl) (pe_cal cn hr1 rfl (pa_cons (pe_ix ix_tup (pe_ix ix_list (pv 6) (pe_un un_neg pe_int) (fun _ _ => rfl)) pe_int (fun _ _ => rfl)) pa_nil)))) pss_nil)
        (pss_one (ps_app (pv 6) (pe_tup (pa_cons (pv 8) (pa_cons (pv 9) pa_nil)))))))))
      (pss_one (ps_ret (pe_tup (pa_cons (pv 4) (pa_cons (pv 6) pa_nil))))))), ?_⟩
    intro N H2 c o N1 N8 s2
    have h0 : 0 ≤ c / 16 % 4 := Int.emod_nonneg _ (by decide)
    have h4 : c / 16 % 4 < 4 := Int.emod_lt_of_pos _ (by decide)
    obtain ⟨v, e, hv⟩ := atI_in (xs := [V.int 2, .int 3, .int 4, .int 2]) h0 h4
    have pv' : ∃ n : Int, v = .int n ∧ 0 < n ∧ n < 8 := by
      simp only [List.mem_cons, List.not_mem_nil, or_false] at hv
      rcases hv with rfl | rfl | rfl | rfl <;> exact ⟨_, rfl, by decide, by decide⟩
    obtain ⟨n, rfl, n0, n8⟩ := pv'
    have hpos : 0 < n * (N : Int) + 1 := by
      have : 0 ≤ n * (N : Int) := Int.mul_nonneg (by omega) (by omega)
      omega
    refine ⟨_, rfl, (by show 4 ≤ sizeLine; decide), fun t ht => ⟨_, rfl, _, _, rfl, rfl, ⟨by decide, by decide⟩, _, _, rfl, rfl, (show (0 : Int) < 4 by decide), t, _, _, _, rfl, rfl, SqT.of upd_same, e, _, rfl, _, _, rfl, rfl, .inl ⟨by omega, by omega⟩, _, _, rfl, rfl, o, 0, _, rfl, hpos, fun H3 m s3 m0 _ => ?_⟩⟩
    refine ⟨Nat.zero_le _, fun l hl => ?_⟩
    have sH : Same H (upd H3 l (.lst [])) := (s2.trans ((Same.laid ht).trans s3)).laidT hl
    have nl : H l = none := (s2.trans ((Same.laid ht).trans s3)).free hl
    have m24 : (if (24 : Int) < m then (24 : Int) else m) ≤ 24 ∧ 0 ≤ (if (24 : Int) < m then (24 : Int) else m) := by split <;> omega
    refine ⟨_, rfl, m, 24, rfl, _, rfl, by omega, by omega, ?_⟩
    generalize (if (24 : Int) < m then (24 : Int) else m) = M at m24 ⊢
    refine for_range (lo := 0) (n := M.toNat) (PvTold H a l f0 c o m N) ⟨[], [], none, none, none, rfl, sH, upd_same, .nil, rfl, fun p hp => by simp at hp⟩ ?_ ?_
    · rintro i σ H4 hi ⟨us, ws, z7, z8, z9, rfl, s4, el, pu, lu, gd⟩
      have i24 : i < 24 := by omega
      refine ⟨_, rfl, _, rfl, _, _, rfl, rfl, _, _, rfl, rfl, ⟨by omega, by omega⟩, _, rfl, _, _, rfl, rfl, .inl ⟨by decide, by decide⟩, _, _, rfl, rfl, _, rfl, _, N, rfl, N1, fun H5 vo x s5 wo io => ?_⟩
      refine ⟨_, rfl, _, rfl, _, _, rfl, rfl, _, _, rfl, rfl, ⟨by omega, by omega⟩, _, _, rfl, rfl, cmulR (by decide) (by decide), _, rfl, _, _, rfl, rfl, .inl ⟨by decide, by decide⟩, _, _, rfl, rfl, _, _, rfl, rfl, _, rfl, _, N, rfl, N1, fun H6 vt y s6 wt it => ?_⟩
      have s46 : Same H4 H6 := s5.trans s6
      have fin : ∀ (H7 : Hp) (vo' : V) (x' : W) (Dd : Ends), Same H6 H7 → IsW H7 vo' x' → InN N x' → (∀ σ H', PvTold H a l f0 c o m N (i + 1) σ H' → Dd.nx σ H') →
          tDrop (tBM K "list" rAppend (tVar 6) (tCons (tTup (tCons (tVar 8) (tCons (tVar 9) tNil))) tNil)) Dd [some (.ref a), some (.int f0), some (.int c), some (.int o), some (.int N), some (.int m), some (.ref l), some (.int (0 + (i : Int))), some vo', some vt] H7 := by
        intro H7 vo' x' Dd s67 w' i' hD
        have s47 := s46.trans s67
        have el7 : H7 l = some (.lst us) := s47 _ _ el
        refine told_app rfl rfl rfl el7 (by rw [sizeLine_eq]; omega) fun t ht => hD _ _ ⟨us ++ [.ref t], ws ++ [(x', y)], _, _, _, rfl, ((s4.trans s47).laidT ht).chg nl, upd_same, ?_, by simp [lu], ?_⟩
        · have tl : t ≠ l := (ne_of_none el7 ht).symm
          have tp : Tups H7 (upd (upd H7 t (.tup [vo', vt])) l (.lst (us ++ [.ref t]))) := (Same.laid ht).tups.trans (Tups.upd (by rw [upd_ne tl.symm, el7]; intro _ z; cases z))
          exact ((pu.same s47).tups tp).snoc ⟨t, vo', vt, rfl, by rw [upd_ne tl]; exact upd_same, w'.tups tp, (wt.same s67).tups tp⟩
        · intro p hp
          rcases List.mem_append.mp hp with hp | hp
          · exact gd p hp
          · have e : p = (x', y) := by simpa using hp
            subst e
            exact ⟨i', it⟩
      refine ⟨_, rfl, _, _, rfl, rfl, ⟨by decide, by decide⟩, _, _, rfl, rfl, (show (0 : Int) < 3 by decide), rfl, _, rfl, iteD (fun _ => ⟨_, rfl, _, _, rfl, rfl, _, rfl, iteD (fun hk => ?_) (fun _ => fin H6 vo x _ (Same.refl _) (wo.same s6) io fun _ _ z => z)⟩) (fun _ => iteF (fin H6 vo x _ (Same.refl _) (wo.same s6) io fun _ _ z => z))⟩
      have ne : us ≠ [] := fun z => by
        rw [z] at lu
        have : i = 0 := by simpa using lu.symm
        subst this
        exact absurd hk (by decide)
      obtain ⟨u, pr, eu, ⟨q, qa, qb, rfl, hq', ha', hb'⟩, hm⟩ := ps_last (pu.same s46) ne
      have i1 : atI [qa, qb] 1 = some qb := rfl
      exact ⟨_, rfl, 1, rfl, l, us, -1, _, rfl, rfl, SqL.of (s46 _ _ el), eu, q, _, 1, _, rfl, rfl, SqT.of hq', i1, qb, pr.2, rfl, hb', fun H7 v' s67 isn => fin H7 v' (neg pr.2) _ s67 isn (gd pr hm).2 fun _ _ z => z⟩
    · rintro σ H4 ⟨us, ws, z7, z8, z9, rfl, s4, el, pu, lu, gd⟩
      refine ⟨_, rfl, _, rfl, (by show 2 ≤ sizeLine; decide), fun p hp => k _ _ N ws (s4.laidT hp) ⟨p, l, us, rfl, upd_same, by rw [upd_ne (ne_of_none el hp)]; exact el, pu.same (Same.laid hp)⟩ ⟨N1, N8, ?_, gd⟩⟩
      have := Paired.length pu
      omega
  obtain ⟨u, hu, hu'⟩ := T2
  refine ⟨_, pss_cons (ps_set (i := 2) sc_told.nd rfl (Or.inl rfl) (pe_cal cc hr1 rfl (pa_cons (pv 0) (pa_cons (pv 1) pa_nil))))
    (pss_cons (ps_set (i := 3) sc_told.nd rfl (Or.inl rfl) (pe_cal cc hr1 rfl (pa_cons (pv 0) (pa_cons (pe_op op_add (pv 1) pe_int) pa_nil))))
    (pss_cons (ps_set (i := 4) sc_told.nd rfl (Or.inl rfl) (pe_ix ix_tup (pe_tup (pa_cons pe_int (pa_cons pe_int (pa_cons pe_int (pa_cons pe_int (pa_cons pe_int (pa_cons pe_int (pa_cons pe_int (pa_cons pe_int pa_nil))))))))) (pe_op op_mod (pv 2) pe_int) (fun _ _ => rfl)))
    (pss_cons (ps_if (pt_cmpR op_eq (pe_op op_mod (pe_op op_fdiv (pv 2) pe_int) pe_int) pe_int (nomark _)) (pss_one (ps_set (i := 4) sc_told.nd rfl (Or.inl rfl) (pe_op op_add pe_int (pe_op op_mod (pe_op op_fdiv (pv 2) pe_int) pe_int)))) pss_nil) hu))), ?_⟩
  refine ⟨_, rfl, _, rfl, a, ns, f0, rfl, hq, hf, fun c => ⟨_, rfl, _, rfl, _, _, rfl, rfl, a, ns, f0 + 1, rfl, hq, by omega, fun o => ?_⟩⟩
  have h0 : 0 ≤ c % 8 := Int.emod_nonneg _ (by decide)
  have h8 : c % 8 < 8 := Int.emod_lt_of_pos _ (by decide)
  obtain ⟨v, e, hv⟩ := atI_in (xs := [V.int 3, .int 4, .int 2, .int 5, .int 3, .int 4, .int 1, .int 6]) h0 h8
  have pv' : ∃ n : Int, v = .int n ∧ 0 < n ∧ n ≤ 8 := by
    simp only [List.mem_cons, List.not_mem_nil, or_false] at hv
    rcases hv with rfl | rfl | rfl | rfl | rfl | rfl | rfl | rfl <;> exact ⟨_, rfl, by decide, by decide⟩
  obtain ⟨n, rfl, n0, n8⟩ := pv'
  obtain ⟨N, rfl⟩ := Int.eq_ofNat_of_zero_le (Int.le_of_lt n0)
  refine ⟨(by show 8 ≤ sizeLine; decide), fun t ht => ⟨_, rfl, _, _, rfl, rfl, (show (0 : Int) < 8 by decide), t, _, _, _, rfl, rfl, SqT.of upd_same, e, ?_⟩⟩
  refine ⟨_, rfl, _, _, rfl, rfl, ⟨by decide, by decide⟩, _, _, rfl, rfl, (show (0 : Int) < 12 by decide), rfl, _, rfl, iteD (fun _ => ?_) (fun _ => hu' N _ c o (by omega) (by omega) (Same.laid ht))⟩
  refine ⟨_, rfl, _, _, rfl, rfl, ⟨by decide, by decide⟩, _, _, rfl, rfl, (show (0 : Int) < 2 by decide), _, _, rfl, rfl, ?_⟩
  have g0 : 0 ≤ c / 96 % 2 := Int.emod_nonneg _ (by decide)
  have g2 : c / 96 % 2 < 2 := Int.emod_lt_of_pos _ (by decide)
  obtain ⟨M, hM⟩ := Int.eq_ofNat_of_zero_le (show 0 ≤ 7 + c / 96 % 2 by omega)
  have z := hu' M (upd H t (.tup [V.int 3, .int 4, .int 2, .int 5, .int 3, .int 4, .int 1, .int 6])) c o (by omega) (by omega) (Same.laid ht)
  rw [← hM] at z
  exact z
end
end L2

end

section
set_option autoImplicit false
set_option maxRecDepth 100000
set_option linter.all false
namespace L2
open PySem PySem.Spec PyProof.Rows EoD Eo
abbrev S_lnext : Stmt := top 27
abbrev S_lchain : Stmt := top 28
abbrev S_lwords : Stmt := top 29
section
variable {P : Program} {w : World} {K : PySem.W.Frag} {mg : Str → Option Value} {base : Heap} {C : Addr}
/-! what must be said next, by the law -/
def sp_lnext : Sp := fun vs H Q _ => ∃ (t a b : V) (N : Nat) (ws : List (W × W)) (x y : W), vs = [t, a, b] ∧ ToldAt H t N ws ∧ IsW H a x ∧ IsW H b y ∧ ∀ H', Same H H' → Q (.bl (decide (Nx ws x y))) H'
theorem sc_lnext : FnScope ["_law_told_here", "_law_word_here", "_law_other"] ["_law_told_here", "_law_word_here", "_law_other"] (defScope S_lnext) := ⟨rfl, rfl, rfl, by decide +kernel, rfl, by decide +kernel, by decide +kernel⟩
theorem ok_lnext (D : Def K mg "_law_next" S_lnext ["_law_told_here", "_law_word_here", "_law_other"]) (cn : Cal P w K mg base "_law_not" 1 ["_law_word_here"] sp_opp) : Cal P w K mg base "_law_next" 2 ["_law_told_here", "_law_word_here", "_law_other"] sp_lnext := by
  refine D.cal (k := 1) sc_lnext (fun vs H Q E h => by obtain ⟨_, _, _, _, _, _, _, rfl, _⟩ := h; rfl) (fun f cdv A outer s H vs Q E hr h => ?_)
  obtain ⟨t, a, b, N, ws, x, y, rfl, ⟨p, l, us, rfl, hp, hl, pu⟩, wa, wb, k⟩ := h
  have hu5 := hr.units5
  refine ⟨_, pss_one (ps_ret (pe_or (pe_cmpR (op_inPL hu5) (pe_tup (pa_cons (pe_cal cn hr rfl (pa_cons (pv 1) pa_nil)) (pa_cons (pv 2) pa_nil))) (pe_ix ix_tup (pv 0) pe_int (fun _ _ => rfl)) (by with_unfolding_all rfl))
    (pe_one (pe_cmpR (op_inPL hu5) (pe_tup (pa_cons (pv 2) (pa_cons (pe_cal cn hr rfl (pa_cons (pv 1) pa_nil)) pa_nil))) (pe_ix ix_tup (pv 0) pe_int (fun _ _ => rfl)) (by with_unfolding_all rfl))))), ?_⟩
  have i1 : atI [V.int (N : Int), V.ref l] 1 = some (V.ref l) := rfl
  refine ⟨_, rfl, a, x, rfl, wa, fun H1 n s1 wn => ⟨_, rfl, (by show 2 ≤ sizeLine; decide), fun q hq => ?_⟩⟩
  have s2 : Same H (upd H1 q (.tup [n, b])) := s1.laidT hq
  refine ⟨_, rfl, p, _, 1, _, rfl, rfl, SqT.of (s2 _ _ hp), i1, (neg x, y), ws, ⟨q, n, b, rfl, upd_same, wn.same (Same.laid hq), wb.same s2⟩, ⟨l, us, rfl, SqL.of (s2 _ _ hl), pu.same s2⟩, _, rfl, iteD (fun h => ?_) (fun h => ?_)⟩
  · have z := k _ s2
    rw [decide_eq_true (show Nx ws x y from .inl h)] at z
    exact z
  refine ⟨_, rfl, _, rfl, a, x, rfl, wa.same s2, fun H3 n3 s3 wn3 => ⟨(by show 2 ≤ sizeLine; decide), fun q3 hq3 => ?_⟩⟩
  have s4 : Same H (upd H3 q3 (.tup [b, n3])) := (s2.trans s3).laidT hq3
  refine ⟨_, rfl, p, _, 1, _, rfl, rfl, SqT.of (s4 _ _ hp), i1, (y, neg x), ws, ⟨q3, b, n3, rfl, upd_same, wb.same s4, wn3.same (Same.laid hq3)⟩, ⟨l, us, rfl, SqL.of (s4 _ _ hl), pu.same s4⟩, ?_⟩
  have z := k _ s4
  have e : decide (Nx ws x y) = decide ((y, neg x) ∈ ws) := by
    rw [Bool.eq_iff_iff]
    simp only [decide_eq_true_iff]
    exact ⟨fun z => z.resolve_left h, .inr⟩
  rw [e] at z
  exact z
/-! whether it is a chain, by the law -/
def sp_lchain : Sp := fun vs H Q _ => ∃ (t : V) (l : Addr) (N : Nat) (ws : List (W × W)) (us : List V) (cs : List W), vs = [t, .ref l] ∧ ToldAt H t N ws ∧ H l = some (.lst us) ∧ Ws H us cs ∧ us.length ≤ 1000 ∧ cs ≠ [] ∧ Chn ws cs ∧ ∀ H', Same H H' → Q (.bl true) H'
theorem sc_lchain : FnScope ["_law_told_here", "_law_links"] ["_law_told_here", "_law_links"] (defScope S_lchain) := ⟨rfl, rfl, rfl, by decide +kernel, rfl, by decide +kernel, by decide +kernel⟩
abbrev te_lchain (K : PySem.W.Frag) : TE := tCall sp_lnext [] E0 (tCons (tVar 1) (tCons (tOp (rIxL K) (tVar 2) (tOp (rI0 fun i j => .int (i - j)) (tVar 0) (tC (.int 1)))) (tCons (tOp (rIxL K) (tVar 2) (tVar 0)) tNil)))
theorem ok_lchain (D : Def K mg "_law_chain" S_lchain ["_law_told_here", "_law_links"]) (B : Bare mg) (cx : Cal P w K mg base "_law_next" 2 ["_law_told_here", "_law_word_here", "_law_other"] sp_lnext) : Cal P w K mg base "_law_chain" 3 ["_law_told_here", "_law_links"] sp_lchain := by
  refine D.cal (k := 2) sc_lchain (fun vs H Q E h => by obtain ⟨_, _, _, _, _, _, rfl, _⟩ := h; rfl) (fun f cdv A outer s H vs Q E hr h => ?_)
  obtain ⟨t, l, N, ws, us, cs, rfl, ht, el, wu, lu, nc, ch, k⟩ := h
  refine ⟨_, pss_cons (ps_if (pt_cmpR (op_eqWL hr.units) (pv 1) (pe_lst pa_nil) (nomark _)) (pss_one (ps_ret pe_bl)) pss_nil)
    (pss_one (ps_ret (pe_callB (call_allB rfl) rfl B.all bt_all (pa_cons (pe_comp (tc := tYes) (te := te_lchain K) rfl ⟨rfl, by decide +kernel, rfl, by decide +kernel, AllFree.all (by repeat (first | exact trivial | refine ⟨?_, ?_⟩ | (intro e; cases e <;> fail) | (intro _; rfl)))⟩
        (ys := ["_law_told_here", "_law_links"]) (js := [0, 1]) ⟨rfl, rfl, rfl, rfl, rfl, rfl, trivial⟩ (by decide +kernel) (pi_range2 rfl B.rng (pa_cons pe_int (pa_cons (pe_callB call_len_seq rfl B.len bt_len (pa_cons (pv 1) pa_nil)) pa_nil))) (fun _ _ _ _ _ => pifs_nil)
        (fun _ _ _ _ _ => pe_cal cx hr rfl (pa_cons (pv 1) (pa_cons (pe_ix ix_list (pv 2) (pe_op op_sub (pv 0) pe_int) (fun _ _ => rfl)) (pa_cons (pe_ix ix_list (pv 2) (pv 0) (fun _ _ => rfl)) pa_nil))))) pa_nil)))), ?_⟩
  have lc : us.length = cs.length := Paired.length wu
  have l1 : 1 ≤ us.length := by rw [lc]; exact List.length_pos_iff.mpr nc
  refine ⟨_, rfl, Nat.zero_le _, fun q hq => ⟨cs, [], ⟨l, us, rfl, SqL.of (Same.laid hq _ _ el), wu.same (Same.laid hq)⟩, ⟨q, [], rfl, SqL.of upd_same, .nil⟩, _, rfl, iteN nc ?_⟩⟩
  have s1 : Same H (upd H q (.lst [])) := Same.laid hq
  refine ⟨_, rfl, l, us, rfl, .inl (SqL.of (s1 _ _ el)), 1, us.length, rfl, ⟨by decide, by decide, by omega, by omega⟩, fun Dd hD => ?_⟩
  refine comp_range (lo := 1) (n := ((us.length : Int) - 1).toNat) (js := [0, 1]) (tc := tYes) (te := te_lchain K) (σ := start ["_law_told_here", "_law_links"] [t, .ref l]) (fun j acc H6 => Same (upd H q (.lst [])) H6 ∧ H6 Dd = some (.lst acc) ∧ acc = (List.replicate j true).map V.bl) ⟨Same.laid hD, upd_same, rfl⟩ ?_ ?_ ?_
  · rintro j acc H6 hj ⟨_, e6, ea⟩
    refine ⟨e6, ?_⟩
    rw [ea, List.length_map, List.length_replicate, sizeLine_eq]
    omega
  · rintro j acc H6 R' hj ⟨s6, e6, ea⟩ hR
    have s16 := s1.trans s6
    have hj1 : j + 1 < us.length := by omega
    obtain ⟨x, hx, wx⟩ := paired_get wu (List.getElem?_eq_getElem (show j < us.length by omega))
    obtain ⟨y, hy, wy⟩ := paired_get wu (List.getElem?_eq_getElem hj1)
    have e1 : 1 + (j : Int) - 1 = (j : Int) := by omega
    have e2 : 1 + (j : Int) = ((j + 1 : Nat) : Int) := by omega
    have i0 : atI us (1 + (j : Int) - 1) = some us[j] := by rw [e1]; exact atI_nat (List.getElem?_eq_getElem (show j < us.length by omega))
    have i1 : atI us (1 + (j : Int)) = some us[j + 1] := by rw [e2]; exact atI_nat (List.getElem?_eq_getElem hj1)
    simp only [tYes, if_true]
    refine ⟨_, rfl, _, rfl, _, rfl, _, _, rfl, rfl, l, us, _, _, rfl, rfl, SqL.of (s16 _ _ el), i0, _, rfl, _, rfl, l, us, _, _, rfl, rfl, SqL.of (s16 _ _ el), i1, t, us[j], us[j + 1], N, ws, x, y, rfl, ht.same s16, wx.same s16, wy.same s16, fun H7 s7 => ?_⟩
    rw [decide_eq_true (ch.at hx hy)]
    refine ⟨s7 _ _ e6, hR _ _ ⟨(s6.trans s7).chg hD, upd_same, ?_⟩⟩
    rw [ea, List.replicate_succ']
    simp
  · rintro acc H6 ⟨s6, e6, ea⟩
    refine ⟨Dd, List.replicate ((us.length : Int) - 1).toNat true, rfl, SqL.of (by rw [← ea]; exact e6), ?_⟩
    rw [all_rep]
    exact k _ (s1.trans s6)
/-! whether it is a list of words, by the law -/
def sp_lwords : Sp := fun vs H Q _ => ∃ (l : Addr) (N : Nat) (us : List V) (cs : List W), vs = [.ref l, .int N] ∧ H l = some (.lst us) ∧ Ws H us cs ∧ (∀ x ∈ cs, InN N x) ∧ Q (.bl true) H
theorem sc_lwords : FnScope ["_law_links", "_law_names", "_law_word_here"] ["_law_links", "_law_names"] (defScope S_lwords) := ⟨rfl, rfl, rfl, by decide +kernel, rfl, by decide +kernel, by decide +kernel⟩
theorem ok_lwords (D : Def K mg "_law_words" S_lwords ["_law_links", "_law_names"]) (B : Bare mg) : Cal P w K mg base "_law_words" 1 ["_law_links", "_law_names"] sp_lwords := by
  refine D.cal (k := 0) sc_lwords (fun vs H Q E h => by obtain ⟨_, _, _, _, rfl, _⟩ := h; rfl) (fun f cdv A outer s H vs Q E hr h => ?_)
  obtain ⟨l, N, us, cs, rfl, el, wu, hc, k⟩ := h
  refine ⟨_, pss_cons (ps_if (pt_not (pt_val (pe_isin B (pv 0) rfl rfl B.lst bt_list))) (pss_one (ps_ret pe_bl)) pss_nil)
    (pss_cons (ps_for PassesOwn.never rfl (pi_list (pv 0)) (pg_name (i := 2) sc_lwords.nd rfl (Or.inl rfl))
      (pss_cons (ps_if (PW.pt (pw_or (pt_not (pt_val (pe_isin B (pv 2) rfl rfl B.tup bt_tuple))) (pw_or (pt_cmpR op_ne (pe_callB call_len_seq rfl B.len bt_len (pa_cons (pv 2) pa_nil)) pe_int (nomark _)) (pw_or1 (pt_not (pt_val (pe_isin B (pe_ix ix_tup (pv 2) pe_int (fun _ _ => rfl)) rfl rfl B.bool bt_bool))))))) (pss_one (ps_ret pe_bl)) pss_nil)
      (pss_one (ps_if (PW.pt (pw_or (pt_val (pe_isin B (pe_ix ix_tup (pv 2) pe_int (fun _ _ => rfl)) rfl rfl B.bool bt_bool)) (pw_or (pt_not (pt_val (pe_isin B (pe_ix ix_tup (pv 2) pe_int (fun _ _ => rfl)) rfl rfl B.int bt_int))) (pw_or1 (pt_not (pt_chain op_le op_lt pe_int (pe_ix ix_tup (pv 2) pe_int (fun _ _ => rfl)) (pv 1))))))) (pss_one (ps_ret pe_bl)) pss_nil))))
    (pss_one (ps_ret pe_bl))), ?_⟩
  refine ⟨_, rfl, _, _, _, true, rfl, .lst el, rfl, true, rfl, iteF ⟨_, rfl, l, rfl, ⟨_, SqL.of el⟩, ?_⟩⟩
  refine for_list (K := K) (a := l) (xs := us) (fun i σ H2 => ∃ z, σ = [some (.ref l), some (.int N), z] ∧ H2 = H) ⟨none, rfl, rfl⟩ (fun i σ H2 _ ⟨_, _, z⟩ => by rw [z]; exact SqL.of el) ?_ ?_
  · rintro i y σ H2 hi ⟨z, rfl, rfl⟩
    obtain ⟨x, hx', p, rfl, hp⟩ := paired_get wu hi
    have hx := hc x (List.mem_of_getElem? hx')
    have i0 : atI [V.int x.1, V.bl x.2] 0 = some (V.int x.1) := rfl
    have i1 : atI [V.int x.1, V.bl x.2] 1 = some (V.bl x.2) := rfl
    refine ⟨_, rfl, _, _, _, true, rfl, .tup hp, rfl, true, rfl, iteF ⟨_, rfl, p, _, rfl, .inr (SqT.of hp), rfl, _, rfl, iteNS rfl ?_⟩⟩
    refine ⟨_, rfl, p, _, 1, _, rfl, rfl, SqT.of hp, i1, _, _, _, true, rfl, .bl _, rfl, true, rfl, iteF ?_⟩
    refine ⟨_, rfl, p, _, 0, _, rfl, rfl, SqT.of hp, i0, _, _, _, false, rfl, .int _, rfl, false, rfl, iteF ?_⟩
    refine ⟨_, rfl, p, _, 0, _, rfl, rfl, SqT.of hp, i0, _, _, _, true, rfl, .int _, rfl, true, rfl, iteF ?_⟩
    refine ⟨_, rfl, p, _, 0, _, rfl, rfl, SqT.of hp, i0, _, _, rfl, rfl, _, rfl, iteP hx.1 ⟨_, rfl, _, _, rfl, rfl, _, rfl, iteNS hx.2 ?_⟩⟩
    exact ⟨_, rfl, rfl⟩
  · rintro σ H2 ⟨z, rfl, rfl⟩
    exact k
end
end L2

end

section
set_option autoImplicit false
set_option maxRecDepth 100000
set_option linter.all false
namespace L2
open PySem PySem.Spec PyProof.Rows EoD Eo
abbrev S_lfar : Stmt := top 30
/-! ### all words, by a comprehension -/
abbrev te_every : TE := tTup (tCons (tOp (rI CDiv fun i j => .int (i / j)) (tVar 0) (tC (.int 2))) (tCons (tOp rEq (tOp (rI (fun _ j => 0 < j) fun i j => .int (i % j)) (tVar 0) (tC (.int 2))) (tC (.int 1))) tNil))
theorem every_ok {js : List Nat} {σ : St} {H : Hp} {N : Nat} {Qd : Addr → Hp → Prop} (hN : N ≤ 8) (k : ∀ D us H', Same H H' → H D = none → H' D = some (.lst us) → Ws H' us (allW N) → Qd D H') (D : Addr) (hD : H D = none) :
    ∃ W : Nat → Nat → List V → Hp → Prop, (∃ m, W 0 m [] (upd H D (.lst []))) ∧ ∀ i m acc H2, W i m acc H2 → H2 D = some (.lst acc) ∧ acc.length < sizeLine ∧ (((Itr 0 (2 * (N : Int)).toNat).stop i H2 ∧ Qd D H2) ∨
      ((Itr 0 (2 * (N : Int)).toNat).go i H2 ∧ ∀ x H3, (Itr 0 (2 * (N : Int)).toNat).yld i H2 x H3 → tYes (some x :: look σ js) H3 fun b H4 => if b = true then te_every (some x :: look σ js) H4 fun v H5 => H5 D = some (.lst acc) ∧ ∃ m', m' < m ∧ W (i + 1) m' (acc ++ [v]) (upd H5 D (.lst (acc ++ [v])))
        else ∃ m', m' < m ∧ W (i + 1) m' acc H4)) := by
  refine comp_range (lo := 0) (n := (2 * (N : Int)).toNat) (js := js) (tc := tYes) (te := te_every) (σ := σ) (fun j acc H6 => Same H H6 ∧ H6 D = some (.lst acc) ∧ Ws H6 acc ((allW N).take j) ∧ acc.length = j) ⟨Same.laid hD, upd_same, by simpa using Paired.nil, rfl⟩ ?_ ?_ ?_
  · rintro j acc H6 hj ⟨_, e6, _, la⟩
    exact ⟨e6, by rw [la, sizeLine_eq]; omega⟩
  · rintro j acc H6 R' hj ⟨s6, e6, wa, la⟩ hR
    simp only [tYes, if_true]
    refine ⟨_, rfl, _, _, rfl, rfl, ⟨by decide, by decide⟩, _, rfl, _, _, rfl, rfl, (show (0 : Int) < 2 by decide), rfl, (by show 2 ≤ sizeLine; decide), fun t ht => ?_⟩
    have Dt : D ≠ t := ne_of_none e6 ht
    have eD : upd H6 t (.tup [V.int ((0 + (j : Int)) / 2), V.bl (decide (V.int ((0 + (j : Int)) % 2) = V.int 1))]) D = some (.lst acc) := by rw [upd_ne Dt]; exact e6
    refine ⟨eD, hR _ _ ⟨(s6.laidT ht).chg hD, upd_same, ?_, by simp [la]⟩⟩
    have tp : Tups H6 (upd (upd H6 t (.tup [V.int ((0 + (j : Int)) / 2), V.bl (decide (V.int ((0 + (j : Int)) % 2) = V.int 1))])) D (.lst (acc ++ [.ref t]))) := (Same.laid ht).tups.trans (lst_notup eD)
    have eg := allW_get (N := N) (k := j) (by omega)
    rw [List.take_add_one, eg]
    refine (wa.tups tp).snoc ⟨t, rfl, ?_⟩
    rw [upd_ne Dt.symm, upd_same]
    have e1 : (0 + (j : Int)) / 2 = ((j / 2 : Nat) : Int) := by omega
    have e2 : decide (V.int ((0 + (j : Int)) % 2) = V.int 1) = (j % 2 == 1) := by
      rw [Bool.eq_iff_iff, decide_eq_true_iff, beq_iff_eq, V.int.injEq]
      omega
    rw [e1, e2]
  · rintro acc H6 ⟨s6, e6, wa, la⟩
    refine k D acc H6 s6 hD e6 ?_
    have e : (2 * (N : Int)).toNat = (allW N).length := by rw [allW_len]; omega
    rw [e, List.take_length] at wa
    exact wa
/-! ### how far -/
def kvF (F : List (W × Nat)) : List (W × V) := F.map fun p => (p.1, V.int (p.2 : Int))
theorem kvF_keys (F : List (W × Nat)) : (kvF F).map (·.1) = F.map (·.1) := by unfold kvF; rw [List.map_map]; rfl
theorem kvF_none {F : List (W × Nat)} {u : W} : valV (kvF F) u = none ↔ u ∉ F.map (·.1) := by rw [val_none, kvF_keys]
theorem kvF_some {u : W} {t : Nat} : ∀ {F : List (W × Nat)}, (F.map (·.1)).Nodup → (u, t) ∈ F → valV (kvF F) u = some (.int t)
  | [], _, h => by simp at h
  | p :: F, nd, h => by
    have nd' := List.nodup_cons.mp (show (p.1 :: F.map (·.1)).Nodup from nd)
    by_cases e : p.1 = u
    · rcases List.mem_cons.mp h with z | z
      · rw [← z]; exact valV_pos rfl
      · exact absurd (List.mem_map.mpr ⟨_, z, e.symm⟩) nd'.1
    · rcases List.mem_cons.mp h with z | z
      · exact absurd (by rw [← z]) e
      · show valV ((p.1, V.int (p.2 : Int)) :: kvF F) u = _
        rw [valV_neg (by exact e)]
        exact kvF_some nd'.2 z
theorem kvF_get {F : List (W × Nat)} (nd : (F.map (·.1)).Nodup) (u : W) : ∃ g : Int, (valV (kvF F) u).getD (V.int (-1)) = .int g ∧ ∀ t : Nat, g = (t : Int) ↔ (u, t) ∈ F := by
  by_cases h : u ∈ F.map (·.1)
  · obtain ⟨⟨u', d⟩, hp, rfl⟩ := List.mem_map.mp h
    refine ⟨d, by rw [kvF_some nd hp]; rfl, fun t => ⟨fun e => ?_, fun ht => ?_⟩⟩
    · have : d = t := by omega
      subst this
      exact hp
    · have a := kvF_some nd hp
      have b := kvF_some nd ht
      rw [a] at b
      cases b
      rfl
  · refine ⟨-1, by rw [kvF_none.2 h]; rfl, fun t => ⟨fun e => by omega, fun ht => absurd (List.mem_map.mpr ⟨_, ht, rfl⟩) h⟩⟩
theorem kvF_snoc (F : List (W × Nat)) (y : W) (t : Nat) : kvF F ++ [(y, V.int (0 + (t : Int) + 1))] = kvF (F ++ [(y, t + 1)]) := by
  unfold kvF
  rw [List.map_append]
  have e : 0 + (t : Int) + 1 = ((t + 1 : Nat) : Int) := by omega
  rw [e]
  rfl
/-- what stands in the heap while it is counted -/
structure FS (P : Program) (w : World) (H : Hp) (d E : Addr) (us : List V) (N : Nat) (F : List (W × Nat)) (H4 : Hp) : Prop where
  same : Same H H4
  el : H4 E = some (.lst us)
  wu : Ws H4 us (allW N)
  dw : DW P w H4 d (kvF F)
theorem FS.go {P : Program} {w : World} {H : Hp} {d E : Addr} {us : List V} {N : Nat} {F : List (W × Nat)} {H4 H5 : Hp} (f : FS P w H d E us N F H4) (s : Same H4 H5) : FS P w H d E us N F H5 := ⟨f.same.trans s, s _ _ f.el, f.wu.same s, f.dw.same s⟩
theorem FS.put {P : Program} {w : World} {H : Hp} {d E : Addr} {us : List V} {N : Nat} {F F' : List (W × Nat)} {H4 : Hp} {o : HO} (f : FS P w H d E us N F H4) (nd : H d = none) (n : DW P w (upd H4 d o) d (kvF F')) : FS P w H d E us N F' (upd H4 d o) := by
  have Ed : E ≠ d := by
    obtain ⟨φ, h⟩ := f.dw.obj
    exact ne_of f.el h (by intro z; cases z)
  exact ⟨f.same.chg nd, by rw [upd_ne Ed]; exact f.el, f.wu.tups f.dw.notup, n⟩
section
variable {P : Program} {w : World} {K : PySem.W.Frag} {mg : Str → Option Value} {base : Heap} {C : Addr}
def sp_lfar (P : Program) (w : World) : Sp := fun vs H Q _ => ∃ (t v : V) (N : Nat) (ws : List (W × W)) (x : W), vs = [t, v] ∧ ToldAt H t N ws ∧ GoodH N ws ∧ IsW H v x ∧ InN N x ∧ ∀ H' d F, Same H H' → H d = none → DW P w H' d (kvF F) → FarAll ws x F → Q (.ref d) H'
abbrev N_lfar : List Str := ["_law_told_here", "_law_word_here", "_law_found", "_law_every", "_law_turn", "_law_one", "_law_other"]
theorem sc_lfar : FnScope N_lfar ["_law_told_here", "_law_word_here"] (defScope S_lfar) := ⟨rfl, rfl, rfl, by decide +kernel, rfl, by decide +kernel, by decide +kernel⟩
set_option maxHeartbeats 4000000 in
theorem ok_lfar (D : Def K mg "_law_far" S_lfar ["_law_told_here", "_law_word_here"]) (B : Bare mg) (cx : Cal P w K mg base "_law_next" 2 ["_law_told_here", "_law_word_here", "_law_other"] sp_lnext) : Cal P w K mg base "_law_far" 3 ["_law_told_here", "_law_word_here"] (sp_lfar P w) := by
  refine D.cal (k := 2) sc_lfar (fun vs H Q E h => by obtain ⟨_, _, _, _, _, rfl, _⟩ := h; rfl) (fun f cdv A outer s H vs Q E hr h => ?_)
  obtain ⟨t, v, N, ws, x, rfl, ht, gh, hv, hx, k⟩ := h
  have hu := hu_of hr
  have N8 := gh.hi
  refine ⟨_, pss_cons (ps_set (i := 2) sc_lfar.nd rfl (Or.inl rfl) (pe_wone hr.units0 (pv 1) pe_int))
    (pss_cons (ps_comp (j := 3) (tc := tYes) (te := te_every) rfl sc_lfar.nd rfl rfl ⟨rfl, by decide +kernel, rfl, by decide +kernel, AllFree.all (by repeat (first | exact trivial | refine ⟨?_, ?_⟩ | (intro e; cases e <;> fail) | (intro _; rfl)))⟩ (ys := []) (js := []) trivial (by decide +kernel) (pi_range1 rfl B.rng (pa_cons (pe_op op_mul pe_int (pe_ix ix_tup (pv 0) pe_int (fun _ _ => rfl))) pa_nil)) (fun _ _ _ _ _ => pifs_nil)
      (fun _ _ _ _ _ => pe_tup (pa_cons (pe_op op_fdiv (pv 0) pe_int) (pa_cons (pe_cmpR op_eq (pe_op op_mod (pv 0) pe_int) pe_int (nomark _)) pa_nil))))
    (pss_cons (ps_for PassesOwn.never rfl (pi_range1 rfl B.rng (pa_cons (pe_callB call_len_seq rfl B.len bt_len (pa_cons (pv 3) pa_nil)) pa_nil)) (pg_name (i := 4) sc_lfar.nd rfl (Or.inl rfl))
      (pss_one (ps_for PassesOwn.never rfl (pi_list (pv 3)) (pg_name (i := 5) sc_lfar.nd rfl (Or.inl rfl))
        (pss_one (ps_if (pt_cmpR op_eq (pe_wget2 hu (pv 2) (pv 5) (pe_un un_neg pe_int) ⟨rfl, rfl, rfl, rfl⟩) (pv 4) (nomark _))
          (pss_one (ps_for PassesOwn.never rfl (pi_list (pv 3)) (pg_name (i := 6) sc_lfar.nd rfl (Or.inl rfl))
            (pss_one (ps_if (PW.pt (pw_and (pt_cmpR (op_niW hu) (pv 6) (pv 2) (by with_unfolding_all rfl)) (pw_and1 (pt_val (pe_cal cx hr rfl (pa_cons (pv 0) (pa_cons (pv 5) (pa_cons (pv 6) pa_nil))))))))
              (pss_one (ps_wput hu (pv 2) (pv 6) (pe_op op_add (pv 4) pe_int))) pss_nil)))) pss_nil)))))
    (pss_one (ps_ret (pv 2))))), ?_⟩
  intro d o hd
  refine ⟨_, rfl, x, hv.same (Same.laid hd), upd_same, fun o' dw => ?_⟩
  have s1 : Same H (upd (upd H d o) d o') := (Same.laid hd).chg hd
  have ht0 := ht
  obtain ⟨p, l, ts, rfl, hp, hl, pu⟩ := ht0
  have i0 : atI [V.int (N : Int), V.ref l] 0 = some (V.int N) := rfl
  refine ⟨_, rfl, p, _, 0, _, rfl, rfl, SqT.of (s1 _ _ hp), i0, _, _, rfl, rfl, .inl ⟨by decide, by decide⟩, _, rfl, by omega, by omega, every_ok N8 fun E us H3 s3 nE eE wE => ?_⟩
  have lus : us.length = 2 * N := by rw [Paired.length wE, allW_len]
  have fs0 : FS P w H d E us N [(x, 0)] H3 := ⟨s1.trans s3, eE, wE, dw.same s3⟩
  refine ⟨_, rfl, E, us, rfl, .inl (SqL.of eE), _, rfl, by omega, by omega, for_range (lo := 0) (n := ((us.length : Int)).toNat) (fun i σ H4 => ∃ (F : List (W × Nat)) (z4 z5 z6 : Option V), σ = [some (.ref p), some v, some (.ref d), some (.ref E), z4, z5, z6] ∧ FS P w H d E us N F H4 ∧ Far ws x i F)
    ⟨[(x, 0)], none, none, none, rfl, fs0, far_start ws x⟩ ?_ ?_⟩
  · rintro i σ H4 hi ⟨F, z4, z5, z6, rfl, fs, far⟩
    refine ⟨_, rfl, E, rfl, ⟨_, SqL.of fs.el⟩, for_list (K := K) (a := E) (xs := us) (fun j σ H5 => ∃ (F : List (W × Nat)) (z5 z6 : Option V), σ = [some (.ref p), some v, some (.ref d), some (.ref E), some (.int (0 + (i : Int))), z5, z6] ∧ FS P w H d E us N F H5 ∧ FarIn ws x i ((allW N).take j) F)
      ⟨F, z5, z6, rfl, fs, by simpa using far.enter⟩ (fun j σ H5 _ ⟨_, _, _, _, q, _⟩ => SqL.of q.el) ?_ ?_⟩
    · rintro j y σ H5 hj ⟨F, z5, z6, rfl, fs, far⟩
      obtain ⟨u, hu', isu⟩ := paired_get fs.wu hj
      have et : (allW N).take (j + 1) = (allW N).take j ++ [u] := by rw [List.take_add_one, hu']; rfl
      obtain ⟨g, eg, hg⟩ := kvF_get far.nd u
      refine ⟨_, rfl, d, kvF F, rfl, fs.dw, _, rfl, 1, rfl, u, kvF F, isu, fs.dw, ?_⟩
      show tVar 4 _ _ fun y' H2 => rEq ((valV (kvF F) u).getD (V.int (-1))) y' H2 _
      rw [eg]
      refine ⟨_, rfl, rfl, _, rfl, iteD (fun e => ?_) (fun e => ?_)⟩
      · have hin : (u, i) ∈ F := (hg i).1 (by have := V.int.inj e; omega)
        refine ⟨_, rfl, E, rfl, ⟨_, SqL.of fs.el⟩, for_list (K := K) (a := E) (xs := us) (fun m σ H6 => ∃ (F : List (W × Nat)) (z6 : Option V), σ = [some (.ref p), some v, some (.ref d), some (.ref E), some (.int (0 + (i : Int))), some y, z6] ∧ FS P w H d E us N F H6 ∧ IsW H6 y u ∧ FarIn2 ws x i ((allW N).take j) u ((allW N).take m) F)
          ⟨F, z6, rfl, fs, isu, by simpa using far.enter hin⟩ (fun j σ H5 _ ⟨_, _, _, q, _⟩ => SqL.of q.el) ?_ ?_⟩
        · rintro m z σ H6 hm ⟨F, z6, rfl, fs, isu, far⟩
          obtain ⟨q, hq, isq⟩ := paired_get fs.wu hm
          have em : (allW N).take (m + 1) = (allW N).take m ++ [q] := by rw [List.take_add_one, hq]; rfl
          refine ⟨_, rfl, _, rfl, d, q, kvF F, rfl, isq, fs.dw, _, rfl, iteB (fun hb => ?_) (fun hb => iteF ?_)⟩
          · have ev : valV (kvF F) q = none := by
              cases z : valV (kvF F) q with
              | none => rfl
              | some _ => rw [z] at hb; cases hb
            have nq := kvF_none.1 ev
            refine ⟨_, rfl, _, rfl, _, rfl, _, y, z, N, ws, u, q, rfl, ht.same fs.same, isu, isq, fun H7 s7 => ⟨_, rfl, iteD (fun hn => ?_) (fun hn => ?_)⟩⟩
            · have fs7 := fs.go s7
              have lF : (kvF F).length ≤ 16 := by
                have := far.toFarIn.toFar0.len gh.good hx
                unfold kvF
                rw [List.length_map]
                omega
              refine ⟨_, rfl, _, _, rfl, rfl, _, rfl, _, rfl, d, q, kvF F, rfl, isq.same s7, fs7.dw, ev, by omega, fun o7 dw7 => ?_⟩
              rw [kvF_snoc] at dw7
              exact ⟨F ++ [(q, i + 1)], _, rfl, fs7.put hd dw7, (isu.same s7).tups fs7.dw.notup, by rw [em]; exact far.new nq hn⟩
            · exact ⟨F, _, rfl, fs.go s7, isu.same s7, by rw [em]; exact far.old (.inr hn)⟩
          · have hq' : q ∈ F.map (·.1) := by
              by_cases c : q ∈ F.map (·.1)
              · exact c
              · rw [kvF_none.2 c] at hb; cases hb
            exact ⟨F, _, rfl, fs, isu, by rw [em]; exact far.old (.inl hq')⟩
        · rintro σ H6 ⟨F, z6, rfl, fs, isu, far⟩
          refine ⟨F, _, _, rfl, fs, ?_⟩
          rw [et]
          refine far.leave fun q hn => ?_
          have e : us.length = (allW N).length := by rw [lus, allW_len]
          rw [e, List.take_length]
          exact mem_allW.2 (hn.inN gh.good)
      · have hin : (u, i) ∉ F := fun z => e (by rw [(hg i).2 z]; simp)
        exact ⟨F, _, _, rfl, fs, by rw [et]; exact far.skip hin⟩
    · rintro σ H5 ⟨F, z5, z6, rfl, fs, far⟩
      refine ⟨F, _, _, _, rfl, fs, far.leave fun q hq => ?_⟩
      have e : us.length = (allW N).length := by rw [lus, allW_len]
      rw [e, List.take_length]
      obtain ⟨kk, hk⟩ := hq
      exact mem_allW.2 (hk.inN gh.good hx)
  · rintro σ H4 ⟨F, z4, z5, z6, rfl, fs, far⟩
    have e : ((us.length : Int)).toNat = 2 * N := by omega
    rw [e] at far
    exact ⟨_, rfl, k _ d F fs.same hd fs.dw (far.all gh.good hx)⟩
end
end L2

end

section
set_option autoImplicit false
set_option maxRecDepth 100000
set_option linter.all false
namespace L2
open PySem PySem.Spec PyProof.Rows EoD Eo
abbrev S_lgroups : Stmt := top 31
abbrev S_lright : Stmt := top 32
theorem far_some {ws : List (W × W)} {u z : W} {F : List (W × Nat)} (f : FarAll ws u F) : (valV (kvF F) z).isSome = R ws u z := by
  rw [Bool.eq_iff_iff, R_iff, ← f.mem z]
  constructor
  · intro h
    by_cases c : z ∈ F.map (·.1)
    · exact c
    · rw [kvF_none.2 c] at h; cases h
  · intro h
    cases e : valV (kvF F) z with
    | none => exact absurd h (kvF_none.1 e)
    | some _ => rfl
theorem DW.keep {P : Program} {w : World} {H : Hp} {a b : Addr} {kvs : List (W × V)} {o : HO} (d : DW P w H a kvs) (h : a ≠ b) (t : Tups H (L2.upd H b o)) : DW P w (L2.upd H b o) a kvs := by
  obtain ⟨xs, h1, h2, h3⟩ := d.ex
  exact ⟨⟨xs, by rw [upd_ne h]; exact h1, fun x hx => t _ _ (h2 x hx), h3⟩, d.len⟩
/-- a dict of dicts, word by word -/
abbrev GR (P : Program) (w : World) (ws : List (W × W)) (df : Addr) (H' : Hp) : List (W × V) → List W → Prop := Paired fun kv u => kv.1 = u ∧ ∃ a F, kv.2 = V.ref a ∧ a ≠ df ∧ DW P w H' a (kvF F) ∧ FarAll ws u F
theorem GR.val {P : Program} {w : World} {ws : List (W × W)} {df : Addr} {H' : Hp} {k : W} : ∀ {kvs : List (W × V)} {l : List W}, GR P w ws df H' kvs l → k ∈ l → ∃ a F, valV kvs k = some (.ref a) ∧ DW P w H' a (kvF F) ∧ FarAll ws k F
  | _, _, .nil, h => by simp at h
  | kv :: kvs, u :: l, .cons r rs, h => by
    by_cases e : kv.1 = k
    · have : u = k := r.1.symm.trans e
      subst this
      obtain ⟨_, a, F, h1, _, h2, h3⟩ := r
      exact ⟨a, F, by rw [valV_pos e, h1], h2, h3⟩
    · rcases List.mem_cons.mp h with z | z
      · exact absurd (r.1.trans z.symm) e
      · obtain ⟨a, F, h1, h2⟩ := GR.val rs z
        exact ⟨a, F, by rw [valV_neg e]; exact h1, h2⟩
theorem GR.keys {P : Program} {w : World} {ws : List (W × W)} {df : Addr} {H' : Hp} : ∀ {kvs : List (W × V)} {l : List W}, GR P w ws df H' kvs l → kvs.map (·.1) = l
  | _, _, .nil => rfl
  | _, _, .cons r rs => by rw [List.map_cons, r.1, GR.keys rs]
section
variable {P : Program} {w : World} {K : PySem.W.Frag} {mg : Str → Option Value} {base : Heap} {C : Addr}
def sp_lgroups : Sp := fun vs H Q _ => ∃ (t : V) (N : Nat) (ws : List (W × W)), vs = [t] ∧ ToldAt H t N ws ∧ GoodH N ws ∧ ∀ H' v', Same H H' → NewGL H H' v' (groups ws N) → Q v' H'
abbrev N_lgroups : List Str := ["_law_told_here", "_law_every", "_law_far_here", "_law_word_here", "_law_found", "_law_group"]
theorem sc_lgroups : FnScope N_lgroups ["_law_told_here"] (defScope S_lgroups) := ⟨rfl, rfl, rfl, by decide +kernel, rfl, by decide +kernel, by decide +kernel⟩
abbrev tc_lg (P : Program) (w : World) : TT := tAnd (tTest (tOp (rInW P w) (tVar 0) (tWGet P w (tVar 1) (tVar 2)))) (tTest (tOp (rInW P w) (tVar 2) (tWGet P w (tVar 1) (tVar 0))))
set_option maxHeartbeats 4000000 in
theorem ok_lgroups (D : Def K mg "_law_groups" S_lgroups ["_law_told_here"]) (B : Bare mg) (cf : Cal P w K mg base "_law_far" 3 ["_law_told_here", "_law_word_here"] (sp_lfar P w)) : Cal P w K mg base "_law_groups" 4 ["_law_told_here"] sp_lgroups := by
  refine D.cal (k := 3) sc_lgroups (fun vs H Q E h => by obtain ⟨_, _, _, rfl, _⟩ := h; rfl) (fun f cdv A outer s H vs Q E hr h => ?_)
  obtain ⟨tv, N, ws, rfl, ht, gh, k⟩ := h
  have hu := hu_of hr
  have N8 := gh.hi
  refine ⟨_, pss_cons (ps_comp (j := 1) (tc := tYes) (te := te_every) rfl sc_lgroups.nd rfl rfl ⟨rfl, by decide +kernel, rfl, by decide +kernel, AllFree.all (by repeat (first | exact trivial | refine ⟨?_, ?_⟩ | (intro e; cases e <;> fail) | (intro _; rfl)))⟩ (ys := []) (js := []) trivial (by decide +kernel) (pi_range1 rfl B.rng (pa_cons (pe_op op_mul pe_int (pe_ix ix_tup (pv 0) pe_int (fun _ _ => rfl))) pa_nil)) (fun _ _ _ _ _ => pifs_nil)
      (fun _ _ _ _ _ => pe_tup (pa_cons (pe_op op_fdiv (pv 0) pe_int) (pa_cons (pe_cmpR op_eq (pe_op op_mod (pv 0) pe_int) pe_int (nomark _)) pa_nil))))
    (pss_cons (ps_set (i := 2) sc_lgroups.nd rfl (Or.inr rfl) pe_wnew)
    (pss_cons (ps_for PassesOwn.never rfl (pi_list (pv 1)) (pg_name (i := 3) sc_lgroups.nd rfl (Or.inr rfl)) (pss_one (ps_wput hu (pv 2) (pv 3) (pe_cal cf hr rfl (pa_cons (pv 0) (pa_cons (pv 3) pa_nil))))))
    (pss_cons (ps_set (i := 4) sc_lgroups.nd rfl (Or.inl rfl) (pe_lst pa_nil))
    (pss_cons (ps_for PassesOwn.never rfl (pi_list (pv 1)) (pg_name (i := 3) sc_lgroups.nd rfl (Or.inr rfl))
      (pss_cons (ps_comp (j := 5) (tc := tc_lg P w) (te := tVar 0) rfl sc_lgroups.nd rfl rfl ⟨rfl, by decide +kernel, rfl, by decide +kernel, AllFree.all (by repeat (first | exact trivial | refine ⟨?_, ?_⟩ | (intro e; cases e <;> fail) | (intro _; rfl)))⟩ (ys := ["_law_far_here", "_law_word_here"]) (js := [2, 3]) ⟨rfl, rfl, rfl, rfl, rfl, rfl, trivial⟩ (by decide +kernel) (pi_list (pv 1))
          (fun _ _ _ _ _ => pifs_one (PW.pt (pw_and (pt_cmpR (op_inW hu) (pv 0) (pe_wget hu (pv 1) (pv 2) (fun _ _ => rfl)) (by with_unfolding_all rfl)) (pw_and1 (pt_cmpR (op_inW hu) (pv 2) (pe_wget hu (pv 1) (pv 0) (fun _ _ => rfl)) (by with_unfolding_all rfl)))))) (fun _ _ _ _ _ => pv 0))
      (pss_one (ps_if (pt_cmpR (op_eqW hr.units) (pe_ix ix_list (pv 5) pe_int (fun _ _ => rfl)) (pv 3) (nomark _)) (pss_one (ps_app (pv 4) (pv 5))) pss_nil))))
    (pss_one (ps_ret (pv 4))))))), ?_⟩
  have ht0 := ht
  obtain ⟨p, l, ts, rfl, hp, hl, pu⟩ := ht0
  have i0 : atI [V.int (N : Int), V.ref l] 0 = some (V.int N) := rfl
  refine ⟨_, rfl, p, _, 0, _, rfl, rfl, SqT.of hp, i0, _, _, rfl, rfl, .inl ⟨by decide, by decide⟩, _, rfl, by omega, by omega, every_ok N8 fun E us H1 s1 nE eE wE => ?_⟩
  intro d o hd dw0
  have s2 : Same H (upd H1 d o) := s1.laidT hd
  have nd : H d = none := s1.free hd
  have Ed : E ≠ d := ne_of_none eE hd
  have lus : us.length = (allW N).length := Paired.length wE
  have lus2 : us.length = 2 * N := by rw [lus, allW_len]
  refine ⟨_, rfl, E, rfl, ⟨_, SqL.of (Same.laid hd _ _ eE)⟩, for_list (K := K) (a := E) (xs := us) (fun i σ H2 => ∃ (kvs : List (W × V)) (z : Option V), σ = [some (.ref p), some (.ref E), some (.ref d), z, none, none] ∧ Same H H2 ∧ H2 E = some (.lst us) ∧ Ws H2 us (allW N) ∧ DW P w H2 d kvs ∧ GR P w ws d H2 kvs ((allW N).take i))
    ⟨[], none, rfl, s2, Same.laid hd _ _ eE, wE.same (Same.laid hd), dw0, by simpa using Paired.nil⟩ (fun i σ H2 _ ⟨_, _, _, _, z, _⟩ => SqL.of z) ?_ ?_⟩
  · rintro i y σ H2 hi ⟨kvs, z, rfl, s2, el2, wu2, dw2, gr2⟩
    obtain ⟨u, hu', isy⟩ := paired_get wu2 hi
    have iu : InN N u := mem_allW.1 (List.mem_of_getElem? hu')
    have lk : kvs.length ≤ 16 := by
      have := Paired.length gr2
      rw [List.length_take, allW_len] at this
      omega
    have il : i < 2 * N := by
      have := (List.getElem?_eq_some_iff.mp hu').1
      rw [allW_len] at this
      exact this
    have ev : valV kvs u = none := val_none.2 (by
      rw [GR.keys gr2]
      intro hm
      obtain ⟨j, hj, ej⟩ := List.mem_iff_getElem.mp hm
      rw [List.getElem_take] at ej
      rw [List.length_take] at hj
      have e2 : (allW N)[i]? = some (allW N)[j] := by rw [hu', ej]
      have hi2 : i < (allW N).length := by rw [allW_len]; exact il
      rw [List.getElem?_eq_getElem hi2] at e2
      have := (List.getElem_inj (up_allW N).nodup).mp (Option.some.inj e2)
      omega)
    refine ⟨_, rfl, _, rfl, _, y, N, ws, u, rfl, ht.same s2, gh, isy, iu, fun H3 fd F s23 nfd dwF fa => ?_⟩
    refine ⟨_, rfl, _, rfl, d, u, kvs, rfl, isy.same s23, dw2.same s23, ev, by omega, fun o' dw' => ?_⟩
    have tp : Tups H3 (upd H3 d o') := (dw2.same s23).notup
    have fdd : fd ≠ d := fun z => by
      obtain ⟨φ, e'⟩ := dw2.obj
      rw [← z, nfd] at e'
      cases e'
    refine ⟨kvs ++ [(u, V.ref fd)], some y, rfl, (s2.trans s23).chg nd, by rw [upd_ne Ed]; exact s23 _ _ el2, (wu2.same s23).tups tp, dw', ?_⟩
    have et : (allW N).take (i + 1) = (allW N).take i ++ [u] := by rw [List.take_add_one, hu']; rfl
    rw [et]
    exact Paired.snoc (Paired.mapP gr2 fun kv u' ⟨e, a, F, ea, na, dwa, fa⟩ => ⟨e, a, F, ea, na, (dwa.same s23).keep na tp, fa⟩) ⟨rfl, fd, F, rfl, fdd, dwF.keep fdd tp, fa⟩
  rintro σ H2 ⟨kvs, z, rfl, s2, el2, wu2, dw2, gr2⟩
  rw [lus, List.take_length] at gr2
  refine ⟨Nat.zero_le _, fun g hg => ?_⟩
  have s3 : Same H (upd H2 g (.lst [])) := s2.laidT hg
  have ng : H g = none := s2.free hg
  have sg : Same H2 (upd H2 g (.lst [])) := Same.laid hg
  have Eg : E ≠ g := ne_of_none el2 hg
  refine ⟨_, rfl, E, rfl, ⟨_, SqL.of (sg _ _ el2)⟩, for_list (K := K) (a := E) (xs := us) (fun i σ H5 => ∃ (gvs : List V) (z1 z2 : Option V), σ = [some (.ref p), some (.ref E), some (.ref d), z1, some (.ref g), z2] ∧ Same H H5 ∧ H5 E = some (.lst us) ∧ Ws H5 us (allW N) ∧ DW P w H5 d kvs ∧ GR P w ws d H5 kvs (allW N) ∧ H5 g = some (.lst gvs) ∧
      Paired (NewWs H H5) gvs ((((allW N).take i).filter fun u => (grp ws N u).head? == some u).map (grp ws N)) ∧ gvs.length ≤ i ∧ ∀ v ∈ gvs, v ≠ .ref g)
    ⟨[], z, none, rfl, s3, sg _ _ el2, wu2.same sg, dw2.same sg, Paired.mapP gr2 fun kv u' ⟨e, a, F, ea, na, dwa, fa⟩ => ⟨e, a, F, ea, na, dwa.same sg, fa⟩, upd_same, by simpa using Paired.nil, Nat.le_refl _, fun v hv => by simp at hv⟩ (fun i σ H5 _ ⟨_, _, _, _, _, q, _⟩ => SqL.of q) ?_ ?_⟩
  · rintro i y σ H5 hi ⟨gvs, z1, z2, rfl, s5, el5, wu5, dw5, gr5, eg5, pg5, ng5, gn5⟩
    obtain ⟨u, hu', isy⟩ := paired_get wu5 hi
    have iu : InN N u := mem_allW.1 (List.mem_of_getElem? hu')
    have il : i < 2 * N := by
      have := (List.getElem?_eq_some_iff.mp hu').1
      rw [allW_len] at this
      exact this
    obtain ⟨fa, Fu, ev, dwu, fau⟩ := GR.val gr5 (mem_allW.2 iu)
    refine ⟨_, rfl, E, rfl, ⟨_, SqL.of el5⟩, fun Dd hD => ?_⟩
    refine comp_list (K := K) (a := E) (xs := us) (js := [2, 3]) (tc := tc_lg P w) (te := tVar 0) (σ := [some (.ref p), some (.ref E), some (.ref d), z1, some (.ref g), z2].set 3 (some y)) (fun j acc H6 => H6 = upd H5 Dd (.lst acc) ∧ Ws H5 acc (((allW N).take j).filter fun v => R ws u v && R ws v u) ∧ acc.length ≤ j) ⟨rfl, by simpa using Paired.nil, Nat.le_refl _⟩ ?_ ?_ ?_
    · rintro j acc H6 hj ⟨rfl, wa, la⟩
      refine ⟨SqL.of ?_, upd_same, by rw [sizeLine_eq]; omega⟩
      rw [upd_ne (ne_of_none el5 hD)]
      exact el5
    · rintro j x' acc H6 R' hj ⟨rfl, wa, la⟩ hR
      have s6 : Same H5 (upd H5 Dd (.lst acc)) := Same.laid hD
      obtain ⟨z', hz, isz⟩ := paired_get wu5 hj
      have hzm : z' ∈ allW N := List.mem_of_getElem? hz
      obtain ⟨fz, Fz, evz, dwz, faz⟩ := GR.val gr5 hzm
      have etk := take_filter hz fun v => R ws u v && R ws v u
      have no : (R ws u z' && R ws z' u) = false → R' acc (upd H5 Dd (.lst acc)) := fun h => hR _ _ ⟨rfl, by rw [etk, if_neg (by rw [h]; decide), List.append_nil]; exact wa, by omega⟩
      refine ⟨_, rfl, _, rfl, _, rfl, d, u, kvs, _, rfl, isy.same s6, dw5.same s6, ev, fa, z', kvF Fu, rfl, isz.same s6, dwu.same s6, _, rfl, iteB (fun h1 => ?_) (fun h1 => iteF (no ?_))⟩
      · rw [far_some fau] at h1
        refine ⟨_, rfl, _, rfl, _, rfl, d, z', kvs, _, rfl, isz.same s6, dw5.same s6, evz, fz, u, kvF Fz, rfl, isy.same s6, dwz.same s6, _, rfl, iteB (fun h2 => ?_) (fun h2 => no ?_)⟩
        · rw [far_some faz] at h2
          refine ⟨_, rfl, upd_same, hR _ _ ⟨upd_upd, ?_, by simp; omega⟩⟩
          rw [etk, if_pos (by rw [h1, h2]; rfl)]
          exact wa.snoc isz
        · rw [far_some faz] at h2
          rw [h2, Bool.and_false]
      · rw [far_some fau] at h1
        rw [h1, Bool.false_and]
    · rintro acc H6 ⟨rfl, wa, la⟩
      have s6 : Same H5 (upd H5 Dd (.lst acc)) := Same.laid hD
      rw [lus, List.take_length] at wa
      have wa : Ws H5 acc (grp ws N u) := wa
      have nDd : H Dd = none := s5.free hD
      have gD : Dd ≠ g := (ne_of_none eg5 hD).symm
      obtain ⟨g0, gr, eg⟩ : ∃ g0 gr, grp ws N u = g0 :: gr := by
        cases q : grp ws N u with
        | nil => have := self_grp (ws := ws) iu; rw [q] at this; simp at this
        | cons a b => exact ⟨a, b, rfl⟩
      have wa' := wa
      rw [eg] at wa'
      cases wa' with
      | @cons v0 _ r0 _ is0 wr =>
        have h0 : atI (v0 :: r0) 0 = some v0 := atI_nat (j := 0) rfl
        have new : NewWs H (upd H5 Dd (.lst (v0 :: r0))) (.ref Dd) (grp ws N u) := ⟨Dd, _, rfl, nDd, upd_same, wa.same s6⟩
        have pg6 : Paired (NewWs H (upd H5 Dd (.lst (v0 :: r0)))) gvs ((((allW N).take i).filter fun u => (grp ws N u).head? == some u).map (grp ws N)) := Paired.mapP pg5 fun _ _ q => q.same s6
        have etk := take_filter hu' fun u => (grp ws N u).head? == some u
        refine ⟨_, rfl, Dd, _, 0, v0, rfl, rfl, SqL.of upd_same, h0, _, rfl, g0, u, is0.same s6, isy.same s6, _, rfl, iteD (fun e => ?_) (fun e => ?_)⟩
        · have eg6 : (upd H5 Dd (.lst (v0 :: r0))) g = some (.lst gvs) := s6 _ _ eg5
          refine ⟨_, rfl, .inl ⟨rfl, _, SqL.of eg6⟩, _, rfl, g, gvs, _, rfl, rfl, eg6, by rw [sizeLine_eq]; omega, ?_⟩
          have tp : Tups (upd H5 Dd (.lst (v0 :: r0))) (upd (upd H5 Dd (.lst (v0 :: r0))) g (.lst (gvs ++ [.ref Dd]))) := lst_notup eg6
          have keepN : ∀ {v : V} {ll : List W}, NewWs H (upd H5 Dd (.lst (v0 :: r0))) v ll → v ≠ .ref g → NewWs H (upd (upd H5 Dd (.lst (v0 :: r0))) g (.lst (gvs ++ [.ref Dd]))) v ll := fun {v ll} ⟨a, vs, h1, h2, h3, h4⟩ ne => by
            subst h1
            exact ⟨a, vs, rfl, h2, by rw [upd_ne (fun q => ne (by rw [q]))]; exact h3, h4.tups tp⟩
          refine ⟨gvs ++ [.ref Dd], _, _, rfl, (s5.trans s6).chg ng, by rw [upd_ne Eg]; exact s6 _ _ el5, (wu5.same s6).tups tp, (dw5.same s6).upd eg6, Paired.mapP gr5 fun kv u' ⟨e, a, F, ea, na, dwa, fa⟩ => ⟨e, a, F, ea, na, (dwa.same s6).upd eg6, fa⟩, upd_same, ?_, by simp; omega, fun v hv => ?_⟩
          · have heq : ((grp ws N u).head? == some u) = true := by rw [eg, e]; simp
            rw [etk, if_pos heq, List.map_append]
            exact Paired.snoc (paired_mem pg6 fun v ll hv q => keepN q (gn5 v hv)) (keepN new (by intro q; cases q; exact gD rfl))
          · rcases List.mem_append.mp hv with hv | hv
            · exact gn5 v hv
            · have : v = .ref Dd := by simpa using hv
              subst this
              intro q; cases q; exact gD rfl
        · have heq : ¬ ((grp ws N u).head? == some u) = true := by rw [eg]; simpa using e
          refine ⟨gvs, _, _, rfl, s5.trans s6, s6 _ _ el5, wu5.same s6, dw5.same s6, Paired.mapP gr5 fun kv u' ⟨e, a, F, ea, na, dwa, fa⟩ => ⟨e, a, F, ea, na, dwa.same s6, fa⟩, s6 _ _ eg5, ?_, by omega, gn5⟩
          rw [etk, if_neg heq, List.append_nil]
          exact pg6
  · rintro σ H5 ⟨gvs, z1, z2, rfl, s5, el5, wu5, dw5, gr5, eg5, pg5, ng5, gn5⟩
    rw [lus, List.take_length] at pg5
    exact ⟨_, rfl, k _ _ s5 ⟨g, gvs, rfl, ng, eg5, pg5⟩⟩
/-! whether it is a shortest chain, by the law -/
def sp_lright (P : Program) (w : World) : Sp := fun vs H Q _ => ∃ (t wv ov : V) (d l : Addr) (N : Nat) (ws : List (W × W)) (x y : W) (F : List (W × Nat)) (us : List V) (cs : List W), vs = [t, .ref d, wv, ov, .ref l] ∧ ToldAt H t N ws ∧ DW P w H d (kvF F) ∧ FarAll ws x F ∧ IsW H wv x ∧ IsW H ov y ∧ H l = some (.lst us) ∧ Ws H us cs ∧ us.length ≤ 1000 ∧ ChainOk ws x y cs ∧ ∀ H', Same H H' → Q (.bl true) H'
abbrev N_lright : List Str := ["_law_told_here", "_law_far_here", "_law_word_here", "_law_other", "_law_found"]
theorem sc_lright : FnScope N_lright N_lright (defScope S_lright) := ⟨rfl, rfl, rfl, by decide +kernel, rfl, by decide +kernel, by decide +kernel⟩
set_option maxHeartbeats 4000000 in
theorem ok_lright (D : Def K mg "_law_right" S_lright N_lright) (B : Bare mg) (cc : Cal P w K mg base "_law_chain" 3 ["_law_told_here", "_law_links"] sp_lchain) : Cal P w K mg base "_law_right" 4 N_lright (sp_lright P w) := by
  refine D.cal (k := 3) sc_lright (fun vs H Q E h => by obtain ⟨_, _, _, _, _, _, _, _, _, _, _, _, rfl, _⟩ := h; rfl) (fun f cdv A outer s H vs Q E hr h => ?_)
  obtain ⟨t, wv, ov, d, l, N, ws, x, y, F, us, cs, rfl, ht, dw, fa, wx, wy, el, wu, lu, ok, k⟩ := h
  have hu := hu_of hr
  have hu4 := hr.units
  refine ⟨_, pss_cons (ps_if (PW.pt (pw_or (pt_cmpR (op_eqWL hu4) (pv 4) (pe_lst pa_nil) (nomark _)) (pw_or1 (pt_cmpR (op_niW hu) (pv 3) (pv 1) (by with_unfolding_all rfl)))))
      (pss_one (ps_ret (pe_and (pe_cmpR (op_eqWL hu4) (pv 4) (pe_lst pa_nil) (nomark _)) (pe_one (pe_cmpR (op_niW hu) (pv 3) (pv 1) (by with_unfolding_all rfl)))))) pss_nil)
    (pss_cons (ps_if (PW.pt (pw_or (pt_not (pt_val (pe_cal cc hr rfl (pa_cons (pv 0) (pa_cons (pv 4) pa_nil))))) (pw_or (pt_cmpR (op_neW hu4) (pe_ix ix_list (pv 4) pe_int (fun _ _ => rfl)) (pv 2) (nomark _)) (pw_or1 (pt_cmpR (op_neW hu4) (pe_ix ix_list (pv 4) (pe_un un_neg pe_int) (fun _ _ => rfl)) (pv 3) (nomark _))))))
      (pss_one (ps_ret pe_bl)) pss_nil)
    (pss_one (ps_ret (pe_cmpR op_eq (pe_callB call_len_seq rfl B.len bt_len (pa_cons (pv 4) pa_nil)) (pe_op op_add (pe_wget hu (pv 1) (pv 3) (fun _ _ => rfl)) pe_int) (nomark _))))), ?_⟩
  have R1 := far_some (z := y) fa
  refine ⟨_, rfl, Nat.zero_le _, fun q hq => ⟨cs, [], ⟨l, us, rfl, SqL.of (Same.laid hq _ _ el), wu.same (Same.laid hq)⟩, ⟨q, [], rfl, SqL.of upd_same, .nil⟩, _, rfl, ?_⟩⟩
  have s1 : Same H (upd H q (.lst [])) := Same.laid hq
  rcases ok with ⟨nr, rfl⟩ | ⟨n, di, ch, hh, hl, hn⟩
  · refine iteP rfl (iteT ?_)
    refine ⟨_, rfl, Nat.zero_le _, fun q2 hq2 => ⟨[], [], ⟨l, us, rfl, SqL.of ((s1.laidT hq2) _ _ el), wu.same (s1.laidT hq2)⟩, ⟨q2, [], rfl, SqL.of upd_same, .nil⟩, _, rfl, iteP rfl ?_⟩⟩
    have s2 := s1.laidT (o := .lst []) hq2
    refine ⟨_, rfl, _, rfl, d, y, kvF F, rfl, wy.same s2, dw.same s2, ?_⟩
    have e : (valV (kvF F) y).isSome = false := by
      rw [R1]
      cases z : R ws x y with
      | false => rfl
      | true => exact absurd (R_iff.1 z) nr
    rw [e]
    exact k _ s2
  · have nc : cs ≠ [] := fun z => by rw [z] at hh; cases hh
    have lc : us.length = cs.length := Paired.length wu
    have hin : (valV (kvF F) y).isSome = true := by rw [R1, R_iff]; exact ⟨n, di.1⟩
    have hyn : (y, n) ∈ F := by
      obtain ⟨⟨y', n'⟩, hp, e⟩ := List.mem_map.mp ((fa.mem y).2 ⟨n, di.1⟩)
      have e' : y' = y := e
      subst e'
      have := (fa.dist _ hp).uniq di
      have e2 : n' = n := this
      rw [← e2]; exact hp
    have ev := kvF_some fa.nd hyn
    refine iteN nc ⟨_, rfl, _, rfl, d, y, kvF F, rfl, wy.same s1, dw.same s1, _, rfl, ?_⟩
    rw [hin]
    refine iteF ⟨_, rfl, _, rfl, t, l, N, ws, us, cs, rfl, ht.same s1, s1 _ _ el, wu.same s1, lu, nc, ch, fun H2 s12 => ⟨true, rfl, iteF ?_⟩⟩
    have s2 := s1.trans s12
    obtain ⟨v0, hv0, is0⟩ := paired_get' wu (i := 0) (b := x) (by rw [← List.head?_eq_getElem?]; exact hh)
    obtain ⟨vn, hvn, isn⟩ := paired_get' wu (i := cs.length - 1) (b := y) (by rw [← List.getLast?_eq_getElem?]; exact hl)
    have a0 : atI us 0 = some v0 := atI_nat (j := 0) hv0
    have ne : us ≠ [] := fun z => by rw [z] at lc; exact nc (List.eq_nil_of_length_eq_zero lc.symm)
    have an : atI us (-1) = some vn := by
      have z := atI_last us.dropLast (us.getLast ne)
      rw [List.dropLast_concat_getLast] at z
      rw [z, ← hvn, ← lc, List.getLast_eq_getElem, List.getElem?_eq_getElem]
    refine ⟨_, rfl, l, us, 0, v0, rfl, rfl, SqL.of (s2 _ _ el), a0, _, rfl, x, x, is0.same s2, wx.same s2, _, rfl, iteNS rfl ?_⟩
    refine ⟨_, rfl, 1, rfl, l, us, -1, vn, rfl, rfl, SqL.of (s2 _ _ el), an, _, rfl, y, y, isn.same s2, wy.same s2, _, rfl, iteNS rfl ?_⟩
    refine ⟨_, rfl, l, us, rfl, .inl (SqL.of (s2 _ _ el)), _, rfl, _, rfl, d, y, kvF F, _, rfl, wy.same s2, dw.same s2, ev, _, _, rfl, rfl, rfl, ?_⟩
    have e : decide (V.int (us.length : Int) = V.int ((n : Int) + 1)) = true := decide_eq_true (by rw [lc, hn]; rfl)
    have z := k _ s2
    rw [← e] at z
    exact z
end
end L2

end

section
set_option autoImplicit false
set_option maxRecDepth 100000
set_option linter.all false
namespace L2
open PySem PySem.Spec PyProof.Rows EoD Eo
abbrev S_law : Stmt := top 33
theorem NewGL.gl {K : PySem.W.Frag} {H H' : Hp} {v : V} {gs : List (List W)} (h : NewGL H H' v gs) : GL K H' v gs := let ⟨a, vs, h1, _, h3, h4⟩ := h; ⟨a, vs, h1, SqL.of h3, Paired.mapP h4 fun _ _ z => z.wl⟩
theorem NewGL.same {H H' H2 : Hp} {v : V} {gs : List (List W)} (h : NewGL H H' v gs) (e : Same H' H2) : NewGL H H2 v gs := let ⟨a, vs, h1, h2, h3, h4⟩ := h; ⟨a, vs, h1, h2, e _ _ h3, Paired.mapP h4 fun _ _ z => z.same e⟩
theorem HouseAt.updL {C : Addr} {H : Hp} {v : V} {N : Nat} {ws : List (W × W)} {b : Addr} {xs : List V} {o : HO} (h : HouseAt C H v N ws) (e : H b = some (.lst xs)) : HouseAt C (upd H b o) v N ws := by
  obtain ⟨p, dx, q, vs, h1, h2, h3, h4, h5⟩ := h.ob
  have tp : Tups H (upd H b o) := lst_notup e
  exact ⟨p, dx, q, vs, h1, by rw [upd_ne (ne_of h2 e (by intro z; cases z))]; exact h2, tp _ _ h3, h4.tups tp, h5⟩
theorem groups_ne {ws : List (W × W)} {N : Nat} (h : 1 ≤ N) : groups ws N ≠ [] := by
  have g0 : (allW N)[0]? = some ((0 : Int), false) := by
    have := allW_get (N := N) (k := 0) (by omega)
    simpa using this
  cases e : allW N with
  | nil => rw [e] at g0; cases g0
  | cons u r =>
    rw [e] at g0
    have eu : u = ((0 : Int), false) := by simpa using g0
    have hr : R ws u u = true := R_iff.2 ⟨0, .here⟩
    have hg : grp ws N u = u :: r.filter (fun v => R ws u v && R ws v u) := by
      unfold grp
      rw [e, List.filter_cons, if_pos (by rw [hr]; rfl)]
    intro z
    unfold groups at z
    rw [List.map_eq_nil_iff, List.filter_eq_nil_iff] at z
    refine z u (by rw [e]; exact List.mem_cons_self) ?_
    rw [hg]
    simp
theorem groups_in {ws : List (W × W)} {N : Nat} {g : List W} (h : g ∈ groups ws N) : ∀ x ∈ g, InN N x := by
  unfold groups at h
  obtain ⟨u, _, rfl⟩ := List.mem_map.mp h
  intro x hx
  unfold grp at hx
  exact mem_allW.1 (List.mem_filter.mp hx).1
theorem groups_len {ws : List (W × W)} {N : Nat} {g : List W} (h : g ∈ groups ws N) : g.length ≤ 2 * N := by
  unfold groups at h
  obtain ⟨u, _, rfl⟩ := List.mem_map.mp h
  unfold grp
  have := List.length_filter_le (fun v => R ws u v && R ws v u) (allW N)
  rw [allW_len] at this
  exact this
theorem groups_many {ws : List (W × W)} {N : Nat} : (groups ws N).length ≤ 2 * N := by
  unfold groups
  rw [List.length_map]
  have := List.length_filter_le (fun u => (grp ws N u).head? == some u) (allW N)
  rw [allW_len] at this
  exact this
theorem chain_in {N : Nat} {ws : List (W × W)} {x y : W} {cs : List W} (g : Good N ws) (hx : InN N x) (h : ChainOk ws x y cs) : (∀ z ∈ cs, InN N z) ∧ cs.length ≤ 2 * N + 1 := by
  rcases h with ⟨_, rfl⟩ | ⟨k, di, ch, hh, _, hl⟩
  · exact ⟨fun z hz => by simp at hz, by simp⟩
  · refine ⟨fun z hz => ?_, by have := di.lt g hx; omega⟩
    obtain ⟨i, hi, ez⟩ := List.mem_iff_getElem.mp hz
    cases i with
    | zero =>
      have : cs[0]? = some x := by rw [← List.head?_eq_getElem?]; exact hh
      rw [List.getElem?_eq_getElem hi] at this
      have e : cs[0] = x := Option.some.inj this
      rw [← ez, e]; exact hx
    | succ i =>
      have := ch.at (k := i) (a := cs[i]'(by omega)) (b := z) (List.getElem?_eq_getElem (by omega)) (by rw [List.getElem?_eq_getElem hi, ez])
      exact this.inN g
section
variable {P : Program} {w : World} {K : PySem.W.Frag} {mg : Str → Option Value} {base : Heap} {C : Addr}
def sp_law (K : PySem.W.Frag) : Sp := fun vs H Q _ => ∃ (a : Addr) (ns : List Int), vs = [.ref a] ∧ SqL K H a (ns.map V.int) ∧ ∀ H', Q (.bl true) H'
abbrev N_law : List Str := ["_law_script", "_law_told_here", "_law_handed", "_law_house", "_law_again", "_law_found", "_law_at", "_law_word_here", "_law_far_here", "_law_other"]
theorem sc_law : FnScope N_law ["_law_script"] (defScope S_law) := ⟨rfl, rfl, rfl, by decide +kernel, rfl, by decide +kernel, by decide +kernel⟩
/-- all that the law calls -/
structure Calls1 (P : Program) (w : World) (K : PySem.W.Frag) (mg : Str → Option Value) (base : Heap) (C : Addr) : Prop where
  B : Bare mg
  T : TxtH K C
  told : Cal P w K mg base "_law_told" 3 ["_law_script", "_law_first"] (sp_told K)
  cell : Cal P w K mg base "_law_cell_at" 1 ["_law_script", "_law_k"] (sp_cell K)
  word : Cal P w K mg base "_law_word" 2 ["_law_cell", "_law_names"] sp_lword
  far : Cal P w K mg base "_law_far" 3 ["_law_told_here", "_law_word_here"] (sp_lfar P w)
  words : Cal P w K mg base "_law_words" 1 ["_law_links", "_law_names"] sp_lwords
  right : Cal P w K mg base "_law_right" 4 N_lright (sp_lright P w)
  groups : Cal P w K mg base "_law_groups" 4 ["_law_told_here"] sp_lgroups
  fol : Cal P w K mg base "follows" 4 ["house", "word"] (sp_fol C)
  chain : Cal P w K mg base "chain" 4 ["house", "word", "other"] (sp_chain C)
  hang : Cal P w K mg base "hanging" 5 ["house"] (sp_hang C)
  wish : CalW P w K mg base C
  make : ∃ f fd, Mk K C f ∧ FnOk P w K mg base CX0 4 f fd ["self", "names", "wishes"] (sp_init C) ∧ mg "House" = some (.ref C) ∧ Binds K fd ["self", "names", "wishes"] []
abbrev te_lw (K : PySem.W.Frag) : TE := tCall sp_lwords [] E0 (tCons (tVar 0) (tCons (tOp (rIxT K) (tVar 1) (tC (.int 0))) tNil))
/-! the end: the groups, and all once more -/
set_option maxHeartbeats 8000000 in
theorem law3 (Z : Calls1 P w K mg base C) {f : Addr} {cdv : Value} {A : Around} {outer : List Env} {s : Shared} {H : Hp} {E : XK} {Q : VK} (hr : Room 5 (A.deeper (envOfC "law" (defScope S_law) s.heap.objs.size f cdv))) (k : ∀ H', Q (.bl true) H') :
    ∃ u, PSs (cxOf CX0 P w K mg base N_law "law" (defScope S_law) f cdv A outer s H E).nox ((defBody S_law).drop 7) u ∧
      ∀ (sv tv hd hv : V) (N : Nat) (ws : List (W × W)) (z4 z5 z6 z7 z8 z9 : Option V) (H2 : Hp), ToldAt H2 tv N ws → HouseAt C H2 hv N ws → GoodH N ws → u { nx := fun _ H' => Q .non H', rt := Q } [some sv, some tv, some hd, some hv, z4, z5, z6, z7, z8, z9] H2 := by
  have hr1 : Room 1 _ := hr.mono (by decide)
  have hr4 : Room 4 _ := hr.mono (by decide)
  have hu4 := hr.units
  have B := Z.B
  have T := Z.T
  refine ⟨_, pss_cons (ps_set (i := 5) sc_law.nd rfl (Or.inl rfl) (pe_cal Z.hang hr rfl (pa_cons (pv 3) pa_nil)))
    (pss_cons (ps_if (PW.pt (pw_or (pt_not (pt_val (pe_isin B (pv 5) rfl rfl B.lst bt_list))) (pw_or1 (pt_cmpR (op_neGL hu4) (pv 5) (pe_cal Z.groups hr4 rfl (pa_cons (pv 1) pa_nil)) (nomark _))))) (pss_one (ps_ret pe_bl)) pss_nil)
    (pss_cons (ps_if (pt_not (pt_val (pe_callB (call_allB rfl) rfl B.all bt_all (pa_cons (pe_comp (tc := tYes) (te := te_lw K) rfl ⟨rfl, by decide +kernel, rfl, by decide +kernel, AllFree.all (by repeat (first | exact trivial | refine ⟨?_, ?_⟩ | (intro e; cases e <;> fail) | (intro _; rfl)))⟩ (ys := ["_law_told_here"]) (js := [1]) ⟨rfl, rfl, rfl, trivial⟩ (by decide +kernel) (pi_list (pv 5)) (fun _ _ _ _ _ => pifs_nil)
        (fun _ _ _ _ _ => pe_cal Z.words hr1 rfl (pa_cons (pv 0) (pa_cons (pe_ix ix_tup (pv 1) pe_int (fun _ _ => rfl)) pa_nil)))) pa_nil)))) (pss_one (ps_ret pe_bl)) pss_nil)
    (pss_cons (ps_app (pe_ix ix_list (pv 5) pe_int (fun _ _ => rfl)) pe_int)
    (pss_one (ps_ret (pe_and (pe_cmpR (op_eqPL hu4) (pe_wishes Z.wish T hr1 (pv 3)) (pe_ix ix_tup (pv 1) pe_int (fun _ _ => rfl)) (nomark _)) (pe_one (pe_cmpR (op_eqGL hu4) (pe_cal Z.hang hr rfl (pa_cons (pv 3) pa_nil)) (pe_cal Z.groups hr4 rfl (pa_cons (pv 1) pa_nil)) (nomark _))))))))), ?_⟩
  intro sv tv hd hv N ws z4 z5 z6 z7 z8 z9 H2 ht hh gh
  have N8 := gh.hi
  obtain ⟨p, l, ts, rfl, hp, hl, pu⟩ := id ht
  refine ⟨_, rfl, hv, N, ws, rfl, hh, gh, fun H3 fv s23 ng => ?_⟩
  obtain ⟨fa, gvs, rfl, nfa, efa, pg⟩ := id ng
  refine ⟨_, rfl, _, _, _, true, rfl, .lst efa, rfl, true, rfl, iteF ⟨_, rfl, _, rfl, _, N, ws, rfl, ht.same s23, gh, fun H4 gv s34 ng4 => ⟨groups ws N, groups ws N, (ng.same s34).gl, ng4.gl, _, rfl, iteNS rfl ?_⟩⟩⟩
  have s24 := s23.trans s34
  have efa4 := s34 _ _ efa
  have i0 : atI [V.int (N : Int), V.ref l] 0 = some (V.int N) := rfl
  have i1 : atI [V.int (N : Int), V.ref l] 1 = some (V.ref l) := rfl
  have lg : gvs.length ≤ 16 := by
    rw [Paired.length pg]
    have := groups_many (ws := ws) (N := N)
    omega
  refine ⟨_, rfl, fa, rfl, ⟨_, SqL.of efa4⟩, fun Dd hD => ?_⟩
  have s5 : ∀ {acc : List V}, Same H4 (upd H4 Dd (.lst acc)) := Same.laid hD
  refine comp_list (K := K) (a := fa) (xs := gvs) (js := [1]) (tc := tYes) (te := te_lw K) (σ := List.set [some sv, some (.ref p), some hd, some hv, z4, z5, z6, z7, z8, z9] 5 (some (.ref fa))) (fun j acc H6 => H6 = upd H4 Dd (.lst acc) ∧ acc = (List.replicate j true).map V.bl) ⟨rfl, rfl⟩ ?_ ?_ ?_
  · rintro j acc H6 hj ⟨rfl, ea⟩
    refine ⟨SqL.of (s5 _ _ efa4), upd_same, ?_⟩
    rw [ea, List.length_map, List.length_replicate, sizeLine_eq]
    omega
  · rintro j x' acc H6 R' hj ⟨rfl, ea⟩ hR
    obtain ⟨g, hg, ga, gus, rfl, nga, ega, wga⟩ := paired_get pg hj
    have hgm := List.mem_of_getElem? hg
    simp only [tYes, if_true]
    refine ⟨_, rfl, _, rfl, p, _, 0, _, rfl, rfl, SqT.of (s5 _ _ (s24 _ _ hp)), i0, ga, N, gus, g, rfl, s5 _ _ (s34 _ _ ega), (wga.same s34).same s5, groups_in hgm, upd_same, hR _ _ ⟨upd_upd, ?_⟩⟩
    rw [ea, List.replicate_succ']
    simp
  · rintro acc H6 ⟨rfl, ea⟩
    refine ⟨Dd, List.replicate gvs.length true, rfl, SqL.of (by rw [← ea]; exact upd_same), _, rfl, ?_⟩
    rw [all_rep]
    refine iteF ?_
    obtain ⟨g0, gs, eg⟩ : ∃ g0 gs, groups ws N = g0 :: gs := by
      cases q : groups ws N with
      | nil => exact absurd q (groups_ne gh.lo)
      | cons a b => exact ⟨a, b, rfl⟩
    obtain ⟨v0, hv0, ga, gus, rfl, nga, ega, wga⟩ := paired_get' pg (i := 0) (b := g0) (by rw [eg]; rfl)
    have a0 : atI gvs 0 = some (.ref ga) := atI_nat (j := 0) hv0
    have lga : gus.length ≤ 16 := by
      rw [Paired.length wga]
      have := groups_len (ws := ws) (N := N) (g := g0) (by rw [eg]; exact List.mem_cons_self)
      omega
    refine ⟨_, rfl, fa, gvs, 0, _, rfl, rfl, SqL.of (s5 _ _ efa4), a0, .inl ⟨rfl, _, SqL.of (s5 _ _ (s34 _ _ ega))⟩, ga, gus, _, rfl, rfl, s5 _ _ (s34 _ _ ega), by rw [sizeLine_eq]; omega, ?_⟩
    have s26 : Same H2 (upd (upd H4 Dd (.lst acc)) ga (.lst (gus ++ [.int 1]))) := (s24.trans s5).chg nga
    generalize upd (upd H4 Dd (.lst acc)) ga (.lst (gus ++ [.int 1])) = H6 at s26 ⊢
    have hh6 := hh.same s26
    obtain ⟨ph, dx, q, us0, rfl, hph, _⟩ := id hh6
    refine ⟨_, rfl, ph, dx, _, rfl, hph, flds_no _ _ (by decide +kernel) (by decide +kernel), _, N, ws, rfl, hh6, fun wl us hwl hus hn => ?_⟩
    have s67 : Same H6 (upd H6 wl (.lst us)) := Same.laid hwl
    have s27 := s26.trans s67
    refine ⟨_, rfl, p, _, 1, _, rfl, rfl, SqT.of (s27 _ _ hp), i1, ws, ws, ⟨wl, us, rfl, SqL.of upd_same, hus.same s67⟩, ⟨l, ts, rfl, SqL.of (s27 _ _ hl), pu.same s27⟩, _, rfl, iteP rfl ?_⟩
    refine ⟨_, rfl, _, N, ws, rfl, hh.same s27, gh, fun H8 v8 s78 ng8 => ⟨_, rfl, _, N, ws, rfl, ht.same (s27.trans s78), gh, fun H9 v9 s89 ng9 => ⟨groups ws N, groups ws N, (ng8.same s89).gl, ng9.gl, ?_⟩⟩⟩
    rw [decide_eq_true rfl]
    exact k _
end
end L2

end

section
set_option autoImplicit false
set_option maxRecDepth 100000
set_option linter.all false
namespace L2
open PySem PySem.Spec PyProof.Rows EoD Eo
section
variable {P : Program} {w : World} {K : PySem.W.Frag} {mg : Str → Option Value} {base : Heap} {C : Addr}
set_option maxHeartbeats 8000000 in
theorem law2 (Z : Calls1 P w K mg base C) {f : Addr} {cdv : Value} {A : Around} {outer : List Env} {s : Shared} {H : Hp} {E : XK} {Q : VK} (hr : Room 5 (A.deeper (envOfC "law" (defScope S_law) s.heap.objs.size f cdv))) (k : ∀ H', Q (.bl true) H') :
    ∃ u, PSs (cxOf CX0 P w K mg base N_law "law" (defScope S_law) f cdv A outer s H E).nox ((defBody S_law).drop 6) u ∧
      ∀ (a : Addr) (ns : List Int) (tv hd hv : V) (N : Nat) (ws : List (W × W)) (z4 z5 z6 z7 z8 z9 : Option V) (H2 : Hp), SqL K H2 a (ns.map V.int) → ToldAt H2 tv N ws → HouseAt C H2 hv N ws → GoodH N ws → u { nx := fun _ H' => Q .non H', rt := Q } [some (.ref a), some tv, some hd, some hv, z4, z5, z6, z7, z8, z9] H2 := by
  obtain ⟨u3, h3, k3⟩ := law3 Z (outer := outer) (H := H) (E := E) hr k
  have hr1 : Room 1 _ := hr.mono (by decide)
  have hr2 : Room 2 _ := hr.mono (by decide)
  have hr3 : Room 3 _ := hr.mono (by decide)
  have hr4 : Room 4 _ := hr.mono (by decide)
  have hu4 := hr.units
  have B := Z.B
  have T := Z.T
  refine ⟨_, (pss_cons (ps_for PassesOwn.never rfl (pi_range1 rfl B.rng (pa_cons pe_int pa_nil)) (pg_name (i := 6) sc_law.nd rfl (Or.inl rfl)) (pss_cons (ps_set (i := 7) sc_law.nd rfl (Or.inl rfl) (pe_cal Z.word hr2 rfl (pa_cons (pe_op op_add (pe_cal Z.cell hr1 rfl (pa_cons (pv 0) (pa_cons (pe_op op_add pe_int (pv 6)) pa_nil))) (pe_op op_mul pe_int (pv 6))) (pa_cons (pe_ix ix_tup (pv 1) pe_int (fun _ _ => rfl)) pa_nil))))
      (pss_cons (ps_set (i := 8) sc_law.nd rfl (Or.inl rfl) (pe_cal Z.far hr3 rfl (pa_cons (pv 1) (pa_cons (pv 7) pa_nil))))
      (pss_cons (ps_for PassesOwn.never rfl (pi_range1 rfl B.rng (pa_cons pe_int pa_nil)) (pg_name (i := 4) sc_law.nd rfl (Or.inl rfl)) (pss_cons (ps_set (i := 5) sc_law.nd rfl (Or.inl rfl) (pe_cal Z.fol hr4 rfl (pa_cons (pv 3) (pa_cons (pv 7) pa_nil))))
      (pss_cons (ps_if (PW.pt (pw_or (pt_not (pt_val (pe_cal Z.words hr1 rfl (pa_cons (pv 5) (pa_cons (pe_ix ix_tup (pv 1) pe_int (fun _ _ => rfl)) pa_nil))))) (pw_or1 (pt_cmpR (op_neWL hu4) (pv 5) (pe_callB (call_sortedW rfl) rfl B.srt bt_sorted (pa_cons (pv 8) pa_nil)) (nomark _))))) (pss_one (ps_ret pe_bl)) pss_nil)
      (pss_one (ps_app (pv 5) pe_int)))))
      (pss_cons (ps_set (i := 9) sc_law.nd rfl (Or.inl rfl) (pe_cal Z.word hr2 rfl (pa_cons (pe_op op_add (pe_cal Z.cell hr1 rfl (pa_cons (pv 0) (pa_cons (pe_op op_add pe_int (pv 6)) pa_nil))) (pe_op op_mul pe_int (pv 6))) (pa_cons (pe_ix ix_tup (pv 1) pe_int (fun _ _ => rfl)) pa_nil))))
      (pss_one (ps_for PassesOwn.never rfl (pi_range1 rfl B.rng (pa_cons pe_int pa_nil)) (pg_name (i := 4) sc_law.nd rfl (Or.inl rfl)) (pss_cons (ps_set (i := 5) sc_law.nd rfl (Or.inl rfl) (pe_cal Z.chain hr4 rfl (pa_cons (pv 3) (pa_cons (pv 7) (pa_cons (pv 9) pa_nil)))))
      (pss_cons (ps_if (PW.pt (pw_or (pt_not (pt_val (pe_cal Z.words hr1 rfl (pa_cons (pv 5) (pa_cons (pe_ix ix_tup (pv 1) pe_int (fun _ _ => rfl)) pa_nil))))) (pw_or1 (pt_not (pt_val (pe_cal Z.right hr4 rfl (pa_cons (pv 1) (pa_cons (pv 8) (pa_cons (pv 7) (pa_cons (pv 9) (pa_cons (pv 5) pa_nil))))))))))) (pss_one (ps_ret pe_bl)) pss_nil)
      (pss_one (ps_app (pv 5) pe_int)))))))))))
      h3), ?_⟩
  intro a ns tv hd hv N ws z4 z5 z6 z7 z8 z9 H2 hq ht hh gh
  have N8 := gh.hi
  obtain ⟨p, l, ts, rfl, hp, hl, pu⟩ := id ht
  have i0 : atI [V.int (N : Int), V.ref l] 0 = some (V.int N) := rfl
  refine ⟨3, rfl, by decide, by decide, for_range (lo := 0) (n := (3 : Int).toNat) (fun i σ H4 => ∃ (z4 z5 z6 z7 z8 z9 : Option V), σ = [some (.ref a), some (.ref p), some hd, some hv, z4, z5, z6, z7, z8, z9] ∧ Same H2 H4) ⟨z4, z5, z6, z7, z8, z9, rfl, Same.refl _⟩ ?_ ?_⟩
  · rintro i σ H4 hi ⟨z4, z5, z6, z7, z8, z9, rfl, s4⟩
    refine ⟨_, rfl, _, rfl, _, _, rfl, rfl, a, ns, _, rfl, s4.seq hq, by omega, fun c => ⟨_, rfl, _, _, rfl, rfl, .inl ⟨by decide, by decide⟩, _, _, rfl, rfl, _, rfl, p, _, 0, _, rfl, rfl, SqT.of (s4 _ _ hp), i0, _, N, rfl, gh.lo, fun H5 wv x s45 wx ix => ?_⟩⟩
    have s5 := s4.trans s45
    refine ⟨_, rfl, _, rfl, _, wv, N, ws, x, rfl, ht.same s5, gh, wx, ix, fun H6 d F s56 nd dw fa => ?_⟩
    have s6 := s5.trans s56
    have wx6 := wx.same s56
    have lF : (kvF F).length ≤ 16 := by
      have := fa.toFar0.len gh.good ix
      unfold kvF
      rw [List.length_map]
      omega
    have lF1 : 1 ≤ (kvF F).length := by
      have hx : x ∈ F.map (·.1) := (fa.mem x).2 ⟨0, .here⟩
      have := List.length_pos_of_mem hx
      unfold kvF
      rw [List.length_map]
      rw [List.length_map] at this
      exact this
    refine ⟨2, rfl, by decide, by decide, for_range (lo := 0) (n := (2 : Int).toNat) (fun j σ H7 => ∃ (z4 z5 : Option V), σ = [some (.ref a), some (.ref p), some hd, some hv, z4, z5, some (.int (0 + (i : Int))), some wv, some (.ref d), z9] ∧ Same H6 H7) ⟨z4, z5, rfl, Same.refl _⟩ ?_ ?_⟩
    · rintro j σ H7 hj ⟨z4, z5, rfl, s67⟩
      have s7 := s6.trans s67
      refine ⟨_, rfl, _, rfl, hv, wv, N, ws, x, rfl, hh.same s7, gh, wx6.same s67, ix, fun H8 fv s78 nw => ?_⟩
      obtain ⟨fl, fus, rfl, nfl, efl, wfl⟩ := nw
      have s8 := s7.trans s78
      have hin : ∀ y ∈ fol ws N x, InN N y := fun y hy => mem_allW.1 (List.mem_filter.mp hy).1
      refine ⟨_, rfl, _, rfl, p, _, 0, _, rfl, rfl, SqT.of (s8 _ _ hp), i0, fl, N, fus, fol ws N x, rfl, efl, wfl, hin, true, rfl, iteF ?_⟩
      refine ⟨_, rfl, _, rfl, d, kvF F, rfl, (dw.same s67).same s78, lF1, by omega, fun sl vs wl hsl hw up hm => ?_⟩
      have e : fol ws N x = wl := (fol_of gh.good ix up fun y => (hm y).trans (by rw [kvF_keys]; exact fa.mem y)).symm
      have s9 : Same H8 (upd H8 sl (.lst vs)) := Same.laid hsl
      refine ⟨fol ws N x, wl, ⟨fl, fus, rfl, SqL.of (s9 _ _ efl), wfl.same s9⟩, ⟨sl, vs, rfl, SqL.of upd_same, hw.same s9⟩, _, rfl, iteNS e ?_⟩
      have lfu : fus.length ≤ 16 := by
        rw [Paired.length wfl]
        have : (fol ws N x).length ≤ (allW N).length := List.length_filter_le _ _
        rw [allW_len] at this
        omega
      exact ⟨_, rfl, .inl ⟨rfl, _, SqL.of (s9 _ _ efl)⟩, fl, fus, _, rfl, rfl, s9 _ _ efl, by rw [sizeLine_eq]; omega, _, _, rfl, ((s67.trans s78).trans s9).chg (s67.free nfl)⟩
    rintro σ H7 ⟨z4, z5, rfl, s67⟩
    have s7 := s6.trans s67
    refine ⟨_, rfl, _, rfl, _, _, rfl, rfl, a, ns, _, rfl, s7.seq hq, by omega, fun c => ⟨_, rfl, _, _, rfl, rfl, .inl ⟨by decide, by decide⟩, _, _, rfl, rfl, _, rfl, p, _, 0, _, rfl, rfl, SqT.of (s7 _ _ hp), i0, _, N, rfl, gh.lo, fun H8 ov y s78 wy iy => ?_⟩⟩
    have s8 := s7.trans s78
    have wx8 := (wx6.same s67).same s78
    have dw8 := (dw.same s67).same s78
    refine ⟨2, rfl, by decide, by decide, for_range (lo := 0) (n := (2 : Int).toNat) (fun j σ H9 => ∃ (z4 z5 : Option V), σ = [some (.ref a), some (.ref p), some hd, some hv, z4, z5, some (.int (0 + (i : Int))), some wv, some (.ref d), some ov] ∧ Same H8 H9) ⟨z4, z5, rfl, Same.refl _⟩ ?_ ?_⟩
    · rintro j σ H9 hj ⟨z4, z5, rfl, s89⟩
      have s9 := s8.trans s89
      refine ⟨_, rfl, _, rfl, _, rfl, hv, wv, ov, N, ws, x, y, rfl, hh.same s9, gh, wx8.same s89, wy.same s89, ix, iy, fun Ha cv cs s9a nw ok => ?_⟩
      obtain ⟨fl, fus, rfl, nfl, efl, wfl⟩ := nw
      have sa := s9.trans s9a
      have s8a := s89.trans s9a
      obtain ⟨hin, hlen⟩ := chain_in gh.good ix ok
      have lfu : fus.length ≤ 17 := by
        rw [Paired.length wfl]
        omega
      refine ⟨_, rfl, _, rfl, p, _, 0, _, rfl, rfl, SqT.of (sa _ _ hp), i0, fl, N, fus, cs, rfl, efl, wfl, hin, true, rfl, iteF ?_⟩
      refine ⟨_, rfl, _, rfl, _, rfl, _, rfl, _, rfl, _, wv, ov, d, fl, N, ws, x, y, F, fus, cs, rfl, ht.same sa, dw8.same s8a, fa, wx8.same s8a, wy.same s8a, efl, wfl, by omega, ok, fun Hb sab => ⟨true, rfl, iteF ?_⟩⟩
      exact ⟨_, rfl, .inl ⟨rfl, _, SqL.of (sab _ _ efl)⟩, fl, fus, _, rfl, rfl, sab _ _ efl, by rw [sizeLine_eq]; omega, _, _, rfl, (s8a.trans sab).chg (s89.free nfl)⟩
    · rintro σ H9 ⟨z4, z5, rfl, s89⟩
      exact ⟨_, _, _, _, _, _, rfl, s8.trans s89⟩
  · rintro σ H4 ⟨z4, z5, z6, z7, z8, z9, rfl, s4⟩
    exact k3 _ _ _ _ N ws _ _ _ _ _ _ H4 (ht.same s4) (hh.same s4) gh
set_option maxHeartbeats 8000000 in
theorem ok_law (Z : Calls1 P w K mg base C) {f : Addr} {fd : FuncData} (F : Fun K "law" "law" S_law f fd) : FnOk P w K mg base CX0 6 f fd ["_law_script"] (sp_law K) := by
  refine F.ok sc_law (fun vs H Q E h => by obtain ⟨_, _, rfl, _⟩ := h; rfl) (fun cdv A outer s H vs Q E hr h => ?_)
  obtain ⟨a, ns, rfl, hq, k⟩ := h
  obtain ⟨u2, h2, k2⟩ := law2 Z (outer := outer) (H := H) (E := E) hr k
  have hr1 : Room 1 _ := hr.mono (by decide)
  have hr3 : Room 3 _ := hr.mono (by decide)
  have hu4 := hr.units
  have B := Z.B
  have T := Z.T
  obtain ⟨fi, fdi, M, FI, mC, bI⟩ := Z.make
  refine ⟨_, (pss_cons (ps_set (i := 1) sc_law.nd rfl (Or.inr rfl) (pe_cal Z.told hr3 rfl (pa_cons (pv 0) (pa_cons pe_int pa_nil))))
      (pss_cons (ps_set (i := 2) sc_law.nd rfl (Or.inl rfl) (pe_callTy call_list_of rfl B.lst bt_list (pa_cons (pe_ix ix_tup (pv 1) pe_int (fun _ _ => rfl)) pa_nil)))
      (pss_cons (ps_set (i := 3) sc_law.nd rfl (Or.inl rfl) (pe_make M FI hr rfl mC bI .nil pass0 (pa_cons (pe_ix ix_tup (pv 1) pe_int (fun _ _ => rfl)) (pa_cons (pv 2) pa_nil))))
      (pss_cons (ps_app (pv 2) pe_int)
      (pss_cons (ps_if (PW.pt (pw_or (pt_cmpR op_ne (pe_fld (pv 3) rfl) (pe_ix ix_tup (pv 1) pe_int (fun _ _ => rfl)) (nomark _)) (pw_or1 (pt_val (pe_isin B (pe_fld (pv 3) rfl) rfl rfl B.bool bt_bool))))) (pss_one (ps_ret pe_bl)) pss_nil)
      (pss_cons (ps_for PassesOwn.never rfl (pi_range1 rfl B.rng (pa_cons pe_int pa_nil)) (pg_name (i := 4) sc_law.nd rfl (Or.inl rfl)) (pss_cons (ps_set (i := 5) sc_law.nd rfl (Or.inl rfl) (pe_wishes Z.wish T hr1 (pv 3)))
      (pss_cons (ps_if (PW.pt (pw_or (pt_not (pt_val (pe_isin B (pv 5) rfl rfl B.lst bt_list))) (pw_or1 (pt_cmpR (op_nePL hu4) (pv 5) (pe_ix ix_tup (pv 1) pe_int (fun _ _ => rfl)) (nomark _))))) (pss_one (ps_ret pe_bl)) pss_nil)
      (pss_one (ps_app (pv 5) pe_int)))))
      h2)))))), ?_⟩
  refine ⟨_, rfl, a, ns, 0, rfl, hq, Int.le_refl _, fun H1 tv N ws s1 ht gh => ?_⟩
  obtain ⟨p, l, ts, rfl, hp, hl, pu⟩ := id ht
  have i0 : atI [V.int (N : Int), V.ref l] 0 = some (V.int N) := rfl
  have i1 : atI [V.int (N : Int), V.ref l] 1 = some (V.ref l) := rfl
  refine ⟨_, rfl, p, _, 1, _, rfl, rfl, SqT.of hp, i1, l, ts, rfl, .inl (SqL.of hl), fun g ng => ?_⟩
  have sg : Same H1 (upd H1 g (.lst ts)) := Same.laid ng
  refine ⟨_, rfl, p, _, 0, _, rfl, rfl, SqT.of (sg _ _ hp), i0, _, rfl, fun x dx nx ndx nex => ?_⟩
  have s0 : Same (upd H1 g (.lst ts)) (upd (upd (upd H1 g (.lst ts)) dx (.own x)) x (.ins C dx [])) := fun b o e => by
    rw [upd_ne (ne_of_none e nx), upd_ne (ne_of_none e ndx)]
    exact e
  refine ⟨x, dx, g, N, ts, ws, rfl, upd_same, gh, s0 _ _ upd_same, pu.same (sg.trans s0), fun H3 hh kp => ⟨rfl, ?_⟩⟩
  have s3 : Same (upd H1 g (.lst ts)) H3 := fun b o e => kp b o (s0 b o e) (ne_of_none e nx)
  have eg3 : H3 g = some (.lst ts) := s3 _ _ upd_same
  have lts : ts.length ≤ 24 := by rw [Paired.length pu]; exact gh.len
  refine ⟨_, rfl, .inl ⟨rfl, _, SqL.of eg3⟩, g, ts, _, rfl, rfl, eg3, by rw [sizeLine_eq]; omega, ?_⟩
  have s14 : Same H1 (upd H3 g (.lst (ts ++ [.int 1]))) := (sg.trans s3).chg ng
  have hh4 : HouseAt C (upd H3 g (.lst (ts ++ [.int 1]))) (.ref x) N ws := hh.updL eg3
  have ht4 := ht.same s14
  have hq4 : SqL K (upd H3 g (.lst (ts ++ [.int 1]))) a (ns.map V.int) := (s1.trans s14).seq hq
  generalize upd H3 g (.lst (ts ++ [.int 1])) = H4 at s14 hh4 ht4 hq4 ⊢
  obtain ⟨x', dx', q, us0, ex, hx, _⟩ := id hh4
  cases ex
  refine ⟨_, rfl, x, C, dx', _, _, rfl, hx, T.cl, T.nN, flds_names _ _, _, rfl, p, _, 0, _, rfl, rfl, SqT.of (s14 _ _ hp), i0, rfl, _, rfl, iteNS rfl ⟨_, rfl, x, C, dx', _, _, rfl, hx, T.cl, T.nN, flds_names _ _, _, _, _, false, rfl, .int _, rfl, false, rfl, iteF ?_⟩⟩
  refine ⟨2, rfl, by decide, by decide, for_range (lo := 0) (n := (2 : Int).toNat) (fun j σ H5 => ∃ (z4 z5 : Option V), σ = [some (.ref a), some (.ref p), some (.ref g), some (.ref x), z4, z5, none, none, none, none] ∧ Same H4 H5) ⟨none, none, rfl, Same.refl _⟩ ?_ ?_⟩
  · rintro j σ H5 hj ⟨z4, z5, rfl, s5⟩
    refine ⟨_, rfl, x, dx', _, rfl, s5 _ _ hx, flds_no _ _ (by decide +kernel) (by decide +kernel), _, N, ws, rfl, hh4.same s5, fun wl us hwl hus hn => ?_⟩
    have s6 : Same H5 (upd H5 wl (.lst us)) := Same.laid hwl
    have s16 := s14.trans (s5.trans s6)
    refine ⟨_, rfl, _, _, _, true, rfl, .lst upd_same, rfl, true, rfl, iteF ⟨_, rfl, _, rfl, p, _, 1, _, rfl, rfl, SqT.of (s16 _ _ hp), i1, ws, ws, ⟨wl, us, rfl, SqL.of upd_same, hus.same s6⟩, ⟨l, ts, rfl, SqL.of (s16 _ _ hl), pu.same s16⟩, _, rfl, iteNS rfl ?_⟩⟩
    exact ⟨_, rfl, .inl ⟨rfl, _, SqL.of upd_same⟩, wl, us, _, rfl, rfl, upd_same, by rw [sizeLine_eq]; omega, _, _, rfl, (s5.trans s6).chg (s5.free hwl)⟩
  · rintro σ H5 ⟨z4, z5, rfl, s5⟩
    exact k2 a ns _ _ _ N ws _ _ _ _ _ _ H5 (s5.seq hq4) (ht4.same s5) (hh4.same s5) gh
end
end L2

end

section
set_option autoImplicit false
set_option maxRecDepth 100000
set_option linter.all false
/-! What the top has written, and the law's head. -/
namespace L2
open PySem PySem.Spec PyProof.Rows EoD Eo
theorem def_mk {K : PySem.W.Frag} {mg : Str → Option Value} {h : Heap} {x : Str} {st : Stmt} {ps : List Str} {f : Addr} {oc : Value} {od an : Option Addr} {osl : Array (Option Value)} {kV doc pm cdv ct : Value}
    (hb : ∀ (kV doc pm : Value) (an : Option Addr) (cdv ct : Value) (us : List Value), us.length = ps.length → bindArgs (PySem.W.fnOf x x (defArgs st) (defBody st) (defScope st) .none kV doc pm an cdv ct) ⟨us, []⟩ = pure (ps.zip us))
    (X : K.In h) (G : h.Ns mainGlobals mg) (a : PySem.W.nsIn K mainGlobals x = some (some (.ref f))) (l : K.lookup f = some ⟨oc, od, .func (PySem.W.fnOf x x (defArgs st) (defBody st) (defScope st) .none kV doc pm an cdv ct), osl⟩)
    (c : PySem.W.codeIn K cdv x = true) (k : PySem.W.keepIn K (.ref f) = true) : Def K mg x st ps :=
  ⟨f, _, fun_mk l c k, PySem.W.mg_of X G a, (fun_mk l c k).binds hb⟩
set_option maxHeartbeats 8000000 in
theorem all_mk {l : PySem.W.OpenLaw} {w : World} {K : PySem.W.Frag} {h : Heap} {mg : Str → Option Value} {fa : Addr} (X : K.In h) (G : h.Ns mainGlobals mg) (hfa : mg "law" = some (.ref fa))
    {C : Addr}
    {f1 : Addr} {od1 an1 : Option Addr} {sl1 : Array (Option Value)} {oc1 kV1 dc1 pm1 cd1 ct1 : Value}
    {f2 : Addr} {od2 an2 : Option Addr} {sl2 : Array (Option Value)} {oc2 kV2 dc2 pm2 cd2 ct2 : Value}
    {f3 : Addr} {od3 an3 : Option Addr} {sl3 : Array (Option Value)} {oc3 kV3 dc3 pm3 cd3 ct3 : Value}
    {f4 : Addr} {od4 an4 : Option Addr} {sl4 : Array (Option Value)} {oc4 kV4 dc4 pm4 cd4 ct4 : Value}
    {f5 : Addr} {od5 an5 : Option Addr} {sl5 : Array (Option Value)} {oc5 kV5 dc5 pm5 cd5 ct5 : Value}
    {f6 : Addr} {od6 an6 : Option Addr} {sl6 : Array (Option Value)} {oc6 kV6 dc6 pm6 cd6 ct6 : Value}
    {f7 : Addr} {od7 an7 : Option Addr} {sl7 : Array (Option Value)} {oc7 kV7 dc7 pm7 cd7 ct7 : Value}
    {f8 : Addr} {od8 an8 : Option Addr} {sl8 : Array (Option Value)} {oc8 kV8 dc8 pm8 cd8 ct8 : Value}
    {f9 : Addr} {od9 an9 : Option Addr} {sl9 : Array (Option Value)} {oc9 kV9 dc9 pm9 cd9 ct9 : Value}
    {f10 : Addr} {od10 an10 : Option Addr} {sl10 : Array (Option Value)} {oc10 kV10 dc10 pm10 cd10 ct10 : Value}
    {f11 : Addr} {od11 an11 : Option Addr} {sl11 : Array (Option Value)} {oc11 kV11 dc11 pm11 cd11 ct11 : Value}
    {f12 : Addr} {od12 an12 : Option Addr} {sl12 : Array (Option Value)} {oc12 kV12 dc12 pm12 cd12 ct12 : Value}
    {f13 : Addr} {od13 an13 : Option Addr} {sl13 : Array (Option Value)} {oc13 kV13 dc13 pm13 cd13 ct13 : Value}
    {f14 : Addr} {od14 an14 : Option Addr} {sl14 : Array (Option Value)} {oc14 kV14 dc14 pm14 cd14 ct14 : Value}
    {f15 : Addr} {od15 an15 : Option Addr} {sl15 : Array (Option Value)} {oc15 kV15 dc15 pm15 cd15 ct15 : Value}
    {f16 : Addr} {od16 an16 : Option Addr} {sl16 : Array (Option Value)} {oc16 kV16 dc16 pm16 cd16 ct16 : Value}
    {f17 : Addr} {od17 an17 : Option Addr} {sl17 : Array (Option Value)} {oc17 kV17 dc17 pm17 cd17 ct17 : Value}
    {f18 : Addr} {od18 an18 : Option Addr} {sl18 : Array (Option Value)} {oc18 kV18 dc18 pm18 cd18 ct18 : Value}
    {f19 : Addr} {od19 an19 : Option Addr} {sl19 : Array (Option Value)} {oc19 kV19 dc19 pm19 cd19 ct19 : Value}
    {f20 : Addr} {od20 an20 : Option Addr} {sl20 : Array (Option Value)} {oc20 kV20 dc20 pm20 cd20 ct20 : Value}
    {f21 : Addr} {od21 an21 : Option Addr} {sl21 : Array (Option Value)} {oc21 kV21 dc21 pm21 cd21 ct21 : Value}
    {f22 : Addr} {od22 an22 : Option Addr} {sl22 : Array (Option Value)} {oc22 kV22 dc22 pm22 cd22 ct22 : Value}
    {f31 : Addr} {od31 an31 : Option Addr} {sl31 : Array (Option Value)} {oc31 kV31 dc31 pm31 cd31 ct31 : Value}
    {f32 : Addr} {od32 an32 : Option Addr} {sl32 : Array (Option Value)} {oc32 kV32 dc32 pm32 cd32 ct32 : Value}
    {f33 : Addr} {od33 an33 : Option Addr} {sl33 : Array (Option Value)} {oc33 kV33 dc33 pm33 cd33 ct33 : Value}
    {t8 t24 : Tok}
    (aC : PySem.W.nsIn K mainGlobals "House" = some (some (.ref C)))
    (a1 : PySem.W.nsIn K mainGlobals "is_number" = some (some (.ref f1))) (l1 : K.lookup f1 = some ⟨oc1, od1, .func (PySem.W.fnOf "is_number" "is_number" (defArgs S_num) (defBody S_num) (defScope S_num) .none kV1 dc1 pm1 an1 cd1 ct1), sl1⟩) (c1 : PySem.W.codeIn K cd1 "is_number" = true) (k1 : PySem.W.keepIn K (.ref f1) = true)
    (a2 : PySem.W.nsIn K mainGlobals "is_word" = some (some (.ref f2))) (l2 : K.lookup f2 = some ⟨oc2, od2, .func (PySem.W.fnOf "is_word" "is_word" (defArgs S_word) (defBody S_word) (defScope S_word) .none kV2 dc2 pm2 an2 cd2 ct2), sl2⟩) (c2 : PySem.W.codeIn K cd2 "is_word" = true) (k2 : PySem.W.keepIn K (.ref f2) = true)
    (a3 : PySem.W.nsIn K mainGlobals "is_wish" = some (some (.ref f3))) (l3 : K.lookup f3 = some ⟨oc3, od3, .func (PySem.W.fnOf "is_wish" "is_wish" (defArgs S_wish) (defBody S_wish) (defScope S_wish) .none kV3 dc3 pm3 an3 cd3 ct3), sl3⟩) (c3 : PySem.W.codeIn K cd3 "is_wish" = true) (k3 : PySem.W.keepIn K (.ref f3) = true)
    (a4 : PySem.W.nsIn K mainGlobals "check_word" = some (some (.ref f4))) (l4 : K.lookup f4 = some ⟨oc4, od4, .func (PySem.W.fnOf "check_word" "check_word" (defArgs S_check) (defBody S_check) (defScope S_check) .none kV4 dc4 pm4 an4 cd4 ct4), sl4⟩) (c4 : PySem.W.codeIn K cd4 "check_word" = true) (k4 : PySem.W.keepIn K (.ref f4) = true)
    (a5 : PySem.W.nsIn K mainGlobals "opposite" = some (some (.ref f5))) (l5 : K.lookup f5 = some ⟨oc5, od5, .func (PySem.W.fnOf "opposite" "opposite" (defArgs S_opp) (defBody S_opp) (defScope S_opp) .none kV5 dc5 pm5 an5 cd5 ct5), sl5⟩) (c5 : PySem.W.codeIn K cd5 "opposite" = true) (k5 : PySem.W.keepIn K (.ref f5) = true)
    (a6 : PySem.W.nsIn K mainGlobals "all_words" = some (some (.ref f6))) (l6 : K.lookup f6 = some ⟨oc6, od6, .func (PySem.W.fnOf "all_words" "all_words" (defArgs S_all) (defBody S_all) (defScope S_all) .none kV6 dc6 pm6 an6 cd6 ct6), sl6⟩) (c6 : PySem.W.codeIn K cd6 "all_words" = true) (k6 : PySem.W.keepIn K (.ref f6) = true)
    (a7 : PySem.W.nsIn K mainGlobals "said_next" = some (some (.ref f7))) (l7 : K.lookup f7 = some ⟨oc7, od7, .func (PySem.W.fnOf "said_next" "said_next" (defArgs S_said) (defBody S_said) (defScope S_said) .none kV7 dc7 pm7 an7 cd7 ct7), sl7⟩) (c7 : PySem.W.codeIn K cd7 "said_next" = true) (k7 : PySem.W.keepIn K (.ref f7) = true)
    (a8 : PySem.W.nsIn K mainGlobals "words_ahead" = some (some (.ref f8))) (l8 : K.lookup f8 = some ⟨oc8, od8, .func (PySem.W.fnOf "words_ahead" "words_ahead" (defArgs S_ahead) (defBody S_ahead) (defScope S_ahead) .none kV8 dc8 pm8 an8 cd8 ct8), sl8⟩) (c8 : PySem.W.codeIn K cd8 "words_ahead" = true) (k8 : PySem.W.keepIn K (.ref f8) = true)
    (a9 : PySem.W.nsIn K mainGlobals "follows" = some (some (.ref f9))) (l9 : K.lookup f9 = some ⟨oc9, od9, .func (PySem.W.fnOf "follows" "follows" (defArgs S_fol) (defBody S_fol) (defScope S_fol) .none kV9 dc9 pm9 an9 cd9 ct9), sl9⟩) (c9 : PySem.W.codeIn K cd9 "follows" = true) (k9 : PySem.W.keepIn K (.ref f9) = true)
    (a10 : PySem.W.nsIn K mainGlobals "chain" = some (some (.ref f10))) (l10 : K.lookup f10 = some ⟨oc10, od10, .func (PySem.W.fnOf "chain" "chain" (defArgs S_chain) (defBody S_chain) (defScope S_chain) .none kV10 dc10 pm10 an10 cd10 ct10), sl10⟩) (c10 : PySem.W.codeIn K cd10 "chain" = true) (k10 : PySem.W.keepIn K (.ref f10) = true)
    (a11 : PySem.W.nsIn K mainGlobals "hanging" = some (some (.ref f11))) (l11 : K.lookup f11 = some ⟨oc11, od11, .func (PySem.W.fnOf "hanging" "hanging" (defArgs S_hang) (defBody S_hang) (defScope S_hang) .none kV11 dc11 pm11 an11 cd11 ct11), sl11⟩) (c11 : PySem.W.codeIn K cd11 "hanging" = true) (k11 : PySem.W.keepIn K (.ref f11) = true)
    (a12 : PySem.W.nsIn K mainGlobals "_law_cell_at" = some (some (.ref f12))) (l12 : K.lookup f12 = some ⟨oc12, od12, .func (PySem.W.fnOf "_law_cell_at" "_law_cell_at" (defArgs S_cell) (defBody S_cell) (defScope S_cell) .none kV12 dc12 pm12 an12 cd12 ct12), sl12⟩) (c12 : PySem.W.codeIn K cd12 "_law_cell_at" = true) (k12 : PySem.W.keepIn K (.ref f12) = true)
    (a13 : PySem.W.nsIn K mainGlobals "_law_draw" = some (some (.ref f13))) (l13 : K.lookup f13 = some ⟨oc13, od13, .func (PySem.W.fnOf "_law_draw" "_law_draw" (defArgs S_draw) (defBody S_draw) (defScope S_draw) .none kV13 dc13 pm13 an13 cd13 ct13), sl13⟩) (c13 : PySem.W.codeIn K cd13 "_law_draw" = true) (k13 : PySem.W.keepIn K (.ref f13) = true)
    (a14 : PySem.W.nsIn K mainGlobals "_law_told" = some (some (.ref f14))) (l14 : K.lookup f14 = some ⟨oc14, od14, .func (PySem.W.fnOf "_law_told" "_law_told" (defArgs S_told) (defBody S_told) (defScope S_told) .none kV14 dc14 pm14 an14 cd14 ct14), sl14⟩) (c14 : PySem.W.codeIn K cd14 "_law_told" = true) (k14 : PySem.W.keepIn K (.ref f14) = true)
    (a15 : PySem.W.nsIn K mainGlobals "_law_word" = some (some (.ref f15))) (l15 : K.lookup f15 = some ⟨oc15, od15, .func (PySem.W.fnOf "_law_word" "_law_word" (defArgs S_lword) (defBody S_lword) (defScope S_lword) .none kV15 dc15 pm15 an15 cd15 ct15), sl15⟩) (c15 : PySem.W.codeIn K cd15 "_law_word" = true) (k15 : PySem.W.keepIn K (.ref f15) = true)
    (a16 : PySem.W.nsIn K mainGlobals "_law_not" = some (some (.ref f16))) (l16 : K.lookup f16 = some ⟨oc16, od16, .func (PySem.W.fnOf "_law_not" "_law_not" (defArgs S_lnot) (defBody S_lnot) (defScope S_lnot) .none kV16 dc16 pm16 an16 cd16 ct16), sl16⟩) (c16 : PySem.W.codeIn K cd16 "_law_not" = true) (k16 : PySem.W.keepIn K (.ref f16) = true)
    (a17 : PySem.W.nsIn K mainGlobals "_law_next" = some (some (.ref f17))) (l17 : K.lookup f17 = some ⟨oc17, od17, .func (PySem.W.fnOf "_law_next" "_law_next" (defArgs S_lnext) (defBody S_lnext) (defScope S_lnext) .none kV17 dc17 pm17 an17 cd17 ct17), sl17⟩) (c17 : PySem.W.codeIn K cd17 "_law_next" = true) (k17 : PySem.W.keepIn K (.ref f17) = true)
    (a18 : PySem.W.nsIn K mainGlobals "_law_chain" = some (some (.ref f18))) (l18 : K.lookup f18 = some ⟨oc18, od18, .func (PySem.W.fnOf "_law_chain" "_law_chain" (defArgs S_lchain) (defBody S_lchain) (defScope S_lchain) .none kV18 dc18 pm18 an18 cd18 ct18), sl18⟩) (c18 : PySem.W.codeIn K cd18 "_law_chain" = true) (k18 : PySem.W.keepIn K (.ref f18) = true)
    (a19 : PySem.W.nsIn K mainGlobals "_law_words" = some (some (.ref f19))) (l19 : K.lookup f19 = some ⟨oc19, od19, .func (PySem.W.fnOf "_law_words" "_law_words" (defArgs S_lwords) (defBody S_lwords) (defScope S_lwords) .none kV19 dc19 pm19 an19 cd19 ct19), sl19⟩) (c19 : PySem.W.codeIn K cd19 "_law_words" = true) (k19 : PySem.W.keepIn K (.ref f19) = true)
    (a20 : PySem.W.nsIn K mainGlobals "_law_far" = some (some (.ref f20))) (l20 : K.lookup f20 = some ⟨oc20, od20, .func (PySem.W.fnOf "_law_far" "_law_far" (defArgs S_lfar) (defBody S_lfar) (defScope S_lfar) .none kV20 dc20 pm20 an20 cd20 ct20), sl20⟩) (c20 : PySem.W.codeIn K cd20 "_law_far" = true) (k20 : PySem.W.keepIn K (.ref f20) = true)
    (a21 : PySem.W.nsIn K mainGlobals "_law_groups" = some (some (.ref f21))) (l21 : K.lookup f21 = some ⟨oc21, od21, .func (PySem.W.fnOf "_law_groups" "_law_groups" (defArgs S_lgroups) (defBody S_lgroups) (defScope S_lgroups) .none kV21 dc21 pm21 an21 cd21 ct21), sl21⟩) (c21 : PySem.W.codeIn K cd21 "_law_groups" = true) (k21 : PySem.W.keepIn K (.ref f21) = true)
    (a22 : PySem.W.nsIn K mainGlobals "_law_right" = some (some (.ref f22))) (l22 : K.lookup f22 = some ⟨oc22, od22, .func (PySem.W.fnOf "_law_right" "_law_right" (defArgs S_lright) (defBody S_lright) (defScope S_lright) .none kV22 dc22 pm22 an22 cd22 ct22), sl22⟩) (c22 : PySem.W.codeIn K cd22 "_law_right" = true) (k22 : PySem.W.keepIn K (.ref f22) = true)
    (a31 : PySem.W.findIn K (.ref C) "__init__" = some (some (.ref f31))) (i31 : PySem.W.isFn K (.ref f31) = true) (l31 : K.lookup f31 = some ⟨oc31, od31, .func (PySem.W.fnOf "__init__" "House.__init__" (defArgs S_init) (defBody S_init) (defScope S_init) .none kV31 dc31 pm31 an31 cd31 ct31), sl31⟩) (c31 : PySem.W.codeIn K cd31 "House.__init__" = true) (k31 : PySem.W.keepIn K (.ref f31) = true)
    (a32 : PySem.W.findIn K (.ref C) "wishes" = some (some (.ref f32))) (i32 : PySem.W.isFn K (.ref f32) = true) (l32 : K.lookup f32 = some ⟨oc32, od32, .func (PySem.W.fnOf "wishes" "House.wishes" (defArgs S_wishes) (defBody S_wishes) (defScope S_wishes) .none kV32 dc32 pm32 an32 cd32 ct32), sl32⟩) (c32 : PySem.W.codeIn K cd32 "House.wishes" = true) (k32 : PySem.W.keepIn K (.ref f32) = true)
    (a33 : PySem.W.nsIn K mainGlobals "law" = some (some (.ref f33))) (l33 : K.lookup f33 = some ⟨oc33, od33, .func (PySem.W.fnOf "law" "law" (defArgs S_law) (defBody S_law) (defScope S_law) .none kV33 dc33 pm33 an33 cd33 ct33), sl33⟩) (c33 : PySem.W.codeIn K cd33 "law" = true) (k33 : PySem.W.keepIn K (.ref f33) = true)
    (pg : PySem.W.plainGet K C Str.empty = true) (hd : PySem.W.hasDictIn K C = true) (po : PySem.W.plainOver K C = true) (sa : PySem.W.findIn K (.ref C) "__setattr__" = some (some (.builtin "object.__setattr__"))) (mk : PySem.W.makesIn K C = true) (kc : PySem.W.keepIn K (.ref C) = true)
    (nN : PySem.W.findIn K (.ref C) "names" = some none) (nK : PySem.W.findIn K (.ref C) "kept" = some none)
    (m8 : PySem.W.nsIn K mainGlobals "MOST_NAMES" = some (some (.int 8 t8))) (m24 : PySem.W.nsIn K mainGlobals "MOST_WISHES" = some (some (.int 24 t24)))
    (z_isin : PySem.W.nsIn K mainGlobals "isinstance" = some none)
    (z_len : PySem.W.nsIn K mainGlobals "len" = some none)
    (z_all : PySem.W.nsIn K mainGlobals "all" = some none)
    (z_min : PySem.W.nsIn K mainGlobals "min" = some none)
    (z_srt : PySem.W.nsIn K mainGlobals "sorted" = some none)
    (z_int : PySem.W.nsIn K mainGlobals "int" = some none)
    (z_bool : PySem.W.nsIn K mainGlobals "bool" = some none)
    (z_tup : PySem.W.nsIn K mainGlobals "tuple" = some none)
    (z_lst : PySem.W.nsIn K mainGlobals "list" = some none)
    (z_rev : PySem.W.nsIn K mainGlobals "reversed" = some none)
    (z_rng : PySem.W.nsIn K mainGlobals "range" = some none) :
    ∃ fd : FuncData, (∀ (s : Shared) (v : Value), BindsTo s fd ⟨[v], []⟩ [("_law_script", v)]) ∧ ∀ base : Heap, K.In base → base.Ns mainGlobals mg → FnOk l.prog w K mg base CX0 6 fa fd ["_law_script"] (sp_law K) := by
  have e := hfa.symm.trans (PySem.W.mg_of X G a33)
  cases e
  have T : TxtH K C := ⟨⟨pg, hd, po, sa⟩, nN, nK⟩
  have B : Bare mg := ⟨PySem.W.mg_none_of X G z_isin, PySem.W.mg_none_of X G z_len, PySem.W.mg_none_of X G z_all, PySem.W.mg_none_of X G z_min, PySem.W.mg_none_of X G z_srt, PySem.W.mg_none_of X G z_int, PySem.W.mg_none_of X G z_bool, PySem.W.mg_none_of X G z_tup, PySem.W.mg_none_of X G z_lst, PySem.W.mg_none_of X G z_rev, PySem.W.mg_none_of X G z_rng⟩
  have D_num := def_mk (st := S_num) (ps := ["value"]) (fun _ _ _ _ _ _ us hl => match us, hl with | [_], _ => rfl) X G a1 l1 c1 k1
  have D_word := def_mk (st := S_word) (ps := ["names", "value"]) (fun _ _ _ _ _ _ us hl => match us, hl with | [_, _], _ => rfl) X G a2 l2 c2 k2
  have D_wish := def_mk (st := S_wish) (ps := ["names", "value"]) (fun _ _ _ _ _ _ us hl => match us, hl with | [_, _], _ => rfl) X G a3 l3 c3 k3
  have D_check := def_mk (st := S_check) (ps := ["house", "value"]) (fun _ _ _ _ _ _ us hl => match us, hl with | [_, _], _ => rfl) X G a4 l4 c4 k4
  have D_opp := def_mk (st := S_opp) (ps := ["word"]) (fun _ _ _ _ _ _ us hl => match us, hl with | [_], _ => rfl) X G a5 l5 c5 k5
  have D_all := def_mk (st := S_all) (ps := ["house"]) (fun _ _ _ _ _ _ us hl => match us, hl with | [_], _ => rfl) X G a6 l6 c6 k6
  have D_said := def_mk (st := S_said) (ps := ["house", "word"]) (fun _ _ _ _ _ _ us hl => match us, hl with | [_, _], _ => rfl) X G a7 l7 c7 k7
  have D_ahead := def_mk (st := S_ahead) (ps := ["house", "word"]) (fun _ _ _ _ _ _ us hl => match us, hl with | [_, _], _ => rfl) X G a8 l8 c8 k8
  have D_fol := def_mk (st := S_fol) (ps := ["house", "word"]) (fun _ _ _ _ _ _ us hl => match us, hl with | [_, _], _ => rfl) X G a9 l9 c9 k9
  have D_chain := def_mk (st := S_chain) (ps := ["house", "word", "other"]) (fun _ _ _ _ _ _ us hl => match us, hl with | [_, _, _], _ => rfl) X G a10 l10 c10 k10
  have D_hang := def_mk (st := S_hang) (ps := ["house"]) (fun _ _ _ _ _ _ us hl => match us, hl with | [_], _ => rfl) X G a11 l11 c11 k11
  have D_cell := def_mk (st := S_cell) (ps := ["_law_script", "_law_k"]) (fun _ _ _ _ _ _ us hl => match us, hl with | [_, _], _ => rfl) X G a12 l12 c12 k12
  have D_draw := def_mk (st := S_draw) (ps := ["_law_cell", "_law_k", "_law_many"]) (fun _ _ _ _ _ _ us hl => match us, hl with | [_, _, _], _ => rfl) X G a13 l13 c13 k13
  have D_told := def_mk (st := S_told) (ps := ["_law_script", "_law_first"]) (fun _ _ _ _ _ _ us hl => match us, hl with | [_, _], _ => rfl) X G a14 l14 c14 k14
  have D_lword := def_mk (st := S_lword) (ps := ["_law_cell", "_law_names"]) (fun _ _ _ _ _ _ us hl => match us, hl with | [_, _], _ => rfl) X G a15 l15 c15 k15
  have D_lnot := def_mk (st := S_lnot) (ps := ["_law_word_here"]) (fun _ _ _ _ _ _ us hl => match us, hl with | [_], _ => rfl) X G a16 l16 c16 k16
  have D_lnext := def_mk (st := S_lnext) (ps := ["_law_told_here", "_law_word_here", "_law_other"]) (fun _ _ _ _ _ _ us hl => match us, hl with | [_, _, _], _ => rfl) X G a17 l17 c17 k17
  have D_lchain := def_mk (st := S_lchain) (ps := ["_law_told_here", "_law_links"]) (fun _ _ _ _ _ _ us hl => match us, hl with | [_, _], _ => rfl) X G a18 l18 c18 k18
  have D_lwords := def_mk (st := S_lwords) (ps := ["_law_links", "_law_names"]) (fun _ _ _ _ _ _ us hl => match us, hl with | [_, _], _ => rfl) X G a19 l19 c19 k19
  have D_lfar := def_mk (st := S_lfar) (ps := ["_law_told_here", "_law_word_here"]) (fun _ _ _ _ _ _ us hl => match us, hl with | [_, _], _ => rfl) X G a20 l20 c20 k20
  have D_lgroups := def_mk (st := S_lgroups) (ps := ["_law_told_here"]) (fun _ _ _ _ _ _ us hl => match us, hl with | [_], _ => rfl) X G a21 l21 c21 k21
  have D_lright := def_mk (st := S_lright) (ps := ["_law_told_here", "_law_far_here", "_law_word_here", "_law_other", "_law_found"]) (fun _ _ _ _ _ _ us hl => match us, hl with | [_, _, _, _, _], _ => rfl) X G a22 l22 c22 k22
  have F1 := fun_mk (st := S_init) l31 c31 k31
  have F2 := fun_mk (st := S_wishes) l32 c32 k32
  have F3 := fun_mk (st := S_law) l33 c33 k33
  have b1 := F1.binds (ps := ["self", "names", "wishes"]) fun _ _ _ _ _ _ us hl => match us, hl with | [_, _, _], _ => rfl
  have b2 := F2.binds (ps := ["self"]) fun _ _ _ _ _ _ us hl => match us, hl with | [_], _ => rfl
  refine ⟨PySem.W.fnOf "law" "law" (defArgs S_law) (defBody S_law) (defScope S_law) .none kV33 dc33 pm33 an33 cd33 ct33, fun s v => .of_eq rfl, fun base _ _ => ?_⟩
  have cnum := ok_num (P := l.prog) (w := w) (base := base) D_num B
  have cword := ok_word D_word B cnum
  have cwish := ok_wish D_wish B cword
  have ccheck := ok_check D_check T cword
  have copp := ok_opp (P := l.prog) (w := w) (base := base) D_opp
  have call := ok_all (P := l.prog) (w := w) (base := base) D_all B T
  have cW : CalW l.prog w K mg base C := ⟨_, _, ok_wishes F2 B T, ⟨a32, i32, k32⟩, b2⟩
  have csaid := ok_said D_said T copp cW
  have cahead := ok_ahead D_ahead B csaid
  have cfol := ok_fol D_fol B ccheck cahead
  have cchain := ok_chain D_chain B ccheck cahead
  have chang := ok_hang D_hang B call cfol
  have ccell := ok_cell (P := l.prog) (w := w) (base := base) D_cell B
  have cdraw := ok_draw (P := l.prog) (w := w) (base := base) D_draw
  have clword := ok_lword D_lword cdraw
  have clnot := ok_lnot (P := l.prog) (w := w) (base := base) D_lnot
  have ctold := ok_told D_told B ccell cdraw clword clnot
  have clnext := ok_lnext D_lnext clnot
  have clchain := ok_lchain D_lchain B clnext
  have clwords := ok_lwords (P := l.prog) (w := w) (base := base) D_lwords B
  have clfar := ok_lfar D_lfar B clnext
  have clgroups := ok_lgroups D_lgroups B clfar
  have clright := ok_lright D_lright B clchain
  have FI := ok_init F1 B T ⟨_, PySem.W.mg_of X G m8⟩ ⟨_, PySem.W.mg_of X G m24⟩ cnum cwish
  exact ok_law ⟨B, T, ctold, ccell, clword, clfar, clwords, clright, clgroups, cfol, cchain, chang, cW, ⟨_, _, ⟨mk, a31, i31, kc⟩, FI, PySem.W.mg_of X G aC, b1⟩⟩ F3
theorem walk {l : PySem.W.OpenLaw} {q : Program} {loose : List Str} {XP : (Str → Option Value) → Heap → Prop} {YP : World → Heap → Prop} {d : DefRec} {K : Params → PySem.W.Frag} (hn : l.most = some 63) (hdf : d.params.defaults = [])
    (hY : ∀ (w : World) (h : Heap), YP w h → (K w.params).In h)
    (F : ∀ (w : World) (mg : Str → Option Value) (fa : Addr) (h : Heap), (K w.params).In h → h.Ns mainGlobals mg → mg d.name = some (.ref fa) →
      ∃ fd : FuncData, (∀ (s : Shared) (u : Value), BindsTo s fd ⟨[u], []⟩ [("_law_script", u)]) ∧ ∀ base : Heap, (K w.params).In base → base.Ns mainGlobals mg → FnOk l.prog w (K w.params) mg base CX0 6 fa fd ["_law_script"] (sp_law (K w.params))) :
    PySem.W.WalkO q loose XP YP l.row.toRowW d [] (fun f vs => PySem.call f vs) :=
  L2.walk_of (n := 63) (k := 6) (x := "_law_script") (CX := fun _ => CX0) (sp := fun w => sp_law (K w.params)) hn (by decide) hdf ⟨rfl, by decide, by decide⟩ hY F (fun _ _ a ns _ _ hS => ⟨a, ns, rfl, hS, fun _ => rfl⟩) fun _ _ _ _ _ z => z
end L2

end

open PySem PySem.W PyProof.Rows
set_option maxRecDepth 100000 in
set_option maxHeartbeats 0 in
theorem PySem.Challenge.cw_eitheror_k01_what_follows_holds : PySem.Challenge.rw_eitheror_k01_what_follows.Holds := by
  w_on; o_law; k_head; (case hw => w_witness2)
  k_fill
  refine L2.walk (l := PySem.Challenge.rw_eitheror_k01_what_follows) rfl rfl (fun w h Y => PySem.W.kIn_of Y) ?F
  case F =>
    intro w mg fa h KX G hmg
    refine' L2.all_mk KX G hmg ?aC ?a1 ?l1 ?c1 ?k1 ?a2 ?l2 ?c2 ?k2 ?a3 ?l3 ?c3 ?k3 ?a4 ?l4 ?c4 ?k4 ?a5 ?l5 ?c5 ?k5 ?a6 ?l6 ?c6 ?k6 ?a7 ?l7 ?c7 ?k7 ?a8 ?l8 ?c8 ?k8 ?a9 ?l9 ?c9 ?k9 ?a10 ?l10 ?c10 ?k10 ?a11 ?l11 ?c11 ?k11 ?a12 ?l12 ?c12 ?k12 ?a13 ?l13 ?c13 ?k13 ?a14 ?l14 ?c14 ?k14 ?a15 ?l15 ?c15 ?k15 ?a16 ?l16 ?c16 ?k16 ?a17 ?l17 ?c17 ?k17 ?a18 ?l18 ?c18 ?k18 ?a19 ?l19 ?c19 ?k19 ?a20 ?l20 ?c20 ?k20 ?a21 ?l21 ?c21 ?k21 ?a22 ?l22 ?c22 ?k22 ?a31 ?i31 ?l31 ?c31 ?k31 ?a32 ?i32 ?l32 ?c32 ?k32 ?a33 ?l33 ?c33 ?k33 ?pg ?hd ?po ?sa ?mk ?kc ?nN ?nK ?m8 ?m24 ?z_isin ?z_len ?z_all ?z_min ?z_srt ?z_int ?z_bool ?z_tup ?z_lst ?z_rev ?z_rng
    (case aC => k_is); (case a1 => k_is); (case l1 => k_is); (case c1 => k_is); (case k1 => k_is); (case a2 => k_is)
    (case l2 => k_is); (case c2 => k_is); (case k2 => k_is); (case a3 => k_is); (case l3 => k_is); (case c3 => k_is)
    (case k3 => k_is); (case a4 => k_is); (case l4 => k_is); (case c4 => k_is); (case k4 => k_is); (case a5 => k_is)
    (case l5 => k_is); (case c5 => k_is); (case k5 => k_is); (case a6 => k_is); (case l6 => k_is); (case c6 => k_is)
    (case k6 => k_is); (case a7 => k_is); (case l7 => k_is); (case c7 => k_is); (case k7 => k_is); (case a8 => k_is)
    (case l8 => k_is); (case c8 => k_is); (case k8 => k_is); (case a9 => k_is); (case l9 => k_is); (case c9 => k_is)
    (case k9 => k_is); (case a10 => k_is); (case l10 => k_is); (case c10 => k_is); (case k10 => k_is); (case a11 => k_is)
    (case l11 => k_is); (case c11 => k_is); (case k11 => k_is); (case a12 => k_is); (case l12 => k_is); (case c12 => k_is)
    (case k12 => k_is); (case a13 => k_is); (case l13 => k_is); (case c13 => k_is); (case k13 => k_is); (case a14 => k_is)
    (case l14 => k_is); (case c14 => k_is); (case k14 => k_is); (case a15 => k_is); (case l15 => k_is); (case c15 => k_is)
    (case k15 => k_is); (case a16 => k_is); (case l16 => k_is); (case c16 => k_is); (case k16 => k_is); (case a17 => k_is)
    (case l17 => k_is); (case c17 => k_is); (case k17 => k_is); (case a18 => k_is); (case l18 => k_is); (case c18 => k_is)
    (case k18 => k_is); (case a19 => k_is); (case l19 => k_is); (case c19 => k_is); (case k19 => k_is); (case a20 => k_is)
    (case l20 => k_is); (case c20 => k_is); (case k20 => k_is); (case a21 => k_is); (case l21 => k_is); (case c21 => k_is)
    (case k21 => k_is); (case a22 => k_is); (case l22 => k_is); (case c22 => k_is); (case k22 => k_is); (case a31 => k_is)
    (case i31 => k_is); (case l31 => k_is); (case c31 => k_is); (case k31 => k_is); (case a32 => k_is); (case i32 => k_is)
    (case l32 => k_is); (case c32 => k_is); (case k32 => k_is); (case a33 => k_is); (case l33 => k_is); (case c33 => k_is)
    (case k33 => k_is); (case pg => k_is); (case hd => k_is); (case po => k_is); (case sa => k_is); (case mk => k_is)
    (case kc => k_is); (case nN => k_is); (case nK => k_is); (case m8 => k_is); (case m24 => k_is); (case z_isin => k_is)
    (case z_len => k_is); (case z_all => k_is); (case z_min => k_is); (case z_srt => k_is); (case z_int => k_is); (case z_bool => k_is)
    (case z_tup => k_is); (case z_lst => k_is); (case z_rev => k_is); (case z_rng => k_is)
