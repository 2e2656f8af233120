import PyProof.Rows.All
import Wide.All
import OpenK.AllK
import Wide.FinOn
import Lean
import PyProof.EqAt
import PyProof.EqKinds
import PyProof.TupleCall
import KE.KSortAsk
import PyProof.DictWalks
import PyProof.Dict
import PyProof.DictKind
import PyProof.FactsAll.bool_1
import PyProof.FactsInt
import PyProof.TupleKey
import PyProof.DictRoadsH
import PyProof.Rows.TupDisplay
import KE.KRevIter
import KE.KDictList
import PyProof.EnumMake
import PyProof.WalksEnum
import PyProof.ZipIter
import PyProof.StrLawsChain
import KE.KIntText
import PyProof.StrBlockH
import PyProof.StrLawsIdx
import PyProof.StrLawsIn
import KE.BitLaws
import PySem.Challenge.RW_eitheror_k07_texts_misread
set_option Elab.async false
section
set_option autoImplicit false
namespace Eo

abbrev W := Int × Bool
def neg (u : W) : W := (u.1, !u.2)
def InN (N : Nat) (x : W) : Prop := 0 ≤ x.1 ∧ x.1 < (N : Int)
/-- every word of every wish is a word of the house -/
def Good (N : Nat) (ws : List (W × W)) : Prop := ∀ p ∈ ws, InN N p.1 ∧ InN N p.2

end Eo

end

section
set_option autoImplicit false
set_option maxRecDepth 100000
namespace EoS
open PySem.W PyProof.Rows

section
variable {n : Nat} {key : Nat → Int}
end
end EoS

end

section
set_option autoImplicit false
set_option maxRecDepth 100000
set_option linter.all false
namespace EoH
open PySem PySem.Spec PyProof.Rows
def HdN (A : Around) (h : Heap) : Prop := A.handled = none ∨ ∃ (e C : Addr) (oe : Obj) (vs : Array Value), A.handled = some (.ref e) ∧ h.get? e = some oe ∧ oe.cls = .ref C ∧ oe.data = .fields vs ∧ vs[2]? = some Value.none
theorem entry_unchain : entryFor table "proto.unchain" = some Builtin.«proto.unchain» := entryFor_of_tree (by kernel_rfl)
section
variable {prog : Program} {w : World} {A : Around} {E : Value → Shared → Prop} {s : Shared}
theorem unchain_ok {x e : Addr} {oe : Obj} {vs : Array Value} {Q : Value → Shared → Prop} (he : s.heap.get? e = some oe) (hd : oe.data = .fields vs) (h2 : vs[2]? = some Value.none) (k : Q .none s) :
    wpAny (model prog w) A (runValue (.builtin "proto.unchain" ⟨[.ref x, .ref e, .ref e, .bool false], []⟩)) Q E s := by
  refine wpAny_runValue (codeAny_builtin entry_unchain ?_)
  show wpAny _ _ (field (.ref e) 2 >>= _) _ _ s
  refine wpAny_bind (wpAny_field he hd h2 ?_)
  rw [if_pos (show (Value.none == Value.none) = true from rfl)]
  first
    | exact wpAny_pure k
    | (wp_walk; exact k)
theorem raise_hd {α : Type} {x : Addr} {ox : Obj} {vx : Array Value} {Q : α → Shared → Prop} (hq : HdN A s.heap) (hx : s.heap.get? x = some ox) (dx : ox.data = .fields vx) (zx : 2 < vx.size) (hne : ∀ e, A.handled = some (.ref e) → e ≠ x)
    (k : ∀ h', (∀ b o, b ≠ x → s.heap.get? b = some o → h'.get? b = some o) → (∃ o', h'.get? x = some o' ∧ o'.cls = ox.cls) → E (.ref x) { s with heap := h' }) : wpAny (model prog w) A (raiseNew (.ref x) : Sem α) Q E s := by
  rcases hq with hh | ⟨e, C, oe, vs, hh, he, _, hd, h2⟩
  · exact wpAny_raiseNew_none hh (k s.heap (fun _ _ _ e => e) ⟨ox, hx, rfl⟩)
  · have ne : e ≠ x := hne e hh
    unfold raiseNew
    refine wpAny_bind (wpAny_handled ?_)
    rw [hh]
    have nb : (Value.ref e != Value.ref x) = true := by simp [ne]
    change wpAny (model prog w) A (if (Value.ref e != Value.ref x) = true then _ else _) Q E s
    rw [if_pos nb]
    refine wpAny_bind (wpAny_holding (unchain_ok he hd h2 (wpAny_bind ?_)))
    exact wpAny_setField (M := model prog w) (A := A) (E := E) (i := 2) (x := .ref e) (Q := fun _ s' => wpAny (model prog w) A (throw (Value.ref x) : Sem α) Q E s') hx dx zx (wpAny_throw (k _ (fun b o hb q => (Heap.get?_update_other _ _ (Ne.symm hb)).trans q) ⟨_, Heap.get?_update_self _ hx (Obj.isFreed_of_fields (Obj.data_mapFields dx _)), Obj.cls_mapFields _ _⟩))
theorem HdN.keep {h h' : Heap} (q : HdN A h) (k : ∀ b o, h.get? b = some o → h'.get? b = some o) : HdN A h' := by
  rcases q with q | ⟨e, C, oe, vs, a, b, c⟩
  · exact .inl q
  · exact .inr ⟨e, C, oe, vs, a, k _ _ b, c⟩
theorem HdN.lt {h : Heap} (q : HdN A h) {e : Addr} (he : A.handled = some (.ref e)) : e < h.objs.size := by
  rcases q with q | ⟨e', C, oe, vs, a, b, c⟩
  · rw [q] at he; cases he
  · rw [a] at he; cases he
    exact Heap.lt_size b
theorem HdN.but {h h' : Heap} {it : Addr} {oi : Obj} {T : String} (q : HdN A h) (hi : h.get? it = some oi) (ci : oi.cls = .type T) (k : ∀ b o, b ≠ it → h.get? b = some o → h'.get? b = some o) : HdN A h' := by
  rcases q with q | ⟨e, C, oe, vs, a, b, c, d⟩
  · exact .inl q
  · refine .inr ⟨e, C, oe, vs, a, k _ _ (fun z => ?_) b, c, d⟩
    rw [z, hi] at b
    cases b
    rw [ci] at c
    cases c
/-- a StopIteration is made and raised -/
theorem stop_hd {α : Type} {Q : α → Shared → Prop} (hq : HdN A s.heap) (k : ∀ h' x, (∀ b o, s.heap.get? b = some o → h'.get? b = some o) → (∃ o, h'.get? x = some o ∧ o.cls = .type "StopIteration") → E (.ref x) { s with heap := h' }) :
    wpAny (model prog w) A (newExc (.type "StopIteration") [] >>= fun e => (raiseNew e : Sem α)) Q E s := by
  refine wpAny_bind ?_
  simp only [newExc, newTuple]
  refine wpAny_bind (wpAny_newObj_type (wpAny_bind (m := firstArgMember _ _) (wpAny_of_eq (a := Value.none) (by first | rfl | (simp only [firstArgMember]; rfl)) (wpAny_newObj_type ?_ (by size_fits)))) (by size_fits))
  have ltx : ∀ b, b < s.heap.objs.size → b ≠ (s.heap.push { cls := Value.type "tuple", data := Data.seq ([] : List Value).toArray }).objs.size := fun b hb z => by
    rw [z, Heap.size_push] at hb
    exact absurd hb (Nat.not_lt.mpr (Nat.le_succ _))
  refine raise_hd (hq.keep fun b o e => Heap.get?_push_of_some _ (Heap.get?_push_of_some _ e)) (Heap.get?_push_size _ rfl) rfl (by rw [Array.size_append]; exact Nat.lt_of_lt_of_le (by decide : 2 < 6) (Nat.le_add_right _ _)) (fun e he => ltx e (hq.lt he)) fun h' kk ⟨o', e', c'⟩ => ?_
  exact k h' _ (fun b o e => kk b o (ltx b (Heap.lt_size e)) (Heap.get?_push_of_some _ (Heap.get?_push_of_some _ e))) ⟨o', e', c'⟩
/-- the end of a walk over a list -/
theorem list_end {it l : Addr} {i : Nat} {items : Array Value} {Q : Option Value → Shared → Prop} (hq : HdN A s.heap) (hit : s.heap.IsListIter it l i) (hl : s.heap.IsList l items) (hx : items[i]? = none)
    (k : ∀ h', Heap.ExtBut it s.heap h' → Q none { s with heap := h' }) : wpAny (model prog w) A (pyNext (.ref it)) Q E s := by
  obtain ⟨oi, hoi, ci, di⟩ := id hit
  obtain ⟨ol, hol, _, nl, dl⟩ := hl
  unfold pyNext
  refine wpAny_bind (wpAny_attempt (wpAny_callSpecial?_slot (name := Str.ofString "__next__") hit.typeIs slot_listiter_next (wpAny_call_entry slot_listiter_next hit.typeIs entry_listiter_next ?_ (args_listiter_next _))))
  change wpAny (model prog w) A.in1 (field (.ref it) 0 >>= _) _ _ s
  refine wpAny_bind (wpAny_field hoi di (x := .ref l) rfl ?_)
  change wpAny (model prog w) A.in1 (if (Value.ref l == Value.none) = true then _ else _) _ _ s
  rw [if_neg (show ¬ ((Value.ref l == Value.none) = true) from Bool.false_ne_true)]
  change wpAny (model prog w) A.in1 (field (.ref it) 1 >>= _) _ _ s
  refine wpAny_bind (wpAny_field hoi di (x := .int i 0) rfl ?_)
  change wpAny (model prog w) A.in1 (seqItems? (.ref l) >>= _) _ _ s
  refine wpAny_bind (wpAny_seqItems hol dl ?_)
  simp only [Int.toNat_natCast, hx]
  refine wpAny_bind (wpAny_rule (wpAny_bind (wpAny_setField hoi di (by simp) ?_)))
  have kp : ∀ b o, b ≠ it → s.heap.get? b = some o → (s.heap.update it (Obj.mapFields (·.setIfInBounds 0 Value.none))).get? b = some o := fun b o nb e => (Heap.get?_update_other _ _ (Ne.symm nb)).trans e
  refine stop_hd (s := { s with heap := s.heap.update it (Obj.mapFields (·.setIfInBounds 0 Value.none)) }) (hq.but hoi ci kp) fun h' x kk ts => ?_
  exact wpAny_bind (wpAny_isInstance (T := "StopIteration") (b := true) ts isSubtype_stop (wpAny_pure (k _ fun b o nb e => kk b o (kp b o nb e))))
theorem range_end {it : Addr} {x left step : Int} {Q : Option Value → Shared → Prop} (hq : HdN A s.heap) (hit : IsRangeIter s.heap it x left step) (hl : left ≤ 0)
    (k : ∀ h', Heap.ExtBut it s.heap h' → Q none { s with heap := h' }) : wpAny (model prog w) A (pyNext (.ref it)) Q E s := by
  have ty : s.TypeIs (.ref it) "range_iterator" := ⟨_, hit, rfl⟩
  unfold pyNext
  refine wpAny_bind (wpAny_attempt (wpAny_callSpecial?_slot (name := Str.ofString "__next__") ty F.slot_range_iterator_next (wpAny_call_entry F.slot_range_iterator_next ty F.entry_range_iterator_next ?_ (F.args_range_iterator_next_1 _))))
  change wpAny (model prog w) A.in1 (field (.ref it) 0 >>= _) _ _ s
  refine wpAny_bind (wpAny_field hit rfl (x := rawInt x) rfl ?_); change wpAny (model prog w) A.in1 (field (.ref it) 1 >>= _) _ _ s
  refine wpAny_bind (wpAny_field hit rfl (x := rawInt left) rfl ?_); change wpAny (model prog w) A.in1 (field (.ref it) 2 >>= _) _ _ s
  refine wpAny_bind (wpAny_field hit rfl (x := rawInt step) rfl ?_); change wpAny (model prog w) A.in1 (if left ≤ 0 then _ else _) _ _ s
  rw [if_pos hl]
  refine wpAny_bind (wpAny_rule (wpAny_bind (stop_hd (A := A.in1) hq fun h' y kk ts => ?_)))
  exact wpAny_bind (wpAny_isInstance (T := "StopIteration") (b := true) ts isSubtype_stop (wpAny_pure (k _ fun b o _ e => kk b o e)))
theorem range_item (it : Addr) (lo : Int) (n i : Nat) (s : Shared) (Q : Option Value → Shared → Prop) (E : Value → Shared → Prop) (hi : i < n) (st : IsRangeIter s.heap it (lo + (i : Nat) * 1) ((n : Int) - (i : Nat)) 1)
    (k : ∀ v h' tk, (∃ t, v = Value.int (lo + i * 1) t) → IsRangeIter h' it (lo + ((i + 1 : Nat) : Int) * 1) ((n : Int) - ((i + 1 : Nat) : Int)) 1 → (∀ b o, b ∉ [it] → s.heap.get? b = some o → h'.get? b = some o) → Q (some v) { s with heap := h', toks := tk }) : wpAny (model prog w) A (pyNext (.ref it)) Q E s := by
  refine wpAny_pyNext_range_item st (by omega) fun h' st' sb => k _ h' _ ⟨_, rfl⟩ ?_ fun b o hb e => sb.extBut b o (fun z => hb (by simp [z])) e
  have e1 : lo + ((i + 1 : Nat) : Int) * 1 = lo + (i : Int) * 1 + 1 := by omega
  have e2 : (n : Int) - ((i + 1 : Nat) : Int) = (n : Int) - (i : Int) - 1 := by omega
  rw [e1, e2]
  exact st'
/-- a list's walk, the handled exception in sight -/
theorem walk_list {e C : Addr} {oe : Obj} {vs : Array Value} (hh : A.handled = some (.ref e)) (cc : oe.cls = .ref C) (cd : oe.data = .fields vs) (c2 : vs[2]? = some Value.none) (I ax : Addr) (hne : ax ≠ I) (hie : e ≠ I) (items : Array Value) :
    Walks prog w A I [I, ax, e] [I] items.size (fun i v => items[i]? = some v) (fun i h => (h.IsListIter I ax i ∧ h.IsList ax items) ∧ h.get? e = some oe) where
  sub := fun b hb => by simp at hb; simp [hb]
  frame := fun _ _ _ st hk => ⟨⟨st.1.1.at fun o q => hk I (by simp) o q, st.1.2.at fun o q => hk ax (by simp) o q⟩, hk e (by simp) _ st.2⟩
  item := fun i s Q E hi st hQ => by
    refine wpAny_pyNext_list_item st.1.1 st.1.2 (x := items[i]) (by simp [hi]) fun h' it' sb => ?_
    exact hQ _ h' s.toks (by simp [hi]) ⟨⟨it', st.1.2.extBut sb.extBut hne⟩, sb.extBut e _ hie st.2⟩ fun b o hb q => sb.extBut b o (fun z => hb (by simp [z])) q
  done := fun s Q E st hQ => list_end (.inr ⟨e, C, oe, vs, hh, st.2, cc, cd, c2⟩) st.1.1 st.1.2 (by simp) fun h' eb => hQ h' s.toks fun b o hb q => eb b o (fun z => hb (by simp [z])) q
  self := fun _ _ _ _ st hQ => wpAny_pyIter_listiter st.1.1 hQ
end
section
variable {prog : Program} {w : World} {A : Around} {E : Value → Shared → Prop} {s : Shared} {h₀ : Heap} {L l : Addr} {m : Str → Option Value} {news : List (Addr × Obj)} {vs : List Value}
theorem all_bools {bs : List Bool} {Q : Value → Shared → Prop} (F : Fr h₀ L s.heap m) (N : News h₀ L s.heap news) (hq : HdN A s.heap) (hl : s.heap.IsList l vs.toArray) (hb : LSm.BoolsAre vs bs)
    (k : ∀ h' tk, Fr h₀ L h' m → News h₀ L h' news → Q (.bool (bs.all id)) { s with heap := h', toks := tk }) : wpAny (model prog w) A (call (.builtin "all") [.ref l]) Q E s := by
  rcases hq with hh | ⟨e, C, oe, es, hh, he, cc, cd, c2⟩
  · exact LSm.all_bools F N hh hl hb k
  · have lt : l < s.heap.objs.size := let ⟨_, q, _⟩ := hl; Heap.lt_size q
    have lte := Heap.lt_size he
    refine call_all_walk (wpAny_pyIter_list hl ?_)
    refine ⟨s.heap.objs.size, [s.heap.objs.size, l, e], [s.heap.objs.size], vs.toArray.size, _, _, fun i => (bs[i]?).getD true, rfl, walk_list (A := A.in1) hh cc cd c2 _ l (Nat.ne_of_lt lt) (Nat.ne_of_lt lte) vs.toArray, ⟨⟨⟨_, Heap.get?_push_size _ rfl, rfl, rfl⟩, hl.push _⟩, Heap.get?_push_of_some _ he⟩, fun i v s' Q' E' hP hQ => ?_, fun h' tk hk => ?_⟩
    · obtain ⟨b, q, rfl⟩ := hb.get i v (by simpa using hP)
      simp only [q, Option.getD_some] at hQ
      exact wpAny_truthy_bool hQ
    · have q : ((List.range vs.toArray.size).all fun i => (bs[i]?).getD true) = bs.all id := by rw [List.size_toArray, hb.length]; exact LSm.range_all bs
      rw [q]
      exact k h' tk (F.keeps (LSm.kept_iter hk)) (N.grown (LSm.kept_iter hk))
theorem any_bools {bs : List Bool} {Q : Value → Shared → Prop} (F : Fr h₀ L s.heap m) (N : News h₀ L s.heap news) (hq : HdN A s.heap) (hl : s.heap.IsList l vs.toArray) (hb : LSm.BoolsAre vs bs)
    (k : ∀ h' tk, Fr h₀ L h' m → News h₀ L h' news → Q (.bool (bs.any id)) { s with heap := h', toks := tk }) : wpAny (model prog w) A (call (.builtin "any") [.ref l]) Q E s := by
  rcases hq with hh | ⟨e, C, oe, es, hh, he, cc, cd, c2⟩
  · exact LSm.any_bools F N hh hl hb k
  · have lt : l < s.heap.objs.size := let ⟨_, q, _⟩ := hl; Heap.lt_size q
    have lte := Heap.lt_size he
    refine call_any_walk (wpAny_pyIter_list hl ?_)
    refine ⟨s.heap.objs.size, [s.heap.objs.size, l, e], [s.heap.objs.size], vs.toArray.size, _, _, fun i => (bs[i]?).getD false, rfl, walk_list (A := A.in1) hh cc cd c2 _ l (Nat.ne_of_lt lt) (Nat.ne_of_lt lte) vs.toArray, ⟨⟨⟨_, Heap.get?_push_size _ rfl, rfl, rfl⟩, hl.push _⟩, Heap.get?_push_of_some _ he⟩, fun i v s' Q' E' hP hQ => ?_, fun h' tk hk => ?_⟩
    · obtain ⟨b, q, rfl⟩ := hb.get i v (by simpa using hP)
      simp only [q, Option.getD_some] at hQ
      exact wpAny_truthy_bool hQ
    · have q : ((List.range vs.toArray.size).any fun i => (bs[i]?).getD false) = bs.any id := by rw [List.size_toArray, hb.length]; exact LSm.range_any bs
      rw [q]
      exact k h' tk (F.keeps (LSm.kept_iter hk)) (N.grown (LSm.kept_iter hk))
end
end EoH

end

section
set_option Elab.async false
set_option linter.all false
set_option maxRecDepth 100000
/-! THE HAND LAYER, for ints, bools, texts, own classes, LISTS and tuples (index, slices, in, append, pop ..), calls, loops. Paste it whole ahead of your own text; what your proof does not reach may be deleted. -/
namespace L2
open PySem PySem.Spec PyProof.Rows

/-- a key: an int or a str -/
abbrev Key := Sum Int Str
def keyIs : Key → Value → Bool
  | .inl k, v => Value.isInt k v
  | .inr x, v => Value.isStrOf x v
def keyH (w : World) : Key → Int
  | .inl k => hashInt k
  | .inr x => hashStr w x
theorem keyIs_shape : ∀ {k : Key} {v : Value}, keyIs k v = true → (∃ i t, k = Sum.inl i ∧ v = Value.int i t) ∨ (∃ x t, k = Sum.inr x ∧ v = Value.str x t)
  | .inl i, v, h => by
    obtain ⟨t, e⟩ := Value.isInt_shape (k := i) (v := v) h
    exact .inl ⟨i, t, rfl, e⟩
  | .inr x, v, h => by
    obtain ⟨t, e⟩ := Value.isStrOf_shape (x := x) (v := v) h
    exact .inr ⟨x, t, rfl, e⟩
theorem key_ll (a b : Int) : decide ((Sum.inl a : Key) = Sum.inl b) = (a == b) := by
  by_cases e : a = b
  · subst e; simp
  · have h : ¬ (Sum.inl a : Key) = Sum.inl b := fun q => e (Sum.inl.inj q)
    rw [decide_eq_false h]
    exact (beq_eq_false_iff_ne.mpr e).symm
theorem key_rr (a b : Str) : decide ((Sum.inr a : Key) = Sum.inr b) = decide (a = b) := by
  by_cases e : a = b
  · subst e; simp
  · have h : ¬ (Sum.inr a : Key) = Sum.inr b := fun q => e (Sum.inr.inj q)
    rw [decide_eq_false h, decide_eq_false e]
theorem key_lr (a : Int) (b : Str) : decide ((Sum.inl a : Key) = Sum.inr b) = false := decide_eq_false (fun q => nomatch q)
theorem key_rl (a : Str) (b : Int) : decide ((Sum.inr a : Key) = Sum.inl b) = false := decide_eq_false (fun q => nomatch q)

def mixKind (prog : Program) (w : World) : PySem.KeyKind prog w Key where
  is := keyIs
  hash := keyH w
  inj := fun v a b ha hb => by
    rcases keyIs_shape ha with ⟨i, t, rfl, rfl⟩ | ⟨x, t, rfl, rfl⟩
    · rcases keyIs_shape hb with ⟨j, u, rfl, e⟩ | ⟨y, u, rfl, e⟩
      · injection e with e1 _; rw [e1]
      · exact nomatch e
    · rcases keyIs_shape hb with ⟨j, u, rfl, e⟩ | ⟨y, u, rfl, e⟩
      · exact nomatch e
      · injection e with e1 _; rw [e1]
  byValue := fun k v h => by
    rcases keyIs_shape h with ⟨i, t, rfl, rfl⟩ | ⟨x, t, rfl, rfl⟩ <;> rfl
  pyHash := fun hv h => by
    rcases keyIs_shape hv with ⟨i, t, rfl, rfl⟩ | ⟨x, t, rfl, rfl⟩
    · exact wpAny_pyHash_int h
    · exact wpAny_pyHash_str h
  eqBool := fun hu hv h => by
    rcases keyIs_shape hu with ⟨i, t, rfl, rfl⟩ | ⟨x, t, rfl, rfl⟩
    · rcases keyIs_shape hv with ⟨j, u, rfl, rfl⟩ | ⟨y, u, rfl, rfl⟩
      · rw [key_ll] at h; exact wpAny_eqBool_int h
      · rw [key_lr] at h; exact SeqAt.EqAt.int_str i t y u _ _ _ _ h
    · rcases keyIs_shape hv with ⟨j, u, rfl, rfl⟩ | ⟨y, u, rfl, rfl⟩
      · rw [key_rl] at h; exact SeqAt.EqAt.str_int x t j u _ _ _ _ h
      · rw [key_rr] at h; exact wpAny_eqBool_str h
  «strs» := fun k x t v h => by
    rcases keyIs_shape h with ⟨i, u, rfl, e⟩ | ⟨y, u, rfl, e⟩
    · exact nomatch e
    · injection e with e1 _
      subst e1
      cases v <;> rfl

end L2

namespace L2
open PySem PySem.Spec PyProof.Rows

/-- a value, without the heap -/
inductive V where
  | non | bl (b : Bool) | int (i : Int) | str (x : Str) | byt (b : Array UInt8) | flt (b : UInt64) | ref (a : Addr) | ty (n : String)
  deriving DecidableEq

def RelV : V → Value → Prop
  | .non, u => u = Value.none
  | .bl b, u => u = Value.bool b
  | .int i, u => ∃ t, u = Value.int i t
  | .str x, u => ∃ t, u = Value.str x t
  | .byt b, u => ∃ t, u = Value.bytes b t
  | .flt b, u => ∃ t, u = Value.float b t
  | .ref a, u => u = Value.ref a
  | .ty n, u => u = Value.type n

abbrev Vals : List V → List Value → Prop := Paired RelV
theorem Vals.length {xs : List V} {us : List Value} (r : Vals xs us) : xs.length = us.length := Paired.length r
theorem Vals.get : ∀ {xs : List V} {us : List Value} {i : Nat} {x : V}, Vals xs us → xs[i]? = some x → ∃ u, us[i]? = some u ∧ RelV x u
  | _, _, _, _, .nil, e => by simp at e
  | _, _, 0, _, .cons r _, e => by simp at e; subst e; exact ⟨_, rfl, r⟩
  | _, _, i + 1, x, .cons _ t, e => by
    obtain ⟨u, h1, h2⟩ := Vals.get (i := i) (x := x) t (by simpa using e)
    exact ⟨u, by simpa using h1, h2⟩
theorem Vals.append : ∀ {xs ys : List V} {us ws : List Value}, Vals xs us → Vals ys ws → Vals (xs ++ ys) (us ++ ws)
  | _, _, _, _, .nil, s => s
  | _, _, _, _, .cons r t, s => .cons r (Vals.append t s)
theorem Vals.take : ∀ {xs : List V} {us : List Value} (n : Nat), Vals xs us → Vals (xs.take n) (us.take n)
  | _, _, 0, _ => .nil
  | _, _, _ + 1, .nil => .nil
  | _, _, n + 1, .cons r t => .cons r (Vals.take n t)
theorem Vals.drop : ∀ {xs : List V} {us : List Value} (n : Nat), Vals xs us → Vals (xs.drop n) (us.drop n)
  | _, _, 0, r => r
  | _, _, _ + 1, .nil => .nil
  | _, _, n + 1, .cons _ t => Vals.drop n t
def RelO : Option V → Option Value → Prop
  | some v, some u => RelV v u
  | none, none => True
  | _, _ => False
def KV {κ : Type} : List (κ × V) → List (κ × Value) → Prop := Paired fun (p : κ × V) (q : κ × Value) => p.1 = q.1 ∧ RelV p.2 q.2

/-- a key of a dict (00_mix): an int or a text -/
def kV : Key → V
  | .inl i => .int i
  | .inr x => .str x

/-- what stands at a tracked address -/
inductive HO where
  /-- a list -/
  | lst (xs : List V)
  /-- a tuple (never changes) -/
  | tup (xs : List V)
  /-- a dict whose keys are ints and texts; one whose keys are tuples of ints and texts (the empty one is both) -/
  | dK (kvs : List (Key × V)) | dT (kvs : List (List Key × V))
  /-- a set of ints: its members, its size -/
  | set (S : Int → Bool) (n : Nat)
  /-- an instance of the class at C, its dict at dx, its attributes -/
  | ins (C dx : Addr) (fs : List (Str × V))
  /-- the dict of the instance at x -/
  | own (x : Addr)
  /-- the dict of an exception -/
  | xd (fs : List (Str × V))
  /-- a bound method, f of x -/
  | met (f x : Addr)
  /-- a range object lo, lo + 1, .. below hi -/
  | rng (lo hi : Int)
  /-- a thing that is known to the object (the script; a dict while a loop walks it): read, never written while it is so -/
  | frz (o : Obj) (u : HO)
  /-- a code object's table -/
  | tbl (ps : Array Value)
  /-- any other thing, by what is true of its one object (a def of one's own: SetO a S n := HO.ext fun h => ..) -/
  | ext (φ : Heap → Prop)

abbrev Hp := Addr → Option HO
def upd (H : Hp) (a : Addr) (o : HO) : Hp := fun b => if b = a then some o else H b
theorem upd_same {H : Hp} {a : Addr} {o : HO} : upd H a o a = some o := by unfold upd; rw [if_pos rfl]
theorem upd_ne {H : Hp} {a b : Addr} {o : HO} (h : b ≠ a) : upd H a o b = H b := by unfold upd; rw [if_neg h]
theorem upd_upd {H : Hp} {a : Addr} {o u : HO} : upd (upd H a o) a u = upd H a u := by
  funext b; unfold upd; split <;> rfl
/-- two objects of different content stand apart -/
theorem ne_of {H : Hp} {a b : Addr} {o u : HO} (h : H a = some o) (h' : H b = some u) (d : o ≠ u) : a ≠ b := by
  intro e; subst e; rw [h] at h'; exact d (Option.some.inj h')
theorem ne_of_none {H : Hp} {a b : Addr} {o : HO} (h : H a = some o) (h' : H b = none) : a ≠ b := by
  intro e; subst e; rw [h] at h'; cases h'

section
variable (P : Program) (w : World)
def ObjOk (H : Hp) (h : Heap) (a : Addr) : HO → Prop
  | .lst xs => xs.length ≤ sizeLine ∧ ∃ (its : List Value) (n : Nat), Vals xs its ∧ h.get? a = some { cls := .type "list", data := .seq its.toArray n }
  | .tup xs => xs.length ≤ sizeLine ∧ ∃ its : List Value, Vals xs its ∧ IsTup h a its.toArray
  | .dK kvs => kvs.length ≤ sizeLine ∧ (a == sysModules) = false ∧ ∃ vs, KV kvs vs ∧ h.DictOf (mixKind P w) a vs
  | .dT kvs => kvs.length ≤ sizeLine ∧ (a == sysModules) = false ∧ ∃ xs : List (List Key × Addr × Value),
      Paired (fun (p : List Key × V) (q : List Key × Addr × Value) => p.1 = q.1 ∧ H q.2.1 = some (.tup (p.1.map kV)) ∧ RelV p.2 q.2.2) kvs xs ∧
      ∃ o es ep, h.get? a = some o ∧ o.ExactDict ∧ o.data = .dict es ep ∧ es.toList = xs.map (entryOfKey (tupleKind (mixKind P w))) ∧ (xs.map (·.1)).Nodup
  | .set S n => h.SetOf (intKind P w) a S n
  | .ins C dx fs => H dx = some (.own a) ∧ fs.length ≤ 1000 ∧ dx ≠ a ∧ h.get? a = some (PySem.W.instObj C dx) ∧
      ∃ mA, h.Ns1 dx mA ∧ (∀ f, RelO (fs.lookup f) (mA f)) ∧ PySem.Within mA (fs.map (·.1))
  | .own _ => ∃ o, h.get? a = some o
  | .xd fs => ∃ mA, h.Ns1 a mA ∧ ∀ f, RelO (fs.lookup f) (mA f)
  | .rng lo hi => ∃ t u v, h.get? a = some { cls := .type "range", data := .fields #[.int lo t, .int hi u, .int 1 v] }
  | .frz o u => h.get? a = some o ∧ ObjOk H h a u
  | .tbl ps => h.get? a = some { cls := .none, data := .fields ps }
  | .met f x => h.get? a = some (PySem.W.methodObj (.ref f) (.ref x))
  | .ext φ => φ h ∧ (∃ o, h.get? a = some o) ∧ ∀ h1 h2 : Heap, φ h1 → (∀ o, h1.get? a = some o → h2.get? a = some o) → φ h2
/-- the abstract heap is held -/
def HOk (H : Hp) (h : Heap) : Prop := ∀ a o, H a = some o → ObjOk P w H h a o
end

section
variable {P : Program} {w : World} {H H' : Hp} {h h' : Heap} {a : Addr} {o : HO}
theorem ObjOk.lt (x : ObjOk P w H h a o) : a < h.objs.size := by
  cases o with
  | lst xs => obtain ⟨_, _, _, _, e⟩ := x; exact Heap.lt_size e
  | tup xs => obtain ⟨_, _, _, p⟩ := x; exact p.lt
  | dK kvs => obtain ⟨_, _, _, _, o, _, _, e, _⟩ := x; exact Heap.lt_size e
  | dT kvs => obtain ⟨_, _, _, _, o, _, _, e, _⟩ := x; exact Heap.lt_size e
  | set S n => obtain ⟨o, _, _, _, e, _⟩ := x; exact Heap.lt_size e
  | ins C dx fs => obtain ⟨_, _, _, e, _⟩ := x; exact Heap.lt_size e
  | own y => obtain ⟨_, e⟩ := x; exact Heap.lt_size e
  | xd fs => obtain ⟨_, ⟨_, _, _, e, _⟩, _⟩ := x; exact Heap.lt_size e
  | rng lo hi => obtain ⟨_, _, _, e⟩ := x; exact Heap.lt_size e
  | frz ob u => obtain ⟨e, _⟩ := x; exact Heap.lt_size e
  | tbl ps => exact Heap.lt_size (show h.get? a = some _ from x)
  | met f y => exact Heap.lt_size (show h.get? a = some _ from x)
  | ext φ => obtain ⟨_, ⟨_, e⟩, _⟩ := x; exact Heap.lt_size e
theorem Paired.mapP {α β : Type} {F G : α → β → Prop} : ∀ {l₁ : List α} {l₂ : List β}, Paired F l₁ l₂ → (∀ a b, F a b → G a b) → Paired G l₁ l₂
  | _, _, .nil, _ => .nil
  | _, _, .cons r t, f => .cons (f _ _ r) (Paired.mapP t f)
/-- what an object's description leans on: its own object, its own dict, the tuples -/
theorem ObjOk.stay (x : ObjOk P w H h a o) (k : ∀ b u, (b = a ∨ H b = some (.own a)) → h.get? b = some u → h'.get? b = some u)
    (ho : ∀ b, H b = some (.own a) → H' b = some (.own a)) (ht : ∀ b xs, H b = some (.tup xs) → H' b = some (.tup xs)) : ObjOk P w H' h' a o := by
  induction o with
  | lst xs => obtain ⟨z, its, n, r, e⟩ := x; exact ⟨z, its, n, r, k _ _ (.inl rfl) e⟩
  | tup xs => obtain ⟨z, its, r, ob, e, c⟩ := x; exact ⟨z, its, r, ob, k _ _ (.inl rfl) e, c⟩
  | dK kvs => obtain ⟨z, y, vs, r, ob, es, ep, e, c⟩ := x; exact ⟨z, y, vs, r, ob, es, ep, k _ _ (.inl rfl) e, c⟩
  | dT kvs =>
    obtain ⟨z, y, xs, r, ob, es, ep, e, c⟩ := x
    exact ⟨z, y, xs, Paired.mapP r fun p q z => ⟨z.1, ht _ _ z.2.1, z.2.2⟩, ob, es, ep, k _ _ (.inl rfl) e, c⟩
  | set S n => obtain ⟨ob, es, ep, t, e, c⟩ := x; exact ⟨ob, es, ep, t, k _ _ (.inl rfl) e, c⟩
  | ins C dx fs =>
    obtain ⟨d, z, ne, e, mA, ⟨od, es, ep, e2, c⟩, r⟩ := x
    exact ⟨ho _ d, z, ne, k _ _ (.inl rfl) e, mA, ⟨od, es, ep, k _ _ (.inr d) e2, c⟩, r⟩
  | own y => obtain ⟨ob, e⟩ := x; exact ⟨ob, k _ _ (.inl rfl) e⟩
  | xd fs => obtain ⟨mA, ⟨od, es, ep, e, c⟩, r⟩ := x; exact ⟨mA, ⟨od, es, ep, k _ _ (.inl rfl) e, c⟩, r⟩
  | rng lo hi => obtain ⟨t, u, v, e⟩ := x; exact ⟨t, u, v, k _ _ (.inl rfl) e⟩
  | frz ob u ih => obtain ⟨e, q⟩ := x; exact ⟨k _ _ (.inl rfl) e, ih q⟩
  | tbl ps =>
    have e : h.get? a = some { cls := .none, data := .fields ps } := x
    show h'.get? a = some { cls := .none, data := .fields ps }
    exact k a _ (.inl rfl) e
  | met f y =>
    have e : h.get? a = some (PySem.W.methodObj (.ref f) (.ref y)) := x
    show h'.get? a = some (PySem.W.methodObj (.ref f) (.ref y))
    exact k a _ (.inl rfl) e
  | ext φ => obtain ⟨p, ⟨o, e⟩, st⟩ := x; exact ⟨st _ _ p fun o q => k _ _ (.inl rfl) q, ⟨o, k _ _ (.inl rfl) e⟩, st⟩
theorem HOk.lt (x : HOk P w H h) (e : H a = some o) : a < h.objs.size := (x a o e).lt
theorem HOk.fresh (x : HOk P w H h) (e : h.objs.size ≤ a) : H a = none := by
  cases q : H a with
  | none => rfl
  | some u => exact absurd (Nat.lt_of_lt_of_le (x.lt q) e) (Nat.lt_irrefl _)
/-- every object of the heap is kept -/
theorem HOk.kept (x : HOk P w H h) (k : ∀ b u, h.get? b = some u → h'.get? b = some u) : HOk P w H h' := fun a o e =>
  (x a o e).stay (fun b u _ q => k b u q) (fun _ q => q) fun _ _ q => q
/-- a new object is laid and tracked -/
theorem HOk.laid (x : HOk P w H h) (k : ∀ b u, h.get? b = some u → h'.get? b = some u) (hp : h.objs.size ≤ a) (new : ObjOk P w (upd H a o) h' a o) : HOk P w (upd H a o) h' := fun b u e => by
  have hn := x.fresh hp
  by_cases hb : b = a
  · subst hb; rw [upd_same] at e; cases e; exact new
  · rw [upd_ne hb] at e
    exact (x b u e).stay (fun c v _ q => k c v q) (fun c q => by rw [upd_ne (ne_of_none q hn)]; exact q) fun c xs q => by rw [upd_ne (ne_of_none q hn)]; exact q
end

/-- what may be read as u: it is u, or a known u -/
def Rd (H : Hp) (a : Addr) (u : HO) : Prop := H a = some u ∨ ∃ o, H a = some (.frz o u)
theorem Rd.ok {P : Program} {w : World} {H : Hp} {h : Heap} {a : Addr} {u : HO} (r : Rd H a u) (x : HOk P w H h) : ObjOk P w H h a u := by
  rcases r with r | ⟨o, r⟩
  · exact x a u r
  · obtain ⟨_, q⟩ := x a _ r
    exact q
/-- what may be written -/
def Mut : Option HO → Prop
  | some (.lst _) => True
  | some (.dK _) => True
  | some (.dT _) => True
  | some (.set _ _) => True
  | some (.ins _ _ _) => True
  | some (.ext _) => True
  | _ => False
section
variable {P : Program} {w : World} {H : Hp} {h h' : Heap} {x e : Addr} {o' : HO}
/-- the object at e is changed: x itself, or the dict of the instance x -/
theorem HOk.write (ok : HOk P w H h) (mu : Mut (H x)) (he : e = x ∨ H e = some (.own x)) (k : ∀ b u, b ≠ e → h.get? b = some u → h'.get? b = some u) (heo : ∃ u, h'.get? e = some u)
    (new : ObjOk P w (upd H x o') h' x o') : HOk P w (upd H x o') h' := fun b u q => by
  have nown : ∀ c y, H c = some (.own y) → c ≠ x := fun c y r z => by subst z; rw [r] at mu; exact mu
  have ntup : ∀ c xs, H c = some (.tup xs) → c ≠ x := fun c xs r z => by subst z; rw [r] at mu; exact mu
  by_cases hb : b = x
  · subst hb; rw [upd_same] at q; cases q; exact new
  · rw [upd_ne hb] at q
    by_cases hbe : b = e
    · have q' : H b = some (.own x) := by
        rcases he with z | z
        · exact absurd (hbe.trans z) hb
        · rw [hbe]; exact z
      rw [q] at q'; cases q'
      obtain ⟨v, hv⟩ := heo
      exact ⟨v, by rw [hbe]; exact hv⟩
    · refine (ok b u q).stay (fun c v hc r => k c v ?_ r) (fun c r => by rw [upd_ne (nown c b r)]; exact r) fun c xs r => by rw [upd_ne (ntup c xs r)]; exact r
      rcases hc with rfl | hc
      · exact hbe
      · rintro rfl
        rcases he with z | z
        · exact nown c b hc z
        · rw [hc] at z; cases z; exact hb rfl
end

/-! ### kept unless tracked; of the frames at fs (the callers') the slots may change (an exception that passes writes there); of the records at ex (iterators) nothing is said -/
structure Un (fs ex : List Addr) (H H' : Hp) (h h' : Heap) : Prop where
  keep : ∀ b o, h.get? b = some o → H b = none → b ∉ fs → b ∉ ex → h'.get? b = some o
  slot : ∀ b o, h.get? b = some o → H b = none → b ∈ fs → b ∉ ex → ∃ sl, h'.get? b = some { o with slots := sl }
  free : ∀ b o, h.get? b = some o → H b = none → b ∉ ex → H' b = none
  there : ∀ b o, h.get? b = some o → b ∉ ex → ∃ o', h'.get? b = some o'
  tups : ∀ b xs, H b = some (.tup xs) → H' b = some (.tup xs)
  frzs : ∀ b o u, H b = some (.frz o u) → H' b = some (.frz o u)
  tbls : ∀ b ps, H b = some (.tbl ps) → ∃ more, H' b = some (.tbl (ps ++ more))
section
variable {fs fs' ex ex' : List Addr} {H H1 H2 : Hp} {h h1 h2 h' : Heap} {a x e : Addr} {o : HO}
theorem Un.any (u : Un fs ex H H1 h h1) {b : Addr} {ob : Obj} (q : h.get? b = some ob) (n : H b = none) (hx : b ∉ ex) : ∃ sl, h1.get? b = some { ob with slots := sl } := by
  by_cases hb : b ∈ fs
  · exact u.slot b ob q n hb hx
  · exact ⟨ob.slots, u.keep b ob q n hb hx⟩
theorem Un.kept (k : ∀ b u, h.get? b = some u → h'.get? b = some u) : Un fs ex H H h h' :=
  ⟨fun b ob q _ _ _ => k b ob q, fun b ob q _ _ _ => ⟨ob.slots, k b ob q⟩, fun _ _ _ n _ => n, fun b ob q _ => ⟨ob, k b ob q⟩, fun _ _ q => q, fun _ _ _ q => q, fun _ ps q => ⟨#[], by rw [q]; simp⟩⟩
theorem Un.refl : Un fs ex H H h h := Un.kept fun _ _ q => q
theorem Un.laid (k : ∀ b u, h.get? b = some u → h'.get? b = some u) (hp : h.objs.size ≤ a) (hn : H a = none) : Un fs ex H (upd H a o) h h' where
  keep := fun b u q _ _ _ => k b u q
  slot := fun b u q _ _ _ => ⟨u.slots, k b u q⟩
  free := fun b u q n _ => by rw [upd_ne (Nat.ne_of_lt (Nat.lt_of_lt_of_le (Heap.lt_size q) hp))]; exact n
  there := fun b u q _ => ⟨u, k b u q⟩
  tups := fun b xs q => by rw [upd_ne (ne_of_none q hn)]; exact q
  frzs := fun b u xs q => by rw [upd_ne (ne_of_none q hn)]; exact q
  tbls := fun b ps q => ⟨#[], by rw [upd_ne (ne_of_none q hn), q]; simp⟩
theorem Un.write (mu : Mut (H x)) (he : e = x ∨ H e = some (.own x)) (k : ∀ b u, b ≠ e → h.get? b = some u → h'.get? b = some u) (heo : ∃ u, h'.get? e = some u) : Un fs ex H (upd H x o) h h' := by
  have hx : ∀ b, H b = none → b ≠ x := fun b n z => by subst z; rw [n] at mu; exact mu
  have hb : ∀ b, H b = none → b ≠ e := fun b n z => by
    subst z
    rcases he with r | r
    · exact hx b n r
    · rw [n] at r; cases r
  have hm : ∀ b u, H b = some u → ¬ Mut (some u) → b ≠ x := fun b u q nm z => by subst z; rw [q] at mu; exact nm mu
  refine ⟨fun b u q n _ _ => k b u (hb b n) q, fun b u q n _ _ => ⟨u.slots, k b u (hb b n) q⟩, fun b u q n _ => by rw [upd_ne (hx b n)]; exact n, fun b u q _ => ?_,
    fun b xs q => by rw [upd_ne (hm b _ q fun z => z)]; exact q, fun b u xs q => by rw [upd_ne (hm b _ q fun z => z)]; exact q, fun b ps q => ⟨#[], by rw [upd_ne (hm b _ q fun z => z), q]; simp⟩⟩
  by_cases hbe : b = e
  · subst hbe; exact heo
  · exact ⟨u, k b u hbe q⟩
end

/-! ### the heap without what is tracked -/
def trk (h : Heap) (H : Hp) : List Addr := (List.range h.objs.size).filter fun a => (H a).isSome
def hidT (h : Heap) (H : Hp) : Heap := PySem.W.hideAll h (trk h H)
theorem hidT_size (h : Heap) (H : Hp) : (hidT h H).objs.size = h.objs.size := PySem.W.hideAll_size _ _
theorem hidT_get {h : Heap} {H : Hp} {b : Addr} {o : Obj} (e : h.get? b = some o) (n : H b = none) : (hidT h H).get? b = some o :=
  PySem.W.hideAll_get _ e fun hm => by
    have q : (H b).isSome = true := (List.mem_filter.mp hm).2
    rw [n] at q; simp at q
theorem of_hidT {h : Heap} {H : Hp} {b : Addr} {o : Obj} (e : (hidT h H).get? b = some o) : h.get? b = some o ∧ H b = none := by
  have e' : h.get? b = some o := PySem.W.of_hideAll (trk h H) e
  refine ⟨e', ?_⟩
  cases q : H b with
  | none => rfl
  | some x =>
    have hm : b ∈ trk h H := List.mem_filter.mpr ⟨List.mem_range.mpr (Heap.lt_size e'), by simp [q]⟩
    have z : (hidT h H).get? b = none := PySem.W.hideAll_none (trk h H) hm
    rw [z] at e; cases e

/-! ### OpenK's ledger, filled with every new object but one -/
def allNews (g h : Heap) (L : Addr) : List (Addr × Obj) := (List.range h.objs.size).filterMap fun a => if a = L ∨ (g.get? a).isSome = true then none else (h.get? a).map fun o => (a, o)
theorem mem_allNews {g h : Heap} {L a : Addr} {o : Obj} (h1 : a ≠ L) (h2 : g.get? a = none) (h3 : h.get? a = some o) : (a, o) ∈ allNews g h L :=
  List.mem_filterMap.mpr ⟨a, List.mem_range.mpr (Heap.lt_size h3), by simp [h1, h2, h3]⟩
theorem of_mem_allNews {g h : Heap} {L : Addr} {p : Addr × Obj} (hp : p ∈ allNews g h L) : p.1 ≠ L ∧ g.get? p.1 = none ∧ h.get? p.1 = some p.2 := by
  obtain ⟨b, _, e⟩ := List.mem_filterMap.mp hp
  split at e
  · cases e
  · rename_i hn
    cases q : h.get? b with
    | none => rw [q] at e; simp at e
    | some u =>
      rw [q] at e
      simp only [Option.map_some, Option.some.injEq] at e
      subst e
      refine ⟨fun z => hn (.inl z), ?_, q⟩
      show g.get? b = none
      cases r : g.get? b with
      | none => rfl
      | some v => exact (hn (.inr (by simp [r]))).elim
theorem news_all {g h : Heap} {L : Addr} : News g L h (allNews g h L) := fun p hp => let ⟨a, b, c⟩ := of_mem_allNews hp; ⟨c, a, b⟩
end L2

namespace L2
open PySem PySem.Spec PyProof.Rows

/-- the module's facts, over the base: the heap at the law's entry without what is tracked there -/
structure Mod (K : PySem.W.Frag) (mg : Str → Option Value) (base : Heap) : Prop where
  kin : K.In base
  glob : base.Ns mainGlobals mg
  blt : ∃ mb, base.Ns builtinsNs mb ∧ ∀ x : Str, x ≠ "__name__" → mb x = bootBuiltins x
  nolimit : base.NoLimit

/-- the context: a def's body (or a comprehension's block) running. base: fixed through the whole law; s₀, H₀: the entry; outer: the frames whose slots others may change (a def's callers); stack: all frames that run;
   ex: iterators that were made ahead of the entry and are walked here (a comprehension's); fn: the names whose cells were made at the entry (a def: all; a comprehension's block: its own); calm: not within an except suite; pn: pins that every state bears; xe: what is wanted of an exception that leaves the code -/
structure Cx where
  prog : Program
  w : World
  K : PySem.W.Frag
  mg : Str → Option Value
  base : Heap
  A : Around
  N : List Str
  s₀ : Shared
  H₀ : Hp
  env : Env
  outer : List Env
  stack : List Env
  ex : List Addr
  fn : Str → Bool
  calm : Bool
  pn : List (Addr × Obj)
  xe : Value → Shared → Prop
/-- the callers' frames -/
def frs (l : List Env) : List Addr := l.filterMap (·.frame)
abbrev Cx.fs (X : Cx) : List Addr := frs X.outer
/-- an exception that is handled just now: it stands where it stood, and has none behind it -/
def HdX (A : Around) (h : Heap) (H : Hp) (fs ex : List Addr) (pn : List (Addr × Obj)) : Prop := A.handled = none ∨ ∃ (e C : Addr) (oe : Obj) (vs : Array Value), A.handled = some (.ref e) ∧ oe.cls = .ref C ∧ oe.data = .fields vs ∧ vs[2]? = some Value.none ∧ ((e, oe) ∈ pn ∨ (h.get? e = some oe ∧ H e = none ∧ e ∉ fs ∧ e ∉ ex))

def Vis (sc : Scope) (x : Str) : Prop := sc.names.lookup x = some .local ∨ sc.names.lookup x = some .cell ∨ sc.names.lookup x = some .free
def Loc (sc : Scope) (x : Str) : Prop := sc.names.lookup x = some .local ∨ sc.names.lookup x = some .cell
def Look (env : Env) (h : Heap) (m : Str → Option Value) (x : Str) (u : Value) : Prop :=
  (env.kindOf x = some .local ∧ m x = some u) ∨ ((env.kindOf x = some .cell ∨ env.kindOf x = some .free) ∧ ∃ c, env.cells.lookup x = some c ∧ h.IsCell c (some u))

structure Cx.Ok (X : Cx) : Prop where
  mod : Mod X.K X.mg X.base
  kind : X.env.scope.kind = .function
  glob : X.env.globals = mainGlobals
  blt : X.env.builtins = builtinsNs
  above : X.s₀.heap.objs.size ≤ X.env.locals
  inj : ∀ x y c, X.env.cells.lookup x = some c → X.env.cells.lookup y = some c → x = y
  has : ∀ x, (X.env.kindOf x = some .cell ∨ X.env.kindOf x = some .free) → ∃ c, X.env.cells.lookup x = some c
  cab : ∀ x c, X.fn x = true → X.env.cells.lookup x = some c → X.s₀.heap.objs.size ≤ c
  hd : X.calm = true → X.A.handled = none
  frames : X.A.frames = some X.stack
  stk : X.stack = X.outer ∨ (X.stack = X.env :: X.outer ∧ X.env.frame = some X.env.locals)
  exf : ∀ b ∈ X.ex, b ≠ X.env.locals ∧ ∀ x c, X.env.cells.lookup x = some c → c ≠ b
  bs : ∀ b o, X.base.get? b = some o → X.s₀.heap.get? b = some o ∧ X.H₀ b = none
  bsz : X.base.objs.size ≤ X.s₀.heap.objs.size
  noex : ∀ b o, X.base.get? b = some o → b ∉ X.ex
  exfs : ∀ b ∈ X.ex, b ∉ X.fs
  funs : X.s₀.heap.FunFrames X.base X.outer
  frf : ∀ b ∈ X.fs, X.H₀ b = none
  hdl : HdX X.A X.s₀.heap X.H₀ X.fs X.ex X.pn

structure Inv (X : Cx) (pins : List (Addr × Obj)) (σ : List (Option V)) (H : Hp) (s : Shared) : Prop where
  ok : X.Ok
  os : s.os = X.s₀.os
  bare : AllBare s.gens
  base : Un X.fs X.ex X.H₀ H X.s₀.heap s.heap
  loc : ∃ m, s.heap.Ns X.env.locals m ∧ ∀ (i : Nat) (x : Str) (v : V), X.N[i]? = some x → σ[i]? = some (some v) → Vis X.env.scope x → ∃ u, RelV v u ∧ Look X.env s.heap m x u
  cell : ∀ x c, X.env.cells.lookup x = some c → ∃ v, s.heap.IsCell c v
  free : H X.env.locals = none
  freeC : ∀ x c, X.env.cells.lookup x = some c → H c = none
  pin : ∀ p ∈ X.pn ++ pins, s.heap.get? p.1 = some p.2 ∧ H p.1 = none ∧ p.1 ≠ X.env.locals ∧ p.1 ∉ X.fs ∧ ∀ v, p.2.data ≠ .cell v
  hok : HOk X.prog X.w H s.heap
  len : σ.length = X.N.length

section
variable {X : Cx} {pins : List (Addr × Obj)} {σ : List (Option V)} {H H' : Hp} {s : Shared} {h' : Heap}

theorem Cx.Ok.nofr (ok : X.Ok) {b : Addr} {o : Obj} (e : X.base.get? b = some o) : b ∉ X.fs := fun hb => by
  have := (ok.funs.mem hb).1
  rw [e] at this; cases this
theorem Inv.bs (I : Inv X pins σ H s) : ∀ b o, X.base.get? b = some o → s.heap.get? b = some o ∧ H b = none := fun b o e =>
  ⟨I.base.keep b o (I.ok.bs b o e).1 (I.ok.bs b o e).2 (I.ok.nofr e) (I.ok.noex b o e), I.base.free b o (I.ok.bs b o e).1 (I.ok.bs b o e).2 (I.ok.noex b o e)⟩
theorem Inv.bk (I : Inv X pins σ H s) : ∀ b o, X.base.get? b = some o → s.heap.get? b = some o := fun b o e => (I.bs b o e).1
theorem Inv.mod (I : Inv X pins σ H s) : Mod X.K X.mg X.base := I.ok.mod
theorem Inv.kIn (I : Inv X pins σ H s) : X.K.In s.heap := I.ok.mod.kin.keeps I.bk
/-- the frame over the base: for OpenK's rules (K.In X.base is I.mod.kin) -/
theorem Inv.fr (I : Inv X pins σ H s) : ∃ m, Fr X.base X.env.locals s.heap m :=
  let ⟨m, hn, _⟩ := I.loc
  ⟨m, hn, I.bk, Nat.le_trans I.ok.bsz I.ok.above⟩
theorem Inv.lt (I : Inv X pins σ H s) : X.env.locals < s.heap.objs.size := let ⟨_, hn, _⟩ := I.loc; hn.lt
theorem Inv.sz (I : Inv X pins σ H s) : X.s₀.heap.objs.size ≤ s.heap.objs.size := Nat.le_trans I.ok.above (Nat.le_of_lt I.lt)
theorem Inv.nofs (I : Inv X pins σ H s) {a : Addr} (h : s.heap.objs.size ≤ a) : a ∉ X.fs := fun hb => by
  obtain ⟨_, o, ho, _⟩ := I.ok.funs.mem hb
  exact absurd (Nat.lt_of_lt_of_le (Heap.lt_size ho) (Nat.le_trans I.sz h)) (Nat.lt_irrefl _)
theorem Inv.cne (I : Inv X pins σ H s) : ∀ x c, X.env.cells.lookup x = some c → c ≠ X.env.locals := fun x c e z => by
  obtain ⟨v, o, ho, hd⟩ := I.cell x c e
  obtain ⟨m, ⟨o', es, ep, ho', hd', _⟩, _⟩ := I.loc
  rw [z, ho'] at ho; cases ho; rw [hd'] at hd; cases hd
theorem Inv.funs (I : Inv X pins σ H s) : s.heap.FunFrames X.base X.outer := by
  have all : ∀ (l : List Env), (∀ b ∈ frs l, b ∈ X.fs) → X.s₀.heap.FunFrames X.base l → s.heap.FunFrames X.base l := by
    intro l
    induction l with
    | nil => intro _ _; trivial
    | cons env r ih =>
      intro hs hl
      obtain ⟨hk, ⟨L, o, hf, hn, ho, hd⟩, hr⟩ := hl
      have hL : L ∈ X.fs := hs L (by unfold frs; rw [List.filterMap_cons, hf]; exact List.mem_cons_self)
      obtain ⟨sl, e⟩ := I.base.slot L o ho (I.ok.frf L hL) hL fun z => I.ok.exfs L z hL
      exact ⟨hk, ⟨L, _, hf, hn, e, hd⟩, ih (fun b hb => hs b (by unfold frs; rw [List.filterMap_cons, hf]; exact List.mem_cons_of_mem _ hb)) hr⟩
  exact all X.outer (fun _ hb => hb) I.ok.funs

/-- the frames that run, for a call -/
theorem Inv.stack (I : Inv X pins σ H s) : s.heap.FunFrames X.base X.stack := by
  rcases I.ok.stk with e | ⟨e, hf⟩
  · rw [e]; exact I.funs
  · rw [e]
    obtain ⟨m, hn, _⟩ := I.loc
    refine .cons (by rw [I.ok.kind]; decide) hf hn ?_ I.funs
    exact Heap.get?_none_of_le (Nat.le_trans I.ok.bsz I.ok.above)
theorem Inv.stkSub (I : Inv X pins σ H s) : ∀ b ∈ frs X.stack, b ∈ X.env.locals :: X.fs := fun b hb => by
  rcases I.ok.stk with e | ⟨e, hf⟩
  · rw [e] at hb; exact List.mem_cons_of_mem _ hb
  · rw [e] at hb
    unfold frs at hb
    rw [List.filterMap_cons, hf] at hb
    exact hb
theorem Inv.stkFree (I : Inv X pins σ H s) : ∀ b ∈ frs X.stack, H b = none := fun b hb => by
  rcases List.mem_cons.mp (I.stkSub b hb) with e | hb
  · rw [e]; exact I.free
  · obtain ⟨_, o, ho, _⟩ := I.ok.funs.mem hb
    exact I.base.free b o ho (I.ok.frf b hb) fun z => I.ok.exfs b z hb

theorem Inv.hde (I : Inv X pins σ H s) : HdX X.A s.heap H (frs X.stack) [] [] := by
  rcases I.ok.hdl with q | ⟨e, C, oe, vs, q1, q2, q3, q4, q5 | ⟨q5, q6, q7, q8⟩⟩
  · exact .inl q
  · obtain ⟨p1, p2, p3, p4, _⟩ := I.pin (e, oe) (List.mem_append_left _ q5)
    exact .inr ⟨e, C, oe, vs, q1, q2, q3, q4, .inr ⟨p1, p2, fun z => (List.mem_cons.mp (I.stkSub e z)).elim p3 p4, fun z => nomatch z⟩⟩
  · exact .inr ⟨e, C, oe, vs, q1, q2, q3, q4, .inr ⟨I.base.keep e oe q5 q6 q7 q8, I.base.free e oe q5 q6 q8, fun z => (List.mem_cons.mp (I.stkSub e z)).elim (Nat.ne_of_lt (Nat.lt_of_lt_of_le (Heap.lt_size q5) I.ok.above)) q7, fun z => nomatch z⟩⟩
theorem Inv.hdn (I : Inv X pins σ H s) : EoH.HdN X.A s.heap := by
  rcases I.hde with q | ⟨e, C, oe, vs, q1, q2, q3, q4, q5 | q5⟩
  · exact .inl q
  · exact nomatch q5
  · exact .inr ⟨e, C, oe, vs, q1, q5.1, q2, q3, q4⟩

/-- THE STEP: the untracked objects but the frame and the records at ch are kept (the callers' frames up to slots), the frame's map is kept, the new abstract heap is held -/
theorem Inv.step {g' : Array GenState} {t' : Nat} {d' : Drawn} {ch : List Addr} (I : Inv X pins σ H s)
    (hch : ∀ b ∈ ch, (b ∈ X.ex ∨ X.s₀.heap.get? b = none) ∧ b ≠ X.env.locals ∧ (∀ x c, X.env.cells.lookup x = some c → c ≠ b) ∧ ∀ p ∈ X.pn ++ pins, p.1 ≠ b)
    (keep : ∀ b o, b ≠ X.env.locals → b ∉ X.fs → b ∉ ch → s.heap.get? b = some o → H b = none → h'.get? b = some o)
    (slot : ∀ b o, b ≠ X.env.locals → b ∈ X.fs → b ∉ ch → s.heap.get? b = some o → H b = none → ∃ sl, h'.get? b = some { o with slots := sl }) (free : ∀ b o, b ∉ ch → s.heap.get? b = some o → H b = none → H' b = none)
    (there : ∀ b o, b ∉ ch → s.heap.get? b = some o → ∃ o', h'.get? b = some o')
    (tups : ∀ b xs, H b = some (.tup xs) → H' b = some (.tup xs)) (frzs : ∀ b o u, H b = some (.frz o u) → H' b = some (.frz o u)) (tbls : ∀ b ps, H b = some (.tbl ps) → ∃ more, H' b = some (.tbl (ps ++ more)))
    (ns : ∀ m, s.heap.Ns X.env.locals m → h'.Ns X.env.locals m) (hok : HOk X.prog X.w H' h') (hg : AllBare g') :
    Inv X pins σ H' { s with heap := h', gens := g', drawn := d', toks := t' } := by
  have neL : ∀ b o, X.s₀.heap.get? b = some o → b ≠ X.env.locals := fun b o e => Nat.ne_of_lt (Nat.lt_of_lt_of_le (Heap.lt_size e) I.ok.above)
  have neC : ∀ b o, X.s₀.heap.get? b = some o → b ∉ X.ex → b ∉ ch := fun b o e hx hb => by
    rcases (hch b hb).1 with z | z
    · exact hx z
    · rw [z] at e; cases e
  have cellK : ∀ x c, X.env.cells.lookup x = some c → ∀ v, s.heap.IsCell c v → h'.IsCell c v := fun x c e v ⟨o, ho, hd⟩ => by
    have nch : c ∉ ch := fun z => (hch c z).2.2.1 x c e rfl
    by_cases hc : c ∈ X.fs
    · obtain ⟨sl, q⟩ := slot c o (I.cne x c e) hc nch ho (I.freeC x c e)
      exact ⟨_, q, hd⟩
    · exact ⟨o, keep c o (I.cne x c e) hc nch ho (I.freeC x c e), hd⟩
  refine ⟨I.ok, I.os, hg, ⟨fun b o e n hb hx => ?_, fun b o e n hb hx => ?_, fun b o e n hx => ?_, fun b o e hx => ?_, fun b xs e => tups b xs (I.base.tups b xs e), fun b o xs e => frzs b o xs (I.base.frzs b o xs e), fun b ps e => ?_⟩, ?_, fun x c e => ?_, ?_, fun x c e => ?_, fun p hp => ?_, hok, I.len⟩
  · exact keep b o (neL b o e) hb (neC b o e hx) (I.base.keep b o e n hb hx) (I.base.free b o e n hx)
  · obtain ⟨sl, e1⟩ := I.base.slot b o e n hb hx
    obtain ⟨sl', e2⟩ := slot b _ (neL b o e) hb (neC b o e hx) e1 (I.base.free b o e n hx)
    exact ⟨sl', e2⟩
  · obtain ⟨o', e1⟩ := I.base.there b o e hx
    exact free b o' (neC b o e hx) e1 (I.base.free b o e n hx)
  · obtain ⟨o', e1⟩ := I.base.there b o e hx
    exact there b o' (neC b o e hx) e1
  · obtain ⟨m1, e1⟩ := I.base.tbls b ps e
    obtain ⟨m2, e2⟩ := tbls b _ e1
    exact ⟨m1 ++ m2, by rw [e2, Array.append_assoc]⟩
  · obtain ⟨m, hn, hl⟩ := I.loc
    refine ⟨m, ns m hn, fun i x v e1 e2 e3 => ?_⟩
    obtain ⟨u, r, l⟩ := hl i x v e1 e2 e3
    refine ⟨u, r, ?_⟩
    rcases l with l | ⟨k, c, e, z⟩
    · exact .inl l
    · exact .inr ⟨k, c, e, cellK x c e _ z⟩
  · obtain ⟨v, z⟩ := I.cell x c e
    exact ⟨v, cellK x c e v z⟩
  · obtain ⟨m, ⟨o, _, _, ho, _⟩, _⟩ := I.loc
    exact free _ o (fun z => (hch _ z).2.1 rfl) ho I.free
  · obtain ⟨v, o, ho, hd⟩ := I.cell x c e
    exact free c o (fun z => (hch c z).2.2.1 x c e rfl) ho (I.freeC x c e)
  · obtain ⟨e, n, ne, nf, d⟩ := I.pin p hp
    have nch : p.1 ∉ ch := fun z => (hch p.1 z).2.2.2 p hp rfl
    exact ⟨keep p.1 p.2 ne nf nch e n, free p.1 p.2 nch e n, ne, nf, d⟩
/-- .. where the frame's own object is kept too -/
theorem Inv.un {t' : Nat} (I : Inv X pins σ H s) (u : Un X.fs [] H H' s.heap h') (hok : HOk X.prog X.w H' h') : Inv X pins σ H' { s with heap := h', toks := t' } := by
  obtain ⟨m, ⟨o, es, ep, ho, r⟩, _⟩ := id I.loc
  obtain ⟨sl, hL⟩ := u.any ho I.free (by simp)
  exact I.step (g' := s.gens) (d' := s.drawn) (ch := []) (fun _ z => nomatch z) (fun b o _ hb _ e n => u.keep b o e n hb (by simp)) (fun b o _ hb _ e n => u.slot b o e n hb (by simp)) (fun b o _ e n => u.free b o e n (by simp)) (fun b o _ e => u.there b o e (by simp)) u.tups u.frzs u.tbls (fun m' hm => by
    obtain ⟨o', es', ep', ho', r'⟩ := hm
    rw [ho] at ho'; cases ho'
    exact ⟨_, es', ep', hL, r'⟩) hok I.bare
/-- behind a call (or a comprehension's block): the slots of this frame may have changed too, the records at ch may have turned -/
theorem Inv.call {g' : Array GenState} {t' : Nat} {d' : Drawn} {ch : List Addr} (I : Inv X pins σ H s) (u : Un (frs X.stack) ch H H' s.heap h') (hok : HOk X.prog X.w H' h') (hg : AllBare g')
    (hch : ∀ b ∈ ch, (b ∈ X.ex ∨ X.s₀.heap.get? b = none) ∧ b ≠ X.env.locals ∧ (∀ x c, X.env.cells.lookup x = some c → c ≠ b) ∧ ∀ p ∈ X.pn ++ pins, p.1 ≠ b) :
    Inv X pins σ H' { s with heap := h', gens := g', drawn := d', toks := t' } := by
  obtain ⟨m, ⟨o, es, ep, ho, r⟩, _⟩ := id I.loc
  obtain ⟨sl, hL⟩ := u.any ho I.free fun z => (hch _ z).2.1 rfl
  exact I.step (ch := ch) hch (fun b o hL hb hc e n => u.keep b o e n (fun z => (List.mem_cons.mp (I.stkSub b z)).elim hL hb) hc) (fun b o _ _ hc e n => u.any e n hc) (fun b o hc e n => u.free b o e n hc) (fun b o hc e => u.there b o e hc) u.tups u.frzs u.tbls (fun m' hm => by
    obtain ⟨o', es', ep', ho', r'⟩ := hm
    rw [ho] at ho'; cases ho'
    exact ⟨_, es', ep', hL, r'⟩) hok hg
/-- an untracked record of ours (an iterator) has turned -/
theorem Inv.turned {t' : Nat} {it : Addr} (I : Inv X pins σ H s) (k : ∀ b o, b ≠ it → s.heap.get? b = some o → h'.get? b = some o) (hn : H it = none) (hL : it ≠ X.env.locals)
    (h1 : it ∈ X.ex ∨ X.s₀.heap.get? it = none) (h2 : ∀ x c, X.env.cells.lookup x = some c → c ≠ it) (h3 : ∀ p ∈ X.pn ++ pins, p.1 ≠ it) : Inv X pins σ H { s with heap := h', toks := t' } := by
  have nit : ∀ b u, H b = some u → b ≠ it := fun b u e z => by rw [z, hn] at e; cases e
  refine I.step (g' := s.gens) (d' := s.drawn) (ch := [it]) (fun b hb => ?_) (fun b o _ _ hc e _ => k b o (fun z => hc (by simp [z])) e) (fun b o _ _ hc e _ => ⟨o.slots, k b o (fun z => hc (by simp [z])) e⟩) (fun _ _ _ _ n => n)
    (fun b o hc e => ⟨o, k b o (fun z => hc (by simp [z])) e⟩) (fun _ _ e => e) (fun _ _ _ e => e) (fun b ps e => ⟨#[], by rw [e]; simp⟩) (fun m hm => ?_) (fun b u e => ?_) I.bare
  · have e : b = it := by simpa using hb
    subst e
    exact ⟨h1, hL, h2, h3⟩
  · obtain ⟨o, es, ep, ho, r⟩ := hm
    exact ⟨o, es, ep, k _ o (Ne.symm hL) ho, r⟩
  · refine (I.hok b u e).stay (fun c v hc q => k c v ?_ q) (fun _ q => q) fun _ _ q => q
    rcases hc with z | z
    · rw [z]; exact nit b u e
    · exact nit c _ z
theorem Inv.tok (I : Inv X pins σ H s) (t : Nat) : Inv X pins σ H { s with toks := t } := I.un (h' := s.heap) (t' := t) Un.refl I.hok
/-- all objects kept -/
theorem Inv.kept {t' : Nat} (I : Inv X pins σ H s) (k : ∀ b u, s.heap.get? b = some u → h'.get? b = some u) : Inv X pins σ H { s with heap := h', toks := t' } := I.un (Un.kept k) (I.hok.kept k)
/-- a new object laid and tracked -/
theorem Inv.laid {a : Addr} {o : HO} {t' : Nat} (I : Inv X pins σ H s) (k : ∀ b u, s.heap.get? b = some u → h'.get? b = some u) (hp : s.heap.objs.size ≤ a) (new : ObjOk X.prog X.w (upd H a o) h' a o) :
    Inv X pins σ (upd H a o) { s with heap := h', toks := t' } := I.un (Un.laid k hp (I.hok.fresh hp)) (I.hok.laid k hp new)
/-- an object written -/
theorem Inv.write {x e : Addr} {o : HO} {t' : Nat} (I : Inv X pins σ H s) (mu : Mut (H x)) (he : e = x ∨ H e = some (.own x)) (k : ∀ b u, b ≠ e → s.heap.get? b = some u → h'.get? b = some u) (heo : ∃ u, h'.get? e = some u)
    (new : ObjOk X.prog X.w (upd H x o) h' x o) : Inv X pins σ (upd H x o) { s with heap := h', toks := t' } := I.un (Un.write mu he k heo) (I.hok.write mu he k heo new)
theorem Inv.pins_of {pins' : List (Addr × Obj)} (I : Inv X pins σ H s) (h : ∀ p ∈ pins', s.heap.get? p.1 = some p.2 ∧ H p.1 = none ∧ p.1 ≠ X.env.locals ∧ p.1 ∉ X.fs ∧ ∀ v, p.2.data ≠ .cell v) : Inv X pins' σ H s :=
  ⟨I.ok, I.os, I.bare, I.base, I.loc, I.cell, I.free, I.freeC, fun p hp => (List.mem_append.mp hp).elim (fun z => I.pin p (List.mem_append_left _ z)) (h p), I.hok, I.len⟩

theorem nodup_ix {N : List Str} (hN : N.Nodup) {i j : Nat} {x : Str} (a : N[i]? = some x) (b : N[j]? = some x) : i = j := by
  obtain ⟨h1, e1⟩ := List.getElem?_eq_some_iff.mp a
  obtain ⟨h2, e2⟩ := List.getElem?_eq_some_iff.mp b
  exact (List.getElem_inj hN).mp (e1.trans e2.symm)

/-- a name is stored; what changed -/
theorem store_ok2 {M : Model} {A : Around} {E : Value → Shared → Prop} {i : Nat} {x : Str} {v : V} {u : Value} {Q : Unit → Shared → Prop} (I : Inv X pins σ H s) (hN : X.N.Nodup) (hi : X.N[i]? = some x) (hx : Loc X.env.scope x) (r : RelV v u)
    (h : ∀ s', Inv X pins (σ.set i (some v)) H s' → (∃ a, Heap.SameBut a s.heap s'.heap ∧ (a = X.env.locals ∨ X.env.cells.lookup x = some a)) → Q () s') (hf : X.fn x = true ∨ X.env.scope.names.lookup x = some .local := by first | exact .inl rfl | exact .inr rfl | assumption) : wpAny M A (storeName X.env x u) Q E s := by
  obtain ⟨m, hn, hl⟩ := id I.loc
  have hcls : (X.env.scope.kind == .class || (X.env.scope.kind == .module && X.env.locals != X.env.globals)) = false := by rw [I.ok.kind]; rfl
  have hiσ : i < σ.length := by rw [I.len]; exact (List.getElem?_eq_some_iff.mp hi).1
  have cne := I.cne
  have tracked : ∀ {a : Addr} {h' : Heap}, (∃ o, s.heap.get? a = some o ∧ H a = none) → Heap.SameBut a s.heap h' → HOk X.prog X.w H h' := fun {a h'} ha hs b ob e => by
    obtain ⟨_, _, hfree⟩ := ha
    refine (I.hok b ob e).stay (fun c w' hc q => (hs.2 c ?_).trans q) (fun _ q => q) fun _ _ q => q
    rintro rfl
    rcases hc with rfl | hc
    · rw [hfree] at e; cases e
    · rw [hfree] at hc; cases hc
  rcases hx with hk | hk
  · refine wpAny_storeName_local hk hn (fun h' hn' hs => ?_) hcls
    obtain ⟨oL, _, _, hoL, _⟩ := id hn
    refine h _ ⟨I.ok, I.os, I.bare, ⟨fun b o e n hb hx => ?_, fun b o e n hb hx => ?_, I.base.free, fun b o e hx => ?_, I.base.tups, I.base.frzs, I.base.tbls⟩, ⟨_, hn', fun j y v' e1 e2 e3 => ?_⟩, fun y c e => ?_, I.free, I.freeC, fun p hp => ?_, tracked ⟨oL, hoL, I.free⟩ hs, by simpa using I.len⟩ ⟨_, hs, .inl rfl⟩
    · exact (hs.2 b (Nat.ne_of_lt (Nat.lt_of_lt_of_le (Heap.lt_size e) I.ok.above))).trans (I.base.keep b o e n hb hx)
    · obtain ⟨sl, e1⟩ := I.base.slot b o e n hb hx
      exact ⟨sl, (hs.2 b (Nat.ne_of_lt (Nat.lt_of_lt_of_le (Heap.lt_size e) I.ok.above))).trans e1⟩
    · obtain ⟨o', e1⟩ := I.base.there b o e hx
      exact ⟨o', (hs.2 b (Nat.ne_of_lt (Nat.lt_of_lt_of_le (Heap.lt_size e) I.ok.above))).trans e1⟩
    · by_cases hj : j = i
      · subst hj
        rw [hi] at e1; cases e1
        rw [List.getElem?_set_self hiσ] at e2
        cases e2
        exact ⟨u, r, .inl ⟨hk, by simp⟩⟩
      · rw [List.getElem?_set_ne (Ne.symm hj)] at e2
        obtain ⟨u', r', q⟩ := hl j y v' e1 e2 e3
        refine ⟨u', r', ?_⟩
        rcases q with ⟨k, e⟩ | ⟨k, c, e, z⟩
        · refine .inl ⟨k, ?_⟩
          have : y ≠ x := fun e => hj (nodup_ix hN e1 (e ▸ hi))
          simp [this, e]
        · exact .inr ⟨k, c, e, z.sameBut hs (cne y c e)⟩
    · obtain ⟨w', z⟩ := I.cell y c e
      exact ⟨w', z.sameBut hs (cne y c e)⟩
    · obtain ⟨e, n, ne, nf, d⟩ := I.pin p hp
      exact ⟨(hs.2 p.1 ne).trans e, n, ne, nf, d⟩
  · have hfn : X.fn x = true := by
      rcases hf with z | z
      · exact z
      · rw [z] at hk; cases hk
    obtain ⟨c, hc⟩ := I.ok.has x (.inl hk)
    obtain ⟨w', z⟩ := I.cell x c hc
    refine wpAny_storeName_cell I.ok.kind hk hc z (fun h' hc' hs => ?_)
    obtain ⟨oc, hoc, hocd⟩ := id z
    refine h { s with heap := h' } ⟨I.ok, I.os, I.bare, ⟨fun b o e n hb hx => ?_, fun b o e n hb hx => ?_, I.base.free, fun b o e hx => ?_, I.base.tups, I.base.frzs, I.base.tbls⟩, ⟨m, hn.sameBut hs (Ne.symm (cne x c hc)), fun j y v' e1 e2 e3 => ?_⟩, fun y c' e => ?_, I.free, I.freeC, fun p hp => ?_, tracked ⟨oc, hoc, I.freeC x c hc⟩ hs, by simpa using I.len⟩ ⟨c, hs, .inr hc⟩
    · exact (hs.2 b (Nat.ne_of_lt (Nat.lt_of_lt_of_le (Heap.lt_size e) (I.ok.cab x c hfn hc)))).trans (I.base.keep b o e n hb hx)
    · obtain ⟨sl, e1⟩ := I.base.slot b o e n hb hx
      exact ⟨sl, (hs.2 b (Nat.ne_of_lt (Nat.lt_of_lt_of_le (Heap.lt_size e) (I.ok.cab x c hfn hc)))).trans e1⟩
    · obtain ⟨o', e1⟩ := I.base.there b o e hx
      exact ⟨o', (hs.2 b (Nat.ne_of_lt (Nat.lt_of_lt_of_le (Heap.lt_size e) (I.ok.cab x c hfn hc)))).trans e1⟩
    · by_cases hj : j = i
      · subst hj
        rw [hi] at e1; cases e1
        rw [List.getElem?_set_self hiσ] at e2
        cases e2
        exact ⟨u, r, .inr ⟨.inl hk, c, hc, hc'⟩⟩
      · rw [List.getElem?_set_ne (Ne.symm hj)] at e2
        obtain ⟨u', r', q⟩ := hl j y v' e1 e2 e3
        refine ⟨u', r', ?_⟩
        rcases q with q | ⟨k, c', e, z'⟩
        · exact .inl q
        · refine .inr ⟨k, c', e, z'.sameBut hs ?_⟩
          rintro rfl
          exact hj (nodup_ix hN e1 (I.ok.inj _ _ _ e hc ▸ hi))
    · by_cases hcc : c' = c
      · subst hcc; exact ⟨_, hc'⟩
      · obtain ⟨w2, z2⟩ := I.cell y c' e
        exact ⟨w2, z2.sameBut hs hcc⟩
    · obtain ⟨e, n, ne, nf, d⟩ := I.pin p hp
      refine ⟨(hs.2 p.1 ?_).trans e, n, ne, nf, d⟩
      intro q
      rw [q, hoc] at e
      have q' : oc = p.2 := Option.some.inj e
      exact d w' (by rw [← q']; exact hocd)
theorem store_ok {M : Model} {A : Around} {E : Value → Shared → Prop} {i : Nat} {x : Str} {v : V} {u : Value} {Q : Unit → Shared → Prop} (I : Inv X pins σ H s) (hN : X.N.Nodup) (hi : X.N[i]? = some x) (hx : Loc X.env.scope x) (r : RelV v u)
    (h : ∀ s', Inv X pins (σ.set i (some v)) H s' → Q () s') (hf : X.fn x = true ∨ X.env.scope.names.lookup x = some .local := by first | exact .inl rfl | exact .inr rfl | assumption) : wpAny M A (storeName X.env x u) Q E s :=
  store_ok2 I hN hi hx r (fun s' I' _ => h s' I') hf
/-- behind a call or a block, the state as it is -/
theorem Inv.call' {s' : Shared} {ch : List Addr} (I : Inv X pins σ H s) (ho : s'.os = s.os) (u : Un (frs X.stack) ch H H' s.heap s'.heap) (hok : HOk X.prog X.w H' s'.heap) (hg : AllBare s'.gens)
    (hch : ∀ b ∈ ch, (b ∈ X.ex ∨ X.s₀.heap.get? b = none) ∧ b ≠ X.env.locals ∧ (∀ x c, X.env.cells.lookup x = some c → c ≠ b) ∧ ∀ p ∈ X.pn ++ pins, p.1 ≠ b) : Inv X pins σ H' s' := by
  obtain ⟨h', g', d', t', o'⟩ := s'
  have e : o' = s.os := ho
  subst e
  exact I.call (g' := g') (t' := t') (d' := d') u hok hg hch
end

inductive XVar (σ : List (Option V)) (i : Nat) (H : Hp) (Q : V → Hp → Prop) : Prop
  | mk (v : V) (e : σ[i]? = some (some v)) (q : Q v H)
inductive XB (x : V) (R : Bool → Prop) : Prop
  | mk (c : Bool) (e : x = .bl c) (q : R c)
inductive XI (x : V) (R : Int → Prop) : Prop
  | mk (i : Int) (e : x = .int i) (q : R i)
inductive XII (x y : V) (R : Int → Int → Prop) : Prop
  | mk (i j : Int) (ex : x = .int i) (ey : y = .int j) (q : R i j)
inductive XIC (C : Int → Int → Prop) (x y : V) (R : Int → Int → Prop) : Prop
  | mk (i j : Int) (ex : x = .int i) (ey : y = .int j) (c : C i j) (q : R i j)

/-! ### the judgements -/
/-- an exception: its class, its own dict's address (where it has one), the abstract heap behind it -/
abbrev XK := Value → Option Addr → Hp → Prop
abbrev St := List (Option V)
abbrev VK := V → Hp → Prop
/-- an expression's reading; a test's; an argument list's -/
abbrev TE := St → Hp → VK → Prop
abbrev TT := St → Hp → (Bool → Hp → Prop) → Prop
abbrev TA := St → Hp → (List V → Hp → Prop) → Prop
/-- what is wanted behind a statement -/
structure Ends where
  nx : St → Hp → Prop
  rt : VK
  bk : St → Hp → Prop := fun _ _ => False
  ct : St → Hp → Prop := fun _ _ => False
abbrev TS := Ends → St → Hp → Prop

def EP (X : Cx) (pins : List (Addr × Obj)) (σ : St) (Q : VK) (u : Value) (s' : Shared) : Prop := ∃ v H', Inv X pins σ H' s' ∧ RelV v u ∧ Q v H'
def TP (X : Cx) (pins : List (Addr × Obj)) (σ : St) (Q : Bool → Hp → Prop) (b : Bool) (s' : Shared) : Prop := ∃ H', Inv X pins σ H' s' ∧ Q b H'
def AP (X : Cx) (pins : List (Addr × Obj)) (σ : St) (Q : List V → Hp → Prop) (us : List Value) (s' : Shared) : Prop := ∃ vs H', Inv X pins σ H' s' ∧ Vals vs us ∧ Q vs H'
def SP (X : Cx) (pins : List (Addr × Obj)) (D : Ends) (f : Flow) (s' : Shared) : Prop :=
  match f with
  | .next => ∃ σ' H', Inv X pins σ' H' s' ∧ D.nx σ' H'
  | .brk => ∃ σ' H', Inv X pins σ' H' s' ∧ D.bk σ' H'
  | .cont => ∃ σ' H', Inv X pins σ' H' s' ∧ D.ct σ' H'
  | .ret u => ∃ v σ' H', Inv X pins σ' H' s' ∧ RelV v u ∧ D.rt v H'

def PE (X : Cx) (e : Expr) (t : TE) : Prop :=
  ∀ (pins : List (Addr × Obj)) (s : Shared) (σ : St) (H : Hp) (Q : VK), Inv X pins σ H s → t σ H Q → wpAny (model X.prog X.w) X.A (eval e X.env) (EP X pins σ Q) X.xe s
def PT (X : Cx) (e : Expr) (t : TT) : Prop :=
  ∀ (pins : List (Addr × Obj)) (s : Shared) (σ : St) (H : Hp) (Q : Bool → Hp → Prop), Inv X pins σ H s → t σ H Q → wpAny (model X.prog X.w) X.A (isTrue e X.env (eval e X.env)) (TP X pins σ Q) X.xe s
/-- a test whatever its 'whole' is (and, or) -/
def PW (X : Cx) (e : Expr) (t : TT) : Prop :=
  ∀ (whole : Sem Value) (pins : List (Addr × Obj)) (s : Shared) (σ : St) (H : Hp) (Q : Bool → Hp → Prop), Inv X pins σ H s → t σ H Q → wpAny (model X.prog X.w) X.A (isTrue e X.env whole) (TP X pins σ Q) X.xe s
theorem PW.pt {X : Cx} {e : Expr} {t : TT} (h : PW X e t) : PT X e t := h _
/-- an argument list (no star), from the left -/
def PA (X : Cx) (es : List Expr) (t : TA) : Prop :=
  ∀ (pos : Pos) (pins : List (Addr × Obj)) (s : Shared) (σ : St) (H : Hp) (Q : List V → Hp → Prop), Inv X pins σ H s → t σ H Q → wpAny (model X.prog X.w) X.A (spliced (backTo pos (starEach es X.env))) (AP X pins σ Q) X.xe s
def PS (X : Cx) (st : Stmt) (t : TS) : Prop :=
  ∀ (pins : List (Addr × Obj)) (s : Shared) (σ : St) (H : Hp) (D : Ends), Inv X pins σ H s → t D σ H → wpAny (model X.prog X.w) X.A (exec st X.env) (SP X pins D) X.xe s
def PSs (X : Cx) (st : List Stmt) (t : TS) : Prop :=
  ∀ (pins : List (Addr × Obj)) (s : Shared) (σ : St) (H : Hp) (D : Ends), Inv X pins σ H s → t D σ H → wpAny (model X.prog X.w) X.A (execs st X.env) (SP X pins D) X.xe s
/-- weaken the end -/
theorem thn {α : Type} {t : Sem α} {Q Q' : α → Shared → Prop} {M : Model} {A : Around} {E : Value → Shared → Prop} {s : Shared} (h : wpAny M A t Q E s) (hQ : ∀ a s, Q a s → Q' a s) : wpAny M A t Q' E s := wpAny_mono h hQ fun _ _ x => x
end L2

namespace L2
open PySem PySem.Spec PyProof.Rows
section
variable {X : Cx}

/-! ### names and constants -/
def tVar (i : Nat) : TE := fun σ H Q => XVar σ i H Q
def tC (v : V) : TE := fun _ H Q => Q v H
theorem pe_var {i : Nat} {x : Str} {pos : Pos} (hN : X.N[i]? = some x) (hv : Vis X.env.scope x) (hd : (x == ("__debug__" : Str)) = false := by decide) (hcd : (x == ("__classdict__" : Str)) = false := by decide) : PE X (.Name x pos) (tVar i) := by
  intro pins s σ H Q I h
  obtain ⟨v, e, h⟩ := h
  obtain ⟨m, hn, hl⟩ := I.loc
  obtain ⟨u, r, l⟩ := hl i x v hN e hv
  have fin : EP X pins σ Q u s := ⟨v, H, I, r, h⟩
  rcases l with ⟨hk, hm⟩ | ⟨hk, c, hc, hcell⟩
  · exact wpAny_Name (wpAny_loadName_local I.ok.kind hk hn hm fin) hd
  · rcases hk with hk | hk
    · exact wpAny_Name (wpAny_loadName_cell I.ok.kind hk hc hcell fin) hd
    · exact wpAny_Name (wpAny_loadName_free I.ok.kind hk hc hcell fin hcd) hd
theorem pe_int {i j pos} : PE X (.Constant (.int i) j pos) (tC (.int i)) := fun _ _ _ H _ I h => wpAny_Constant_int ⟨.int i, H, I.tok _, ⟨_, rfl⟩, h⟩
theorem pe_bl {b j pos} : PE X (.Constant (.bool b) j pos) (tC (.bl b)) := fun _ _ _ H _ I h => Constant_bool ⟨.bl b, H, I, rfl, h⟩
theorem pe_non {j pos} : PE X (.Constant .none j pos) (tC .non) := fun _ _ _ H _ I h => Constant_none ⟨.non, H, I, rfl, h⟩
theorem pe_str {x j pos} : PE X (.Constant (.str x) j pos) (tC (.str x)) := fun _ _ _ H _ I h => Calls.Constant_str ⟨.str x, H, I.tok _, ⟨_, rfl⟩, h⟩

/-- a global name of the def -/
def Gl (X : Cx) (x : Str) : Prop := X.env.kindOf x = some .globalImplicit
theorem ld_glob {E : Value → Shared → Prop} {pins : List (Addr × Obj)} {s : Shared} {σ : St} {H : Hp} {x : Str} {u : Value} {pos : Pos} {Q : Value → Shared → Prop} (I : Inv X pins σ H s) (hg : Gl X x) (hm : X.mg x = some u) (h : Q u s)
    (hd : (x == ("__debug__" : Str)) = false := by decide) : wpAny (model X.prog X.w) X.A (eval (.Name x pos) X.env) Q E s :=
  Calls.Name_function_global I.ok.kind hg (Calls.loadGlobal_global (by rw [I.ok.glob]; exact I.mod.glob.keeps I.bk) hm h) hd
theorem ld_blt {E : Value → Shared → Prop} {pins : List (Addr × Obj)} {s : Shared} {σ : St} {H : Hp} {x : Str} {u : Value} {pos : Pos} {Q : Value → Shared → Prop} (I : Inv X pins σ H s) (hg : Gl X x) (hm : X.mg x = none) (hv : bootBuiltins x = some u) (h : Q u s)
    (hn : x ≠ "__name__" := by decide) (hd : (x == ("__debug__" : Str)) = false := by decide) : wpAny (model X.prog X.w) X.A (eval (.Name x pos) X.env) Q E s := by
  obtain ⟨mb, h1, h2⟩ := I.mod.blt
  exact Calls.Name_function_global I.ok.kind hg (Calls.loadGlobal_builtin (by rw [I.ok.glob]; exact I.mod.glob.keeps I.bk) hm (by rw [I.ok.blt]; exact h1.keeps I.bk) ((h2 x hn).trans hv) h) hd
/-- a module's constant, a class, a function, as a value -/
theorem pe_glob {x : Str} {v : V} {u : Value} {pos : Pos} (hg : Gl X x) (hm : X.mg x = some u) (r : RelV v u) (hd : (x == ("__debug__" : Str)) = false := by decide) : PE X (.Name x pos) (tC v) :=
  fun _ _ _ H _ I h => ld_glob I hg hm ⟨v, H, I, r, h⟩ hd
theorem pe_bltn {x : Str} {v : V} {u : Value} {pos : Pos} (hg : Gl X x) (hm : X.mg x = none) (hv : bootBuiltins x = some u) (r : RelV v u) (hn : x ≠ "__name__" := by decide) (hd : (x == ("__debug__" : Str)) = false := by decide) : PE X (.Name x pos) (tC v) :=
  fun _ _ _ H _ I h => ld_blt I hg hm hv ⟨v, H, I, r, h⟩ hn hd

/-! ### arithmetic -/
variable {a b : Expr} {ta tb : TE} {pos : Pos}
/-! ### comparisons -/
/-- a comparison as a value, as a test -/
def tB (t : TE) : TT := fun σ H Q => t σ H fun x H1 => XB x fun c => Q c H1
/-- an expression whose value is a bool, as a test -/
theorem pt_val {e : Expr} {t : TE} (h : PE X e t) (he : ∀ whole, isTrue e X.env whole = (do let v ← whole; standAt e.pos; holding [v] (truthy v)) := by intro _; rfl) : PT X e (tB t) := by
  intro pins s σ H Q I hw
  refine isTrue_plain (thn (h pins s σ H _ I hw) fun v s1 ⟨x, H1, I1, r1, q1⟩ => ?_) (he _)
  obtain ⟨d, rfl, q⟩ := q1
  cases r1
  exact wpAny_truthy_bool ⟨H1, I1, q⟩

/-! ### and, or, not -/
variable {tA tB' : TT} {rest : List Expr}
def tAnd (t u : TT) : TT := fun σ H Q => t σ H fun c H1 => if c = true then u σ H1 Q else Q false H1
def tOr (t u : TT) : TT := fun σ H Q => t σ H fun c H1 => if c = true then Q true H1 else u σ H1 Q
def tNot (t : TT) : TT := fun σ H Q => t σ H fun c H1 => Q (!c) H1
theorem pw_and1 (ha : PT X a tA) : PW X (.BoolOp .And [a] pos) tA := by
  intro wh pins s σ H Q I h
  refine isTrue_and (thn (ha pins s σ H Q I h) fun c s1 e => ?_)
  cases c with
  | true => exact isTrue_and_nil e
  | false => exact e
theorem pw_or1 (ha : PT X a tA) : PW X (.BoolOp .Or [a] pos) tA := by
  intro wh pins s σ H Q I h
  refine isTrue_or (thn (ha pins s σ H Q I h) fun c s1 e => ?_)
  cases c with
  | false => exact isTrue_or_nil e
  | true => exact e
theorem pw_and (ha : PT X a tA) (hb : PW X (.BoolOp .And (b :: rest) pos) tB') : PW X (.BoolOp .And (a :: b :: rest) pos) (tAnd tA tB') := by
  intro wh pins s σ H Q I h
  refine isTrue_and (thn (ha pins s σ H _ I h) fun c s1 ⟨H1, I1, q1⟩ => ?_)
  cases c with
  | true => exact hb wh pins s1 σ H1 Q I1 q1
  | false => exact ⟨H1, I1, q1⟩
theorem pw_or (ha : PT X a tA) (hb : PW X (.BoolOp .Or (b :: rest) pos) tB') : PW X (.BoolOp .Or (a :: b :: rest) pos) (tOr tA tB') := by
  intro wh pins s σ H Q I h
  refine isTrue_or (thn (ha pins s σ H _ I h) fun c s1 ⟨H1, I1, q1⟩ => ?_)
  cases c with
  | true => exact ⟨H1, I1, q1⟩
  | false => exact hb wh pins s1 σ H1 Q I1 q1
theorem pt_not (ha : PT X a tA) : PT X (.UnaryOp .Not a pos) (tNot tA) := by
  intro pins s σ H Q I h
  exact isTrue_not (ha pins s σ H (fun c H1 => Q (!c) H1) I h)
/-- .. as values (bools) -/
def tAndV (ta tb : TE) : TE := fun σ H Q => ta σ H fun x H1 => XB x fun c => if c = true then tb σ H1 Q else Q (.bl false) H1
def tOrV (ta tb : TE) : TE := fun σ H Q => ta σ H fun x H1 => XB x fun c => if c = true then Q (.bl true) H1 else tb σ H1 Q
def tNotV (ta : TE) : TE := fun σ H Q => ta σ H fun x H1 => XB x fun c => Q (.bl (!c)) H1
theorem pe_one {op} {t : TE} (h : PE X a t) : PE X (.BoolOp op [a] pos) t := fun pins s σ H Q I hw => BoolOp_one (h pins s σ H Q I hw)
theorem pe_and (ha : PE X a ta) (hb : PE X (.BoolOp .And (b :: rest) pos) tb) : PE X (.BoolOp .And (a :: b :: rest) pos) (tAndV ta tb) := by
  intro pins s σ H Q I h
  refine BoolOp_and (thn (ha pins s σ H _ I h) fun v s1 ⟨x, H1, I1, r1, q1⟩ => ?_)
  obtain ⟨c, rfl, q1⟩ := q1
  cases r1
  refine wpAny_truthy_bool ?_
  cases c with
  | true => exact hb pins s1 σ H1 Q I1 q1
  | false => exact ⟨.bl false, H1, I1, rfl, q1⟩
theorem pe_or (ha : PE X a ta) (hb : PE X (.BoolOp .Or (b :: rest) pos) tb) : PE X (.BoolOp .Or (a :: b :: rest) pos) (tOrV ta tb) := by
  intro pins s σ H Q I h
  refine BoolOp_or (thn (ha pins s σ H _ I h) fun v s1 ⟨x, H1, I1, r1, q1⟩ => ?_)
  obtain ⟨c, rfl, q1⟩ := q1
  cases r1
  refine wpAny_truthy_bool ?_
  cases c with
  | false => exact hb pins s1 σ H1 Q I1 q1
  | true => exact ⟨.bl true, H1, I1, rfl, q1⟩
theorem pe_not (ha : PE X a ta) : PE X (.UnaryOp .Not a pos) (tNotV ta) := by
  intro pins s σ H Q I h
  refine UnaryOp_ (thn (ha pins s σ H _ I h) fun v s1 ⟨x, H1, I1, r1, q1⟩ => ?_)
  obtain ⟨c, rfl, q1⟩ := q1
  cases r1
  exact not_of (wpAny_truthy_bool ⟨.bl (!c), H1, I1, rfl, q1⟩)
/-- a if t else b -/
def tIf (t : TT) (ta tb : TE) : TE := fun σ H Q => t σ H fun c H1 => if c = true then ta σ H1 Q else tb σ H1 Q
theorem pe_ifExp {c : Expr} (hc : PT X c tA) (ha : PE X a ta) (hb : PE X b tb) : PE X (.IfExp c a b pos) (tIf tA ta tb) := by
  intro pins s σ H Q I h
  refine wpAny_IfExp (thn (hc pins s σ H _ I h) fun d s1 ⟨H1, I1, q1⟩ => ?_)
  cases d with
  | true => exact ha pins s1 σ H1 Q I1 q1
  | false => exact hb pins s1 σ H1 Q I1 q1
end
end L2

namespace L2
open PySem PySem.Spec PyProof.Rows

/-! ### a list, a tuple that is read: tracked, frozen, or an object of the module -/
def SqL (K : PySem.W.Frag) (H : Hp) (a : Addr) (xs : List V) : Prop :=
  Rd H a (.lst xs) ∨
    ∃ (o : Obj) (its : Array Value) (n : Nat), K.lookup a = some o ∧ o.cls = .type "list" ∧ o.dict = none ∧ o.data = .seq its n ∧ its.size ≤ sizeLine ∧ Vals xs its.toList
def SqT (K : PySem.W.Frag) (H : Hp) (a : Addr) (xs : List V) : Prop :=
  Rd H a (.tup xs) ∨
    ∃ (o : Obj) (its : Array Value) (n : Nat), K.lookup a = some o ∧ o.cls = .type "tuple" ∧ o.data = .seq its n ∧ its.size ≤ sizeLine ∧ Vals xs its.toList
def absV : Value → Option V
  | .none => some .non
  | .bool b => some (.bl b)
  | .int i _ => some (.int i)
  | .str x _ => some (.str x)
  | .bytes b _ => some (.byt b)
  | .float b _ => some (.flt b)
  | .ref a => some (.ref a)
  | .type n => some (.ty n)
  | _ => none
theorem RelV.abs {x : V} {u : Value} (r : RelV x u) : absV u = some x := by
  cases x with
  | non => cases r; rfl
  | bl _ => cases r; rfl
  | int _ => obtain ⟨t, rfl⟩ := r; rfl
  | str _ => obtain ⟨t, rfl⟩ := r; rfl
  | byt _ => obtain ⟨t, rfl⟩ := r; rfl
  | flt _ => obtain ⟨t, rfl⟩ := r; rfl
  | ref _ => cases r; rfl
  | ty _ => cases r; rfl
theorem RelV.inj {x y : V} {u : Value} (r : RelV x u) (q : RelV y u) : x = y := Option.some.inj (r.abs.symm.trans q.abs)
theorem Vals.inj : ∀ {xs ys : List V} {us : List Value}, Vals xs us → Vals ys us → xs = ys
  | _, _, _, .nil, .nil => rfl
  | _, _, _, .cons r t, .cons r' t' => by rw [r.inj r', Vals.inj t t']
section
variable {X : Cx} {pins : List (Addr × Obj)} {σ : St} {H : Hp} {s : Shared} {a : Addr} {xs ys : List V}
theorem SqL.of {K : PySem.W.Frag} (h : H a = some (.lst xs)) : SqL K H a xs := .inl (.inl h)
theorem SqT.of {K : PySem.W.Frag} (h : H a = some (.tup xs)) : SqT K H a xs := .inl (.inl h)
theorem Inv.list (I : Inv X pins σ H s) (h : SqL X.K H a xs) : ∃ its : List Value, Vals xs its ∧ PlainL s.heap a its.toArray ∧ xs.length ≤ sizeLine := by
  rcases h with h | ⟨o, its, n, hk, hc, hd, hs, hz, r⟩
  · obtain ⟨z, its, n, r, e⟩ := h.ok I.hok
    exact ⟨its, r, ⟨_, n, e, rfl, rfl, rfl⟩, z⟩
  · refine ⟨its.toList, r, ⟨o, n, I.kIn a o hk, hc, hd, by simpa using hs⟩, ?_⟩
    have e := r.length
    simp only [Array.length_toList] at e
    omega
theorem Inv.tuple (I : Inv X pins σ H s) (h : SqT X.K H a xs) : ∃ its : List Value, Vals xs its ∧ IsTup s.heap a its.toArray ∧ xs.length ≤ sizeLine := by
  rcases h with h | ⟨o, its, n, hk, hc, hs, hz, r⟩
  · obtain ⟨z, its, r, p⟩ := h.ok I.hok
    exact ⟨its, r, p, z⟩
  · refine ⟨its.toList, r, ⟨o, I.kIn a o hk, hc, n, by simpa using hs⟩, ?_⟩
    have e := r.length
    simp only [Array.length_toList] at e
    omega
theorem Inv.list_inj (I : Inv X pins σ H s) (h : SqL X.K H a xs) (h' : SqL X.K H a ys) : xs = ys := by
  obtain ⟨its, r, ⟨o, n, e, _, _, d⟩, _⟩ := I.list h
  obtain ⟨its', r', ⟨o', n', e', _, _, d'⟩, _⟩ := I.list h'
  rw [e] at e'; cases e'
  rw [d] at d'
  injection d' with d1 _
  have : its = its' := by simpa using congrArg Array.toList d1
  subst this
  exact r.inj r'
end

/-! ### another wish about exceptions -/
abbrev Cx.wish (X : Cx) (E : Value → Shared → Prop) : Cx := { X with xe := E }
/-- no exception leaves -/
abbrev Cx.nox (X : Cx) : Cx := X.wish fun _ _ => False
theorem Cx.Ok.wish {X : Cx} (ok : X.Ok) (E : Value → Shared → Prop) : (X.wish E).Ok :=
  ⟨ok.mod, ok.kind, ok.glob, ok.blt, ok.above, ok.inj, ok.has, ok.cab, ok.hd, ok.frames, ok.stk, ok.exf, ok.bs, ok.bsz, ok.noex, ok.exfs, ok.funs, ok.frf, ok.hdl⟩
theorem Cx.Ok.unwish {X : Cx} {E : Value → Shared → Prop} (ok : (X.wish E).Ok) : X.Ok :=
  ⟨ok.mod, ok.kind, ok.glob, ok.blt, ok.above, ok.inj, ok.has, ok.cab, ok.hd, ok.frames, ok.stk, ok.exf, ok.bs, ok.bsz, ok.noex, ok.exfs, ok.funs, ok.frf, ok.hdl⟩
section
variable {X : Cx} {pins : List (Addr × Obj)} {σ : St} {H : Hp} {s : Shared} {E : Value → Shared → Prop}
theorem Inv.wish (I : Inv X pins σ H s) (E : Value → Shared → Prop) : Inv (X.wish E) pins σ H s := ⟨I.ok.wish E, I.os, I.bare, I.base, I.loc, I.cell, I.free, I.freeC, I.pin, I.hok, I.len⟩
theorem Inv.unwish (I : Inv (X.wish E) pins σ H s) : Inv X pins σ H s := ⟨I.ok.unwish, I.os, I.bare, I.base, I.loc, I.cell, I.free, I.freeC, I.pin, I.hok, I.len⟩
theorem SP.unwish {D : Ends} {f : Flow} {s' : Shared} (h : SP (X.wish E) pins D f s') : SP X pins D f s' := by
  cases f with
  | next => obtain ⟨σ', H', I, q⟩ := h; exact ⟨σ', H', I.unwish, q⟩
  | brk => obtain ⟨σ', H', I, q⟩ := h; exact ⟨σ', H', I.unwish, q⟩
  | cont => obtain ⟨σ', H', I, q⟩ := h; exact ⟨σ', H', I.unwish, q⟩
  | ret u => obtain ⟨v, σ', H', I, r, q⟩ := h; exact ⟨v, σ', H', I.unwish, r, q⟩
theorem PSs.nox {st : List Stmt} {t : TS} (h : PSs X.nox st t) : PSs X st t := fun pins s σ H D I hw =>
  wpAny_mono (h pins s σ H D (I.wish _) hw) (fun _ _ q => q.unwish) fun _ _ z => False.elim z
end

/-! ### blocks and small statements -/
section
variable {X : Cx} {st : Stmt} {rest : List Stmt} {t u : TS} {e : Expr} {te : TE} {pos : Pos}
def tNext : TS := fun D σ H => D.nx σ H
def tSeq (t u : TS) : TS := fun D σ H => t { D with nx := u D } σ H
theorem pss_nil : PSs X [] tNext := fun _ _ σ H _ I h => wpAny_execs_nil ⟨σ, H, I, h⟩
theorem pss_cons (h1 : PS X st t) (h2 : PSs X rest u) : PSs X (st :: rest) (tSeq t u) := by
  intro pins s σ H D I h
  refine wpAny_execs_cons (thn (h1 pins s σ H { D with nx := u D } I h) fun f s1 q => ?_)
  cases f with
  | next =>
    obtain ⟨σ', H', I', q⟩ := q
    exact h2 pins s1 σ' H' D I' q
  | ret v => exact q
  | brk => exact q
  | cont => exact q
theorem pss_one (h1 : PS X st t) : PSs X [st] t := by
  intro pins s σ H D I h
  refine wpAny_execs_cons (thn (h1 pins s σ H D I h) fun f s1 q => ?_)
  cases f with
  | next => exact wpAny_execs_nil q
  | ret v => exact q
  | brk => exact q
  | cont => exact q
/-- in a def's body nothing is shown -/
theorem Inv.quiet {pins : List (Addr × Obj)} {σ : St} {H : Hp} {s : Shared} (I : Inv X pins σ H s) : interactive X.env = false := by simp [interactive, I.ok.kind]
/-- an expression whose value is dropped -/
def tDrop (te : TE) : TS := fun D σ H => te σ H fun _ H1 => D.nx σ H1
theorem ps_expr (he : PE X e te) (hs : swapsWith e none pos.line X.env = pure false := by rfl) : PS X (.Expr e pos) (tDrop te) := by
  intro pins s σ H D I h
  exact wpAny_Expr_any (thn (he pins s σ H _ I h) fun v s1 ⟨x, H1, I1, r1, q1⟩ => ⟨σ, H1, I1, q1⟩) I.quiet hs
def tRet (te : TE) : TS := fun D σ H => te σ H D.rt
theorem ps_ret (he : PE X e te) : PS X (.Return (some e) pos) (tRet te) := by
  intro pins s σ H D I h
  exact wpAny_Return_some (thn (he pins s σ H _ I h) fun v s1 ⟨x, H1, I1, r1, q1⟩ => ⟨x, σ, H1, I1, r1, q1⟩)
def tIfS (c : TT) (t u : TS) : TS := fun D σ H => c σ H fun b H1 => if b = true then t D σ H1 else u D σ H1
theorem ps_if {c : Expr} {a b : List Stmt} {tc : TT} (hc : PT X c tc) (ha : PSs X a t) (hb : PSs X b u) : PS X (.If c a b pos) (tIfS tc t u) := by
  intro pins s σ H D I h
  refine wpAny_If (thn (hc pins s σ H _ I h) fun d s1 ⟨H1, I1, q1⟩ => ?_)
  cases d with
  | true => exact ha pins s1 σ H1 D I1 q1
  | false => exact hb pins s1 σ H1 D I1 q1
/-- code that the proof never comes to -/
def tNever : TS := fun _ _ _ => False
theorem pss_never {sts : List Stmt} : PSs X sts tNever := fun _ _ _ _ _ _ h => h.elim
end

/-! ### targets -/
abbrev TG := V → St → Hp → (St → Hp → Prop) → Prop
abbrev TGs := List V → St → Hp → (St → Hp → Prop) → Prop
def PG (X : Cx) (target : Expr) (t : TG) : Prop :=
  ∀ (pins : List (Addr × Obj)) (s : Shared) (σ : St) (H : Hp) (v : V) (u : Value) (Q : St → Hp → Prop), Inv X pins σ H s → RelV v u → t v σ H Q →
    wpAny (model X.prog X.w) X.A (assign target X.env u) (fun _ s' => ∃ σ' H', Inv X pins σ' H' s' ∧ Q σ' H') X.xe s
/-- several targets, one after another -/
def PGs (X : Cx) (ts : List Expr) (t : TGs) : Prop :=
  ∀ (pins : List (Addr × Obj)) (s : Shared) (σ : St) (H : Hp) (vs : List V) (us : List Value) (Q : St → Hp → Prop), Inv X pins σ H s → Vals vs us → t vs σ H Q →
    wpAny (model X.prog X.w) X.A (assignInOrder ((assignEach ts X.env).map (·.2)) us) (fun _ s' => ∃ σ' H', Inv X pins σ' H' s' ∧ Q σ' H') X.xe s
section
variable {X : Cx} {pos : Pos}
def gName (i : Nat) : TG := fun v σ H Q => Q (σ.set i (some v)) H
theorem pg_name {i : Nat} {x : Str} (hN : X.N.Nodup) (hi : X.N[i]? = some x) (hx : Loc X.env.scope x) (hf : X.fn x = true ∨ X.env.scope.names.lookup x = some .local := by first | exact .inl rfl | exact .inr rfl | assumption) : PG X (.Name x pos) (gName i) := by
  intro pins s σ H v u Q I r h
  exact wpAny_assign_Name (store_ok I hN hi hx r (fun s' I' => ⟨_, H, I', h⟩) hf)
def gNil : TGs := fun vs σ H Q => vs = [] ∧ Q σ H
def gCons (t : TG) (u : TGs) : TGs := fun vs σ H Q => ∃ v r, vs = v :: r ∧ t v σ H fun σ' H' => u r σ' H' Q
theorem pgs_nil : PGs X [] gNil := by
  intro pins s σ H vs us Q I r h
  obtain ⟨e, h⟩ := h
  subst e
  cases r
  exact assignInOrder_nil ⟨σ, H, I, h⟩
theorem pgs_cons {e : Expr} {es : List Expr} {t : TG} {u : TGs} (h1 : PG X e t) (h2 : PGs X es u)
    (hs : (assignEach (e :: es) X.env).map (·.2) = assign e X.env :: (assignEach es X.env).map (·.2) := by rfl) : PGs X (e :: es) (gCons t u) := by
  intro pins s σ H vs us Q I r h
  obtain ⟨v, vr, e1, h⟩ := h
  subst e1
  cases r with
  | cons r rr =>
    rw [hs]
    refine assignInOrder_cons (thn (h1 pins s σ H _ _ _ I r h) fun _ s1 ⟨σ1, H1, I1, q1⟩ => ?_)
    exact h2 pins s1 σ1 H1 _ _ Q I1 rr q1
/-- (a, b, ..) = a tuple of that length -/
def gTup (K : PySem.W.Frag) (n : Nat) (t : TGs) : TG := fun v σ H Q => ∃ a xs, v = .ref a ∧ SqT K H a xs ∧ xs.length = n ∧ t xs σ H Q
theorem pg_tup {es : List Expr} {k : Nat} {t : TGs} {n : Nat} (hc : X.calm = true) (h : PGs X es t)
    (hn : (assignEach es X.env).length = n := by rfl) (hst : (assignEach es X.env).findIdx? (·.1) = none := by rfl) : PG X (.Tuple es k pos) (gTup X.K n t) := by
  intro pins s σ H v u Q I r hw
  obtain ⟨a, xs, e1, hq, hl, hw⟩ := hw
  subst e1
  cases r
  obtain ⟨its, rv, ht, hz⟩ := I.tuple hq
  refine assign_Tuple_tuple (I.ok.hd hc) ht (by simp [hn, ← hl, rv.length]) hst fun h' hx => ?_
  have I1 : Inv X pins σ H { s with heap := h' } := I.kept (t' := s.toks) fun b o e => hx b o (Nat.ne_of_lt (Heap.lt_size e)) e
  exact h pins _ σ H xs _ Q I1 (by simpa using rv) hw
/-- target = value -/
def tAsg (te : TE) (g : TG) : TS := fun D σ H => te σ H fun x H1 => g x σ H1 D.nx
/-- name = value -/
theorem ps_set {i : Nat} {x : Str} {e : Expr} {te : TE} {pos' : Pos} (hN : X.N.Nodup) (hi : X.N[i]? = some x) (hx : Loc X.env.scope x) (he : PE X e te) (hs : swapsWith e (some (.Name x pos')) pos.line X.env = pure false := by rfl) (hf : X.fn x = true ∨ X.env.scope.names.lookup x = some .local := by first | exact .inl rfl | exact .inr rfl | assumption) :
    PS X (.Assign [.Name x pos'] e pos) (tAsg te (gName i)) := by
  intro pins s σ H D I h
  refine wpAny_Assign_Name (thn (he pins s σ H _ I h) fun v s1 ⟨y, H1, I1, r1, q1⟩ => ?_) hs
  exact store_ok I1 hN hi hx r1 (fun s2 I2 => ⟨_, H1, I2, q1⟩) hf
end

/-! ### while -/
section
variable {X : Cx} {pos : Pos}
end

/-! ### what a loop or a comprehension walks -/
/-- at turn i: it yields x (the heap may grow), or it stops -/
structure It where
  go : Nat → Hp → Prop
  yld : Nat → Hp → V → Hp → Prop
  stop : Nat → Hp → Prop
/-- the iterator's own objects may turn: they are not the frame's, not pinned, younger than the entry (or a comprehension's own) -/
def FpOk (X : Cx) (pins : List (Addr × Obj)) (H : Hp) (b : Addr) : Prop :=
  H b = none ∧ b ≠ X.env.locals ∧ b ∉ X.fs ∧ (b ∈ X.ex ∨ X.s₀.heap.get? b = none) ∧ (∀ x c, X.env.cells.lookup x = some c → c ≠ b) ∧ ∀ p ∈ X.pn ++ pins, p.1 ≠ b
theorem Inv.fpOk {X : Cx} {pins : List (Addr × Obj)} {σ : St} {H H' : Hp} {s : Shared} {b : Addr} (I : Inv X pins σ H s) (hb : s.heap.objs.size ≤ b) (hn : H' b = none) : FpOk X pins H' b := by
  refine ⟨hn, Nat.ne_of_gt (Nat.lt_of_lt_of_le I.lt hb), I.nofs hb, .inr (Heap.get?_none_of_le (Nat.le_trans I.sz hb)), fun x c e z => ?_, fun p hp z => ?_⟩
  · obtain ⟨v, q⟩ := I.cell x c e
    exact absurd (Nat.lt_of_lt_of_le q.lt (by rw [z]; exact hb)) (Nat.lt_irrefl _)
  · exact absurd (Nat.lt_of_lt_of_le (Heap.lt_size (I.pin p hp).1) (by rw [z]; exact hb)) (Nat.lt_irrefl _)
/-- .. of an address where nothing stood -/
theorem Inv.fpNew {X : Cx} {pins : List (Addr × Obj)} {σ : St} {H H' : Hp} {s : Shared} {b : Addr} (I : Inv X pins σ H s) (hb : s.heap.get? b = none) (hn : H' b = none) : FpOk X pins H' b := by
  refine ⟨hn, fun z => ?_, fun z => ?_, ?_, fun x c e z => ?_, fun p hp z => ?_⟩
  · obtain ⟨m, ⟨o, _, _, ho, _⟩, _⟩ := I.loc
    rw [← z, hb] at ho; cases ho
  · obtain ⟨_, o, ho, _⟩ := I.funs.mem z
    rw [hb] at ho; cases ho
  · by_cases hx : b ∈ X.ex
    · exact .inl hx
    · refine .inr ?_
      cases q : X.s₀.heap.get? b with
      | none => rfl
      | some o =>
        obtain ⟨o', ho⟩ := I.base.there b o q hx
        rw [hb] at ho; cases ho
  · obtain ⟨v, o, ho, _⟩ := I.cell x c e
    rw [z, hb] at ho; cases ho
  · have := (I.pin p hp).1
    rw [z, hb] at this; cases this
structure Turn (P : Program) (w : World) (K : PySem.W.Frag) (tg : Expr) (J : It) (fp : List Addr) (it : Addr) (tn : Nat → Heap → Prop) : Prop where
  mem : it ∈ fp
  obj : ∀ i h, tn i h → ∀ b ∈ fp, ∃ o, h.get? b = some o ∧ ∀ v, o.data ≠ .cell v
  keep : ∀ i h h', tn i h → (∀ b ∈ fp, ∀ o, h.get? b = some o → h'.get? b = some o) → tn i h'
  item : ∀ (X : Cx), X.prog = P → X.w = w → X.K = K → (0 : Nat) = 0 → ∀ (i : Nat) (pins : List (Addr × Obj)) (s : Shared) (σ : St) (H : Hp) (E : Value → Shared → Prop), Inv X pins σ H s → (∀ b ∈ fp, FpOk X pins H b) → tn i s.heap → J.go i H →
    wpAny (model P w) X.A (pyNext (.ref it)) (fun r s1 => ∃ u, r = some u ∧
      wpAny (model P w) X.A (letOwnedTupleGo tg (.ref it) u) (fun _ s2 => ∃ x H', Inv X pins σ H' s2 ∧ RelV x u ∧ J.yld i H x H' ∧ tn (i + 1) s2.heap ∧ ∀ b ∈ fp, H' b = none) E s1) E s
  done : ∀ (X : Cx), X.prog = P → X.w = w → X.K = K → (0 : Nat) = 0 → ∀ (i : Nat) (pins : List (Addr × Obj)) (s : Shared) (σ : St) (H : Hp) (E : Value → Shared → Prop), Inv X pins σ H s → (∀ b ∈ fp, FpOk X pins H b) → tn i s.heap → J.stop i H →
    wpAny (model P w) X.A (pyNext (.ref it)) (fun r s1 => r = none ∧ Inv X pins σ H s1) E s
  self : ∀ (A : Around) (i : Nat) (s : Shared) (Q : Value → Shared → Prop) (E : Value → Shared → Prop), tn i s.heap → Q (.ref it) s → wpAny (model P w) A (pyIter (.ref it)) Q E s
abbrev TI := St → Hp → (It → Hp → Prop) → Prop
/-- an iterator has come -/
def PIE (X : Cx) (pins : List (Addr × Obj)) (σ : St) (tg : Expr) (R : It → Hp → Prop) (itv : Value) (s2 : Shared) : Prop :=
  ∃ (it : Addr) (fp : List Addr) (tn : Nat → Heap → Prop) (J : It) (H' : Hp), itv = .ref it ∧ Inv X pins σ H' s2 ∧ Turn X.prog X.w X.K tg J fp it tn ∧ tn 0 s2.heap ∧ (∀ b ∈ fp, FpOk X pins H' b) ∧ R J H'
def PI (X : Cx) (tg iter : Expr) (wi : TI) : Prop :=
  ∀ (pins : List (Addr × Obj)) (s : Shared) (σ : St) (H : Hp) (R : It → Hp → Prop), Inv X pins σ H s → wi σ H R →
    wpAny (model X.prog X.w) X.A (eval iter X.env) (fun v s1 => wpAny (model X.prog X.w) X.A (pyIter v) (PIE X pins σ tg R) X.xe s1) X.xe s

/-- the step ahead of the store is nothing for an iterator that keeps no tuple -/
theorem go_of {M : Model} {A : Around} {E : Value → Shared → Prop} {s : Shared} {tg : Expr} {it : Addr} {u : Value} {o : Obj} {n : String} {vs : Array Value} {Q : Unit → Shared → Prop} (ho : s.heap.get? it = some o) (hc : o.cls = .type n) (hd : o.data = .fields vs)
    (hn : ["enumerate", "zip", "dict_itemiterator", "dict_reverseitemiterator", "odict_iterator", "itertools.zip_longest", "itertools.pairwise"].contains n = false) (hQ : Q () s) : wpAny M A (letOwnedTupleGo tg (.ref it) u) Q E s := by
  unfold letOwnedTupleGo
  cases tg <;> first
    | exact wpAny_pure hQ
    | (cases u <;> first
        | exact wpAny_pure hQ
        | (refine wpAny_bind (wpAny_load ho ?_)
           rw [hc, hd]
           show wpAny M A (if (["enumerate", "zip", "dict_itemiterator", "dict_reverseitemiterator", "odict_iterator", "itertools.zip_longest", "itertools.pairwise"].contains n && vs[0]? == some (rawInt _)) = true then _ else _) Q E s
           rw [if_neg (by intro h; rw [hn, Bool.false_and] at h; cases h)]
           exact wpAny_pure hQ))

/-- the list at a, as it stands at each turn (a loop may append to it) -/
def Itl (K : PySem.W.Frag) (a : Addr) : It :=
  ⟨fun i H => ∃ xs x, SqL K H a xs ∧ xs[i]? = some x, fun i H x H' => H' = H ∧ ∀ xs, SqL K H a xs → xs[i]? = some x, fun i H => ∃ xs, SqL K H a xs ∧ xs.length ≤ i⟩
/-- lo, lo + 1, .. (n of them) -/
def Itr (lo : Int) (n : Nat) : It := ⟨fun i _ => i < n, fun i H x H' => H' = H ∧ x = .int (lo + i), fun i _ => n ≤ i⟩
theorem turn_list {P : Program} {w : World} {K : PySem.W.Frag} {tg : Expr} (a it : Addr) : Turn P w K tg (Itl K a) [it] it (fun i h => h.IsListIter it a i) where
  mem := by simp
  obj := fun i h st b hb => by
    have e : b = it := by simpa using hb
    subst e
    obtain ⟨o, e, c, d⟩ := st
    exact ⟨o, e, fun v z => by rw [d] at z; cases z⟩
  keep := fun i h h' st k => st.at fun o e => k it (by simp) o e
  item := by
    intro X hP hw hK hc i pins s σ H E I hf st hg
    subst hP hw hK
    obtain ⟨xs, x, hq, hx⟩ := hg
    obtain ⟨its, rv, p, hz⟩ := I.list hq
    obtain ⟨u, hu, ru⟩ := rv.get hx
    obtain ⟨f0, f1, f2, f3, f4, f5⟩ := hf it (by simp)
    refine wpAny_pyNext_list_item st p.isList (x := u) (by simpa using hu) fun h' st' sb => ?_
    have I1 : Inv X pins σ H { s with heap := h' } := I.turned (t' := s.toks) (fun b o hb e => (sb.2 b hb).trans e) f0 f1 f3 f4 f5
    obtain ⟨o, e, c, d⟩ := id st'
    exact ⟨u, rfl, go_of (s := { s with heap := h' }) e c d (by decide) ⟨x, H, I1, ru, ⟨rfl, fun ys hy => by rw [I.list_inj hy hq]; exact hx⟩, st', fun b hb => (hf b hb).1⟩⟩
  done := by
    intro X hP hw hK hc i pins s σ H E I hf st hg
    subst hP hw hK
    obtain ⟨xs, hq, hx⟩ := hg
    obtain ⟨its, rv, p, hz⟩ := I.list hq
    obtain ⟨f0, f1, f2, f3, f4, f5⟩ := hf it (by simp)
    have hl := rv.length
    exact EoH.list_end I.hdn st p.isList (by simp; omega) fun h' eb => ⟨rfl, I.turned (t' := s.toks) (fun b o hb e => eb b o hb e) f0 f1 f3 f4 f5⟩
  self := fun _ _ _ _ _ st h => wpAny_pyIter_listiter st h
theorem turn_range {P : Program} {w : World} {K : PySem.W.Frag} {tg : Expr} (it : Addr) (lo : Int) (n : Nat) : Turn P w K tg (Itr lo n) [it] it (fun i h => IsRangeIter h it (lo + (i : Nat) * 1) ((n : Int) - (i : Nat)) 1) where
  mem := by simp
  obj := fun i h st b hb => by
    have e : b = it := by simpa using hb
    subst e
    exact ⟨_, st, fun v z => by
      have z' : Data.fields _ = Data.cell v := z
      cases z'⟩
  keep := fun i h h' st k => k it (by simp) _ st
  item := by
    intro X hP hw hK hc i pins s σ H E I hf st hg
    subst hP hw hK
    obtain ⟨f0, f1, f2, f3, f4, f5⟩ := hf it (by simp)
    refine EoH.range_item (prog := X.prog) (w := X.w) (A := X.A) it lo n i s _ _ hg st fun v h' tk hv st' kk => ?_
    obtain ⟨t, rfl⟩ := hv
    have I1 : Inv X pins σ H { s with heap := h', toks := tk } := I.turned (fun b o hb e => kk b o (by simpa using hb) e) f0 f1 f3 f4 f5
    refine ⟨_, rfl, go_of (s := { s with heap := h', toks := tk }) (n := "range_iterator") st' rfl rfl (by decide) ⟨.int (lo + i), H, I1, ⟨t, ?_⟩, ⟨rfl, rfl⟩, st', fun b hb => (hf b hb).1⟩⟩
    rw [Int.mul_one]
  done := by
    intro X hP hw hK hc i pins s σ H E I hf st hg
    subst hP hw hK
    obtain ⟨f0, f1, f2, f3, f4, f5⟩ := hf it (by simp)
    exact EoH.range_end I.hdn st (by have : n ≤ i := hg; omega) fun h' eb => ⟨rfl, I.turned (t' := s.toks) (fun b o hb e => eb b o hb e) f0 f1 f3 f4 f5⟩
  self := fun _ _ _ _ _ st h => wpAny_pyIter_rangeiter st h
end L2

namespace L2
open PySem PySem.Spec PyProof.Rows
section
variable {X : Cx} {tg : Expr}
inductive XItL (K : PySem.W.Frag) (x : V) (H : Hp) (R : It → Hp → Prop) : Prop
  | mk (a : Addr) (e : x = .ref a) (s : ∃ xs, SqL K H a xs) (q : R (Itl K a) H)
def iList (K : PySem.W.Frag) (tl : TE) : TI := fun σ H R => tl σ H fun x H1 => XItL K x H1 R
theorem pi_list {l : Expr} {tl : TE} (hl : PE X l tl) : PI X tg l (iList X.K tl) := by
  intro pins s σ H R I h
  refine thn (hl pins s σ H _ I h) fun v s1 ⟨x, H1, I1, r1, q1⟩ => ?_
  obtain ⟨a, e, ⟨xs, hq⟩, q⟩ := q1
  subst e
  cases r1
  obtain ⟨its, rv, p, hz⟩ := I1.list hq
  refine wpAny_pyIter_list p.isList ?_
  refine ⟨s1.heap.objs.size, [s1.heap.objs.size], _, _, H1, rfl, I1.kept (t' := s1.toks) fun b o e => Heap.get?_push_of_some _ e, turn_list a _, ⟨_, Heap.get?_push_size _ rfl, rfl, rfl⟩, fun b hb => ?_, q⟩
  have e : b = s1.heap.objs.size := by simpa using hb
  subst e
  exact I1.fpOk (Nat.le_refl _) (I1.hok.fresh (Nat.le_refl _))
/-- a range object just made, walked -/
theorem range_it {pins : List (Addr × Obj)} {σ : St} {H : Hp} {s : Shared} {R : It → Hp → Prop} {E : Value → Shared → Prop} {lo hi : Int} {t u v : Tok} {tk : Nat} (I : Inv X pins σ H s) (h1 : -(2 ^ 62) ≤ lo) (h2 : lo < 2 ^ 62) (h3 : -(2 ^ 62) ≤ hi) (h4 : hi < 2 ^ 62)
    (q : R (Itr lo (hi - lo).toNat) H) : wpAny (model X.prog X.w) X.A (pyIter (.ref s.heap.objs.size)) (PIE X pins σ tg R) E { s with heap := s.heap.push { cls := .type "range", data := .fields #[.int lo t, .int hi u, .int 1 v] }, toks := tk } := by
  refine wpAny_pyIter_range (IsRange.new ..) (small_one h1 h2 h3 h4) ?_
  have I1 : Inv X pins σ H { s with heap := s.heap.push { cls := .type "range", data := .fields #[.int lo t, .int hi u, .int 1 v] }, toks := tk } := I.kept fun b o e => Heap.get?_push_of_some _ e
  refine ⟨(s.heap.push { cls := .type "range", data := .fields #[.int lo t, .int hi u, .int 1 v] }).objs.size, [(s.heap.push { cls := .type "range", data := .fields #[.int lo t, .int hi u, .int 1 v] }).objs.size], _, _, H, rfl,
    I1.kept (t' := tk) fun b o e => Heap.get?_push_of_some _ e, turn_range _ lo (hi - lo).toNat, ?_, fun b hb => ?_, q⟩
  · have e1 : lo + ((0 : Nat) : Int) * 1 = lo := by simp
    have e2 : (((hi - lo).toNat : Nat) : Int) - ((0 : Nat) : Int) = Builtin.Range.rangeSize lo hi 1 := by rw [rangeSize_one]; split <;> omega
    show IsRangeIter _ _ (lo + ((0 : Nat) : Int) * 1) ((((hi - lo).toNat : Nat) : Int) - ((0 : Nat) : Int)) 1
    rw [e1, e2]
    exact Heap.get?_push_size _ rfl
  · have e : b = (s.heap.push { cls := .type "range", data := .fields #[.int lo t, .int hi u, .int 1 v] }).objs.size := by simpa using hb
    subst e
    exact I1.fpOk (Nat.le_refl _) (I1.hok.fresh (Nat.le_refl _))
inductive XRn1 (vs : List V) (H : Hp) (R : It → Hp → Prop) : Prop
  | mk (j : Int) (e : vs = [.int j]) (lo : -(2 ^ 62) ≤ j) (hi : j < 2 ^ 62) (q : R (Itr 0 j.toNat) H)
def iRng1 (ta : TA) : TI := fun σ H R => ta σ H fun vs H1 => XRn1 vs H1 R
def iRng2 (ta : TA) : TI := fun σ H R => ta σ H fun vs H1 => ∃ i j : Int, vs = [.int i, .int j] ∧ (-(2 ^ 62) ≤ i ∧ i < 2 ^ 62 ∧ -(2 ^ 62) ≤ j ∧ j < 2 ^ 62) ∧ R (Itr i (j - i).toNat) H1
theorem pi_range1 {a : Expr} {ta : TA} {p pos : Pos} (hg : Gl X "range") (hm : X.mg "range" = none) (ha : PA X [a] ta) (hs : starEach [a] X.env = [(false, eval a X.env)] := by rfl) : PI X tg (.Call (.Name "range" p) [a] [] pos) (iRng1 ta) := by
  intro pins s σ H R I h
  refine Call_ (ld_blt I hg hm boot_range (PyProof.Rows.callWith_type1 (thn (ha pos pins s σ H _ I h) fun us s1 ⟨vs, H1, I1, r1, q1⟩ => ?_) hs rfl))
  obtain ⟨j, e, q1, q2, q⟩ := q1
  subst e
  cases r1 with
  | cons r rr =>
    cases rr
    obtain ⟨t, rfl⟩ := r
    exact call_range_1 (range_it I1 (by omega) (by omega) q1 q2 (by simpa using q))
theorem pi_range2 {a b : Expr} {ta : TA} {p pos : Pos} (hg : Gl X "range") (hm : X.mg "range" = none) (ha : PA X [a, b] ta) (hs : starEach [a, b] X.env = [(false, eval a X.env), (false, eval b X.env)] := by rfl) (hs2 : starEach [b] X.env = [(false, eval b X.env)] := by rfl) :
    PI X tg (.Call (.Name "range" p) [a, b] [] pos) (iRng2 ta) := by
  intro pins s σ H R I h
  refine Call_ (ld_blt I hg hm boot_range (PyProof.Rows.callWith_type1 (thn (ha pos pins s σ H _ I h) fun us s1 ⟨vs, H1, I1, r1, q1⟩ => ?_) (by rw [hs, hs2]) (by rw [hs2]; rfl)))
  obtain ⟨i, j, e, ⟨q1, q2, q3, q4⟩, q⟩ := q1
  subst e
  cases r1 with
  | cons r rr =>
    cases rr with
    | cons r' rr =>
      cases rr
      obtain ⟨t, rfl⟩ := r
      obtain ⟨t', rfl⟩ := r'
      exact call_range_2 (range_it I1 q1 q2 q3 q4 q)

/-! ### for -/
/-- W: the invariant by the turn and a measure; N: what the body is to reach -/
def tFor (wi : TI) (g : TG) (tb : TS) : TS := fun D σ H => wi σ H fun J H1 => ∃ W : Nat → Nat → St → Hp → Prop, (∃ m, W 0 m σ H1) ∧ ∀ i m σ H, W i m σ H →
  (J.stop i H ∧ D.nx σ H) ∨ (J.go i H ∧ ∃ N : St → Hp → Prop, (∀ σ' H', N σ' H' → ∃ m', m' < m ∧ W (i + 1) m' σ' H') ∧ ∀ x H', J.yld i H x H' → g x σ H' fun σ2 H2 => tb { D with nx := N, ct := N, bk := D.nx } σ2 H2)
/-- the records at fp as they stand -/
def pinsAt (fp : List Addr) (h : Heap) : List (Addr × Obj) := fp.filterMap fun b => (h.get? b).map fun o => (b, o)
theorem mem_pinsAt {fp : List Addr} {h : Heap} {b : Addr} {o : Obj} (hb : b ∈ fp) (e : h.get? b = some o) : (b, o) ∈ pinsAt fp h := List.mem_filterMap.mpr ⟨b, hb, by rw [e]; rfl⟩
theorem of_pinsAt {fp : List Addr} {h : Heap} {p : Addr × Obj} (hp : p ∈ pinsAt fp h) : p.1 ∈ fp ∧ h.get? p.1 = some p.2 := by
  obtain ⟨b, hb, e⟩ := List.mem_filterMap.mp hp
  cases q : h.get? b with
  | none => rw [q] at e; cases e
  | some o =>
    rw [q] at e
    have e' : (b, o) = p := Option.some.inj e
    subst e'
    exact ⟨hb, q⟩
theorem Inv.pinned {pins : List (Addr × Obj)} {σ : St} {H : Hp} {s : Shared} {fp : List Addr} (I : Inv X pins σ H s) (hf : ∀ b ∈ fp, FpOk X pins H b) (ho : ∀ b ∈ fp, ∃ o, s.heap.get? b = some o ∧ ∀ v, o.data ≠ .cell v) : Inv X (pins ++ pinsAt fp s.heap) σ H s :=
  I.pins_of fun p hp => (List.mem_append.mp hp).elim (fun z => I.pin p (List.mem_append_right _ z)) fun z => by
    obtain ⟨hb, e⟩ := of_pinsAt z
    obtain ⟨f0, f1, f2, _⟩ := hf p.1 hb
    obtain ⟨o, e', d⟩ := ho p.1 hb
    rw [e] at e'; cases e'
    exact ⟨e, f0, f1, f2, d⟩
theorem Inv.unpinned {pins pl : List (Addr × Obj)} {σ : St} {H : Hp} {s : Shared} (I : Inv X (pins ++ pl) σ H s) : Inv X pins σ H s := I.pins_of fun p hp => I.pin p (List.mem_append_right _ (List.mem_append_left _ hp))
theorem ps_for {iter : Expr} {body : List Stmt} {wi : TI} {g : TG} {tb : TS} {pos : Pos} (hp : PassesOwn (model X.prog X.w) X.A X.env X.xe) (hc : (0 : Nat) = 0) (hi : PI X tg iter wi) (hg : PG X tg g) (hb : PSs X body tb)
    (hs : ∀ x, foldedSetIterable iter X.env x = pure x := by intro _; rfl) : PS X (.For tg iter body [] pos) (tFor wi g tb) := by
  intro pins s σ H D I h
  refine wpAny_For (thn (hi pins s σ H _ I h) fun v s1 h1 => thn h1 fun itv s2 h2 => ?_) hs
  obtain ⟨it, fp, tn, J, H2, e, I2, T, st2, f2, W, ⟨m0, w0⟩, turn⟩ := h2
  subst e
  -- what stays true of the iterator's objects through the loop
  have stat : ∀ {H' : Hp}, (∀ b ∈ fp, H' b = none) → ∀ b ∈ fp, FpOk X pins H' b := fun hn b hb => ⟨hn b hb, (f2 b hb).2⟩
  refine codeAny_forLoop_any (fun n s' => ∃ i σ' H', Inv X pins σ' H' s' ∧ tn i s'.heap ∧ (∀ b ∈ fp, H' b = none) ∧ W i n σ' H') ?_ m0 ⟨0, σ, H2, I2, st2, fun b hb => (f2 b hb).1, w0⟩
  rintro n s3 ⟨i, σ3, H3, I3, st3, fr3, w3⟩
  rcases turn i n σ3 H3 w3 with ⟨stop, qn⟩ | ⟨go, N, hN, step⟩
  · refine wpAny_passesOwn hp (thn (T.done X rfl rfl rfl hc i pins s3 σ3 H3 X.xe I3 (stat fr3) st3 stop) fun r s4 ⟨hr, I4⟩ => ?_)
    subst hr
    exact wpAny_execs_nil ⟨σ3, H3, I4, qn⟩
  · refine wpAny_passesOwn hp (thn (T.item X rfl rfl rfl hc i pins s3 σ3 H3 X.xe I3 (stat fr3) st3 go) fun r s4 ⟨u, hr, h4⟩ => ?_)
    subst hr
    refine wpAny_passesOwn hp (thn h4 fun _ s5 ⟨x, H5, I5, r5, y5, st5, fr5⟩ => ?_)
    have I5' := I5.pinned (stat fr5) (T.obj _ _ st5)
    refine wpAny_passesOwn hp (thn (hg _ s5 σ3 H5 x u _ I5' r5 (step x H5 y5)) fun _ s6 ⟨σ6, H6, I6, q6⟩ => ?_)
    refine wpAny_passesOwn hp (thn (hb _ s6 σ6 H6 _ I6 q6) fun f s7 q7 => ?_)
    have again : ∀ {σ7 : St} {H7 : Hp}, Inv X (pins ++ pinsAt fp s5.heap) σ7 H7 s7 → N σ7 H7 → ∃ m, m < n ∧ ∃ i σ' H', Inv X pins σ' H' s7 ∧ tn i s7.heap ∧ (∀ b ∈ fp, H' b = none) ∧ W i m σ' H' := fun {σ7 H7} I7 n7 => by
      obtain ⟨m', hm, w7⟩ := hN σ7 H7 n7
      refine ⟨m', hm, i + 1, σ7, H7, I7.unpinned, T.keep _ _ _ st5 fun b hb o e => (I7.pin (b, o) (List.mem_append_right _ (List.mem_append_right _ (mem_pinsAt hb e)))).1, fun b hb => ?_, w7⟩
      obtain ⟨o, e, d⟩ := T.obj _ _ st5 b hb
      exact (I7.pin (b, o) (List.mem_append_right _ (List.mem_append_right _ (mem_pinsAt hb e)))).2.1
    cases f with
    | next => obtain ⟨σ7, H7, I7, n7⟩ := q7; exact again I7 n7
    | cont => obtain ⟨σ7, H7, I7, n7⟩ := q7; exact again I7 n7
    | brk => obtain ⟨σ7, H7, I7, q7⟩ := q7; exact ⟨σ7, H7, I7.unpinned, q7⟩
    | ret v => obtain ⟨x7, σ7, H7, I7, r7, q7⟩ := q7; exact ⟨x7, σ7, H7, I7.unpinned, r7, q7⟩
end

/-! ### the forms one uses -/
/-- over a list that the body leaves as it is -/
theorem for_list {K : PySem.W.Frag} {a : Addr} {xs : List V} {g : TG} {tb : TS} {D : Ends} {σ : St} {H : Hp} (Pv : Nat → St → Hp → Prop) (h0 : Pv 0 σ H) (hl : ∀ i σ H, i ≤ xs.length → Pv i σ H → SqL K H a xs)
    (hs : ∀ i x σ H, xs[i]? = some x → Pv i σ H → g x σ H fun σ2 H2 => tb { D with nx := Pv (i + 1), ct := Pv (i + 1), bk := D.nx } σ2 H2) (hd : ∀ σ H, Pv xs.length σ H → D.nx σ H) :
    ∃ W : Nat → Nat → St → Hp → Prop, (∃ m, W 0 m σ H) ∧ ∀ i m σ H, W i m σ H →
      ((Itl K a).stop i H ∧ D.nx σ H) ∨ ((Itl K a).go i H ∧ ∃ N : St → Hp → Prop, (∀ σ' H', N σ' H' → ∃ m', m' < m ∧ W (i + 1) m' σ' H') ∧ ∀ x H', (Itl K a).yld i H x H' → g x σ H' fun σ2 H2 => tb { D with nx := N, ct := N, bk := D.nx } σ2 H2) := by
  refine ⟨fun i m σ H => m = xs.length - i ∧ i ≤ xs.length ∧ Pv i σ H, ⟨xs.length, by simp, Nat.zero_le _, h0⟩, ?_⟩
  rintro i m σ H ⟨rfl, hi, p⟩
  have q := hl i σ H hi p
  by_cases hlt : i < xs.length
  · refine .inr ⟨⟨xs, xs[i], q, by simp [hlt]⟩, Pv (i + 1), fun σ' H' p' => ⟨xs.length - (i + 1), by omega, rfl, hlt, p'⟩, fun x H' y => ?_⟩
    obtain ⟨e, y⟩ := y
    subst e
    exact hs i x σ _ (y xs q) p
  · have e : i = xs.length := by omega
    subst e
    exact .inl ⟨⟨xs, q, Nat.le_refl _⟩, hd σ H p⟩
theorem for_range {lo : Int} {n : Nat} {g : TG} {tb : TS} {D : Ends} {σ : St} {H : Hp} (Pv : Nat → St → Hp → Prop) (h0 : Pv 0 σ H)
    (hs : ∀ i σ H, i < n → Pv i σ H → g (.int (lo + i)) σ H fun σ2 H2 => tb { D with nx := Pv (i + 1), ct := Pv (i + 1), bk := D.nx } σ2 H2) (hd : ∀ σ H, Pv n σ H → D.nx σ H) :
    ∃ W : Nat → Nat → St → Hp → Prop, (∃ m, W 0 m σ H) ∧ ∀ i m σ H, W i m σ H →
      ((Itr lo n).stop i H ∧ D.nx σ H) ∨ ((Itr lo n).go i H ∧ ∃ N : St → Hp → Prop, (∀ σ' H', N σ' H' → ∃ m', m' < m ∧ W (i + 1) m' σ' H') ∧ ∀ x H', (Itr lo n).yld i H x H' → g x σ H' fun σ2 H2 => tb { D with nx := N, ct := N, bk := D.nx } σ2 H2) := by
  refine ⟨fun i m σ H => m = n - i ∧ i ≤ n ∧ Pv i σ H, ⟨n, by simp, Nat.zero_le _, h0⟩, ?_⟩
  rintro i m σ H ⟨rfl, hi, p⟩
  by_cases hlt : i < n
  · refine .inr ⟨hlt, Pv (i + 1), fun σ' H' p' => ⟨n - (i + 1), by omega, rfl, hlt, p'⟩, fun x H' y => ?_⟩
    obtain ⟨e, y⟩ := y
    subst e y
    exact hs i σ _ hlt p
  · have e : i = n := by omega
    subst e
    exact .inl ⟨Nat.le_refl _, hd σ H p⟩
end L2

namespace L2
open PySem PySem.Spec PyProof.Rows

abbrev R2 := V → V → Hp → VK → Prop
/-- a two-place operation on values: f is binaryOp op, inplaceOp op or compareOp op -/
def OpR (X : Cx) (f : Value → Value → Sem Value) (r : R2) : Prop :=
  ∀ (pins : List (Addr × Obj)) (s : Shared) (σ : St) (H : Hp) (x y : V) (v u : Value) (Q : VK), Inv X pins σ H s → RelV x v → RelV y u → r x y H Q →
    wpAny (model X.prog X.w) X.A (f v u) (EP X pins σ Q) X.xe s
/-- a one-place operation -/
def UnR (X : Cx) (f : Value → Sem Value) (r : V → Hp → VK → Prop) : Prop :=
  ∀ (pins : List (Addr × Obj)) (s : Shared) (σ : St) (H : Hp) (x : V) (v : Value) (Q : VK), Inv X pins σ H s → RelV x v → r x H Q →
    wpAny (model X.prog X.w) X.A (f v) (EP X pins σ Q) X.xe s
/-- a call of a value that is known (a builtin, a type) with values -/
def CallR (X : Cx) (f : Value) (r : List V → Hp → VK → Prop) : Prop :=
  ∀ (pins : List (Addr × Obj)) (s : Shared) (σ : St) (H : Hp) (xs : List V) (us : List Value) (Q : VK), Inv X pins σ H s → Vals xs us → r xs H Q →
    wpAny (model X.prog X.w) X.A (call f us) (EP X pins σ Q) X.xe s
def tOp (r : R2) (ta tb : TE) : TE := fun σ H Q => ta σ H fun x H1 => tb σ H1 fun y H2 => r x y H2 Q
def tUn (r : V → Hp → VK → Prop) (ta : TE) : TE := fun σ H Q => ta σ H fun x H1 => r x H1 Q
/-- ints in, under C, and a value out -/
def rI (C : Int → Int → Prop) (g : Int → Int → V) : R2 := fun x y H Q => XIC C x y fun i j => Q (g i j) H
def rI0 (g : Int → Int → V) : R2 := fun x y H Q => XII x y fun i j => Q (g i j) H
def rU (g : Int → V) : V → Hp → VK → Prop := fun x H Q => XI x fun i => Q (g i) H

section
variable {X : Cx} {a b c : Expr} {ta tb tc : TE} {pos : Pos}

theorem binT (ha : PE X a ta) (hb : PE X b tb) {pins : List (Addr × Obj)} {s : Shared} {σ : St} {H : Hp} {R : V → V → Hp → Prop} (I : Inv X pins σ H s)
    (h : ta σ H fun x H1 => tb σ H1 fun y H2 => R x y H2) {Q : Value → Shared → Prop} {f : Value → Value → Sem Value}
    (hf : ∀ v u s2 x y H2, Inv X pins σ H2 s2 → RelV x v → RelV y u → R x y H2 → wpAny (model X.prog X.w) X.A (f v u) Q X.xe s2) :
    wpAny (model X.prog X.w) X.A (eval a X.env) (fun v s₁ => wpAny (model X.prog X.w) X.A (eval b X.env) (fun u s₂ => wpAny (model X.prog X.w) X.A (f v u) Q X.xe s₂) X.xe s₁) X.xe s := by
  refine thn (ha pins s σ H _ I h) fun v s1 ⟨x, H1, I1, r1, q1⟩ => ?_
  refine thn (hb pins s1 σ H1 _ I1 q1) fun u s2 ⟨y, H2, I2, r2, q2⟩ => ?_
  exact hf v u s2 x y H2 I2 r1 r2 q2

theorem pe_op {op : Operator} {r : R2} (ho : OpR X (binaryOp op) r) (ha : PE X a ta) (hb : PE X b tb) : PE X (.BinOp a op b pos) (tOp r ta tb) := by
  intro pins s σ H Q I h
  exact wpAny_BinOp (binT ha hb I h fun v u s2 x y H2 I2 rx ry q => ho pins s2 σ H2 x y v u Q I2 rx ry q)
theorem pe_un {op : UnaryOp} {r : V → Hp → VK → Prop} (ho : UnR X (unaryOp op) r) (ha : PE X a ta) : PE X (.UnaryOp op a pos) (tUn r ta) := by
  intro pins s σ H Q I h
  exact UnaryOp_ (thn (ha pins s σ H _ I h) fun v s1 ⟨x, H1, I1, r1, q1⟩ => ho pins s1 σ H1 x v Q I1 r1 q1)
/-! ### ints -/
theorem opI {f : Value → Value → Sem Value} {C : Int → Int → Prop} {g : Int → Int → Int}
    (rule : ∀ (i j : Int) (t u : Tok) (s : Shared) (Q : Value → Shared → Prop) (E : Value → Shared → Prop), C i j → Q (.int (g i j) s.toks) { s with toks := s.toks + 1 } → wpAny (model X.prog X.w) X.A (f (.int i t) (.int j u)) Q E s) :
    OpR X f (rI C fun i j => .int (g i j)) := by
  intro pins s σ H x y v u Q I rx ry h
  obtain ⟨i, j, rfl, rfl, hc, q⟩ := h
  obtain ⟨t, rfl⟩ := rx
  obtain ⟨t', rfl⟩ := ry
  exact rule i j t t' s _ _ hc ⟨.int (g i j), H, I.tok _, ⟨_, rfl⟩, q⟩
theorem opI0 {f : Value → Value → Sem Value} {g : Int → Int → Int}
    (rule : ∀ (i j : Int) (t u : Tok) (s : Shared) (Q : Value → Shared → Prop) (E : Value → Shared → Prop), Q (.int (g i j) s.toks) { s with toks := s.toks + 1 } → wpAny (model X.prog X.w) X.A (f (.int i t) (.int j u)) Q E s) :
    OpR X f (rI0 fun i j => .int (g i j)) := by
  intro pins s σ H x y v u Q I rx ry h
  obtain ⟨i, j, rfl, rfl, q⟩ := h
  obtain ⟨t, rfl⟩ := rx
  obtain ⟨t', rfl⟩ := ry
  exact rule i j t t' s _ _ ⟨.int (g i j), H, I.tok _, ⟨_, rfl⟩, q⟩
theorem opB0 {f : Value → Value → Sem Value} {g : Int → Int → Bool}
    (rule : ∀ (i j : Int) (t u : Tok) (s : Shared) (Q : Value → Shared → Prop) (E : Value → Shared → Prop), Q (.bool (g i j)) s → wpAny (model X.prog X.w) X.A (f (.int i t) (.int j u)) Q E s) :
    OpR X f (rI0 fun i j => .bl (g i j)) := by
  intro pins s σ H x y v u Q I rx ry h
  obtain ⟨i, j, rfl, rfl, q⟩ := h
  obtain ⟨t, rfl⟩ := rx
  obtain ⟨t', rfl⟩ := ry
  exact rule i j t t' s _ _ ⟨.bl (g i j), H, I, rfl, q⟩

def CDiv (i j : Int) : Prop := 0 < j ∧ j < 1073741824
def CMul (i j : Int) : Prop := (-(2 ^ 64) < i ∧ i < 2 ^ 64) ∨ (-(2 ^ 64) < j ∧ j < 2 ^ 64)
theorem CMul.ok {i j : Int} (h : CMul i j) : IntMulOk i j := by
  rcases h with ⟨h1, h2⟩ | ⟨h1, h2⟩
  · exact .of_left (intBits_le_64 h1 h2)
  · exact .of_right (intBits_le_64 h1 h2)
theorem op_add : OpR X (binaryOp .Add) (rI0 fun i j => .int (i + j)) := opI0 fun _ _ _ _ _ _ _ q => add_int q
theorem op_sub : OpR X (binaryOp .Sub) (rI0 fun i j => .int (i - j)) := opI0 fun _ _ _ _ _ _ _ q => sub_int q
theorem op_mul : OpR X (binaryOp .Mult) (rI CMul fun i j => .int (i * j)) := opI fun _ _ _ _ _ _ _ hc q => mul_int q hc.ok
/-- // by a positive divisor -/
theorem op_fdiv : OpR X (binaryOp .FloorDiv) (rI CDiv fun i j => .int (i / j)) := opI fun i j _ _ _ _ _ hc q => by
  have h1 : (0 : Int) < j := hc.1
  have h2 : j < 1073741824 := hc.2
  exact floordiv_int (by omega) (by rw [Int.fdiv_eq_ediv_of_nonneg i (by omega)]; exact q) (.inl (PyProof.noPylong_small (by omega)))
/-- % by a positive divisor of any size -/
theorem op_mod : OpR X (binaryOp .Mod) (rI (fun _ j => 0 < j) fun i j => .int (i % j)) := opI fun i j _ _ _ _ _ hc q => by
  have h1 : (0 : Int) < j := hc
  exact mod_int' (by omega) (by rw [Int.fmod_eq_emod_of_nonneg i (by omega)]; exact q)
theorem unI {f : Value → Sem Value} {g : Int → Int}
    (rule : ∀ (i : Int) (t : Tok) (s : Shared) (Q : Value → Shared → Prop) (E : Value → Shared → Prop), Q (.int (g i) s.toks) { s with toks := s.toks + 1 } → wpAny (model X.prog X.w) X.A (f (.int i t)) Q E s) :
    UnR X f (rU fun i => .int (g i)) := by
  intro pins s σ H x v Q I rx h
  obtain ⟨i, rfl, q⟩ := h
  obtain ⟨t, rfl⟩ := rx
  exact rule i t s _ _ ⟨.int (g i), H, I.tok _, ⟨_, rfl⟩, q⟩
theorem un_neg : UnR X (unaryOp .USub) (rU fun i => .int (-i)) := unI fun _ _ _ _ _ q => neg_int q
/-! ### bools among ints: n += (a < b) -/
end

/-! ### comparisons -/
/-- the scalars that == tells apart as data does -/
def scal : V → V → Bool
  | .non, .non => true | .non, .int _ => true | .int _, .non => true | .non, .bl _ => true | .bl _, .non => true | .non, .str _ => true | .str _, .non => true
  | .int _, .int _ => true | .bl _, .bl _ => true | .str _, .str _ => true | .byt _, .byt _ => true
  | .int _, .str _ => true | .str _, .int _ => true | .bl _, .str _ => true | .str _, .bl _ => true
  | _, _ => false
def rEq : R2 := fun x y H Q => scal x y = true ∧ Q (.bl (decide (x = y))) H
def rNe : R2 := fun x y H Q => scal x y = true ∧ Q (.bl (!decide (x = y))) H

theorem dec_int {i j : Int} : decide (V.int i = V.int j) = (i == j) := by
  rw [Bool.eq_iff_iff]
  simp
theorem dec_bl {i j : Bool} : decide (V.bl i = V.bl j) = (i == j) := by
  rw [Bool.eq_iff_iff]
  simp
theorem dec_str {i j : Str} : decide (V.str i = V.str j) = (i == j) := by
  rw [Bool.eq_iff_iff]
  simp
theorem dec_byt {i j : Array UInt8} : decide (V.byt i = V.byt j) = (i.toList == j.toList) := by
  rw [Bool.eq_iff_iff]
  cases i
  cases j
  simp

section
variable {X : Cx} {a b c : Expr} {ta tb tc : TE} {pos : Pos}
theorem fin_bl {pins : List (Addr × Obj)} {σ : St} {H : Hp} {s : Shared} {Q : VK} {k k' : Bool} (I : Inv X pins σ H s) (q : Q (.bl k) H) (e : k = k') : EP X pins σ Q (.bool k') s := by
  subst e
  exact ⟨.bl k, H, I, rfl, q⟩
theorem op_eq : OpR X (compareOp .Eq) rEq := by
  intro pins s σ H x y v u Q I rx ry h
  obtain ⟨hs, q⟩ := h
  cases x with
  | non =>
    cases rx
    cases y with
    | non => cases ry; exact PySem.EqNone.eq_none_none (fin_bl I q (by simp))
    | bl j => cases ry; exact PySem.EqNone.eq_none_bool (fin_bl I q (by simp))
    | int j => obtain ⟨t', rfl⟩ := ry; exact PySem.EqNone.eq_none_int (fin_bl I q (by simp))
    | str j => obtain ⟨t', rfl⟩ := ry; exact PySem.EqNone.eq_none_str (fin_bl I q (by simp))
    | _ => exact absurd (show false = true from hs) Bool.false_ne_true
  | bl i =>
    cases rx
    cases y with
    | non => cases ry; exact PySem.EqNone.eq_bool_none (fin_bl I q (by simp))
    | bl j => cases ry; exact eq_bool (fin_bl I q dec_bl)
    | str j => obtain ⟨t', rfl⟩ := ry; exact PySem.EqMixed.eq_bool_str (fin_bl I q (by simp))
    | _ => exact absurd (show false = true from hs) Bool.false_ne_true
  | int i =>
    obtain ⟨t, rfl⟩ := rx
    cases y with
    | non => cases ry; exact PySem.EqNone.eq_int_none (fin_bl I q (by simp))
    | int j => obtain ⟨t', rfl⟩ := ry; exact eq_int (fin_bl I q dec_int)
    | str j => obtain ⟨t', rfl⟩ := ry; exact PySem.EqMixed.eq_int_str (fin_bl I q (by simp))
    | _ => exact absurd (show false = true from hs) Bool.false_ne_true
  | str i =>
    obtain ⟨t, rfl⟩ := rx
    cases y with
    | non => cases ry; exact PySem.EqNone.eq_str_none (fin_bl I q (by simp))
    | bl j => cases ry; exact PySem.EqMixed.eq_str_bool (fin_bl I q (by simp))
    | int j => obtain ⟨t', rfl⟩ := ry; exact PySem.EqMixed.eq_str_int (fin_bl I q (by simp))
    | str j => obtain ⟨t', rfl⟩ := ry; exact eq_str (fin_bl I q dec_str)
    | _ => exact absurd (show false = true from hs) Bool.false_ne_true
  | byt i =>
    obtain ⟨t, rfl⟩ := rx
    cases y with
    | byt j => obtain ⟨t', rfl⟩ := ry; exact PySem.W.eq_bytes (fin_bl I q dec_byt)
    | _ => exact absurd (show false = true from hs) Bool.false_ne_true
  | _ => cases y <;> exact absurd (show false = true from hs) Bool.false_ne_true
theorem op_ne : OpR X (compareOp .NotEq) rNe := by
  intro pins s σ H x y v u Q I rx ry h
  obtain ⟨hs, q⟩ := h
  cases x with
  | non =>
    cases rx
    cases y with
    | non => cases ry; exact PySem.EqNone.ne_none_none (fin_bl I q (by simp))
    | bl j => cases ry; exact PySem.EqNone.ne_none_bool (fin_bl I q (by simp))
    | int j => obtain ⟨t', rfl⟩ := ry; exact PySem.EqNone.ne_none_int (fin_bl I q (by simp))
    | str j => obtain ⟨t', rfl⟩ := ry; exact PySem.EqNone.ne_none_str (fin_bl I q (by simp))
    | _ => exact absurd (show false = true from hs) Bool.false_ne_true
  | bl i =>
    cases rx
    cases y with
    | non => cases ry; exact PySem.EqNone.ne_bool_none (fin_bl I q (by simp))
    | bl j => cases ry; exact ne_bool (fin_bl I q (congrArg not dec_bl))
    | str j => obtain ⟨t', rfl⟩ := ry; exact PySem.EqMixed.ne_bool_str (fin_bl I q (by simp))
    | _ => exact absurd (show false = true from hs) Bool.false_ne_true
  | int i =>
    obtain ⟨t, rfl⟩ := rx
    cases y with
    | non => cases ry; exact PySem.EqNone.ne_int_none (fin_bl I q (by simp))
    | int j => obtain ⟨t', rfl⟩ := ry; exact ne_int (fin_bl I q (congrArg not dec_int))
    | str j => obtain ⟨t', rfl⟩ := ry; exact PySem.EqMixed.ne_int_str (fin_bl I q (by simp))
    | _ => exact absurd (show false = true from hs) Bool.false_ne_true
  | str i =>
    obtain ⟨t, rfl⟩ := rx
    cases y with
    | non => cases ry; exact PySem.EqNone.ne_str_none (fin_bl I q (by simp))
    | bl j => cases ry; exact PySem.EqMixed.ne_str_bool (fin_bl I q (by simp))
    | int j => obtain ⟨t', rfl⟩ := ry; exact PySem.EqMixed.ne_str_int (fin_bl I q (by simp))
    | str j => obtain ⟨t', rfl⟩ := ry; exact ne_str (fin_bl I q (congrArg not dec_str))
    | _ => exact absurd (show false = true from hs) Bool.false_ne_true
  | byt i =>
    obtain ⟨t, rfl⟩ := rx
    cases y with
    | byt j => obtain ⟨t', rfl⟩ := ry; exact PySem.W.ne_bytes (fin_bl I q (congrArg not dec_byt))
    | _ => exact absurd (show false = true from hs) Bool.false_ne_true
  | _ => cases y <;> exact absurd (show false = true from hs) Bool.false_ne_true

theorem op_lt : OpR X (compareOp .Lt) (rI0 fun i j => .bl (decide (i < j))) := opB0 fun _ _ _ _ _ _ _ q => lt_int q
theorem op_le : OpR X (compareOp .LtE) (rI0 fun i j => .bl (decide (i ≤ j))) := opB0 fun _ _ _ _ _ _ _ q => le_int q
theorem op_gt : OpR X (compareOp .Gt) (rI0 fun i j => .bl (decide (j < i))) := opB0 fun _ _ _ _ _ _ _ q => gt_int q
theorem op_ge : OpR X (compareOp .GtE) (rI0 fun i j => .bl (decide (j ≤ i))) := opB0 fun _ _ _ _ _ _ _ q => ge_int q
/-- the one string within the other -/
theorem op_in_str : OpR X (compareOp .In) (fun x y H Q => ∃ i j, x = .str i ∧ y = .str j ∧ Q (.bl (!(Builtin.Str.occurrences j i 0 j.length 1).isEmpty)) H) := by
  intro pins s σ H x y v u Q I rx ry h
  obtain ⟨i, j, rfl, rfl, q⟩ := h
  obtain ⟨t, rfl⟩ := rx
  obtain ⟨t', rfl⟩ := ry
  exact in_str (fin_bl I q rfl)

theorem op_notin_str : OpR X (compareOp .NotIn) (fun x y H Q => ∃ i j, x = .str i ∧ y = .str j ∧ Q (.bl (!(!(Builtin.Str.occurrences j i 0 j.length 1).isEmpty))) H) := by
  intro pins s σ H x y v u Q I rx ry h
  obtain ⟨i, j, rfl, rfl, q⟩ := h
  obtain ⟨t, rfl⟩ := rx
  obtain ⟨t', rfl⟩ := ry
  exact notIn_str (fin_bl I q rfl)
theorem nomark (b : Expr) {op : CmpOp} (h : op ≠ .In := by decide) (h2 : op ≠ .NotIn := by decide) : behindInMarks op b = false := by
  have e1 : (op == CmpOp.In) = false := by cases op <;> first | rfl | exact absurd rfl h
  have e2 : (op == CmpOp.NotIn) = false := by cases op <;> first | rfl | exact absurd rfl h2
  cases b <;> simp [behindInMarks, e1, e2]
/-- a comparison as a value; hm: nomark b, or (for in, not in) by with_unfolding_all rfl -/
theorem pe_cmpR {op : CmpOp} {r : R2} (ho : OpR X (compareOp op) r) (ha : PE X a ta) (hb : PE X b tb) (hm : behindInMarks op b = false) : PE X (.Compare a [op] [b] pos) (tOp r ta tb) := by
  intro pins s σ H Q I h
  exact wpAny_Compare1 (binT ha hb I h fun v u s2 x y H2 I2 rx ry q => ho pins s2 σ H2 x y v u Q I2 rx ry q) hm
/-- a reading of a value as a test -/
def tTest (t : TE) : TT := fun σ H Q => t σ H fun x H' => XB x fun k => Q k H'
theorem pt_cmpR {op : CmpOp} {r : R2} (ho : OpR X (compareOp op) r) (ha : PE X a ta) (hb : PE X b tb) (hm : behindInMarks op b = false) : PT X (.Compare a [op] [b] pos) (tTest (tOp r ta tb)) := by
  intro pins s σ H Q I h
  refine wpAny_isTrue_Compare1 (thn (ha pins s σ H _ I h) fun v s1 ⟨x, H1, I1, r1, q1⟩ => thn (hb pins s1 σ H1 _ I1 q1) fun u s2 ⟨y, H2, I2, r2, q2⟩ =>
    thn (ho pins s2 σ H2 x y v u _ I2 r1 r2 q2) fun c s3 ⟨z, H3, I3, r3, k, e, q3⟩ => ?_) hm
  subst e
  cases r3
  exact wpAny_truthy_bool ⟨H3, I3, q3⟩
/-- a op1 b op2 c -/
def tChain (r r' : R2) (ta tb tc : TE) : TE := fun σ H Q => ta σ H fun x H1 => tb σ H1 fun y H2 => r x y H2 fun z H3 => XB z fun k =>
  (if k = true then tc σ H3 fun w' H4 => r' y w' H4 Q else Q (.bl false) H3)
theorem pe_chain {op op' : CmpOp} {r r' : R2} (ho : OpR X (compareOp op) r) (ho' : OpR X (compareOp op') r') (ha : PE X a ta) (hb : PE X b tb) (hc : PE X c tc)
    (hm : lastMarks [op, op'] [b, c] = false := by with_unfolding_all rfl) : PE X (.Compare a [op, op'] [b, c] pos) (tChain r r' ta tb tc) := by
  intro pins s σ H Q I h
  refine Compare_chain (thn (ha pins s σ H _ I h) fun v s1 ⟨x, H1, I1, r1, q1⟩ => chain_link (thn (hb pins s1 σ H1 _ I1 q1) fun u s2 ⟨y, H2, I2, r2, q2⟩ =>
    thn (ho pins s2 σ H2 x y v u _ I2 r1 r2 q2) fun d s3 ⟨z, H3, I3, r3, k, e, q3⟩ => ?_)) hm
  subst e
  cases r3
  refine wpAny_truthy_bool ?_
  cases k with
  | false => exact ite_ff ⟨.bl false, H3, I3, rfl, q3⟩
  | true => exact ite_tt (chain_last (thn (hc pins s3 σ H3 _ I3 q3) fun w' s4 ⟨z', H4, I4, r4, q4⟩ => ho' pins s4 σ H4 y z' u w' Q I4 r2 r4 q4))
theorem pt_chain {op op' : CmpOp} {r r' : R2} (ho : OpR X (compareOp op) r) (ho' : OpR X (compareOp op') r') (ha : PE X a ta) (hb : PE X b tb) (hc : PE X c tc)
    (hm : lastMarks [op, op'] [b, c] = false := by with_unfolding_all rfl) : PT X (.Compare a [op, op'] [b, c] pos) (tTest (tChain r r' ta tb tc)) := by
  intro pins s σ H Q I h
  refine isTrue_chain (thn (ha pins s σ H _ I h) fun v s1 ⟨x, H1, I1, r1, q1⟩ => test_link (thn (hb pins s1 σ H1 _ I1 q1) fun u s2 ⟨y, H2, I2, r2, q2⟩ =>
    thn (ho pins s2 σ H2 x y v u _ I2 r1 r2 q2) fun d s3 ⟨z, H3, I3, r3, k, e, q3⟩ => ?_)) hm
  subst e
  cases r3
  refine wpAny_truthy_bool ?_
  cases k with
  | false =>
    obtain ⟨k', e', q'⟩ := q3
    cases e'
    exact ite_ff ⟨H3, I3, q'⟩
  | true =>
    refine ite_tt (test_last (thn (hc pins s3 σ H3 _ I3 q3) fun w' s4 ⟨z', H4, I4, r4, q4⟩ => thn (ho' pins s4 σ H4 y z' u w' _ I4 r2 r4 q4) fun d' s5 ⟨z2, H5, I5, r5, k2, e2, q5⟩ => ?_))
    subst e2
    cases r5
    exact wpAny_truthy_bool ⟨H5, I5, q5⟩

/-! ### truth -/
theorem line63 : (sizeLine : Nat) < 2 ^ 63 := by rw [sizeLine_eq]; decide
/-! ### strs and bytes -/
theorem op_add_str : OpR X (binaryOp .Add) (fun x y H Q => ∃ i j, x = .str i ∧ y = .str j ∧ i.length + j.length ≤ sizeLine ∧ Q (.str (i ++ j)) H) := by
  intro pins s σ H x y v u Q I rx ry h
  obtain ⟨i, j, rfl, rfl, hz, q⟩ := h
  obtain ⟨t, rfl⟩ := rx
  obtain ⟨t', rfl⟩ := ry
  exact add_str (fun t' tk => ⟨.str (i ++ j), H, I.tok _, ⟨_, rfl⟩, q⟩) hz
/-! ### scalar builtins, by CallR -/
theorem vals1 {x : V} {us : List Value} (r : Vals [x] us) : ∃ u, us = [u] ∧ RelV x u := by
  cases r with
  | cons r1 r2 => cases r2; exact ⟨_, rfl, r1⟩
theorem vals2 {x y : V} {us : List Value} (r : Vals [x, y] us) : ∃ u w', us = [u, w'] ∧ RelV x u ∧ RelV y w' := by
  cases r with
  | cons r1 r2 =>
    cases r2 with
    | cons r3 r4 => cases r4; exact ⟨_, _, rfl, r1, r3⟩
theorem call_min2 (hc : X.calm = true) : CallR X (.builtin "min") (fun xs H Q => ∃ i j, xs = [.int i, .int j] ∧ Q (.int (if j < i then j else i)) H) := by
  intro pins s σ H xs us Q I r h
  obtain ⟨i, j, rfl, q⟩ := h
  obtain ⟨u, w', rfl, ⟨t, rfl⟩, ⟨t', rfl⟩⟩ := vals2 r
  refine min_two_ints (I.ok.hd hc) fun h' tk k => ⟨_, H, I.kept k, ?_, q⟩
  by_cases hj : j < i
  · rw [if_pos hj, if_pos hj]; exact ⟨_, rfl⟩
  · rw [if_neg hj, if_neg hj]; exact ⟨_, rfl⟩
theorem call_str_int : CallR X (.type "str") (fun xs H Q => ∃ i, xs = [.int i] ∧ i.natAbs.log2 < 1920 ∧ Q (.str (toString i)) H) := by
  intro pins s σ H xs us Q I r h
  obtain ⟨i, rfl, hz, q⟩ := h
  obtain ⟨u, rfl, t, rfl⟩ := vals1 r
  exact PySem.P.str_of_int hz ⟨.str _, H, I.tok _, ⟨_, rfl⟩, q⟩
end
end L2

namespace L2
open PySem PySem.Spec PyProof.Rows

/-! ### an instance, its attributes a map -/
structure ObjM (h : Heap) (x dx C : Addr) (mA : Str → Option Value) : Prop where
  obj : h.get? x = some (PySem.W.instObj C dx)
  ns : h.Ns1 dx mA
  ne : dx ≠ x

theorem lookIn_ns {h : Heap} {dx : Addr} {mA : Str → Option Value} (n : h.Ns1 dx mA) : ∃ od, h.get? dx = some od ∧ ∀ name, PySem.W.lookIn name od = some (mA name) := by
  obtain ⟨o, es, ep, ho, hd, hk, _, hm⟩ := n
  refine ⟨o, ho, fun name => ?_⟩
  have e := hm name
  unfold nsFind findBy at e
  rw [← Array.find?_toList] at e
  unfold PySem.W.lookIn
  rw [hd]
  dsimp only
  split
  · rename_i y q
    rw [q] at e
    exact congrArg some e
  · rename_i q
    rw [q] at e
    have a : es.toList.any (·.refKey) = false := by
      rw [List.any_eq_false]
      intro y hy
      obtain ⟨z, t, hkey⟩ := hk y (Array.mem_toList_iff.mp hy)
      simp [DictEntry.refKey, hkey]
    have a' : ¬ es.toList.any (·.refKey) = true := by rw [a]; exact Bool.false_ne_true
    rw [if_neg a']
    exact congrArg some e

theorem ObjM.look {h : Heap} {x dx C : Addr} {mA : Str → Option Value} (I : ObjM h x dx C mA) : ∃ od, PySem.W.InstAt h x (PySem.W.instObj C dx) C (some od) ∧ ∀ name, PySem.W.lookIn name od = some (mA name) :=
  let ⟨od, ho, hl⟩ := lookIn_ns I.ns
  ⟨od, ⟨I.obj, rfl, rfl, ho⟩, hl⟩

section
variable {prog : Program} {w : World} {A : Around} {E : Value → Shared → Prop} {s : Shared} {K : PySem.W.Frag} {x dx C f : Addr} {mA : Str → Option Value} {name : Str} {v : Value}

theorem get_map {expr : Bool} {Q : Value → Shared → Prop} (X : K.In s.heap) (I : ObjM s.heap x dx C mA) (hg : PySem.W.plainGet K C name = true) (hh : PySem.W.hasDictIn K C = true)
    (ha : PySem.W.findIn K (.ref C) name = some none) (hv : mA name = some v) (hv' : PySem.W.handedIn v = true) (h : Q v { s with toks := s.toks + 1 }) :
    wpAny (model prog w) A (getAttr (.ref x) name expr) Q E s := by
  obtain ⟨od, J, hl⟩ := I.look
  exact PySem.W.get_value X J (PySem.W.plainGet_of hg).1 (PySem.W.findObj_own hh ha rfl (by rw [hl, hv])) hv' h

theorem get_meth {pl : Sem Bool} {Q : Value × List Value → Shared → Prop} (X : K.In s.heap) (I : ObjM s.heap x dx C mA) (hg : PySem.W.plainGet K C name = true)
    (hf : PySem.W.findIn K (.ref C) name = some (some (.ref f))) (ht : PySem.W.isFn K (.ref f) = true) (hv : mA name = none) (h : Q (.ref f, [.ref x]) s) :
    wpAny (model prog w) A (getMethod (.ref x) name pl) Q E s := by
  obtain ⟨od, J, hl⟩ := I.look
  exact PySem.W.method_fn X J (PySem.W.plainGet_of hg).1 (PySem.W.plainGet_of hg).2 hf (beq_iff_eq.mp ht) (by show (PySem.W.lookIn name od).map (·.isSome) = some false; rw [hl, hv]; rfl) h

theorem set_map {ns : List Str} {Q : Unit → Shared → Prop} (X : K.In s.heap) (I : ObjM s.heap x dx C mA)
    (hs : PySem.W.findIn K (.ref C) "__setattr__" = some (some (.builtin "object.__setattr__"))) (hp : PySem.W.plainOver K C = true) (ht : PySem.W.takerIn K C name = some none) (hh : PySem.W.hasDictIn K C = true)
    (hw : PySem.Within mA ns) (hsz : ns.length ≤ sizeLine)
    (h : ∀ h', ObjM h' x dx C (fun y => if y = name then some v else mA y) → Heap.SameBut dx s.heap h' → Q () { s with heap := h', toks := s.toks + 2 }) :
    wpAny (model prog w) A (setAttr (.ref x) name v) Q E s := by
  obtain ⟨od, J, hl⟩ := I.look
  refine PySem.W.set_plain X J hs (PySem.W.osa_open (s := { s with toks := s.toks + 1 }) (r := none) X J hp ht fun b => ?_)
  obtain ⟨cd, hc, hd'⟩ := PySem.W.any_some hh
  have hx : s.heap.get? x = some ⟨.ref C, some dx, .plain, #[]⟩ := I.obj
  refine wpAny_bind (wpAny_pure (wpAny_bind (wpAny_bind (wpAny_loadPart hx (wpAny_bind (PySem.W.Looks.here (s := { s with toks := s.toks + 1 }) (PySem.W.looks_clsIn X hc) ?_))))))
  rw [hd']
  refine wpAny_pure (a := some dx) (wpAny_bind (wpAny_pure (wpAny_bind ?_)))
  refine wpAny_nsSet1 (s := { s with toks := s.toks + 1 }) I.ns fun h' hn2 hs2 => ?_
  obtain ⟨oD, esD, epD, hoD, hdD, hcD⟩ := hn2.count (PySem.Within.cons name v hw)
  refine wpAny_bind (wpAny_lookBehind hoD (by rw [hdD]; exact pastItsLine_dict (Nat.le_trans hcD (by rw [List.length_cons]; omega))) ?_)
  exact wpAny_pure (h _ ⟨(hs2.2 _ (Ne.symm I.ne)).trans I.obj, hn2, I.ne⟩ hs2)

/-- C(..): the dict at the heap's end, the instance behind it; then its __init__ -/
theorem make_map {R : Result → Shared → Prop} {vs : List Value} {kw : List (Str × Value)} (X : K.In s.heap) (hm : PySem.W.makesIn K C = true)
    (hi : PySem.W.findIn K (.ref C) "__init__" = some (some (.ref f))) (hf : PySem.W.typeIn K (.ref f) = some (.type "function"))
    (h : codeAny (model prog w) (A.under (.builtin "type.__call__" ⟨.ref C :: vs, kw⟩)) (.call (.ref f) ⟨.ref (s.heap.objs.size + 1) :: vs, kw⟩) (PySem.W.InitBack (s.heap.objs.size + 1) R)
      { s with heap := (s.heap.push PySem.W.emptyDict).push (PySem.W.instObj C s.heap.objs.size) }) :
    codeAny (model prog w) A (.call (.ref C) ⟨vs, kw⟩) R s := by
  obtain ⟨hh, g, d, t, os⟩ := s
  exact PySem.W.make_core (PySem.W.makes_of X hm) (PySem.W.looks_findIn X hi) (fun self => PySem.W.bind_fn X self hf) (.inl rfl) h
end

/-! ### the attributes as a list of pairs -/
def putF (f : Str) (v : V) : List (Str × V) → List (Str × V)
  | [] => [(f, v)]
  | (g, x) :: r => if g = f then (g, v) :: r else (g, x) :: putF f v r
theorem lookup_putF (f g : Str) (v : V) : ∀ fs : List (Str × V), (putF f v fs).lookup g = if g = f then some v else fs.lookup g
  | [] => by
    show List.lookup g [(f, v)] = _
    by_cases h : g = f
    · have hb : (g == f) = true := beq_iff_eq.mpr h
      simp only [List.lookup, hb, if_pos h]
    · have hb : (g == f) = false := beq_eq_false_iff_ne.mpr h
      simp only [List.lookup, hb, if_neg h]
  | (k, x) :: r => by
    have ih := lookup_putF f g v r
    rw [show putF f v ((k, x) :: r) = (if k = f then (k, v) :: r else (k, x) :: putF f v r) from rfl]
    by_cases hk : k = f
    · rw [if_pos hk]
      by_cases h : g = k
      · have hb : (g == k) = true := beq_iff_eq.mpr h
        simp only [List.lookup, hb, if_pos (h.trans hk)]
      · have hb : (g == k) = false := beq_eq_false_iff_ne.mpr h
        simp only [List.lookup, hb, if_neg (fun e : g = f => h (e.trans hk.symm))]
    · rw [if_neg hk]
      by_cases h : g = k
      · have hb : (g == k) = true := beq_iff_eq.mpr h
        simp only [List.lookup, hb, if_neg (fun e : g = f => hk (h.symm.trans e))]
      · have hb : (g == k) = false := beq_eq_false_iff_ne.mpr h
        simp only [List.lookup, hb]
        exact ih
theorem keys_putF (f : Str) (v : V) : ∀ fs : List (Str × V), f ∈ (putF f v fs).map (·.1) ∧ ∀ g, g ∈ fs.map (·.1) → g ∈ (putF f v fs).map (·.1)
  | [] => ⟨by simp [putF], fun g h => by simp at h⟩
  | (k, x) :: r => by
    obtain ⟨i1, i2⟩ := keys_putF f v r
    rw [show putF f v ((k, x) :: r) = (if k = f then (k, v) :: r else (k, x) :: putF f v r) from rfl]
    by_cases hk : k = f
    · rw [if_pos hk]
      subst hk
      exact ⟨by simp, fun g h => by simpa using h⟩
    · rw [if_neg hk]
      refine ⟨?_, fun g h => ?_⟩
      · rw [List.map_cons]
        exact List.mem_cons_of_mem _ i1
      · rw [List.map_cons] at h ⊢
        rcases List.mem_cons.mp h with e | e
        · exact List.mem_cons.mpr (.inl e)
        · exact List.mem_cons_of_mem _ (i2 g e)
theorem length_putF (f : Str) (v : V) : ∀ fs : List (Str × V), (putF f v fs).length ≤ fs.length + 1
  | [] => by simp [putF]
  | (k, x) :: r => by
    have ih := length_putF f v r
    rw [show putF f v ((k, x) :: r) = (if k = f then (k, v) :: r else (k, x) :: putF f v r) from rfl]
    by_cases hk : k = f
    · rw [if_pos hk, List.length_cons, List.length_cons]; omega
    · rw [if_neg hk, List.length_cons, List.length_cons]; omega

theorem RelO.some_of {v : V} {o : Option Value} (r : RelO (some v) o) : ∃ u, o = some u ∧ RelV v u := by
  cases o with
  | none => exact (show False from r).elim
  | some u => exact ⟨u, rfl, r⟩
theorem RelO.none_of {o : Option Value} (r : RelO none o) : o = none := by
  cases o with
  | none => rfl
  | some u => exact (show False from r).elim
theorem handed_of {v : V} {u : Value} (r : RelV v u) : PySem.W.handedIn u = true := by
  cases v with
  | non => cases (show u = Value.none from r); rfl
  | bl b => cases (show u = Value.bool b from r); rfl
  | int i => obtain ⟨t, e⟩ := (show ∃ t, u = Value.int i t from r); cases e; rfl
  | str x => obtain ⟨t, e⟩ := (show ∃ t, u = Value.str x t from r); cases e; rfl
  | byt b => obtain ⟨t, e⟩ := (show ∃ t, u = Value.bytes b t from r); cases e; rfl
  | flt b => obtain ⟨t, e⟩ := (show ∃ t, u = Value.float b t from r); cases e; rfl
  | ref a => cases (show u = Value.ref a from r); rfl
  | ty n => cases (show u = Value.type n from r); rfl

section
variable {P : Program} {w : World} {H H' : Hp} {h h' : Heap} {a C dx : Addr} {fs fs' : List (Str × V)}
theorem ins_get (hok : HOk P w H h) (e : H a = some (.ins C dx fs)) : ∃ mA, ObjM h a dx C mA ∧ (∀ f, RelO (fs.lookup f) (mA f)) ∧ PySem.Within mA (fs.map (·.1)) ∧ fs.length ≤ 1000 ∧ H dx = some (.own a) := by
  obtain ⟨d, z, ne, ob, mA, n, r, q⟩ := (show ObjOk P w H h a (.ins C dx fs) from hok a _ e)
  exact ⟨mA, ⟨ob, n, ne⟩, r, q, z, d⟩
end

/-! ### what of the text a class must have -/
structure Cls (K : PySem.W.Frag) (C : Addr) : Prop where
  pg : PySem.W.plainGet K C Str.empty = true
  hd : PySem.W.hasDictIn K C = true
  po : PySem.W.plainOver K C = true
  sa : PySem.W.findIn K (.ref C) "__setattr__" = some (some (.builtin "object.__setattr__"))
theorem Cls.get {K : PySem.W.Frag} {C : Addr} (c : Cls K C) (f : Str) : PySem.W.plainGet K C f = true := c.pg
/-- no class of it has the name -/
def NoAttr (K : PySem.W.Frag) (C : Addr) (f : Str) : Prop := PySem.W.findIn K (.ref C) f = some none
theorem NoAttr.taker {K : PySem.W.Frag} {C : Addr} {f : Str} (n : NoAttr K C f) : PySem.W.takerIn K C f = some none := by
  unfold PySem.W.takerIn
  rw [show PySem.W.findIn K (.ref C) f = some none from n]
  rfl
/-- a method: a plain def of the class or of one above it -/
structure Meth (K : PySem.W.Frag) (C : Addr) (m : Str) (f : Addr) : Prop where
  at_ : PySem.W.findIn K (.ref C) m = some (some (.ref f))
  fn : PySem.W.isFn K (.ref f) = true
  kp : PySem.W.keepIn K (.ref f) = true

section
variable {X : Cx} {pins : List (Addr × Obj)} {σ : St} {H : Hp} {s : Shared} {a C dx : Addr} {fs : List (Str × V)} {f : Str} {v : V} {A : Around} {E : Value → Shared → Prop}

theorem getattr_ok {b : Bool} {Q : Value → Shared → Prop} (I : Inv X pins σ H s) (e : H a = some (.ins C dx fs)) (c : Cls X.K C) (n : NoAttr X.K C f) (l : fs.lookup f = some v)
    (h : ∀ u s', Inv X pins σ H s' → RelV v u → Q u s') : wpAny (model X.prog X.w) A (getAttr (.ref a) f b) Q E s := by
  obtain ⟨mA, O, r, _, _, _⟩ := ins_get I.hok e
  obtain ⟨u, hu, ru⟩ := RelO.some_of (v := v) (o := mA f) (by rw [← l]; exact r f)
  exact get_map I.kIn O (c.get f) c.hd n hu (handed_of ru) (h u _ (I.tok _) ru)

theorem getmeth_ok {m : Str} {g : Addr} {pl : Sem Bool} {Q : Value × List Value → Shared → Prop} (I : Inv X pins σ H s) (e : H a = some (.ins C dx fs)) (c : Cls X.K C) (k : Meth X.K C m g) (l : fs.lookup m = none)
    (h : Q (.ref g, [.ref a]) s) : wpAny (model X.prog X.w) A (getMethod (.ref a) m pl) Q E s := by
  obtain ⟨mA, O, r, _, _, _⟩ := ins_get I.hok e
  have hn : mA m = none := RelO.none_of (by rw [← l]; exact r m)
  exact get_meth I.kIn O (c.get m) k.at_ k.fn hn h

theorem setattr_ok {y : V} {u : Value} {Q : Unit → Shared → Prop} (I : Inv X pins σ H s) (e : H a = some (.ins C dx fs)) (c : Cls X.K C) (n : NoAttr X.K C f) (hl : fs.length < 1000) (ry : RelV y u)
    (h : ∀ s', Inv X pins σ (upd H a (.ins C dx (putF f y fs))) s' → Q () s') : wpAny (model X.prog X.w) A (setAttr (.ref a) f u) Q E s := by
  obtain ⟨mA, O, r, wi, _, ho⟩ := ins_get I.hok e
  have hz : (fs.map (·.1)).length ≤ sizeLine := by rw [List.length_map, sizeLine_eq]; omega
  refine set_map I.kIn O c.sa c.po n.taker c.hd wi hz fun h' O' sb => h _ ?_
  have hd : ∃ o, h'.get? dx = some o := let ⟨o, _, _, e', _⟩ := O'.ns; ⟨o, e'⟩
  refine I.write (x := a) (e := dx) (by rw [e]; exact True.intro) (.inr ho) (fun b q hb z => (sb.2 b hb).trans z) hd ?_
  refine ⟨by rw [upd_ne O.ne]; exact ho, ?_, O.ne, O'.obj, _, O'.ns, fun g => ?_, fun g hg => ?_⟩
  · have := length_putF f y fs; omega
  · show RelO ((putF f y fs).lookup g) (if g = f then some u else mA g)
    rw [lookup_putF]
    by_cases q : g = f
    · rw [if_pos q, if_pos q]; exact ry
    · rw [if_neg q, if_neg q]; exact r g
  · by_cases q : g = f
    · rw [q]; exact (keys_putF f y fs).1
    · refine (keys_putF f y fs).2 g (wi g fun z => hg ?_)
      show (if g = f then some u else mA g) = none
      rw [if_neg q]; exact z

/-- a new instance, tracked, without attributes -/
theorem Inv.made (I : Inv X pins σ H s) : Inv X pins σ (upd (upd H s.heap.objs.size (.own (s.heap.objs.size + 1))) (s.heap.objs.size + 1) (.ins C s.heap.objs.size []))
    { s with heap := (s.heap.push PySem.W.emptyDict).push (PySem.W.instObj C s.heap.objs.size) } := by
  have e1 : (s.heap.push PySem.W.emptyDict).get? s.heap.objs.size = some PySem.W.emptyDict := Heap.get?_push_size s.heap rfl
  have e2 : ((s.heap.push PySem.W.emptyDict).push (PySem.W.instObj C s.heap.objs.size)).get? (s.heap.objs.size + 1) = some (PySem.W.instObj C s.heap.objs.size) := by
    have := Heap.get?_push_size (s.heap.push PySem.W.emptyDict) (o := PySem.W.instObj C s.heap.objs.size) rfl
    rwa [Heap.size_push] at this
  have e3 : (s.heap.push PySem.W.emptyDict).Ns s.heap.objs.size (fun _ => none) := ⟨PySem.W.emptyDict, #[], _, e1, rfl, (fun e he => absurd he (by simp)), fun _ => rfl⟩
  have I1 := I.laid (a := s.heap.objs.size) (o := .own (s.heap.objs.size + 1)) (h' := s.heap.push PySem.W.emptyDict) (t' := s.toks) (fun b u q => Heap.get?_push_of_some _ q) (Nat.le_refl _) ⟨_, e1⟩
  refine I1.laid (a := s.heap.objs.size + 1) (o := .ins C s.heap.objs.size []) (t' := s.toks) (fun b u q => Heap.get?_push_of_some _ q) (Nat.le_of_eq (Heap.size_push _ _)) ?_
  have ne : s.heap.objs.size ≠ s.heap.objs.size + 1 := Nat.ne_of_lt (Nat.lt_succ_self _)
  refine ⟨by rw [upd_ne ne, upd_same], Nat.zero_le _, ne, e2, fun _ => none, (Heap.Ns1.of_empty e3).at fun o q => Heap.get?_push_of_some _ q, fun _ => True.intro, fun y hy => absurd rfl hy⟩

/-- e.f where nothing but the object is asked: through attributeBase (super) and the last hold -/
theorem attr_of {prog : Program} {w : World} {env : Env} {e : Expr} {f : Str} {pos : Pos} {s : Shared} {Q : Value → Shared → Prop} (hb : attributeBase e f env (eval e env) = eval e env)
    (h : wpAny (model prog w) A (eval e env) (fun o s₁ => wpAny (model prog w) A (getAttr o f true) Q E s₁) E s) : wpAny (model prog w) A (eval (.Attribute e f pos) env) Q E s :=
  Attribute_any_ h (by rw [arm_eval_Attribute, hb])
end

/-! ### readings and rules -/
/-- e.f, an attribute of the instance -/
inductive XFld (K : PySem.W.Frag) (f : Str) (x : V) (H : Hp) (Q : VK) : Prop
  | mk (a C dx : Addr) (fs : List (Str × V)) (v : V) (e : x = .ref a) (h : H a = some (.ins C dx fs)) (c : Cls K C) (n : NoAttr K C f) (l : fs.lookup f = some v) (q : Q v H)
def tFld (K : PySem.W.Frag) (ta : TE) (f : Str) : TE := fun σ H Q => ta σ H fun x H1 => XFld K f x H1 Q
/-- e.f = value -/
inductive XSet (K : PySem.W.Frag) (f : Str) (x y : V) (H : Hp) (R : Hp → Prop) : Prop
  | mk (a C dx : Addr) (fs : List (Str × V)) (e : x = .ref a) (h : H a = some (.ins C dx fs)) (c : Cls K C) (n : NoAttr K C f) (l : fs.length < 1000) (q : R (upd H a (.ins C dx (putF f y fs))))
def sFld (K : PySem.W.Frag) (ta tv : TE) (f : Str) : TS := fun D σ H => tv σ H fun y H1 => ta σ H1 fun x H2 => XSet K f x y H2 (D.nx σ)
section
variable {X : Cx} {o e value : Expr} {f : Str} {pos pos' tpos : Pos} {ta tv : TE}
theorem pe_fld (he : PE X e ta) (hb : attributeBase e f X.env (eval e X.env) = eval e X.env) : PE X (.Attribute e f pos) (tFld X.K ta f) := by
  intro pins s σ H Q I h
  refine attr_of hb (thn (he pins s σ H _ I h) fun u s1 ⟨x, H1, I1, rx, a, C, dx, fs, v, ex, ea, c, n, l, q⟩ => ?_)
  subst ex
  obtain rfl : u = Value.ref a := rx
  exact getattr_ok I1 ea c n l fun u' s2 I2 ru => ⟨v, H1, I2, ru, q⟩
theorem ps_fld (ha : PE X o ta) (hv : PE X value tv) (hs : swapsWith value (some (.Attribute o f pos')) pos.line X.env = pure false) : PS X (.Assign [.Attribute o f pos'] value pos) (sFld X.K ta tv f) := by
  intro pins s σ H D I h
  refine plainObj_wpAny_Assign_Attribute (thn (hv pins s σ H _ I h) fun u s1 ⟨y, H1, I1, ry, q⟩ => thn (ha pins s1 σ H1 _ I1 q) fun ov s2 ⟨x, H2, I2, rx, a, C, dx, fs, ex, ea, c, n, l, q2⟩ => ?_) hs
  subst ex
  obtain rfl : ov = Value.ref a := rx
  exact setattr_ok I2 ea c n l ry fun s3 I3 => ⟨σ, _, I3, q2⟩
end

/-! ### isinstance -/
section
variable {X : Cx} {pins : List (Addr × Obj)} {σ : St} {H : Hp} {s : Shared} {A : Around} {E : Value → Shared → Prop} {Q : Value → Shared → Prop} {c : Value} {b : Bool}
/-- the type of a value, as the fragment's deciders take it; for an instance its class -/
inductive TyOf (K : PySem.W.Frag) (H : Hp) : V → Value → Prop where
  | non : TyOf K H .non (.type "NoneType")
  | bl (x : Bool) : TyOf K H (.bl x) (.type "bool")
  | int (i : Int) : TyOf K H (.int i) (.type "int")
  | str (x : Str) : TyOf K H (.str x) (.type "str")
  | flt (x : UInt64) : TyOf K H (.flt x) (.type "float")
  | lst {a : Addr} {xs : List V} (e : H a = some (.lst xs)) : TyOf K H (.ref a) (.type "list")
  | frz {a : Addr} {o : Obj} {xs : List V} (e : H a = some (.frz o (.lst xs))) : TyOf K H (.ref a) (.type "list")
  | tup {a : Addr} {xs : List V} (e : H a = some (.tup xs)) : TyOf K H (.ref a) (.type "tuple")
  | dK {a : Addr} {kvs : List (Key × V)} (e : H a = some (.dK kvs)) : TyOf K H (.ref a) (.type "dict")
  | dT {a : Addr} {kvs : List (List Key × V)} (e : H a = some (.dT kvs)) : TyOf K H (.ref a) (.type "dict")
  | ins {a C dx : Addr} {fs : List (Str × V)} (e : H a = some (.ins C dx fs)) (cl : Cls K C) (ha : PySem.W.findIn K (.ref C) "__class__" = some (some (.builtin "object.__class__")))
      (hn : PySem.W.specialIn K (.builtin "object.__class__") "__get__" = some (some (.builtin "getset_descriptor.__get__"))) (htk : PySem.W.takesIn K (.builtin "object.__class__") = some true)
      (hm : PySem.W.mroIn K C (.type "object") = some true) : TyOf K H (.ref a) (.ref C)
/-- isinstance(x, c) for one class c, a built-in or an own one: kitOne's answer -/
theorem isinst_ok {x : V} {u t : Value} (I : Inv X pins σ H s) (rx : RelV x u) (ty : TyOf X.K H x t) (e : PySem.W.kitOne X.K t c = some b) (h : ∀ tk, Q (.bool b) { s with toks := tk }) :
    wpAny (model X.prog X.w) A (call (.builtin "isinstance") [u, c]) Q E s := by
  cases ty with
  | non => cases (show u = Value.none from rx); exact PySem.W.kia_one PySem.W.kitx_none I.kIn True.intro e (fun z => nomatch z) h
  | bl y => cases (show u = Value.bool y from rx); exact PySem.W.kia_one PySem.W.kitx_bool I.kIn True.intro e (fun z => nomatch z) h
  | int i => obtain ⟨t, q⟩ := (show ∃ t, u = Value.int i t from rx); cases q; exact PySem.W.kia_one PySem.W.kitx_int I.kIn True.intro e (fun z => nomatch z) h
  | str y => obtain ⟨t, q⟩ := (show ∃ t, u = Value.str y t from rx); cases q; exact PySem.W.kia_one PySem.W.kitx_str I.kIn True.intro e (fun z => nomatch z) h
  | flt y => obtain ⟨t, q⟩ := (show ∃ t, u = Value.float y t from rx); cases q; exact PySem.W.kia_one PySem.W.kitx_float I.kIn True.intro e (fun z => nomatch z) h
  | @lst a xs ea =>
    cases (show u = Value.ref a from rx)
    obtain ⟨_, _, n, _, h1⟩ := (show ObjOk X.prog X.w H s.heap a (.lst xs) from I.hok a _ ea)
    exact PySem.W.kia_one PySem.W.kitx_list I.kIn ⟨_, h1, rfl⟩ e (fun z => nomatch z) h
  | @frz a ob xs ea =>
    cases (show u = Value.ref a from rx)
    obtain ⟨_, _, _, n, _, h1⟩ := (show ObjOk X.prog X.w H s.heap a (.frz ob (.lst xs)) from I.hok a _ ea)
    exact PySem.W.kia_one PySem.W.kitx_list I.kIn ⟨_, h1, rfl⟩ e (fun z => nomatch z) h
  | @tup a xs ea =>
    cases (show u = Value.ref a from rx)
    obtain ⟨_, _, _, p⟩ := (show ObjOk X.prog X.w H s.heap a (.tup xs) from I.hok a _ ea)
    obtain ⟨o, h1, h2, _⟩ := p
    exact PySem.W.kia_one PySem.W.kitx_tuple I.kIn ⟨o, h1, h2⟩ e (fun z => nomatch z) h
  | @dK a kvs ea =>
    cases (show u = Value.ref a from rx)
    obtain ⟨_, _, vs, _, p⟩ := (show ObjOk X.prog X.w H s.heap a (.dK kvs) from I.hok a _ ea)
    obtain ⟨o, es, ep, h1, h2, _⟩ := p
    exact PySem.W.kia_one PySem.W.kitx_dict I.kIn ⟨o, h1, h2.1⟩ e (fun z => nomatch z) h
  | @dT a kvs ea =>
    cases (show u = Value.ref a from rx)
    obtain ⟨_, _, xs, _, o, es, ep, h1, h2, _⟩ := (show ObjOk X.prog X.w H s.heap a (.dT kvs) from I.hok a _ ea)
    exact PySem.W.kia_one PySem.W.kitx_dict I.kIn ⟨o, h1, h2.1⟩ e (fun z => nomatch z) h
  | @ins a C dx fs ea cl ha hn htk hm =>
    cases (show u = Value.ref a from rx)
    obtain ⟨mA, O, _⟩ := ins_get I.hok ea
    obtain ⟨od, J, _⟩ := O.look
    exact PySem.W.kia_one (PySem.W.kitx_own (cl.get _) cl.hd ha hn htk hm) I.kIn J e (fun z => nomatch z) h
end
end L2

namespace L2
open PySem PySem.Spec PyProof.Rows

/-! ### room -/
structure Room (k : Nat) (A : Around) : Prop where
  hd : A.handled = none
  dp : A.depth + 3 * k + 5 < recursionLimit
  un : A.units + 16 * k + 200 < cLine
theorem Room.mono {j k : Nat} {A : Around} (r : Room k A) (h : j ≤ k) : Room j A := ⟨r.hd, by have := r.dp; omega, by have := r.un; omega⟩
theorem Room.deeper {k : Nat} {A : Around} (r : Room (k + 1) A) (env : Env) : Room k (A.deeper env) :=
  ⟨r.hd, by have := r.dp; show A.depth + 1 + 3 * k + 5 < _; omega, by have := r.un; show A.units + 3 + 16 * k + 200 < _; omega⟩
theorem make_depth {A : Around} {C : Addr} {us : List Value} {kw : List (Str × Value)} : (A.under (.builtin "type.__call__" ⟨.ref C :: us, kw⟩)).depth = A.depth + 1 := by
  first | rfl | simp [Around.under, Code.weight, Code.isCreation, Code.isGuard, Code.isCaller, Code.frames, Code.isFrame, guardIds]
theorem make_units {A : Around} {C : Addr} {us : List Value} {kw : List (Str × Value)} : (A.under (.builtin "type.__call__" ⟨.ref C :: us, kw⟩)).units = A.units + 1 := by
  first | rfl | simp [Around.under, Code.cUnits, Code.frames, Code.isFrame]
theorem Room.make {k : Nat} {A : Around} (r : Room (k + 1) A) (C : Addr) (us : List Value) (kw : List (Str × Value)) : Room k (A.under (.builtin "type.__call__" ⟨.ref C :: us, kw⟩)) :=
  ⟨r.hd, by have := r.dp; rw [make_depth]; omega, by have := r.un; rw [make_units]; omega⟩
theorem Room.depth {k : Nat} {A : Around} (r : Room k A) : A.depth < recursionLimit := by have := r.dp; omega
theorem Room.units {k : Nat} {A : Around} (r : Room k A) : A.units + 64 < cLine := by have := r.un; omega
/-! ### argument lists and displays -/
def tNil : TA := fun _ H Q => Q [] H
def tCons (ta : TE) (tr : TA) : TA := fun σ H Q => ta σ H fun x H1 => tr σ H1 fun xs H2 => Q (x :: xs) H2
section
variable {X : Cx} {e : Expr} {es : List Expr} {te : TE} {t : TA} {pos : Pos}
theorem pa_nil : PA X [] tNil := fun _ _ _ _ H Q I h => Calls.spliced_nil ⟨[], H, I, .nil, h⟩
theorem pa_cons (ha : PE X e te) (hr : PA X es t) (hs : starEach (e :: es) X.env = (false, eval e X.env) :: starEach es X.env := by rfl) : PA X (e :: es) (tCons te t) := by
  intro pos pins s σ H Q I h
  rw [hs]
  show wpAny _ _ (spliced ((false, eval e X.env) :: backTo pos (starEach es X.env))) _ _ s
  refine Calls.spliced_cons (thn (ha pins s σ H _ I h) fun u s1 ⟨x, H1, I1, r1, q1⟩ => ?_)
  exact thn (hr pos pins s1 σ H1 _ I1 q1) fun us s2 ⟨xs, H2, I2, r2, q2⟩ => ⟨x :: xs, H2, I2, .cons r1 r2, q2⟩

/-- a tuple, a list of written items -/
def tTup (t : TA) : TE := fun σ H Q => t σ H fun xs H1 => xs.length ≤ sizeLine ∧ ∀ p, H1 p = none → Q (.ref p) (upd H1 p (.tup xs))
def tLst (t : TA) : TE := fun σ H Q => t σ H fun xs H1 => xs.length ≤ sizeLine ∧ ∀ p, H1 p = none → Q (.ref p) (upd H1 p (.lst xs))
theorem pe_tup {x1} (h : PA X es t) : PE X (.Tuple es x1 pos) (tTup t) := by
  intro pins s σ H Q I hq
  refine wpAny_Tuple_spliced (thn (h pos pins s σ H _ I hq) fun us s1 ⟨xs, H1, I1, r, z, q⟩ => ⟨by rw [← r.length]; exact z, ?_⟩)
  have hf : H1 s1.heap.objs.size = none := I1.hok.fresh (Nat.le_refl _)
  refine ⟨.ref s1.heap.objs.size, upd H1 s1.heap.objs.size (.tup xs), I1.laid (t' := s1.toks) (fun b u e => Heap.get?_push_of_some _ e) (Nat.le_refl _) ?_, rfl, q _ hf⟩
  exact ⟨z, us, r, ⟨_, Heap.get?_push_size _ rfl, rfl, _, rfl⟩⟩
theorem pe_lst (h : PA X es t) : PE X (.List es pos) (tLst t) := by
  intro pins s σ H Q I hq
  refine wpAny_List_spliced (thn (h pos pins s σ H _ I hq) fun us s1 ⟨xs, H1, I1, r, z, q⟩ => ⟨by rw [← r.length]; exact z, ?_⟩)
  have hf : H1 s1.heap.objs.size = none := I1.hok.fresh (Nat.le_refl _)
  refine ⟨.ref s1.heap.objs.size, upd H1 s1.heap.objs.size (.lst xs), I1.laid (t' := s1.toks) (fun b u e => Heap.get?_push_of_some _ e) (Nat.le_refl _) ?_, rfl, q _ hf⟩
  exact ⟨z, us, 0, r, Heap.get?_push_size _ rfl⟩
end

/-! ### what a def promises -/
/-- a def's promise: the bound arguments in the parameters' order, the heap, the wanted end, the wanted exception -/
abbrev Sp := List V → Hp → VK → XK → Prop
/-- how an exception lies behind a call (file 08 gives it): the callers' frames, abstract heap and state ahead of the call, the wish, the exception, the state -/
abbrev CXT := List Env → Hp → Shared → XK → Value → Shared → Prop

/-- the state at a call -/
structure Env0 (P : Program) (w : World) (K : PySem.W.Frag) (mg : Str → Option Value) (base : Heap) (A : Around) (outer : List Env) (s : Shared) (H : Hp) : Prop where
  frames : A.frames = some outer
  mod : Mod K mg base
  bs : ∀ b o, base.get? b = some o → s.heap.get? b = some o ∧ H b = none
  bsz : base.objs.size ≤ s.heap.objs.size
  funs : s.heap.FunFrames base outer
  frf : ∀ b ∈ frs outer, H b = none
  hok : HOk P w H s.heap
  bare : AllBare s.gens
/-- a call's end -/
def CE (outer : List Env) (P : Program) (w : World) (H : Hp) (s : Shared) (Q : VK) (u : Value) (s' : Shared) : Prop :=
  ∃ v H', s'.os = s.os ∧ AllBare s'.gens ∧ Un (frs outer) [] H H' s.heap s'.heap ∧ HOk P w H' s'.heap ∧ RelV v u ∧ Q v H'
def CR (CX : CXT) (outer : List Env) (P : Program) (w : World) (H : Hp) (s : Shared) (Q : VK) (E : XK) (r : Result) (s' : Shared) : Prop :=
  match r with
  | .ok (.ret u) => CE outer P w H s Q u s'
  | .ok _ => False
  | .error e => CX outer H s E e s'
structure FnOk (P : Program) (w : World) (K : PySem.W.Frag) (mg : Str → Option Value) (base : Heap) (CX : CXT) (k : Nat) (f : Addr) (fd : FuncData) (ps : List Str) (sp : Sp) : Prop where
  len : ∀ vs H Q E, sp vs H Q E → vs.length = ps.length
  run : ∀ (A : Around) (outer : List Env) (s : Shared) (H : Hp) (args : Args) (us : List Value) (vs : List V) (Q : VK) (E : XK), Room k A → Env0 P w K mg base A outer s H → BindsTo s fd args (ps.zip us) → Vals vs us → sp vs H Q E →
    codeAny (model P w) A (.call (.ref f) args) (CR CX outer P w H s Q E) s
theorem Env0.make {P : Program} {w : World} {K : PySem.W.Frag} {mg : Str → Option Value} {base : Heap} {A : Around} {outer : List Env} {s : Shared} {H : Hp} (e : Env0 P w K mg base A outer s H) (C : Addr) (us : List Value) (kw : List (Str × Value)) :
    Env0 P w K mg base (A.under (.builtin "type.__call__" ⟨.ref C :: us, kw⟩)) outer s H := ⟨by first | exact e.frames | (simpa [Around.under, Code.envs, Code.isFrame, pushEnvs] using e.frames), e.mod, e.bs, e.bsz, e.funs, e.frf, e.hok, e.bare⟩
section
variable {X : Cx} {pins : List (Addr × Obj)} {σ : St} {H : Hp} {s s' : Shared}
/-- from a body: what a callee wants -/
theorem Inv.env0 (I : Inv X pins σ H s) : Env0 X.prog X.w X.K X.mg X.base X.A X.stack s H :=
  ⟨I.ok.frames, I.ok.mod, I.bs, Nat.le_trans I.ok.bsz I.sz, I.stack, I.stkFree, I.hok, I.bare⟩
/-- behind a call -/
theorem Inv.after {Q : VK} {u : Value} (I : Inv X pins σ H s) (h : CE X.stack X.prog X.w H s Q u s') : EP X pins σ Q u s' := by
  obtain ⟨v, H', os, bare, un, hok, r, q⟩ := h
  obtain ⟨hh, g, d, t, os'⟩ := s'
  obtain rfl : os' = s.os := os
  exact ⟨v, H', I.call (h' := hh) (g' := g) (d' := d) (t' := t) (ch := []) un hok bare (fun b z => absurd z (by simp)), r, q⟩
end

/-! ### calls -/
/-- f(..): the written arguments, then the defaults dvs; E: what is wanted of an exception -/
def tCall (sp : Sp) (dvs : List V) (E : XK) (t : TA) : TE := fun σ H Q => t σ H fun vs H1 => sp (vs ++ dvs) H1 Q E
inductive XMeth (C : Addr) (m : Str) (x : V) (H : Hp) (R : Prop) : Prop
  | mk (a dx : Addr) (fs : List (Str × V)) (e : x = .ref a) (h : H a = some (.ins C dx fs)) (l : fs.lookup m = none) (q : R)
/-- o.m(..) of an instance of the class at C -/
def tMeth (C : Addr) (m : Str) (sp : Sp) (dvs : List V) (E : XK) (ta : TE) (t : TA) : TE := fun σ H Q => ta σ H fun x H1 => XMeth C m x H1 (t σ H1 fun vs H2 => sp (x :: (vs ++ dvs)) H2 Q E)
/-- C(..): a new instance and its dict, then __init__ -/
def tMake (C : Addr) (sp : Sp) (dvs : List V) (E : XK) (t : TA) : TE := fun σ H Q => t σ H fun vs H1 => ∀ x dx, H1 x = none → H1 dx = none → dx ≠ x →
  sp (.ref x :: (vs ++ dvs)) (upd (upd H1 dx (.own x)) x (.ins C dx [])) (fun v H2 => v = .non ∧ Q (.ref x) H2) E

/-- how the parameters are bound: us the positional arguments, kw the keywords' values by name, ds the defaults that fill up -/
def Binds (K : PySem.W.Frag) (fd : FuncData) (ps : List Str) (ds : List Value) : Prop :=
  ∀ (s : Shared) (us : List Value), K.In s.heap → (us ++ ds).length = ps.length → BindsTo s fd ⟨us, []⟩ (ps.zip (us ++ ds))
/-- every parameter is given -/
theorem Binds.all {K : PySem.W.Frag} {fd : FuncData} {ps : List Str} (h : ∀ us : List Value, us.length = ps.length → bindArgs fd ⟨us, []⟩ = pure (ps.zip us)) : Binds K fd ps [] := fun s us _ hl => by
  rw [List.append_nil] at hl ⊢
  exact .of_eq (h us hl)

/-- an exception of a callee reaches what this body wants of exceptions -/
def Passes (CX : CXT) (X : Cx) (E : XK) : Prop := ∀ (pins : List (Addr × Obj)) (σ : St) (H : Hp) (s : Shared) (e : Value) (s' : Shared), Inv X pins σ H s → CX X.stack H s E e s' → X.xe e s'

section
variable {X : Cx} {CX : CXT} {k : Nat} {f C : Addr} {fd : FuncData} {ps : List Str} {sp : Sp} {dvs : List V} {ds : List Value} {E : XK} {x m : Str} {p pos apos : Pos} {e o : Expr} {es : List Expr} {ta : TE} {t : TA}

/-- the callee runs -/
theorem run_fn {pins : List (Addr × Obj)} {σ : St} {H : Hp} {s : Shared} {Q : VK} {us : List Value} {vs : List V} (F : FnOk X.prog X.w X.K X.mg X.base CX k f fd ps sp) (hr : Room k X.A) (hb : Binds X.K fd ps ds) (hd : Vals dvs ds) (hx : Passes CX X E)
    (I : Inv X pins σ H s) (r : Vals vs us) (h : sp (vs ++ dvs) H Q E) : wpAny (model X.prog X.w) X.A (call (.ref f) us) (EP X pins σ Q) X.xe s := by
  have r2 : Vals (vs ++ dvs) (us ++ ds) := r.append hd
  have hl : (us ++ ds).length = ps.length := by rw [← r2.length]; exact F.len _ _ _ _ h
  refine wpAny_call (codeAny_mono (F.run X.A X.stack s H ⟨us, []⟩ (us ++ ds) (vs ++ dvs) Q E hr I.env0 (hb s us I.kIn hl) r2 h) fun r s' hq => ?_)
  cases r with
  | error e => exact hx pins σ H s e s' I hq
  | ok fl =>
    cases fl with
    | ret u => exact I.after hq
    | next => exact False.elim hq
    | brk => exact False.elim hq
    | cont => exact False.elim hq

theorem pe_call (F : FnOk X.prog X.w X.K X.mg X.base CX k f fd ps sp) (hr : Room k X.A) (hg : Gl X x) (hm : X.mg x = some (.ref f)) (hk : PySem.W.keepIn X.K (.ref f) = true) (hb : Binds X.K fd ps ds) (hd : Vals dvs ds) (hx : Passes CX X E)
    (ha : PA X (e :: es) t) (hdb : (x == ("__debug__" : Str)) = false := by decide) (he : starEach (e :: es) X.env = (false, eval e X.env) :: starEach es X.env := by rfl) (hpl : (backTo pos (starEach es X.env)).any (·.1) = false := by rfl) :
    PE X (.Call (.Name x p) (e :: es) [] pos) (tCall sp dvs E t) := by
  intro pins s σ H Q I h
  refine wpAny_Call_Name_kw (ld_glob I hg hm ?_ hdb)
  refine PySem.W.callWith_K (h₀ := X.base) I.ok.mod.kin hk (thn (ha pos pins s σ H _ I h) fun us s1 ⟨vs, H1, I1, r, q⟩ => ⟨I1.kIn, ?_⟩) he hpl
  exact run_fn F hr hb hd hx I1 r q
/-- o.m() -/
theorem pe_meth0 {pl : Sem Bool} (he : PE X o ta) (c : Cls X.K C) (hm : Meth X.K C m f) (F : FnOk X.prog X.w X.K X.mg X.base CX k f fd ps sp) (hr : Room k X.A) (hb : Binds X.K fd ps ds) (hd : Vals dvs ds) (hx : Passes CX X E)
    (ht : eval (.Call (.Attribute o m apos) [] [] pos) X.env = (do
      let ov ← eval o X.env
      standAt apos.atName
      let (f, first) ← holding [ov] (getMethod ov m pl)
      callWith pos f first (backTo pos (starEach [] X.env)) (backToKw pos (keywordEach [] X.env))) := by rfl) :
    PE X (.Call (.Attribute o m apos) [] [] pos) (tMeth C m sp dvs E ta tNil) := by
  intro pins s σ H Q I h
  refine PySem.W.methodCall_KW (pl := pl) (thn (he pins s σ H _ I h) fun u s1 ⟨x, H1, I1, rx, a, dx, fs, ex, ea, l, q⟩ => ?_) ht
  subst ex
  obtain rfl : u = Value.ref a := rx
  refine getmeth_ok I1 ea c hm l ?_
  exact PySem.W.callWith_K0 (first := [.ref a]) I1.kIn hm.kp (run_fn (us := [.ref a]) (vs := [.ref a]) F hr hb hd hx I1 (.cons rfl .nil) q)

/-- what a class must have to be made -/
structure Mk (K : PySem.W.Frag) (C f : Addr) : Prop where
  makes : PySem.W.makesIn K C = true
  init : PySem.W.findIn K (.ref C) "__init__" = some (some (.ref f))
  fn : PySem.W.isFn K (.ref f) = true
  kp : PySem.W.keepIn K (.ref C) = true

theorem run_make {pins : List (Addr × Obj)} {σ : St} {H : Hp} {s : Shared} {Q : VK} {us : List Value} {vs : List V} (M : Mk X.K C f) (F : FnOk X.prog X.w X.K X.mg X.base CX k f fd ps sp) (hr : Room (k + 1) X.A) (hb : Binds X.K fd ps ds) (hd : Vals dvs ds)
    (hx : Passes CX X E) (I : Inv X pins σ H s) (r : Vals vs us)
    (h : ∀ x dx, H x = none → H dx = none → dx ≠ x → sp (.ref x :: (vs ++ dvs)) (upd (upd H dx (.own x)) x (.ins C dx [])) (fun v H2 => v = .non ∧ Q (.ref x) H2) E) :
    wpAny (model X.prog X.w) X.A (call (.ref C) us) (EP X pins σ Q) X.xe s := by
  have hq := h (s.heap.objs.size + 1) s.heap.objs.size (I.hok.fresh (Nat.le_succ _)) (I.hok.fresh (Nat.le_refl _)) (Nat.ne_of_lt (Nat.lt_succ_self _))
  have I2 := Inv.made (C := C) I
  have r2 : Vals (V.ref (s.heap.objs.size + 1) :: (vs ++ dvs)) (Value.ref (s.heap.objs.size + 1) :: (us ++ ds)) := .cons rfl (r.append hd)
  have hl : (Value.ref (s.heap.objs.size + 1) :: us ++ ds).length = ps.length := by
    have e := r2.length
    rw [F.len _ _ _ _ hq] at e
    exact e.symm
  refine wpAny_call (make_map (f := f) I.kIn M.makes M.init (beq_iff_eq.mp M.fn) (codeAny_mono (F.run _ X.stack _ _ ⟨Value.ref (s.heap.objs.size + 1) :: us, []⟩ (Value.ref (s.heap.objs.size + 1) :: (us ++ ds)) _ _ E (hr.make C us [])
    (I2.env0.make C us []) (hb _ (Value.ref (s.heap.objs.size + 1) :: us) I2.kIn hl) r2 hq) fun r s' hq' => ?_))
  cases r with
  | error e => exact hx pins σ _ _ e s' I2 hq'
  | ok fl =>
    cases fl with
    | ret u =>
      obtain ⟨v, H', I3, rv, ev, q3⟩ := I2.after hq'
      subst ev
      exact ⟨rv, ⟨V.ref (s.heap.objs.size + 1), H', I3, rfl, q3⟩⟩
    | next => exact False.elim hq'
    | brk => exact False.elim hq'
    | cont => exact False.elim hq'
theorem pe_make (M : Mk X.K C f) (F : FnOk X.prog X.w X.K X.mg X.base CX k f fd ps sp) (hr : Room (k + 1) X.A) (hg : Gl X x) (hm : X.mg x = some (.ref C)) (hb : Binds X.K fd ps ds) (hd : Vals dvs ds) (hx : Passes CX X E)
    (ha : PA X (e :: es) t) (hdb : (x == ("__debug__" : Str)) = false := by decide) (he : starEach (e :: es) X.env = (false, eval e X.env) :: starEach es X.env := by rfl) (hpl : (backTo pos (starEach es X.env)).any (·.1) = false := by rfl) :
    PE X (.Call (.Name x p) (e :: es) [] pos) (tMake C sp dvs E t) := by
  intro pins s σ H Q I h
  refine wpAny_Call_Name_kw (ld_glob I hg hm ?_ hdb)
  refine PySem.W.callWith_K (h₀ := X.base) I.ok.mod.kin M.kp (thn (ha pos pins s σ H _ I h) fun us s1 ⟨vs, H1, I1, r, q⟩ => ⟨I1.kIn, ?_⟩) he hpl
  exact run_make M F hr hb hd hx I1 r q
end

/-! ### keywords -/
/-- the values of the keywords, from the left -/
def PK (X : Cx) (kws : List Keyword) (t : TA) : Prop :=
  ∀ (pos : Pos) (pins : List (Addr × Obj)) (s : Shared) (σ : St) (H : Hp) (Q : List V → Hp → Prop), Inv X pins σ H s → t σ H Q → wpAny (model X.prog X.w) X.A (evalAll ((backToKw pos (keywordEach kws X.env)).map (·.2))) (AP X pins σ Q) X.xe s
section
variable {X : Cx} {CX : CXT} {k : Nat} {f C : Addr} {fd : FuncData} {ps ks : List Str} {sp : Sp} {E : XK} {x m : Str} {p pos apos kpos : Pos} {e o : Expr} {es : List Expr} {kws : List Keyword} {te ta : TE} {t tk : TA} {nm : Option Str}
theorem pk_nil : PK X [] tNil := fun _ _ _ _ H Q I h => wpAny_evalAll_nil ⟨[], H, I, .nil, h⟩
theorem pk_cons (ha : PE X e te) (hr : PK X kws t) : PK X (⟨nm, e, kpos⟩ :: kws) (tCons te t) := by
  intro pos pins s σ H Q I h
  show wpAny _ _ (evalAll ((do let v ← eval e X.env; standAt pos; pure v) :: (backToKw pos (keywordEach kws X.env)).map (·.2))) _ _ s
  refine wpAny_evalAll_cons (wpAny_bind (thn (ha pins s σ H _ I h) fun u s1 ⟨x, H1, I1, r1, q1⟩ => wpAny_bind (wpAny_standAt (wpAny_pure ?_))))
  exact thn (hr pos pins s1 σ H1 _ I1 q1) fun us s2 ⟨xs, H2, I2, r2, q2⟩ => ⟨x :: xs, H2, I2, .cons r1 r2, q2⟩

variable {g : List Value → List Value → List Value} {gV : List V → List V → List V}
end

/-! ### a def's body keeps its promise -/
/-- names: the parameters first -/
structure FnScope (N P : List Str) (sc : Scope) : Prop where
  kind : sc.kind = .function
  co : sc.isCoroutine = false
  gen : sc.isGenerator = false
  nd : N.Nodup
  pre : N.take P.length = P
  par : ∀ x ∈ P, sc.names.lookup x = some .local ∨ sc.names.lookup x = some .cell
  nofree : ∀ y ∈ sc.names, y.2 ≠ .free

theorem bindL_out {kindOf : Str → Option NameKind} {x : Str} : ∀ {binds : List (Str × Value)} {m : Str → Option Value}, (∀ v, (x, v) ∉ binds) → bindL kindOf binds m x = m x
  | [], _, _ => rfl
  | (n, v) :: r, m, h => by
    unfold bindL
    rw [bindL_out fun w hw => h w (List.mem_cons_of_mem _ hw)]
    split
    · have : x ≠ n := by rintro rfl; exact h v List.mem_cons_self
      simp [this]
    · rfl
theorem bindC_out {kindOf : Str → Option NameKind} {x : Str} : ∀ {binds : List (Str × Value)} {m : Str → Option Value}, (∀ v, (x, v) ∉ binds) → bindC kindOf binds m x = m x
  | [], _, _ => rfl
  | (n, v) :: r, m, h => by
    unfold bindC
    rw [bindC_out fun w hw => h w (List.mem_cons_of_mem _ hw)]
    split
    · rfl
    · have : x ≠ n := by rintro rfl; exact h v List.mem_cons_self
      simp [this]
theorem bindL_get {kindOf : Str → Option NameKind} {x : Str} {v : Value} : ∀ {P : List Str} {vs : List Value} {i : Nat} {m : Str → Option Value}, P.Nodup → P[i]? = some x → vs[i]? = some v → kindOf x = some .local →
    bindL kindOf (P.zip vs) m x = some v
  | [], _, _, _, _, h, _, _ => by simp at h
  | _ :: _, [], _, _, _, _, h, _ => by simp at h
  | p :: P, w :: vs, 0, m, nd, h1, h2, hk => by
    simp at h1 h2; subst h1; subst h2
    show bindL kindOf ((p, w) :: P.zip vs) m p = _
    unfold bindL
    rw [bindL_out fun v hv => (List.nodup_cons.mp nd).1 (List.of_mem_zip hv).1, if_pos hk]
    simp
  | p :: P, w :: vs, i + 1, m, nd, h1, h2, hk => by
    show bindL kindOf ((p, w) :: P.zip vs) m x = _
    unfold bindL
    exact bindL_get (i := i) (List.nodup_cons.mp nd).2 (by simpa using h1) (by simpa using h2) hk
theorem bindC_get {kindOf : Str → Option NameKind} {x : Str} {v : Value} : ∀ {P : List Str} {vs : List Value} {i : Nat} {m : Str → Option Value}, P.Nodup → P[i]? = some x → vs[i]? = some v → kindOf x ≠ some .local →
    bindC kindOf (P.zip vs) m x = some v
  | [], _, _, _, _, h, _, _ => by simp at h
  | _ :: _, [], _, _, _, _, h, _ => by simp at h
  | p :: P, w :: vs, 0, m, nd, h1, h2, hk => by
    simp at h1 h2; subst h1; subst h2
    show bindC kindOf ((p, w) :: P.zip vs) m p = _
    unfold bindC
    rw [bindC_out fun v hv => (List.nodup_cons.mp nd).1 (List.of_mem_zip hv).1, if_neg hk]
    simp
  | p :: P, w :: vs, i + 1, m, nd, h1, h2, hk => by
    show bindC kindOf ((p, w) :: P.zip vs) m x = _
    unfold bindC
    exact bindC_get (i := i) (List.nodup_cons.mp nd).2 (by simpa using h1) (by simpa using h2) hk

/-- the names' values at the entry -/
def start (N : List Str) (vs : List V) : St := vs.map some ++ List.replicate (N.length - vs.length) none

/-- the context of a def's body, at its entry; an exception leaves the frame, then lies as CX says -/
def cxOf (CX : CXT) (P : Program) (w : World) (K : PySem.W.Frag) (mg : Str → Option Value) (base : Heap) (N : List Str) (qual : Str) (scope : Scope) (f : Addr) (cd : Value) (A : Around) (outer : List Env) (s : Shared) (H : Hp) (E : XK) : Cx where
  prog := P
  w := w
  K := K
  mg := mg
  base := base
  A := A.deeper (envOfC qual scope s.heap.objs.size f cd)
  N := N
  s₀ := s
  H₀ := H
  env := envOfC qual scope s.heap.objs.size f cd
  outer := outer
  stack := envOfC qual scope s.heap.objs.size f cd :: outer
  ex := []
  calm := true
  fn := fun _ => true
  pn := []
  xe := fun e s' => wpAny (model P w) (A.deeper (envOfC qual scope s.heap.objs.size f cd)) (leaving (envOfC qual scope s.heap.objs.size f cd) e) (fun _ s'' => CX outer H s E e s'') (fun e' s'' => CX outer H s E e' s'') s'

theorem cell_has {sc : Scope} {n : Nat} {x : Str} (h : sc.names.lookup x = some .cell) : ∃ c, (cellsFrom n sc.names []).lookup x = some c := by
  have q := PySem.W.cellsFrom_some sc.names n [] (.inl h)
  exact Option.isSome_iff_exists.mp q

theorem inv_start {CX : CXT} {P : Program} {w : World} {K : PySem.W.Frag} {mg : Str → Option Value} {base : Heap} {N ps : List Str} {qual : Str} {scope : Scope} {f : Addr} {cd : Value} {A : Around} {outer : List Env} {s s1 : Shared} {H : Hp} {E : XK} {us : List Value} {vs : List V}
    {c : Bool} (S : FnScope N ps scope) (hd : c = true → A.handled = none) (hdl : HdX A s.heap H (frs outer) [] []) (e0 : Env0 P w K mg base A outer s H) (hl : vs.length = ps.length) (r : Vals vs us)
    (x : InCallC s s.heap.objs.size (bindL (envOfC qual scope s.heap.objs.size f cd).kindOf (ps.zip us) fun _ => none) (cellsFrom (s.heap.objs.size + 1) scope.names []) (bindC (envOfC qual scope s.heap.objs.size f cd).kindOf (ps.zip us) fun _ => none) s1) :
    Inv { cxOf CX P w K mg base N qual scope f cd A outer s H E with calm := c } [] (start N vs) H s1 := by
  have hpl : ps.length ≤ N.length := by have := congrArg List.length S.pre; rw [List.length_take] at this; omega
  obtain ⟨h1, tk, rfl, hk⟩ := x.done
  have noA : ∀ b : Addr, b ∉ (cxOf CX P w K mg base N qual scope f cd A outer s H E).ex := fun b z => absurd (show b ∈ ([] : List Addr) from z) (by simp)
  refine ⟨⟨e0.mod, S.kind, rfl, rfl, Nat.le_refl _, fun y z c h1 h2 => ?_, fun y hy => ?_, fun y c _ h => ?_, hd, Around.frames_deeper e0.frames, .inr ⟨rfl, rfl⟩, fun b z => absurd z (noA b), e0.bs, e0.bsz, fun b _ _ => noA b, fun b z => absurd z (noA b), e0.funs, e0.frf, hdl⟩,
    rfl, e0.bare, Un.kept hk, ⟨_, x.toInCall.ns, fun i y v h1 h2 h3 => ?_⟩, fun y c h => ⟨_, x.cell y c h⟩, e0.hok.fresh (Nat.le_refl _), fun y c h => ?_, fun p hp => absurd (show p ∈ ([] : List (Addr × Obj)) from hp) (by simp), e0.hok.kept hk, ?_⟩
  · exact name_of_addr x.apart (PySem.mem_of_lookup h1) (PySem.mem_of_lookup h2)
  · have hy : scope.names.lookup y = some .cell ∨ scope.names.lookup y = some .free := hy
    rcases hy with hy | hy
    · exact cell_has hy
    · exact absurd rfl (S.nofree _ (PySem.mem_of_lookup hy))
  · exact Nat.le_of_lt (x.above y c (PySem.mem_of_lookup h))
  · have hi : i < vs.length := by
      unfold start at h2
      by_cases hi : i < vs.length
      · exact hi
      · rw [List.getElem?_append_right (by simpa using hi)] at h2
        rw [List.getElem?_replicate] at h2
        split at h2 <;> cases h2
    have ha : vs[i]? = some v := by
      unfold start at h2
      rw [List.getElem?_append_left (by simpa using hi), List.getElem?_map] at h2
      cases e : vs[i]? with
      | none => rw [e] at h2; cases h2
      | some a => rw [e] at h2; cases h2; rfl
    obtain ⟨u, hu, rv⟩ := r.get ha
    have hp : ps[i]? = some y := by
      rw [← S.pre, List.getElem?_take_of_lt (by omega)]; exact h1
    have ndP : ps.Nodup := by rw [← S.pre]; exact S.nd.sublist (List.take_sublist _ _)
    refine ⟨u, rv, ?_⟩
    rcases S.par y (List.mem_of_getElem? hp) with k | k
    · exact .inl ⟨k, bindL_get ndP hp hu k⟩
    · obtain ⟨c, e⟩ := cell_has (n := s.heap.objs.size + 1) k
      refine .inr ⟨.inl k, c, e, ?_⟩
      have q := x.cell y c e
      rw [bindC_get ndP hp hu (by show scope.names.lookup y ≠ _; rw [k]; decide)] at q
      exact q
  · exact e0.hok.fresh (Nat.le_of_lt (x.above y c (PySem.mem_of_lookup h)))
  · unfold start
    show _ = N.length
    rw [List.length_append, List.length_map, List.length_replicate]
    omega

/-- THE RULE: a def (or a method) of the text, by its body. The body's reading t is chosen for each entry; it is run at the parameters' values -/
theorem fn_of {CX : CXT} {P : Program} {w : World} {K : PySem.W.Frag} {mg : Str → Option Value} {base : Heap} {k : Nat} {f : Addr} {name qual : Str} {params : Arguments} {body : List Stmt} {scope : Scope} {dV kV doc pm cdv ct oc : Value} {an od : Option Addr}
    {osl : Array (Option Value)} {N ps : List Str} {sp : Sp} (lk : K.lookup f = some ⟨oc, od, .func (PySem.W.fnOf name qual params body scope dV kV doc pm an cdv ct), osl⟩) (hcd : PySem.W.codeIn K cdv qual = true) (S : FnScope N ps scope)
    (len : ∀ vs H Q E, sp vs H Q E → vs.length = ps.length)
    (hbody : ∀ (A : Around) (outer : List Env) (s : Shared) (H : Hp) (vs : List V) (Q : VK) (E : XK), Room k (A.deeper (envOfC qual scope s.heap.objs.size f cdv)) → sp vs H Q E →
      ∃ t, PSs (cxOf CX P w K mg base N qual scope f cdv A outer s H E) body t ∧ t { nx := fun _ H' => Q .non H', rt := Q } (start N vs) H) :
    FnOk P w K mg base CX (k + 1) f (PySem.W.fnOf name qual params body scope dV kV doc pm an cdv ct) ps sp := by
  refine ⟨len, fun A outer s H args us vs Q E hr e0 hb r hsp => ?_⟩
  have hl := len _ _ _ _ hsp
  have KX : K.In s.heap := e0.mod.kin.keeps fun b o e => (e0.bs b o e).1
  have lim : s.heap.NoLimit := e0.mod.nolimit.keeps fun b o e => (e0.bs b o e).1
  have hkind : ∀ y ∈ ps.zip us, scope.names.lookup y.1 = some .local ∨ (scope.names.lookup y.1 = some .cell ∧ ((cellsFrom (s.heap.objs.size + 1) scope.names []).lookup y.1).isSome = true) := fun ⟨n, v⟩ hy => by
    rcases S.par n (List.of_mem_zip hy).1 with q | q
    · exact .inl q
    · exact .inr ⟨q, PySem.W.cellsFrom_some _ _ _ (.inl q)⟩
  refine codeAny_call_function hr.depth (KX _ _ lk) rfl S.co S.gen rfl (PySem.W.codeRec_of KX hcd) (hb _ _ _ _ ?_)
  refine wpAny_newFunctionEnv_cells S.kind hkind fun env he s1 x => ?_
  subst he
  refine ⟨lim.keeps x.toInCall.keep, codeAny_func ?_⟩
  obtain ⟨t, ht, hq⟩ := hbody A outer s H vs Q E (hr.deeper _) hsp
  have I : Inv (cxOf CX P w K mg base N qual scope f cdv A outer s H E) [] (start N vs) H s1 := inv_start (c := true) S (fun _ => hr.hd) (.inl hr.hd) e0 hl r x
  refine wpAny_mono (ht [] s1 (start N vs) H _ I hq) (fun fl s' hs => ?_) fun e s' hs => hs
  have fin : ∀ {σ' : St} {H' : Hp} {v : V} {u : Value}, Inv (cxOf CX P w K mg base N qual scope f cdv A outer s H E) [] σ' H' s' → RelV v u → Q v H' → CE outer P w H s Q u s' :=
    fun {σ' H' v u} J rv q => ⟨v, H', J.os, J.bare, J.base, J.hok, rv, q⟩
  cases fl with
  | ret u =>
    obtain ⟨v, σ', H', J, rv, q⟩ := hs
    exact fin J rv q
  | next =>
    obtain ⟨σ', H', J, q⟩ := hs
    exact fin (v := V.non) (u := Value.none) J rfl q
  | brk =>
    obtain ⟨_, _, _, q⟩ := hs
    exact False.elim q
  | cont =>
    obtain ⟨_, _, _, q⟩ := hs
    exact False.elim q
end L2

namespace L2
open PySem PySem.Spec PyProof.Rows
section
variable {X : Cx} {x : Str} {p pos : Pos} {e : Expr} {es : List Expr} {t : TA} {id T : String} {r : List V → Hp → VK → Prop}

def tCB (r : List V → Hp → VK → Prop) (t : TA) : TE := fun σ H Q => t σ H fun vs H1 => r vs H1 Q
/-- f(e, ..), f a built-in function -/
theorem pe_callB (hc : CallR X (.builtin id) r) (hg : Gl X x) (hm : X.mg x = none) (hv : bootBuiltins x = some (.builtin id)) (ha : PA X (e :: es) t) (hn : x ≠ "__name__" := by decide) (hdb : (x == ("__debug__" : Str)) = false := by decide)
    (he : starEach (e :: es) X.env = (false, eval e X.env) :: starEach es X.env := by rfl) (hpl : (backTo pos (starEach es X.env)).any (·.1) = false := by rfl) : PE X (.Call (.Name x p) (e :: es) [] pos) (tCB r t) := by
  intro pins s σ H Q I h
  refine wpAny_Call_Name_kw (ld_blt I hg hm hv ?_ hn hdb)
  exact PyProof.Rows.callWith_builtin1 (thn (ha pos pins s σ H _ I h) fun us s1 ⟨vs, H1, I1, r1, q1⟩ => hc pins s1 σ H1 vs us Q I1 r1 q1) he hpl
/-- T(e, ..), T a built-in type -/
theorem pe_callTy (hc : CallR X (.type T) r) (hg : Gl X x) (hm : X.mg x = none) (hv : bootBuiltins x = some (.type T)) (ha : PA X (e :: es) t) (hn : x ≠ "__name__" := by decide) (hdb : (x == ("__debug__" : Str)) = false := by decide)
    (he : starEach (e :: es) X.env = (false, eval e X.env) :: starEach es X.env := by rfl) (hpl : (backTo pos (starEach es X.env)).any (·.1) = false := by rfl) : PE X (.Call (.Name x p) (e :: es) [] pos) (tCB r t) := by
  intro pins s σ H Q I h
  refine wpAny_Call_Name_kw (ld_blt I hg hm hv ?_ hn hdb)
  exact PyProof.Rows.callWith_type1 (thn (ha pos pins s σ H _ I h) fun us s1 ⟨vs, H1, I1, r1, q1⟩ => hc pins s1 σ H1 vs us Q I1 r1 q1) he hpl
end
end L2

namespace HT
open PySem PyProof.Rows

section
open PySem.SeqAt
open PySem.AutoSeq1 (wpAny_loadPart')
open PySem.MeetsSeq PySem.MeetsSeq2 PySem.MeetsSeq3

end

section
variable {prog : Program} {w : World} {A : Around} {E : Value → Shared → Prop} {s : Shared}

/-! ### t[a:b], not the whole -/
/-- a slice's bound as a place among n (d where it is left out) -/
def sIx (n d : Nat) : Option Int → Nat
  | none => d
  | some v => if v < 0 then (v + (n : Int)).toNat else min v.toNat n
end
end HT

namespace L2
open PySem PySem.Spec PyProof.Rows

/-! ### the parts of a slice -/
abbrev TO := St → Hp → (Option Int → Hp → Prop) → Prop
/-- a slice's part (left out, or an int) -/
def PO (X : Cx) (e : Option Expr) (t : TO) : Prop :=
  ∀ (pins : List (Addr × Obj)) (s : Shared) (σ : St) (H : Hp) (Q : Option Int → Hp → Prop), Inv X pins σ H s → t σ H Q →
    wpAny (model X.prog X.w) X.A (evalPart e X.env) (fun u s' => ∃ o H', Inv X pins σ H' s' ∧ IsPart u o ∧ Q o H') X.xe s
def tNoPart : TO := fun _ H Q => Q none H
def tPart (t : TE) : TO := fun σ H Q => t σ H fun x H1 => ∃ i, x = .int i ∧ Q (some i) H1

section
variable {X : Cx} {e : Expr} {te : TE} {lo hi : Option Expr} {tl th : TO} {pos p2 : Pos}

theorem po_none : PO X none tNoPart := by
  intro pins s σ H Q I h
  rw [evalPart_none]
  exact wpAny_pure ⟨none, H, I, .none, h⟩
theorem po_some (h : PE X e te) : PO X (some e) (tPart te) := by
  intro pins s σ H Q I hw
  rw [evalPart_some]
  refine thn (h pins s σ H _ I hw) fun u s1 ⟨x, H1, I1, r1, q1⟩ => ?_
  obtain ⟨i, rfl, q⟩ := q1
  obtain ⟨t, rfl⟩ := r1
  exact ⟨some i, H1, I1, .int i t, q⟩

/-- what a slice of a value is, by values: the slice object stands at sl -/
def SlR (X : Cx) (r : V → Option Int → Option Int → Hp → VK → Prop) : Prop :=
  ∀ (pins : List (Addr × Obj)) (s : Shared) (σ : St) (H : Hp) (x : V) (v vl vu : Value) (lo hi : Option Int) (sl : Addr) (Q : VK), Inv X pins σ H s → RelV x v → s.heap.IsSliceOf sl vl vu .none → IsPart vl lo → IsPart vu hi → r x lo hi H Q →
    ∃ T id, typeLookup (.type T) "__getitem__" = pure (some (.builtin id)) ∧ s.TypeIs v T ∧ wpAny (model X.prog X.w) X.A (getItem v (.ref sl)) (EP X pins σ Q) X.xe s
def tSl (r : V → Option Int → Option Int → Hp → VK → Prop) (te : TE) (tl th : TO) : TE := fun σ H Q => te σ H fun x H1 => tl σ H1 fun l H2 => th σ H2 fun u H3 => r x l u H3 Q
/-- a[lo:hi], any a -/
theorem pe_slice {r : V → Option Int → Option Int → Hp → VK → Prop} (hr : SlR X r) (he : PE X e te) (hl : PO X lo tl) (hu : PO X hi th) : PE X (.Subscript e (.Slice lo hi none p2) pos) (tSl r te tl th) := by
  intro pins s σ H Q I h
  refine Subscript_ (thn (he pins s σ H _ I h) fun v s1 ⟨x, H1, I1, r1, q1⟩ => ?_)
  refine wpAny_Slice (thn (hl pins s1 σ H1 _ I1 q1) fun vl s2 ⟨l, H2, I2, pl, q2⟩ => thn (hu pins s2 σ H2 _ I2 q2) fun vu s3 ⟨u, H3, I3, pu, q3⟩ => ?_)
  rw [evalPart_none]
  refine wpAny_pure ?_
  have I4 : Inv X pins σ H3 { s3 with heap := s3.heap.push { cls := .type "slice", data := .fields #[vl, vu, .none] } } := I3.kept (t' := s3.toks) fun b ob q => Heap.get?_push_of_some _ q
  obtain ⟨T, id, hT, ht, hg⟩ := hr pins { s3 with heap := s3.heap.push { cls := .type "slice", data := .fields #[vl, vu, .none] } } σ H3 x v vl vu l u s3.heap.objs.size Q I4 r1 (Heap.IsSliceOf.new ..) pl pu q3
  show wpAny (model X.prog X.w) X.A (subscriptTail e (.Slice lo hi none p2) v (.ref s3.heap.objs.size)) (EP X pins σ Q) X.xe { s3 with heap := s3.heap.push { cls := .type "slice", data := .fields #[vl, vu, .none] } }
  exact tail_any (ops := [.ref s3.heap.objs.size, v]) ht hT hg (by with_unfolding_all rfl)

/-- the items of xs[lo:hi] -/
def cutV (xs : List V) (lo hi : Option Int) : List V := (xs.drop (HT.sIx xs.length 0 lo)).take (HT.sIx xs.length xs.length hi - HT.sIx xs.length 0 lo)
theorem cutV_length (xs : List V) (lo hi : Option Int) : (cutV xs lo hi).length ≤ xs.length := by
  unfold cutV
  rw [List.length_take, List.length_drop]
  omega
/-! ### t < u, t + u -/
end
end L2

namespace L2
open PySem PySem.Spec PyProof.Rows

/-! ### places -/
/-- the place that an index of any sign means -/
def ixN (n : Nat) (i : Int) : Option Nat := if 0 ≤ i then (if i < n then some i.toNat else none) else if -(n : Int) ≤ i then some (i + n).toNat else none
def atI {α : Type} (xs : List α) (i : Int) : Option α := (ixN xs.length i).bind fun j => xs[j]?
theorem ixN_seq {n : Nat} {i : Int} {j : Nat} (h : ixN n i = some j) : seqIndex? i n = some j ∧ j < n ∧ -(n : Int) ≤ i ∧ i < n := by
  unfold ixN at h
  by_cases h0 : 0 ≤ i
  · rw [if_pos h0] at h
    by_cases h1 : i < n
    · rw [if_pos h1] at h
      have e : i.toNat = j := Option.some.inj h
      exact ⟨by rw [seqIndex_of h0 h1, e], by omega, by omega, h1⟩
    · rw [if_neg h1] at h; cases h
  · rw [if_neg h0] at h
    by_cases h1 : -(n : Int) ≤ i
    · rw [if_pos h1] at h
      have e : (i + n).toNat = j := Option.some.inj h
      exact ⟨by rw [seqIndex_neg (by omega) h1, e], by omega, h1, by omega⟩
    · rw [if_neg h1] at h; cases h
theorem atI_get {α : Type} {xs : List α} {i : Int} {v : α} (h : atI xs i = some v) : ∃ j, seqIndex? i xs.length = some j ∧ xs[j]? = some v ∧ j < xs.length ∧ -(xs.length : Int) ≤ i ∧ i < xs.length := by
  unfold atI at h
  cases e : ixN xs.length i with
  | none => rw [e] at h; cases h
  | some j =>
    rw [e] at h
    obtain ⟨h1, h2, h3, h4⟩ := ixN_seq e
    exact ⟨j, h1, h, h2, h3, h4⟩
theorem atI_nat {α : Type} {xs : List α} {j : Nat} {v : α} (h : xs[j]? = some v) : atI xs (j : Int) = some v := by
  have hj : j < xs.length := (List.getElem?_eq_some_iff.mp h).1
  have e : ixN xs.length (j : Int) = some j := by
    unfold ixN
    rw [if_pos (by omega), if_pos (by omega)]; simp
  unfold atI; rw [e]; exact h
theorem atI_last {α : Type} (xs : List α) (v : α) : atI (xs ++ [v]) (-1) = some v := by
  have hl : (xs ++ [v]).length = xs.length + 1 := by simp
  have e : ixN (xs ++ [v]).length (-1) = some xs.length := by
    unfold ixN
    rw [hl, if_neg (by decide), if_pos (by omega)]
    congr 1
    omega
  unfold atI
  rw [e]
  show (xs ++ [v])[xs.length]? = some v
  simp

/-! ### what may be subscripted -/
/-- what stands as an index of a plain subscript -/
def PlainIx (b : Expr) : Prop := ∀ o i, subscripted b false o i = operate [o, i] (getItem o i)
/-- a subscript by values -/
def IxR (X : Cx) (r : R2) : Prop :=
  ∀ (value slice : Expr) (pins : List (Addr × Obj)) (s : Shared) (σ : St) (H : Hp) (x y : V) (v u : Value) (Q : VK), Inv X pins σ H s → RelV x v → RelV y u → r x y H Q →
    subscripted slice false v u = operate [v, u] (getItem v u) → wpAny (model X.prog X.w) X.A (subscriptTail value slice v u) (EP X pins σ Q) X.xe s
/-- a call of a builtin's method by values: the receiver, the arguments -/
def MtR (X : Cx) (id : String) (r : V → List V → Hp → VK → Prop) : Prop :=
  ∀ (pins : List (Addr × Obj)) (s : Shared) (σ : St) (H : Hp) (x : V) (xs : List V) (v : Value) (us : List Value) (Q : VK), Inv X pins σ H s → RelV x v → Vals xs us → r x xs H Q →
    wpAny (model X.prog X.w) X.A (call (.builtin id) (v :: us)) (EP X pins σ Q) X.xe s
section
variable {X : Cx} {a b : Expr} {ta tb : TE} {pos : Pos}
/-- a[b] -/
theorem pe_ix {r : R2} (hr : IxR X r) (ha : PE X a ta) (hb : PE X b tb) (hs : PlainIx b) : PE X (.Subscript a b pos) (tOp r ta tb) := by
  intro pins s σ H Q I h
  exact Subscript_ (binT ha hb I h fun v u s2 x y H2 I2 rx ry q => hr a b pins s2 σ H2 x y v u Q I2 rx ry q (hs _ _))

inductive XIxL (K : PySem.W.Frag) (x y : V) (H : Hp) (Q : VK) : Prop
  | mk (p : Addr) (xs : List V) (i : Int) (v : V) (ex : x = .ref p) (ey : y = .int i) (s : SqL K H p xs) (a : atI xs i = some v) (q : Q v H)
def rIxL (K : PySem.W.Frag) : R2 := fun x y H Q => XIxL K x y H Q
inductive XIxT (K : PySem.W.Frag) (x y : V) (H : Hp) (Q : VK) : Prop
  | mk (p : Addr) (xs : List V) (i : Int) (v : V) (ex : x = .ref p) (ey : y = .int i) (s : SqT K H p xs) (a : atI xs i = some v) (q : Q v H)
def rIxT (K : PySem.W.Frag) : R2 := fun x y H Q => XIxT K x y H Q
def rIxS : R2 := fun x y H Q => ∃ z i c, x = .str z ∧ y = .int i ∧ z.length ≤ sizeLine ∧ atI z.cps.toList i = some c ∧ Q (.str ⟨#[c]⟩) H
theorem ix_list : IxR X (rIxL X.K) := by
  intro value slice pins s σ H x y v u Q I rx ry h hs
  obtain ⟨p, xs, i, z, rfl, rfl, hq, he, q⟩ := h
  cases rx
  obtain ⟨t, rfl⟩ := ry
  obtain ⟨its, r, pl, hz⟩ := I.list hq
  obtain ⟨j, h1, h2, h3, h4, h5⟩ := atI_get he
  obtain ⟨w, ew, rw'⟩ := r.get h2
  have hl := r.length
  have hn := line63
  have fin : EP X pins σ Q w s := ⟨z, H, I, rw', q⟩
  by_cases h0 : 0 ≤ i
  · have hj : i.toNat = j := by
      rw [seqIndex_of h0 h5] at h1
      exact Option.some.inj h1
    exact item_listR pl.isList h0 (by omega) (by rw [hj]; simpa using ew) fin hs
  · have hj : (i + (its.toArray.size : Int)).toNat = j := by
      rw [seqIndex_neg (by omega) h4] at h1
      rw [List.size_toArray, ← hl]
      exact Option.some.inj h1
    exact subscriptTail_builtinR (x := w) pl.isList.typeIs slot_list_getitem.lookup
      (wpAny_getItem_list_neg (Q := fun r s' => r = w ∧ EP X pins σ Q r s') pl.isList (by omega) (by rw [List.size_toArray] <;> omega) (by omega) (by rw [hj]; simpa using ew) ⟨rfl, fin⟩) hs
theorem ix_tup : IxR X (rIxT X.K) := by
  intro value slice pins s σ H x y v u Q I rx ry h hs
  obtain ⟨p, xs, i, z, rfl, rfl, hq, he, q⟩ := h
  cases rx
  obtain ⟨t, rfl⟩ := ry
  obtain ⟨its, r, pl, hz⟩ := I.tuple hq
  obtain ⟨j, h1, h2, h3, h4, h5⟩ := atI_get he
  obtain ⟨w, ew, rw'⟩ := r.get h2
  have hl := r.length
  have hn := line63
  have fin : EP X pins σ Q w s := ⟨z, H, I, rw', q⟩
  exact subscriptTail_builtinR (x := w) pl.typeIs slot_tuple_getitem.lookup
    (getItem_tuple (j := j) (Q := fun r s' => r = w ∧ EP X pins σ Q r s') pl (by omega) (by omega) (by rw [List.size_toArray, ← hl]; exact h1) (by simpa using ew) ⟨rfl, fin⟩) hs
theorem ix_str : IxR X rIxS := by
  intro value slice pins s σ H x y v u Q I rx ry h hs
  obtain ⟨z, i, c, rfl, rfl, hz, he, q⟩ := h
  obtain ⟨t, rfl⟩ := rx
  obtain ⟨t', rfl⟩ := ry
  obtain ⟨j, h1, h2, h3, h4, h5⟩ := atI_get he
  have hl : z.cps.toList.length = z.length := by simp [Str.length]
  rw [hl] at h1 h4 h5
  have hn := line63
  exact tail_any (typeIs_str s z t) slot_str_getitem.lookup (getItem_str (c := c) (by
    have e1 : decide (i < -(2 ^ 63 : Int)) = false := decide_eq_false (by omega)
    have e2 : decide (i ≥ 2 ^ 63) = false := decide_eq_false (by omega)
    rw [e1, e2, Bool.or_false]) (by rw [h1]; simpa using h2) ⟨.str ⟨#[c]⟩, H, I.tok _, ⟨_, rfl⟩, q⟩) hs
/-! ### xs[i] = v, any sign -/
/-! ### slices -/
theorem slice_bounds (lo hi : Option Int) (n : Nat) : (sliceBounds lo hi none n).1 = ((HT.sIx n 0 lo : Nat) : Int) ∧ (sliceBounds lo hi none n).2.1 = ((HT.sIx n n hi : Nat) : Int) ∧ (sliceBounds lo hi none n).2.2 = 1 := by
  refine ⟨?_, ?_, rfl⟩
  · cases lo with
    | none => simp [sliceBounds, HT.sIx]
    | some i =>
      simp only [sliceBounds, HT.sIx, Option.getD_none, show (1 : Int) > 0 by decide, if_true]
      by_cases h : i < 0
      · simp only [h, if_true] <;> omega
      · simp only [h, if_false] <;> omega
  · cases hi with
    | none => simp [sliceBounds, HT.sIx]
    | some i =>
      simp only [sliceBounds, HT.sIx, Option.getD_none, show (1 : Int) > 0 by decide, if_true]
      by_cases h : i < 0
      · simp only [h, if_true] <;> omega
      · simp only [h, if_false] <;> omega
theorem slicePick_cut (its : List Value) (lo hi : Option Int) : slicePick its.toArray lo hi none = ((its.drop (HT.sIx its.length 0 lo)).take (HT.sIx its.length its.length hi - HT.sIx its.length 0 lo)).toArray := by
  obtain ⟨h1, h2, h3⟩ := slice_bounds lo hi its.toArray.size
  unfold slicePick
  rw [h1, h2, h3]
  simp only [sliceRange_one, pick_run, List.size_toArray] <;> rfl
/-- xs[lo:hi] of a list: a new list -/
def rSlL (K : PySem.W.Frag) : V → Option Int → Option Int → Hp → VK → Prop := fun x lo hi H Q => ∃ a xs, x = .ref a ∧ SqL K H a xs ∧ ∀ p, H p = none → Q (.ref p) (upd H p (.lst (cutV xs lo hi)))
theorem sl_list : SlR X (rSlL X.K) := by
  intro pins s σ H x v vl vu lo hi sl Q I rx hs pl pu h
  obtain ⟨a, xs, rfl, hx, q⟩ := h
  cases rx
  obtain ⟨its, r, ht, hz⟩ := I.list hx
  have hlen := r.length
  refine ⟨"list", _, slot_list_getitem.lookup, ht.isList.typeIs, ?_⟩
  refine wpAny_getItem_list_slice ht.isList hs pl pu .none (by simp) ?_ (by rw [List.size_toArray] <;> omega)
  rw [slicePick_cut, ← hlen]
  refine ⟨.ref s.heap.objs.size, _, I.laid (t' := s.toks) (o := .lst (cutV xs lo hi)) (fun b ob q => Heap.get?_push_of_some _ q) (Nat.le_refl _) ?_, rfl, q _ (I.hok.fresh (Nat.le_refl _))⟩
  exact ⟨Nat.le_trans (cutV_length xs lo hi) hz, _, 0, (r.drop (HT.sIx xs.length 0 lo)).take (HT.sIx xs.length xs.length hi - HT.sIx xs.length 0 lo), Heap.get?_push_size _ rfl⟩

/-! ### in, not in: flat items -/
def flatV : V → Bool
  | .non => true
  | .bl _ => true
  | .int _ => true
  | .str _ => true
  | _ => false
/-- == of flat values -/
def eqV : V → V → Bool
  | .non, .non => true
  | .bl a, .bl b => a == b
  | .bl a, .int b => (if a then 1 else 0) == b
  | .int a, .bl b => a == (if b then 1 else 0)
  | .int a, .int b => a == b
  | .str a, .str b => a == b
  | _, _ => false
theorem eqAt_V {A : Around} {s : Shared} {y x : V} {u v : Value} (ry : RelV y u) (rx : RelV x v) (fy : flatV y = true) (fx : flatV x = true) : SeqAt.EqAt A s u v (eqV y x) := by
  cases y with
  | non =>
    cases ry
    cases x with
    | non => cases rx; exact SeqAt.EqAt.same _
    | bl b => cases rx; exact SeqAt.EqAt.none_bool b
    | int b => obtain ⟨t, rfl⟩ := rx; exact SeqAt.EqAt.none_int b t
    | str b => obtain ⟨t, rfl⟩ := rx; exact SeqAt.EqAt.none_str b t
    | _ => exact absurd (show false = true from fx) Bool.false_ne_true
  | bl a =>
    cases ry
    cases x with
    | non => cases rx; exact SeqAt.EqAt.bool_none a
    | bl b => cases rx; exact SeqAt.EqAt.bool_bool a b
    | int b => obtain ⟨t, rfl⟩ := rx; exact SeqAt.EqAt.bool_int a b t
    | str b => obtain ⟨t, rfl⟩ := rx; exact SeqAt.EqAt.bool_str a b t
    | _ => exact absurd (show false = true from fx) Bool.false_ne_true
  | int a =>
    obtain ⟨t', rfl⟩ := ry
    cases x with
    | non => cases rx; exact SeqAt.EqAt.int_none a t'
    | bl b => cases rx; exact SeqAt.EqAt.int_bool a t' b
    | int b => obtain ⟨t, rfl⟩ := rx; exact SeqAt.EqAt.int_int a t' b t
    | str b => obtain ⟨t, rfl⟩ := rx; exact SeqAt.EqAt.int_str a t' b t
    | _ => exact absurd (show false = true from fx) Bool.false_ne_true
  | str a =>
    obtain ⟨t', rfl⟩ := ry
    cases x with
    | non => cases rx; exact SeqAt.EqAt.str_none a t'
    | bl b => cases rx; exact SeqAt.EqAt.str_bool a t' b
    | int b => obtain ⟨t, rfl⟩ := rx; exact SeqAt.EqAt.str_int a t' b t
    | str b => obtain ⟨t, rfl⟩ := rx; exact SeqAt.EqAt.str_str a t' b t
    | _ => exact absurd (show false = true from fx) Bool.false_ne_true
  | _ => exact absurd (show false = true from fy) Bool.false_ne_true
/-- the items' answers, read off the values (a value's own answer does not lean on its token) -/
def eqU (x : V) (u : Value) : Bool := match u with
  | .none => eqV .non x
  | .bool b => eqV (.bl b) x
  | .int i _ => eqV (.int i) x
  | .str z _ => eqV (.str z) x
  | _ => false
theorem eqU_of {x y : V} {u : Value} (r : RelV y u) (f : flatV y = true) : eqU x u = eqV y x := by
  cases y with
  | non => cases r; rfl
  | bl b => cases r; rfl
  | int i => obtain ⟨t, rfl⟩ := r; rfl
  | str z => obtain ⟨t, rfl⟩ := r; rfl
  | _ => exact absurd (show false = true from f) Bool.false_ne_true
theorem any_eqU {x : V} : ∀ {xs : List V} {us : List Value}, Vals xs us → xs.all flatV = true → us.any (eqU x) = xs.any fun y => eqV y x
  | _, _, .nil, _ => rfl
  | y :: xs, u :: us, .cons r t, f => by
    rw [List.all_cons, Bool.and_eq_true] at f
    rw [List.any_cons, List.any_cons, eqU_of r f.1, any_eqU t f.2]
theorem mem_eqAt {A : Around} {s : Shared} {x : V} {v : Value} (rx : RelV x v) (fx : flatV x = true) : ∀ {xs : List V} {us : List Value}, Vals xs us → xs.all flatV = true → ∀ u ∈ us, SeqAt.EqAt A s u v (eqU x u)
  | _, _, .nil, _ => fun u hu => by cases hu
  | y :: xs, u :: us, .cons r t, f => fun u' hu => by
    rw [List.all_cons, Bool.and_eq_true] at f
    rcases List.mem_cons.mp hu with rfl | hu
    · rw [eqU_of r f.1]; exact eqAt_V r rx f.1 fx
    · exact mem_eqAt rx fx t f.2 u' hu
def inV (x : V) (xs : List V) : Bool := xs.any fun y => eqV y x
/-- x in a list or tuple of flat items -/
def rIn (K : PySem.W.Frag) (neg : Bool) : R2 := fun x y H Q => ∃ p xs, y = .ref p ∧ (SqL K H p xs ∨ SqT K H p xs) ∧ flatV x = true ∧ xs.all flatV = true ∧ Q (.bl (if neg then !inV x xs else inV x xs)) H
theorem op_notIn_seq : OpR X (compareOp .NotIn) (rIn X.K true) := by
  intro pins s σ H x y v u Q I rx ry h
  obtain ⟨p, xs, rfl, hq, fx, fs, q⟩ := h
  cases ry
  rcases hq with hq | hq
  · obtain ⟨its, r, pl, hz⟩ := I.list hq
    refine SeqAt.notIn_listAt (eqU x) pl.isList (fun w hw => mem_eqAt rx fx r fs w (by simpa using hw)) ⟨.bl _, H, I, rfl, ?_⟩
    rw [show its.toArray.any (eqU x) = its.any (eqU x) by simp, any_eqU r fs]
    exact q
  · obtain ⟨its, r, pl, hz⟩ := I.tuple hq
    refine SeqAt.notIn_tupleAt (eqU x) pl (fun w hw => mem_eqAt rx fx r fs w (by simpa using hw)) ⟨.bl _, H, I, rfl, ?_⟩
    rw [show its.toArray.any (eqU x) = its.any (eqU x) by simp, any_eqU r fs]
    exact q
/-! ### len, list(x), tuple(x) of any list or tuple that is read -/
inductive XLen (K : PySem.W.Frag) (xs : List V) (H : Hp) (Q : VK) : Prop
  | mk (p : Addr) (ys : List V) (e : xs = [.ref p]) (s : SqL K H p ys ∨ SqT K H p ys) (q : Q (.int ys.length) H)
theorem call_len_seq : CallR X (.builtin "len") (fun xs H Q => XLen X.K xs H Q) := by
  intro pins s σ H xs us Q I r h
  obtain ⟨p, ys, rfl, hq, q⟩ := h
  obtain ⟨u, rfl, rx⟩ := vals1 r
  cases rx
  have hn := line63
  rcases hq with hq | hq
  · obtain ⟨its, r', pl, hz⟩ := I.list hq
    have hlen := r'.length
    exact Calls.call_len_list pl.isList (by simp only [List.size_toArray] <;> omega) ⟨.int ys.length, H, I.tok _, ⟨s.toks + 1, by rw [List.size_toArray, hlen]⟩, q⟩
  · obtain ⟨its, r', pl, hz⟩ := I.tuple hq
    have hlen := r'.length
    exact len_tuple pl (by simp only [List.size_toArray] <;> omega) ⟨.int ys.length, H, I.tok _, ⟨s.toks + 1, by rw [List.size_toArray, hlen]⟩, q⟩
theorem call_len_str : CallR X (.builtin "len") (fun xs H Q => ∃ z, xs = [.str z] ∧ z.length ≤ sizeLine ∧ Q (.int z.length) H) := by
  intro pins s σ H xs us Q I r h
  obtain ⟨z, rfl, hz, q⟩ := h
  obtain ⟨u, rfl, t, rfl⟩ := vals1 r
  have hn := line63
  exact len_str (by omega) ⟨.int z.length, H, I.tok _, ⟨_, rfl⟩, q⟩
inductive XList (K : PySem.W.Frag) (xs : List V) (H : Hp) (Q : VK) : Prop
  | mk (p : Addr) (ys : List V) (e : xs = [.ref p]) (s : SqL K H p ys ∨ SqT K H p ys) (q : ∀ l, H l = none → Q (.ref l) (upd H l (.lst ys)))
theorem call_list_of : CallR X (.type "list") (fun xs H Q => XList X.K xs H Q) := by
  intro pins s σ H xs us Q I r h
  obtain ⟨p, ys, rfl, hq, q⟩ := h
  obtain ⟨u, rfl, rx⟩ := vals1 r
  cases rx
  have fin : ∀ (its : List Value), Vals ys its → ys.length ≤ sizeLine → ∀ (h' : Heap) (c' : Nat), (∀ b o', s.heap.get? b = some o' → h'.get? b = some o') →
      h'.get? s.heap.objs.size = some { cls := .type "list", dict := none, data := .seq its.toArray c', slots := #[] } → EP X pins σ Q (.ref s.heap.objs.size) { s with heap := h' } := fun its r' hz h' c' kp e =>
    ⟨.ref s.heap.objs.size, _, I.laid (t' := s.toks) kp (Nat.le_refl _) (show ObjOk X.prog X.w _ h' _ (.lst ys) from ⟨hz, its, c', r', e⟩), rfl, q _ (I.hok.fresh (Nat.le_refl _))⟩
  rcases hq with hq | hq
  · obtain ⟨its, r', pl, hz⟩ := I.list hq
    have hlen := r'.length
    obtain ⟨o, ho, hc, n, hd⟩ := pl.isList
    exact call_list_seq p (.inl rfl) ho hc hd (fun h' c' kp e => fin its r' hz h' c' kp e) (by simp only [List.size_toArray] <;> omega)
  · obtain ⟨its, r', pl, hz⟩ := I.tuple hq
    have hlen := r'.length
    obtain ⟨o, ho, hc, n, hd⟩ := pl
    exact call_list_seq p (.inr rfl) ho hc hd (fun h' c' kp e => fin its r' hz h' c' kp e) (by simp only [List.size_toArray] <;> omega)
theorem call_tuple_of : CallR X (.type "tuple") (fun xs H Q => ∃ p ys, xs = [.ref p] ∧ ((SqL X.K H p ys ∧ ∀ l, H l = none → Q (.ref l) (upd H l (.tup ys))) ∨ (SqT X.K H p ys ∧ Q (.ref p) H))) := by
  intro pins s σ H xs us Q I r h
  obtain ⟨p, ys, rfl, h⟩ := h
  obtain ⟨u, rfl, rx⟩ := vals1 r
  cases rx
  rcases h with ⟨hq, q⟩ | ⟨hq, q⟩
  · obtain ⟨its, r', pl, hz⟩ := I.list hq
    have hlen := r'.length
    refine call_tuple_list pl.isList (fun h' kp => ?_) (by simp only [List.size_toArray] <;> omega)
    have I1 : Inv X pins σ H { s with heap := h' } := I.kept (t' := s.toks) kp
    have I2 : Inv X pins σ (upd H h'.objs.size (.tup ys)) { s with heap := h'.push { cls := .type "tuple", data := .seq its.toArray } } :=
      I1.laid (t' := s.toks) (fun b o e => Heap.get?_push_of_some _ e) (Nat.le_refl _) (show ObjOk X.prog X.w _ _ _ (.tup ys) from ⟨hz, its, r', IsTup.new _ _⟩)
    exact ⟨.ref h'.objs.size, _, I2, rfl, q _ (I1.hok.fresh (Nat.le_refl _))⟩
  · obtain ⟨its, r', pl, hz⟩ := I.tuple hq
    exact call_tuple_same pl ⟨.ref p, H, I, rfl, q⟩

/-! ### the call of a builtin's method: o.m(..) -/
/-- the value is of that builtin type -/
def tyV (K : PySem.W.Frag) (T : String) (x : V) (H : Hp) : Prop := match x with
  | .str _ => T = "str"
  | .int _ => T = "int"
  | .ref p => (T = "list" ∧ ∃ xs, SqL K H p xs) ∨ (T = "tuple" ∧ ∃ o, K.lookup p = some o ∧ o.cls = .type "tuple" ∧ o.dict = none) ∨
      (T = "dict" ∧ ((∃ kvs, H p = some (.dK kvs)) ∨ ∃ kvs, H p = some (.dT kvs))) ∨ (T = "set" ∧ ∃ S n, H p = some (.set S n))
  | _ => False
theorem tyV_is {pins : List (Addr × Obj)} {σ : St} {H : Hp} {s : Shared} {T : String} {x : V} {v : Value} (I : Inv X pins σ H s) (r : RelV x v) (ty : tyV X.K T x H) :
    s.TypeIs v T ∧ ∀ a, v = .ref a → ∃ ob, s.heap.get? a = some ob ∧ ob.dict = none := by
  cases x with
  | str z =>
    obtain ⟨t, rfl⟩ := r
    cases (show T = "str" from ty)
    exact ⟨typeIs_str s z t, fun _ e => nomatch e⟩
  | int i =>
    obtain ⟨t, rfl⟩ := r
    cases (show T = "int" from ty)
    exact ⟨typeIs_int s i t, fun _ e => nomatch e⟩
  | ref p =>
    cases r
    rcases ty with ⟨rfl, xs, hq⟩ | ⟨rfl, o, hk, hc, hd⟩ | ⟨rfl, hk⟩ | ⟨rfl, S, n, hk⟩
    · obtain ⟨its, _, pl, _⟩ := I.list hq
      refine ⟨pl.isList.typeIs, fun a e => ?_⟩
      cases e
      obtain ⟨o, n, e, c, hd, _⟩ := pl
      exact ⟨o, e, hd⟩
    · refine ⟨⟨o, I.kIn p o hk, hc⟩, fun a e => ?_⟩
      cases e
      exact ⟨o, I.kIn _ o hk, hd⟩
    · have z : ∃ o, s.heap.get? p = some o ∧ o.ExactDict := by
        rcases hk with ⟨kvs, hk⟩ | ⟨kvs, hk⟩
        · obtain ⟨_, _, _, _, o, _, _, e, ex, _⟩ := I.hok p _ hk
          exact ⟨o, e, ex⟩
        · obtain ⟨_, _, _, _, o, _, _, e, ex, _⟩ := I.hok p _ hk
          exact ⟨o, e, ex⟩
      obtain ⟨o, e, ex⟩ := z
      refine ⟨⟨o, e, ex.1⟩, fun a e2 => ?_⟩
      cases e2
      exact ⟨o, e, ex.2.1⟩
    · obtain ⟨o, _, _, _, e, ex, _⟩ := I.hok p _ hk
      refine ⟨⟨o, e, ex.1⟩, fun a e2 => ?_⟩
      cases e2
      exact ⟨o, e, ex.2.1⟩
  | _ => exact False.elim ty
def tBM (K : PySem.W.Frag) (T : String) (r : V → List V → Hp → VK → Prop) (to : TE) (t : TA) : TE := fun σ H Q => to σ H fun x H1 => tyV K T x H1 ∧ t σ H1 fun xs H2 => r x xs H2 Q
variable {o e : Expr} {es : List Expr} {to : TE} {t : TA} {name : Str} {apos cpos : Pos} {T id : String} {r : V → List V → Hp → VK → Prop}
theorem pe_bm (pa : PlainAttrs T) (slot : Slot T name id) (hty : typeOf (.builtin id) = pure (.type "method_descriptor")) (hm : MtR X id r) (ho : PE X o to) (ha : PA X (e :: es) t)
    (hbase : attributeBase o name X.env (eval o X.env) = eval o X.env := by rfl)
    (hfew : ((backTo cpos (starEach (e :: es) X.env)).all (fun x => !x.1) && (backToKw cpos (keywordEach [] X.env)).all (fun x => x.1.isSome)
      && decide ((e :: es).length + ([] : List Keyword).length + (if ([] : List Keyword).isEmpty then 0 else 1) < 30)) = true := by rfl)
    (hline : (apos.endLine == cpos.line) = true := by rfl) (hs : starEach (e :: es) X.env = (false, eval e X.env) :: starEach es X.env := by rfl) (hplain : (backTo cpos (starEach es X.env)).any (·.1) = false := by rfl) :
    PE X (.Call (.Attribute o name apos) (e :: es) [] cpos) (tBM X.K T r to t) := by
  intro pins s σ H Q I h
  refine wpAny_Call_method_late hbase hfew hline rfl (thn (ho pins s σ H _ I h) fun v s1 ⟨x, H1, I1, r1, ty, q1⟩ => ?_)
  obtain ⟨h1, h2⟩ := tyV_is I1 r1 ty
  refine ⟨T, id, pa, slot, hty, h1, h2, ?_⟩
  have hA := ha cpos pins s1 σ H1 _ I1 q1
  rw [hs] at hA ⊢
  refine Calls.callWith_builtin (by show (false || (backTo cpos (starEach es X.env)).any (·.1)) = false; rw [hplain] <;> rfl) (Calls.evalArgs_plain ?_)
  exact thn hA fun us s2 ⟨vs, H2, I2, r2, q2⟩ => hm pins s2 σ H2 x vs v us Q I2 r1 r2 q2
/- xs.append(e), list.index on a module's tuple .. are MtR facts of 06m -/
end
end L2

namespace L2
open PySem PySem.Spec PyProof.Rows

def MtM (X : Cx) (id : String) (r : V → List V → Hp → VK → Prop) : Prop :=
  ∀ (pins : List (Addr × Obj)) (s : Shared) (σ : St) (H : Hp) (x : V) (xs : List V) (v : Value) (us : List Value) (Q : VK), Inv X pins σ H s → RelV x v → Vals xs us → r x xs H Q →
    wpAny (model X.prog X.w) X.A (call (.builtin id) (v :: us)) (EP X pins σ Q) X.xe s

/-! ### lists of values -/
theorem Vals.one : ∀ {x : V} {us : List Value}, Vals [x] us → ∃ u, us = [u] ∧ RelV x u
  | _, _, .cons r .nil => ⟨_, rfl, r⟩
theorem Vals.rep {xs : List V} {us : List Value} (h : Vals xs us) : ∀ k : Nat, Vals (List.replicate k xs).flatten (List.replicate k us).flatten
  | 0 => .nil
  | k + 1 => by
    rw [List.replicate_succ, List.replicate_succ, List.flatten_cons, List.flatten_cons]
    exact Vals.append h (Vals.rep h k)
theorem foldl_rep (its : List Value) : ∀ (k : Nat) (acc : List Value),
    List.foldl (fun x1 x2 => x1 ++ x2) acc.toArray (List.replicate k its.toArray) = (acc ++ (List.replicate k its).flatten).toArray
  | 0, acc => by simp
  | k + 1, acc => by
    have e : acc.toArray ++ its.toArray = (acc ++ its).toArray := by simp
    have e2 : (acc ++ its) ++ (List.replicate k its).flatten = acc ++ (List.replicate (k + 1) its).flatten := by
      rw [List.replicate_succ, List.flatten_cons, List.append_assoc]
    rw [← e2, ← foldl_rep its k (acc ++ its), ← e, List.replicate_succ, List.foldl_cons]

section
variable {X : Cx} {pins : List (Addr × Obj)} {σ : St} {H : Hp} {s : Shared} {l b : Addr} {xs ys zs : List V}

/-! ### the two steps: a tracked list is rewritten, a new list is laid -/
theorem Inv.lset {its its' : List Value} {n : Nat} {f : Array Value → Array Value} {t' : Nat} (I : Inv X pins σ H s) (hH : H l = some (.lst xs))
    (e : s.heap.get? l = some { cls := .type "list", data := .seq its.toArray n }) (hf : f its.toArray = its'.toArray) (hv : Vals ys its') (hz : ys.length ≤ sizeLine) :
    Inv X pins σ (upd H l (.lst ys)) { s with heap := s.heap.update l (Obj.mapSeq f), toks := t' } := by
  have q := PySem.IsL.update e f
  rw [hf] at q
  refine I.write (x := l) (e := l) (by rw [hH]; exact trivial) (.inl rfl) (fun b' u hb hu => (Heap.get?_update_other s.heap (Obj.mapSeq f) (Ne.symm hb)).trans hu) ⟨_, q⟩ ?_
  exact ⟨hz, its', _, hv, q⟩
theorem Inv.lnew {its : List Value} {t' : Nat} (I : Inv X pins σ H s) (hv : Vals ys its) (hz : ys.length ≤ sizeLine) :
    Inv X pins σ (upd H s.heap.objs.size (.lst ys)) { s with heap := s.heap.push { cls := .type "list", data := .seq its.toArray }, toks := t' } :=
  I.laid (fun _ _ q => Heap.get?_push_of_some _ q) (Nat.le_refl _) ⟨hz, its, 0, hv, Heap.get?_push_size _ rfl⟩
theorem Inv.fresh (I : Inv X pins σ H s) : H s.heap.objs.size = none := I.hok.fresh (Nat.le_refl _)
theorem Inv.lstM (I : Inv X pins σ H s) (hH : H l = some (.lst xs)) : xs.length ≤ sizeLine ∧ ∃ (its : List Value) (n : Nat), Vals xs its ∧ xs.length = its.length ∧ s.heap.get? l = some { cls := .type "list", data := .seq its.toArray n } := by
  obtain ⟨z, its, n, r, e⟩ := I.hok l _ hH
  exact ⟨z, its, n, r, r.length, e⟩

theorem notLongL {n : Nat} (h : n ≤ sizeLine) : Builtin.List.listTooLong n = false := by
  unfold Builtin.List.listTooLong
  exact decide_eq_false (by omega)
end

section
variable {X : Cx}

/-! ### methods -/
inductive XApp (x : V) (vs : List V) (H : Hp) (Q : VK) : Prop
  | mk (l : Addr) (xs : List V) (y : V) (ex : x = .ref l) (ev : vs = [y]) (h : H l = some (.lst xs)) (z : xs.length < sizeLine) (q : Q .non (upd H l (.lst (xs ++ [y]))))
def rAppend : V → List V → Hp → VK → Prop := fun x vs H Q => XApp x vs H Q
theorem mt_append : MtM X "list.append" rAppend := by
  intro pins s σ H x vs v us Q I rx rv h
  obtain ⟨l, xs, y, rfl, rfl, hH, hz, q⟩ := h
  cases rx
  obtain ⟨u, rfl, ru⟩ := rv.one
  obtain ⟨z, its, n, r, hl, e⟩ := I.lstM hH
  refine call_meets F.slot_list_append ⟨_, e, rfl⟩ F.entry_list_append (F.args_list_append_2 _ _) (PySem.list_append l its.toArray n u (by rw [List.size_toArray]; omega)) ⟨e, ?_⟩
  refine ⟨.non, _, I.lset (its' := its ++ [u]) hH e (by simp) (r.append (.cons ru .nil)) ?_, rfl, q⟩
  rw [List.length_append, List.length_singleton]
  omega

/-! ### list + list, list += list, list * int -/
inductive XCat (x y : V) (H : Hp) (Q : VK) : Prop
  | mk (l b : Addr) (xs zs : List V) (ex : x = .ref l) (ey : y = .ref b) (h : H l = some (.lst xs)) (h2 : H b = some (.lst zs)) (z : xs.length + zs.length ≤ sizeLine) (q : ∀ p, H p = none → Q (.ref p) (upd H p (.lst (xs ++ zs))))
def rCat : R2 := fun x y H Q => XCat x y H Q
theorem op_cat : OpR X (binaryOp .Add) rCat := by
  intro pins s σ H x y v u Q I rx ry h
  obtain ⟨l, b, xs, zs, rfl, rfl, hH, hB, hz, q⟩ := h
  cases rx
  cases ry
  obtain ⟨z, its, n, r, hl, e⟩ := I.lstM hH
  obtain ⟨z2, its2, n2, r2, hl2, e2⟩ := I.lstM hB
  refine PySem.P.add_list e e2 ?_ (by rw [List.size_toArray, List.size_toArray]; omega)
  have ea : its.toArray ++ its2.toArray = (its ++ its2).toArray := by simp
  rw [ea]
  exact ⟨.ref _, _, I.lnew (t' := s.toks) (r.append r2) (by rw [List.length_append]; omega), rfl, q _ I.fresh⟩
/-- a list times an int (a negative one is nothing) -/
def rRep : R2 := fun x y H Q => ∃ l k xs, x = .ref l ∧ y = .int k ∧ H l = some (.lst xs) ∧ -(2 ^ 63) ≤ k ∧ k < 2 ^ 63 ∧ xs.length * k.toNat ≤ sizeLine ∧
  ∀ p, H p = none → Q (.ref p) (upd H p (.lst (List.replicate k.toNat xs).flatten))
theorem len_rep {α : Type} (xs : List α) (k : Nat) : (List.replicate k xs).flatten.length = k * xs.length := by
  induction k with
  | zero => simp
  | succ k ih => rw [List.replicate_succ, List.flatten_cons, List.length_append, ih, Nat.succ_mul, Nat.add_comm]
theorem op_rep : OpR X (binaryOp .Mult) rRep := by
  intro pins s σ H x y v u Q I rx ry h
  obtain ⟨l, k, xs, rfl, rfl, hH, h1, h2, hz, q⟩ := h
  cases rx
  obtain ⟨t, rfl⟩ := ry
  obtain ⟨z, its, n, r, hl, e⟩ := I.lstM hH
  have hlen : its.toArray.size * k.toNat ≤ sizeLine := by rw [List.size_toArray, ← hl]; exact hz
  have hcap : ¬ its.toArray.size * k.toNat > (2 ^ 63 - 1) / 8 := by
    have : (sizeLine : Nat) ≤ (2 ^ 63 - 1) / 8 := by decide
    omega
  have hfit : ¬ (!Builtin.List.listFitsIndex k) = true := by
    rw [fitsIndex_both h1 h2]
    exact Bool.false_ne_true
  have hlong : ¬ Builtin.List.listTooLong (its.toArray.size * k.toNat) = true := by
    rw [notLongL hlen]
    exact Bool.false_ne_true
  have hnew : List.foldl (fun x1 x2 => x1 ++ x2) #[] (List.replicate (if its.toArray.isEmpty = true then 0 else k.toNat) its.toArray) = (List.replicate k.toNat its).flatten.toArray := by
    have f0 : ∀ m : Nat, List.foldl (fun x1 x2 => x1 ++ x2) #[] (List.replicate m its.toArray) = (List.replicate m its).flatten.toArray := fun m => by
      have := foldl_rep its m []
      rw [List.nil_append] at this
      exact this
    rw [f0]
    cases its with
    | nil => simp
    | cons a r' => rw [if_neg (by simp)]
  refine wpAny_binaryOp_repeat_ref (T := "list") (U := "int") (by decide) ⟨_, e, rfl⟩ (fun s' => typeIs_int s' k t) noFill_list_mul F.fills_int_mul F.slot_int_rmul repeat_list F.slot_int_index.lookup
    (call_meets F.slot_int_rmul (typeIs_int s k t) F.entry_int_rmul (F.args_int_rmul_2 _ _) (int___rmul___int_list k t l its.toArray n)
      ⟨e, rfl, ⟨_, e, rfl⟩, call_meets F.slot_list_mul ⟨_, e, rfl⟩ F.entry_list_mul (F.args_list_mul_2 _ _) (AutoListH.list___mul___list_int_3 l its.toArray n k t hfit hcap hlong) ⟨e, ?_⟩⟩)
  rw [hnew]
  exact ⟨.ref _, _, I.lnew (t' := s.toks) (r.rep k.toNat) (by rw [len_rep, Nat.mul_comm]; exact hz), rfl, q _ I.fresh⟩

/-! ### del xs[i] -/
end

/-! ### xs[a:b] = ys -/
section
variable {prog : Program} {w : World} {A : Around} {E : Value → Shared → Prop} {s : Shared}
end

section
variable {X : Cx}
end
end L2

namespace L2
open PySem PySem.Spec PyProof.Rows

/-! ### lists of pairs as tables -/
section
variable {κ : Type} [DecidableEq κ]
end

/-! ### a tracked dict, its keys ints and texts or tuples of these -/
section
variable {P : Program} {w : World} {H : Hp} {h : Heap} {a : Addr}
end

section
variable {X : Cx} {pins : List (Addr × Obj)} {σ : St} {H : Hp} {s : Shared} {a : Addr} {y v : V} {u r : Value} {o : Option V} {A : Around} {E : Value → Shared → Prop}

end

section
variable {X : Cx} {pins : List (Addr × Obj)} {σ : St} {H : Hp} {s : Shared} {a : Addr} {kvs : List (Key × V)} {k : Key} {u : Value} {A : Around} {E : Value → Shared → Prop}
end

/-! ### readings and rules -/
section
variable {X : Cx} {o i e value : Expr} {pos pos' tpos : Pos} {td ty tv : TE}
end

/-! ### displays -/
section
variable {X : Cx} {pos : Pos}
end

/-! ### methods -/
section
variable {X : Cx} {pins : List (Addr × Obj)} {σ : St} {H : Hp} {s : Shared} {a : Addr} {y d : V} {u r : Value} {o : Option V} {A : Around} {E : Value → Shared → Prop}
end

section
variable {X : Cx} {o e f : Expr} {apos cpos : Pos} {td ty tx : TE}
end

/-! ### dict(d): a copy -/
section
variable {X : Cx} {pins : List (Addr × Obj)} {σ : St} {H : Hp} {s : Shared} {a : Addr} {kvs : List (Key × V)} {A : Around} {E : Value → Shared → Prop}
end

section
variable {X : Cx} {pins : List (Addr × Obj)} {σ : St} {H : Hp} {s : Shared} {a : Addr} {y : V} {u : Value} {A : Around} {E : Value → Shared → Prop}
end
end L2

namespace Att
open PySem PySem.W PySem.Calls PyProof.Rows

/-! ### the script -/
theorem ints_of_wellAll {P : Params} {h : Heap} : ∀ (ns : List Int) (vs : List Value), WellAll P h vs (ns.map WData.int) → IntsAre vs ns := by
  intro ns
  induction ns with
  | nil =>
    intro vs w
    rw [List.map_nil] at w
    cases w
    exact .nil
  | cons n ns ih =>
    intro vs w
    rw [List.map_cons] at w
    cases w with
    | cons a b =>
      cases a
      exact .cons _ _ (ih _ b)

theorem script_of {l : OpenLaw} {n : Nat} (hn : l.most = some n) {P : Params} {h : Heap} {args : List WData} {vals : List Value}
    (hpre : l.row.toRowW.claim.pre args = true) (hwl : WellAll P h vals args) :
    ∃ a vs ns, vals = [Value.ref a] ∧ args = [WData.list (ns.map WData.int)] ∧ h.get? a = some { cls := .type "list", data := .seq vs.toArray } ∧ IntsAre vs ns ∧ ns.length ≤ n := by
  have hsh : WShape.hasAll [] args [.list .int] = true := (pre_splitW hpre).1
  have hc : l.pre.holds [] { args := args } = true := (pre_splitW hpre).2
  obtain ⟨d, r, rfl, h1, h2⟩ := hasAllW_cons hsh
  obtain rfl := hasAllW_nil h2
  obtain ⟨xs, rfl, h3⟩ := hasW_list h1
  obtain ⟨ns, rfl⟩ := items_int h3
  have hlen : ns.length ≤ n := by
    unfold OpenLaw.pre at hc
    have h4 : (WTm.not (.lt (.lit (.int (n : Int))) (.len (.arg 0)))).holds [] { args := [.list (ns.map .int)] } = true := by
      have h4 := (holds_andW hc).1
      rw [hn] at h4
      exact h4
    have h5 := condW_of h4 (w_not (w_lt w_lit (w_len_list (w_arg rfl))))
    rw [List.length_map] at h5
    refine Nat.le_of_not_lt fun q => ?_
    have q' : (n : Int) < ((ns.length : Nat) : Int) := by omega
    first
      | (rw [decide_eq_true q'] at h5; exact absurd h5 (by decide))
      | (simp at h5; omega)
  cases hwl with
  | cons w1 w2 =>
    cases w2
    cases w1 with
    | list ho hall => exact ⟨_, _, ns, rfl, rfl, ho, ints_of_wellAll ns _ hall, hlen⟩

theorem post_true (l : OpenLaw) (args : List WData) : l.row.toRowW.claim.post args (.bool true) args = true :=
  postW_of (r := l.row.toRowW) (X := (true == true))
    (show WShape.has [] (.bool true) .bool = true by first | rfl | decide | simp [WShape.has, WShape.arms, WShape.armsAll])
    (show (WTm.eq .res (.lit (.bool true))).value [] { args := args, res := some (.bool true), after := args } = some (.bool (true == true)) from w_eq_bool (w_res rfl) w_lit) rfl

/-! ### the attachment: holds_open's last premise (the goal 'hc' behind k_head) from a wpAny of the law's body -/
/-- the same from a codeAny of the CALL (for a layer whose function contracts speak of calls) -/
theorem attach_call {l : OpenLaw} {n : Nat} {q : Program} {loose : List Str} {XP : (Str → Option Value) → Heap → Prop} {YP : World → Heap → Prop} {d : DefRec}
    (hn : l.most = some n) (hdf : d.params.defaults = [])
    (call : ∀ (w : World) (s₀ s₁ : Shared) (mg mb : Str → Option Value) (fa : Addr) (o : Obj) (pm cd doc : Value) (a : Addr) (vs : List Value) (ns : List Int),
      Ground q loose [] XP w s₀ mg mb s₁.heap → YP w s₁.heap →
      s₁.heap.get? fa = some o → o.data = .func (docDef d.name d.params d.body d.scope pm cd doc) → s₁.heap.CodeRec cd d.name → mg d.name = some (.ref fa) →
      s₁.heap.get? a = some { cls := .type "list", data := .seq vs.toArray } → IntsAre vs ns → ns.length ≤ n → s₁.gens = #[] →
      codeAny (model l.prog w) callerA (.call (.ref fa) ⟨[.ref a], []⟩) (fun r s' => r = .ok (.ret (.bool true)) ∧ OldK s₁.heap s'.heap ∧ s'.os = s₁.os ∧ AllBare s'.gens) s₁) :
    WalkO q loose XP YP l.row.toRowW d [] (fun f vs => PySem.call f vs) := by
  intro w s₀ s₁ mg mb G Y fa o pm cd doc dV kV ho hd hcd hD hmg hg args vals as hpre hlay hrd hwl hlo
  obtain rfl : dV = .none := Dflts.none hD hdf
  obtain rfl : kV = .none := Dflts.noKw hD
  obtain ⟨a, vs, ns, rfl, rfl, hobj, hints, hlen⟩ := script_of hn hpre hwl
  refine enter_call (codeAny_mono (call w s₀ s₁ mg mb fa o pm cd doc a vs ns G Y ho (fd_plain hd) hcd hmg hobj hints hlen hg) fun r s' hq => ?_)
  obtain ⟨rfl, h2, h3, h4⟩ := hq
  exact ⟨.inl ⟨.bool true, .bool true, [], rfl, fun _ => rfl, .bool true, post_true l _, fun _ => ⟨List.Pairwise.nil, fun _ hm => (nomatch hm)⟩⟩, h2, h3, h4⟩

/-! ### rules over ANY heap (no ledger) from facts about the written part K: the library's own take a ledger (News) for what they write -/
section
variable {prog : Program} {w : World} {A : Around} {E : Value → Shared → Prop} {s : Shared} {K : Frag}

/-! the whole heap as the ledger: makes every rule that writes through a ledger a rule over any heap -/
end
end Att

namespace L2
open PySem PySem.Spec PyProof.Rows

theorem vals_ints : ∀ {vs : List Value} {ns : List Int}, IntsAre vs ns → Vals (ns.map V.int) vs
  | _, _, .nil => .nil
  | _, _, .cons n t h => .cons ⟨t, rfl⟩ (vals_ints h)

/-- nothing is tracked but the script, known to the object (or it is an object of the module) -/
def Only (H : Hp) : Prop := ∀ b, H b = none ∨ ∃ o xs, H b = some (.frz o (.lst xs))

/-- THE HEAD: the law's promise, at the heap behind the top. F, the promise of the law's def, may use that base is part of the heap (so K.In base, base.Ns mainGlobals mg stand in Mod) -/
theorem law_call {P : Program} {w : World} {K : PySem.W.Frag} {mg mb : Str → Option Value} {CX : CXT} {k : Nat} {fa a : Addr} {fd : FuncData} {x : Str} {sp : Sp} {s₁ : Shared} {vs : List Value} {ns : List Int}
    (KX : K.In s₁.heap) (hns : s₁.heap.Ns mainGlobals mg) (hb : s₁.heap.Ns builtinsNs mb) (hbb : ∀ x : Str, x ≠ "__name__" → mb x = bootBuiltins x) (hlim : s₁.heap.NoLimit) (hg : s₁.gens = #[])
    (ha : s₁.heap.get? a = some { cls := .type "list", data := .seq vs.toArray }) (hi : IntsAre vs ns) (hl : ns.length ≤ sizeLine) (hr : Room k callerA)
    (F : ∀ base : Heap, K.In base → base.Ns mainGlobals mg → FnOk P w K mg base CX k fa fd [x] sp) (hbind : ∀ (s : Shared) (u : Value), BindsTo s fd ⟨[u], []⟩ [(x, u)])
    (hsp : ∀ H : Hp, Only H → SqL K H a (ns.map V.int) → sp [.ref a] H (fun v _ => v = .bl true) fun _ _ _ => False)
    (hCX : ∀ H e s', CX [] H s₁ (fun _ _ _ => False) e s' → False) :
    codeAny (model P w) callerA (.call (.ref fa) ⟨[.ref a], []⟩) (fun r s' => r = .ok (.ret (.bool true)) ∧ OldK s₁.heap s'.heap ∧ s'.os = s₁.os ∧ AllBare s'.gens) s₁ := by
  have rv := vals_ints hi
  have lenV := hi.length
  -- from an abstract heap in which nothing but the script may be tracked
  have core : ∀ H : Hp, Only H → SqL K H a (ns.map V.int) → HOk P w H s₁.heap → (∀ b, H b ≠ none → b = a) → (H a ≠ none → K.lookup a = none) →
      codeAny (model P w) callerA (.call (.ref fa) ⟨[.ref a], []⟩) (fun r s' => r = .ok (.ret (.bool true)) ∧ OldK s₁.heap s'.heap ∧ s'.os = s₁.os ∧ AllBare s'.gens) s₁ := by
    intro H hO hS hok hA hK
    have base_of : ∀ {b : Addr} {o : Obj}, s₁.heap.get? b = some o → H b = none → (hidT s₁.heap H).get? b = some o := fun e n => hidT_get e n
    have noA : ∀ {b : Addr} {o : Obj} {es : Array DictEntry} {ep : Nat}, s₁.heap.get? b = some o → o.data = .dict es ep → H b = none := fun {b o es ep} e d => by
      cases q : H b with
      | none => rfl
      | some u =>
        have e' : b = a := hA b (by rw [q]; simp)
        subst e'
        rw [ha] at e; cases e
        have d' : Data.seq vs.toArray _ = Data.dict es ep := d
        cases d'
    have nsK : ∀ {b : Addr} {m : Str → Option Value}, s₁.heap.Ns b m → (hidT s₁.heap H).Ns b m := fun {b m} ⟨o, es, ep, e, d, r⟩ => ⟨o, es, ep, base_of e (noA e d), d, r⟩
    have hKb : K.In (hidT s₁.heap H) := fun b o e => base_of (KX b o e) (by
      cases q : H b with
      | none => rfl
      | some u =>
        have e' : b = a := hA b (by rw [q]; simp)
        subst e'
        rw [hK (by rw [q]; simp)] at e; cases e)
    have hM : Mod K mg (hidT s₁.heap H) := ⟨hKb, nsK hns, ⟨mb, nsK hb, hbb⟩, let ⟨mc, h1, h2⟩ := hlim; ⟨mc, nsK h1, h2⟩⟩
    have e0 : Env0 P w K mg (hidT s₁.heap H) callerA [] s₁ H := ⟨rfl, hM, fun b o e => of_hidT e, Nat.le_of_eq (hidT_size _ _), trivial, fun b hb => absurd (show b ∈ ([] : List Addr) from hb) (by simp), hok, .of_eq hg⟩
    refine codeAny_mono ((F _ hKb (nsK hns)).run callerA [] s₁ H ⟨[.ref a], []⟩ [.ref a] [.ref a] _ _ hr e0 (hbind s₁ (.ref a)) (.cons rfl .nil) (hsp H hO hS)) fun r s' h => ?_
    cases r with
    | error e => exact (hCX H e s' h).elim
    | ok fl =>
      cases fl with
      | next => exact False.elim h
      | brk => exact False.elim h
      | cont => exact False.elim h
      | ret u =>
        obtain ⟨v, H', os, bare, un, hok', r', q⟩ := h
        have q' : v = .bl true := q
        subst q'
        obtain rfl : u = Value.bool true := r'
        refine ⟨rfl, OldK.of_keep fun b o e => ?_, os, bare⟩
        cases q : H b with
        | none => exact un.keep b o e q (by intro z; exact absurd (show b ∈ ([] : List Addr) from z) (by simp)) (by simp)
        | some u =>
          rcases hO b with z | ⟨ob, xs, z⟩
          · rw [q] at z; cases z
          · have z2 := un.frzs b ob _ z
            obtain ⟨e1, _⟩ := hok b _ z
            obtain ⟨e2, _⟩ := hok' b _ z2
            rw [e] at e1; cases e1
            exact e2
  cases hk : K.lookup a with
  | some o =>
    -- the script is one of the module's own objects
    have e := KX a o hk
    rw [ha] at e
    cases e
    refine core (fun _ => none) (fun _ => .inl rfl) (.inr ⟨_, vs.toArray, _, hk, rfl, rfl, rfl, by rw [List.size_toArray, lenV]; exact hl, by simpa using rv⟩) (fun b u z => by have z' : (none : Option HO) = some u := z; cases z') (fun b z => absurd rfl z) fun z => absurd rfl z
  | none =>
    refine core (fun b => if b = a then some (.frz { cls := .type "list", data := .seq vs.toArray } (.lst (ns.map V.int))) else none) (fun b => ?_) (.inl (.inr ⟨{ cls := .type "list", data := .seq vs.toArray }, if_pos rfl⟩)) (fun b u z => ?_) (fun b z => ?_) fun _ => hk
    · by_cases hb : b = a
      · exact .inr ⟨_, _, if_pos hb⟩
      · exact .inl (if_neg hb)
    · by_cases hb : b = a
      · have z' := (if_pos hb).symm.trans z
        cases z'
        subst hb
        exact ⟨ha, by rw [List.length_map]; exact hl, vs, _, rv, ha⟩
      · have z' := (if_neg hb).symm.trans z
        cases z'
    · by_cases hb : b = a
      · exact hb
      · exact absurd (if_neg hb) z
end L2

namespace L2
open PySem PySem.Spec PyProof.Rows

/-- the goal that k_head leaves (case hc), from the law's promise. F gives the function object fd (K's own) once, then the promise over every base -/
theorem walk_of {l : PySem.W.OpenLaw} {n k : Nat} {q : Program} {loose : List Str} {XP : (Str → Option Value) → Heap → Prop} {YP : World → Heap → Prop} {d : DefRec} {K : Params → PySem.W.Frag} {CX : World → CXT} {sp : World → Sp} {x : Str}
    (hn : l.most = some n) (hn2 : n ≤ sizeLine) (hdf : d.params.defaults = []) (hr : Room k callerA)
    (hY : ∀ (w : World) (h : Heap), YP w h → (K w.params).In h)
    (F : ∀ (w : World) (mg : Str → Option Value) (fa : Addr) (h : Heap), (K w.params).In h → h.Ns mainGlobals mg → mg d.name = some (.ref fa) →
      ∃ fd : FuncData, (∀ (s : Shared) (u : Value), BindsTo s fd ⟨[u], []⟩ [(x, u)]) ∧
        ∀ base : Heap, (K w.params).In base → base.Ns mainGlobals mg → FnOk l.prog w (K w.params) mg base (CX w) k fa fd [x] (sp w))
    (hsp : ∀ (w : World) (H : Hp) (a : Addr) (ns : List Int), ns.length ≤ n → Only H → SqL (K w.params) H a (ns.map V.int) → sp w [.ref a] H (fun v _ => v = .bl true) fun _ _ _ => False)
    (hCX : ∀ (w : World) (H : Hp) (s : Shared) (e : Value) (s' : Shared), CX w [] H s (fun _ _ _ => False) e s' → False) :
    PySem.W.WalkO q loose XP YP l.row.toRowW d [] (fun f vs => PySem.call f vs) := by
  refine Att.attach_call hn hdf fun w s₀ s₁ mg mb fa o pm cd doc a vs ns G Y ho hd hcd hmg hobj hints hlen hg => ?_
  have KX := hY w _ Y
  obtain ⟨fd, hb, hF⟩ := F w mg fa _ KX G.T.g hmg
  exact law_call KX G.T.g G.T.b G.T.builtins G.T.nolimit hg hobj hints (Nat.le_trans hlen hn2) hr hF hb (fun H hO hS => hsp w H a ns hlen hO hS) fun H e s' => hCX w H s₁ e s'
end L2

/- THE LAST THEOREM (shape; LID, My.* are yours):
   My.Adr: a structure of the addresses that your layer names (classes, functions); My.Txt K t: a structure (Prop) of the equations over K;
   My.txt_mk : {K} {implicit addresses ..} (e1 : nsIn K mainGlobals "law" = some (some (.ref f))) (e2 : K.lookup f = some ⟨oc, od, .func (fnOf "law" "law" params body scope dV kV doc pm an cdv ct), sl⟩) (e3 : codeIn K cdv "law" = true) .. : ∃ t, My.Txt K t

set_option maxRecDepth 100000 in
set_option maxHeartbeats 0 in
theorem PySem.Challenge.cw_LID_holds : PySem.Challenge.rw_LID.Holds := by
  w_on; o_law; k_head; (case hw => w_witness2)
  k_fill
  refine L2.walk_of (l := PySem.Challenge.rw_LID) (n := 63) (k := 40) (x := "script") (CX := fun w => ..) (sp := fun _ => My.sp_law) rfl (by decide) rfl ⟨rfl, by decide, by decide⟩ (fun w h Y => PySem.W.kIn_of Y) ?F ?S ?C
  case F =>
    intro w mg fa h KX G hmg
    have T : ∃ t, My.Txt (L2.KOf KX) t := by
      dsimp only [L2.KOf]                          -- K must stand as «<heap const> w.params» for k_is
      refine' My.txt_mk ?e1 ?e2 ?e3 ..
      (case e1 => PySem.W.k_is)                    -- in the order: a name -> its address -> its object -> its parts
      (case e2 => PySem.W.k_is)
      ..
    obtain ⟨t, T⟩ := T
    have e0 := hmg.symm.trans (PySem.W.mg_of KX G T.law)
    cases e0                                       -- fa is the law's own address
    exact ⟨_, fun s u => .of_eq rfl, fun base kb nb => My.law_fn T kb nb⟩     -- if «.of_eq rfl» comes too early: refine' ⟨_, ?b, fun base kb nb => My.law_fn T kb nb⟩; exact fun s u => .of_eq rfl
  case S => exact fun w H a ns hl hO hS => ..
  case C => exact ..
(the tactic k_is has no namespace: write k_is) -/

/-! SHORT WORDS over the layer: a def of the text, its body, what a loop and a test want. -/
namespace L2
open PySem PySem.Spec PyProof.Rows

/-! ### the text by places -/
/-- the j-th statement of a class's body -/
def inClass (s : Stmt) (j : Nat) : Stmt := match s with
  | .ClassDef _ _ _ body _ _ _ _ _ _ _ => body.getD j (.Pass ⟨0, 0, 0, 0⟩)
  | _ => .Pass ⟨0, 0, 0, 0⟩
def defArgs (s : Stmt) : Arguments := match s with
  | .FunctionDef _ a _ _ _ _ _ _ _ _ => a
  | _ => { posonlyargs := [], args := [], vararg := none, kwonlyargs := [], kw_defaults := [], kwarg := none, defaults := [] }
def defBody (s : Stmt) : List Stmt := match s with
  | .FunctionDef _ _ b _ _ _ _ _ _ _ => b
  | _ => []
def defScope (s : Stmt) : Scope := match s with
  | .FunctionDef _ _ _ _ _ _ sc _ _ _ => sc
  | _ => { kind := .function, names := [], isGenerator := false, isCoroutine := false }

/-! ### no exception leaves a def -/
abbrev CX0 : CXT := fun _ _ _ _ _ _ => False
abbrev E0 : XK := fun _ _ _ => False
theorem pass0 {X : Cx} : Passes CX0 X E0 := fun _ _ _ _ _ _ _ h => h.elim

/-! ### a def (or method) of the text as it stands behind the top -/
structure Fun (K : PySem.W.Frag) (x qual : Str) (st : Stmt) (f : Addr) (fd : FuncData) : Prop where
  ex : ∃ (oc : Value) (od : Option Addr) (kV doc pm : Value) (an : Option Addr) (cdv ct : Value) (osl : Array (Option Value)),
    fd = PySem.W.fnOf x qual (defArgs st) (defBody st) (defScope st) .none kV doc pm an cdv ct ∧ K.lookup f = some ⟨oc, od, .func fd, osl⟩ ∧ PySem.W.codeIn K cdv qual = true
  kp : PySem.W.keepIn K (.ref f) = true
section
variable {P : Program} {w : World} {K : PySem.W.Frag} {mg : Str → Option Value} {base : Heap}
/-- THE RULE for a def: its body as a term of rules, and the reading of that term -/
theorem Fun.ok {x qual : Str} {st : Stmt} {f : Addr} {fd : FuncData} {N ps : List Str} {k : Nat} {sp : Sp} (F : Fun K x qual st f fd) (S : FnScope N ps (defScope st)) (len : ∀ vs H Q E, sp vs H Q E → vs.length = ps.length)
    (hbody : ∀ (cdv : Value) (A : Around) (outer : List Env) (s : Shared) (H : Hp) (vs : List V) (Q : VK) (E : XK), Room k (A.deeper (envOfC qual (defScope st) s.heap.objs.size f cdv)) → sp vs H Q E →
      ∃ t, PSs (cxOf CX0 P w K mg base N qual (defScope st) f cdv A outer s H E).nox (defBody st) t ∧ t { nx := fun _ H' => Q .non H', rt := Q } (start N vs) H) : FnOk P w K mg base CX0 (k + 1) f fd ps sp := by
  obtain ⟨oc, od, kV, doc, pm, an, cdv, ct, osl, rfl, lk, hcd⟩ := F.ex
  refine fn_of lk hcd S len fun A outer s H vs Q E hr hsp => ?_
  obtain ⟨t, h, q⟩ := hbody cdv A outer s H vs Q E hr hsp
  exact ⟨t, h.nox, q⟩
/-- how its arguments bind (no defaults): h is «fun _ _ _ _ _ _ us hl => match us, hl with | [_, _], _ => rfl», one _ a parameter -/
theorem Fun.binds {x qual : Str} {st : Stmt} {f : Addr} {fd : FuncData} {ps : List Str} (F : Fun K x qual st f fd)
    (h : ∀ (kV doc pm : Value) (an : Option Addr) (cdv ct : Value) (us : List Value), us.length = ps.length → bindArgs (PySem.W.fnOf x qual (defArgs st) (defBody st) (defScope st) .none kV doc pm an cdv ct) ⟨us, []⟩ = pure (ps.zip us)) : Binds K fd ps [] := by
  obtain ⟨oc, od, kV, doc, pm, an, cdv, ct, osl, rfl, lk, hcd⟩ := F.ex
  exact .all (h kV doc pm an cdv ct)
theorem fun_mk {x qual : Str} {st : Stmt} {f : Addr} {oc : Value} {od an : Option Addr} {osl : Array (Option Value)} {kV doc pm cdv ct : Value} (l : K.lookup f = some ⟨oc, od, .func (PySem.W.fnOf x qual (defArgs st) (defBody st) (defScope st) .none kV doc pm an cdv ct), osl⟩)
    (c : PySem.W.codeIn K cdv qual = true) (k : PySem.W.keepIn K (.ref f) = true) : Fun K x qual st f (PySem.W.fnOf x qual (defArgs st) (defBody st) (defScope st) .none kV doc pm an cdv ct) := ⟨⟨oc, od, kV, doc, pm, an, cdv, ct, osl, rfl, l, c⟩, k⟩
end
/-! ### expressions in short: the name that stands in the i-th slot -/
section
variable {X : Cx}
theorem pv (i : Nat) {x : Str} {pos : Pos} (hN : X.N[i]? = some x := by rfl) (hv : Vis X.env.scope x := by first | exact Or.inl rfl | exact Or.inr (Or.inl rfl) | exact Or.inr (Or.inr rfl)) (hd : (x == ("__debug__" : Str)) = false := by decide)
    (hcd : (x == ("__classdict__" : Str)) = false := by decide) : PE X (.Name x pos) (tVar i) := pe_var hN hv hd hcd
end

/-! ### tests -/
theorem iteF {A B : Prop} (h : B) : if false = true then A else B := by
  rw [if_neg Bool.false_ne_true]
  exact h
theorem iteT {A B : Prop} (h : A) : if true = true then A else B := by
  rw [if_pos rfl]
  exact h
theorem iteNS {c A B : Prop} [Decidable c] (hc : c) (h : B) : if (!decide c) = true then A else B := by
  rw [decide_eq_true hc]
  exact iteF h

/-! ### heaps -/
/-- all that was tracked is as it was -/
def Same (H H' : Hp) : Prop := ∀ b o, H b = some o → H' b = some o
theorem Same.refl (H : Hp) : Same H H := fun _ _ h => h
theorem Same.trans {H H1 H2 : Hp} (a : Same H H1) (b : Same H1 H2) : Same H H2 := fun c o h => b c o (a c o h)
theorem Same.free {H H' : Hp} (e : Same H H') {l : Addr} (h : H' l = Option.none) : H l = Option.none := by
  cases q : H l with
  | none => rfl
  | some o =>
    rw [e l o q] at h
    cases h
theorem Same.seq {K : PySem.W.Frag} {H H' : Hp} {a : Addr} {xs : List V} (e : Same H H') (h : SqL K H a xs) : SqL K H' a xs := by
  rcases h with (h | ⟨o, h⟩) | h
  · exact .inl (.inl (e _ _ h))
  · exact .inl (.inr ⟨o, e _ _ h⟩)
  · exact .inr h

end L2

end

section
set_option autoImplicit false
set_option maxRecDepth 100000
namespace EoD
open PySem
section
variable {prog : Program} {w : World} {A : Around} {E : Value → Shared → Prop} {s : Shared} {d it : Addr} {es : Array DictEntry} {ep i : Nat}
end
end EoD

end

section
set_option autoImplicit false
set_option maxRecDepth 100000
namespace EoD
open PySem
section
variable {prog : Program} {w : World} {A : Around} {E : Value → Shared → Prop} {s : Shared}
end
end EoD

end

section
set_option autoImplicit false
set_option maxRecDepth 100000
namespace EoD
open PySem Eo
end EoD

end

section
set_option autoImplicit false
set_option maxRecDepth 100000
namespace EoD
open PySem
section
variable {prog : Program} {w : World} {A : Around} {E : Value → Shared → Prop} {s : Shared} {it l : Addr} {items : Array Value}
end
end EoD

end

section
set_option autoImplicit false
set_option maxRecDepth 100000
set_option linter.all false
namespace L2
open PySem PySem.Spec PyProof.Rows

def cellAt (env : Env) (n : Str) : Addr := (env.cells.lookup n).getD 0
def clOf (env : Env) (l : List (Str × NameKind)) : List (Str × Addr) := ((l.filter fun x => x.2 == .free).map fun x => (x.1, cellAt env x.1)).reverse
theorem closure_go {env : Env} : ∀ (l : List (Str × NameKind)) (acc : List (Str × Addr)), (∀ x ∈ l, x.2 = .free → ∃ c, env.cells.lookup x.1 = some c) →
    (forIn l acc fun (x : Str × NameKind) (cs : List (Str × Addr)) => (do
      if x.2 == .free then pure (ForInStep.yield ((x.1, ← cellOf env x.1) :: cs)) else pure (ForInStep.yield cs) : Sem (ForInStep (List (Str × Addr))))) = (pure (clOf env l ++ acc) : Sem (List (Str × Addr)))
  | [], acc, _ => rfl
  | x :: r, acc, h => by
    have hr : ∀ y ∈ r, y.2 = .free → ∃ c, env.cells.lookup y.1 = some c := fun y hy => h y (List.mem_cons_of_mem _ hy)
    rw [List.forIn_cons]
    by_cases e : x.2 = .free
    · obtain ⟨c, hc⟩ := h x List.mem_cons_self e
      have e1 : (x.2 == NameKind.free) = true := by rw [e]; rfl
      have e2 : cellOf env x.1 = pure c := by unfold cellOf; rw [hc]
      have e3 : cellAt env x.1 = c := by unfold cellAt; rw [hc]; rfl
      simp only [e1, if_true, e2, pure_bind]
      rw [closure_go r _ hr]
      simp [clOf, e1, e3]
    · have e1 : (x.2 == NameKind.free) = false := by
        cases h2 : x.2 <;> first | rfl | exact absurd h2 e
      simp only [e1, Bool.false_eq_true, if_false, pure_bind]
      rw [closure_go r _ hr]
      simp [clOf, e1]
theorem closure_of {env : Env} {sc : Scope} (h : ∀ x ∈ sc.names, x.2 = .free → ∃ c, env.cells.lookup x.1 = some c) : closureFor sc env = pure (clOf env sc.names) := by
  have e := closure_go (env := env) sc.names [] h
  rw [List.append_nil] at e
  unfold closureFor
  exact (bind_congr (x := _) fun _ => rfl).trans ((congrArg (· >>= pure) e).trans (by simp))
theorem clOf_in {env : Env} {l : List (Str × NameKind)} {x : Str} {c : Addr} (hl : ∀ x ∈ l, x.2 = .free → ∃ c, env.cells.lookup x.1 = some c) (h : (clOf env l).lookup x = some c) : env.cells.lookup x = some c ∧ (x, NameKind.free) ∈ l := by
  have hm := PySem.mem_of_lookup h
  unfold clOf at hm
  rw [List.mem_reverse, List.mem_map] at hm
  obtain ⟨p, hp, e⟩ := hm
  obtain ⟨h1, h2⟩ := List.mem_filter.mp hp
  have e2 : p.2 = .free := by cases h3 : p.2 <;> rw [h3] at h2 <;> first | rfl | cases h2
  obtain ⟨c', hc⟩ := hl p h1 e2
  have e3 : p.1 = x := congrArg Prod.fst e
  have e4 : cellAt env p.1 = c := congrArg Prod.snd e
  unfold cellAt at e4
  rw [hc] at e4
  cases e4
  subst e3
  exact ⟨hc, by rw [← e2]; exact h1⟩
theorem lookup_some {α : Type} {x : Str} : ∀ {l : List (Str × α)}, (∃ a, (x, a) ∈ l) → ∃ c, l.lookup x = some c
  | [], ⟨a, h⟩ => by simp at h
  | (y, b) :: r, ⟨a, h⟩ => by
    by_cases e : x = y
    · subst e
      exact ⟨b, by simp [List.lookup_cons]⟩
    · have h' : ∃ a, (x, a) ∈ r := by
        rcases List.mem_cons.mp h with z | z
        · exact absurd (congrArg Prod.fst z) e
        · exact ⟨a, z⟩
      obtain ⟨c, hc⟩ := lookup_some h'
      have ef : (x == y) = false := beq_eq_false_iff_ne.mpr e
      exact ⟨c, by rw [List.lookup_cons, ef]; exact hc⟩
theorem clOf_has {env : Env} {l : List (Str × NameKind)} {x : Str} (h : (x, NameKind.free) ∈ l) : ∃ c, (clOf env l).lookup x = some c :=
  lookup_some ⟨cellAt env x, by
    unfold clOf
    rw [List.mem_reverse, List.mem_map]
    exact ⟨(x, .free), List.mem_filter.mpr ⟨h, rfl⟩, rfl⟩⟩
/-- a name of the block that is no local of it is one that it closes over -/
theorem relabel_free {env : Env} {x : Str} {k : NameKind} (hk : k = .cell ∨ k = .free) : ∀ {l : List (Str × NameKind)}, (∀ y ∈ l, y.2 ≠ .cell) →
    (l.map fun (n, k) => if (k == NameKind.free && env.scope.kind == .function && env.kindOf n == some .cell) then (n, NameKind.cell) else (n, k)).lookup x = some k → (x, NameKind.free) ∈ l
  | [], _, h => by simp at h
  | (n, q) :: r, hc, h => by
    have hr : ∀ y ∈ r, y.2 ≠ .cell := fun y hy => hc y (List.mem_cons_of_mem _ hy)
    by_cases e : x = n
    · subst e
      have hq : q = .free := by
        by_cases hq : q = .free
        · exact hq
        · exfalso
          have e1 : (q == NameKind.free) = false := by cases q <;> first | rfl | exact absurd rfl hq
          rw [List.map_cons] at h
          simp only [e1, Bool.false_and, Bool.false_eq_true, if_false] at h
          rw [List.lookup_cons, beq_self_eq_true] at h
          have e2 : q = k := by simpa using h
          rcases hk with z | z
          · exact hc (x, q) List.mem_cons_self (e2.trans z)
          · exact hq (e2.trans z)
      rw [hq]
      exact List.mem_cons_self
    · have ef : (x == n) = false := beq_eq_false_iff_ne.mpr e
      refine List.mem_cons_of_mem _ (relabel_free (env := env) hk hr ?_)
      rw [List.map_cons] at h
      by_cases c : (q == NameKind.free && env.scope.kind == .function && env.kindOf n == some .cell) = true
      · simp only [c, if_true] at h
        rw [List.lookup_cons, ef] at h
        exact h
      · simp only [c, Bool.false_eq_true, if_false] at h
        rw [List.lookup_cons, ef] at h
        exact h
theorem relabel_cell {env : Env} {x : Str} (hf : env.scope.kind = .function) (hx : env.kindOf x = some .cell) : ∀ {l : List (Str × NameKind)}, l.lookup x = some .free →
    (l.map fun (n, k) => if (k == NameKind.free && env.scope.kind == .function && env.kindOf n == some .cell) then (n, NameKind.cell) else (n, k)).lookup x = some .cell
  | [], h => by simp at h
  | (n, q) :: r, h => by
    by_cases e : x = n
    · subst e
      rw [List.lookup_cons, beq_self_eq_true] at h
      have e2 : q = .free := by simpa using h
      subst e2
      rw [List.map_cons]
      have c : (NameKind.free == NameKind.free && env.scope.kind == .function && env.kindOf x == some .cell) = true := by rw [hf, hx]; rfl
      simp only [c, if_true]
      rw [List.lookup_cons, beq_self_eq_true]
    · have ef : (x == n) = false := beq_eq_false_iff_ne.mpr e
      rw [List.lookup_cons, ef] at h
      have ih := relabel_cell hf hx h
      rw [List.map_cons]
      by_cases c : (q == NameKind.free && env.scope.kind == .function && env.kindOf n == some .cell) = true
      · simp only [c, if_true]
        rw [List.lookup_cons, ef]
        exact ih
      · simp only [c, Bool.false_eq_true, if_false]
        rw [List.lookup_cons, ef]
        exact ih

def cxC (X : Cx) (N : List Str) (sc : Scope) (s : Shared) (H : Hp) (fp : List Addr) (pins : List (Addr × Obj)) (C : Addr) : Cx :=
  { X with N := N, s₀ := s, H₀ := H, env := compEnvC sc (clOf X.env sc.names) C X.env, outer := X.stack, ex := fp, fn := fun _ => false, pn := X.pn ++ pins, xe := fun _ _ => False }
structure ScOk (X : Cx) (sc : Scope) (x : Str) : Prop where
  kind : sc.kind = .function
  nocell : ∀ y ∈ sc.names, y.2 ≠ .cell
  var : sc.names.lookup x = some .local
  names : ∀ y ∈ sc.names, y.2 = .local → sc.names.lookup y.1 = some .local
  frees : ∀ y ∈ sc.names, y.2 = .free → X.env.kindOf y.1 = some .cell
/-- the names that the block closes over, with their slots outside -/
def FreeOk (X : Cx) (sc : Scope) : List Str → List Nat → Prop
  | [], [] => True
  | y :: ys, j :: js => X.N[j]? = some y ∧ X.env.kindOf y = some .cell ∧ sc.names.lookup y = some .free ∧ FreeOk X sc ys js
  | _, _ => False
def look (σ : St) (js : List Nat) : St := js.map fun j => (σ[j]?).join
theorem FreeOk.get {X : Cx} {sc : Scope} {σ : St} : ∀ {ys : List Str} {js : List Nat}, FreeOk X sc ys js → ∀ {i : Nat} {y : Str} {v : V}, ys[i]? = some y → (look σ js)[i]? = some (some v) →
    ∃ j : Nat, X.N[j]? = some y ∧ σ[j]? = some (some v) ∧ X.env.kindOf y = some .cell ∧ sc.names.lookup y = some .free
  | [], [], _, i, y, v, h, _ => by simp at h
  | y' :: ys, j :: js, f, 0, y, v, h, g => by
    obtain ⟨f1, f2, f3, _⟩ := f
    have e : y' = y := by simpa using h
    subst e
    have g' : (σ[j]?).join = some v := by simpa [look] using g
    cases q : σ[j]? with
    | none => rw [q] at g'; cases g'
    | some z =>
      rw [q] at g'
      have : z = some v := g'
      subst this
      exact ⟨j, f1, q, f2, f3⟩
  | y' :: ys, j :: js, f, i + 1, y, v, h, g => FreeOk.get f.2.2.2 (by simpa using h) (by simpa [look] using g)
  | [], _ :: _, f, _, _, _, _, _ => f.elim
  | _ :: _, [], f, _, _, _, _, _ => f.elim
theorem FreeOk.len {X : Cx} {sc : Scope} : ∀ {ys : List Str} {js : List Nat}, FreeOk X sc ys js → ys.length = js.length
  | [], [], _ => rfl
  | _ :: _, _ :: _, f => by simp [FreeOk.len f.2.2.2]
  | [], _ :: _, f => f.elim
  | _ :: _, [], f => f.elim

section
variable {X : Cx} {pins : List (Addr × Obj)} {σ : St} {H : Hp} {s : Shared} {sc : Scope} {x : Str} {ys : List Str} {js : List Nat} {fp : List Addr} {C D : Addr}

theorem ScOk.cells (S : ScOk X sc x) (I : Inv X pins σ H s) : ∀ y ∈ sc.names, y.2 = .free → ∃ c, X.env.cells.lookup y.1 = some c := fun y hy e => I.ok.has y.1 (.inl (S.frees y hy e))
theorem cxC_ok {N : List Str} (S : ScOk X sc x) (I : Inv X pins σ H s) (hf : ∀ b ∈ fp, FpOk X pins H b) (hl : ∀ b ∈ fp, b < s.heap.objs.size) (hC : s.heap.objs.size ≤ C) : (cxC X N sc s H fp pins C).Ok where
  mod := I.ok.mod
  kind := S.kind
  glob := I.ok.glob
  blt := I.ok.blt
  above := hC
  inj := fun y z c h1 h2 => I.ok.inj y z c (clOf_in (S.cells I) h1).1 (clOf_in (S.cells I) h2).1
  has := fun y hy => by
    have hm : (y, NameKind.free) ∈ sc.names := by
      rcases hy with hy | hy
      · exact relabel_free (.inl rfl) S.nocell hy
      · exact relabel_free (.inr rfl) S.nocell hy
    exact clOf_has hm
  cab := fun _ _ h _ => nomatch h
  hd := I.ok.hd
  frames := I.ok.frames
  stk := .inl rfl
  exf := fun b hb => ⟨Nat.ne_of_lt (Nat.lt_of_lt_of_le (hl b hb) hC), fun y c hc => (hf b hb).2.2.2.2.1 y c (clOf_in (S.cells I) hc).1⟩
  bs := fun b o e => I.bs b o e
  bsz := Nat.le_trans I.ok.bsz I.sz
  noex := fun b o e hb => by
    rcases (hf b hb).2.2.2.1 with z | z
    · exact I.ok.noex b o e z
    · have := (I.ok.bs b o e).1
      rw [z] at this; cases this
  exfs := fun b hb hz => by
    rcases List.mem_cons.mp (I.stkSub b hz) with e | e
    · exact (hf b hb).2.1 e
    · exact (hf b hb).2.2.1 e
  funs := I.stack
  frf := I.stkFree
  hdl := by
    rcases I.ok.hdl with q | ⟨e, C', oe, vs, q1, q2, q3, q4, q5 | ⟨q5, q6, q7, q8⟩⟩
    · exact .inl q
    · exact .inr ⟨e, C', oe, vs, q1, q2, q3, q4, .inl (List.mem_append_left _ q5)⟩
    · refine .inr ⟨e, C', oe, vs, q1, q2, q3, q4, .inr ⟨I.base.keep e oe q5 q6 q7 q8, I.base.free e oe q5 q6 q8, fun z => (List.mem_cons.mp (I.stkSub e z)).elim (Nat.ne_of_lt (Nat.lt_of_lt_of_le (Heap.lt_size q5) I.ok.above)) q7, fun z => ?_⟩⟩
      rcases (hf e z).2.2.2.1 with y | y
      · exact q8 y
      · rw [y] at q5; cases q5
theorem notStk (I : Inv X pins σ H s) {b : Addr} (h1 : b ≠ X.env.locals) (h2 : b ∉ X.fs) : b ∉ frs X.stack := fun z => (List.mem_cons.mp (I.stkSub b z)).elim h1 h2
/-- the block begins: the new list stands at D, the frame at C -/
theorem inv_block {h' : Heap} {t' : Nat} {m : Str → Option Value} {H' : Hp} (S : ScOk X sc x) (Fo : FreeOk X sc ys js) (I : Inv X pins σ H s) (hf : ∀ b ∈ fp, FpOk X pins H b) (hl : ∀ b ∈ fp, b < s.heap.objs.size) (hC : s.heap.objs.size ≤ C)
    (kp : ∀ b o, s.heap.get? b = some o → h'.get? b = some o) (hn : h'.Ns C m) (un : Un (frs X.stack) fp H H' s.heap h') (ok : HOk X.prog X.w H' h') (nC : H' C = none) (nf : ∀ b o, s.heap.get? b = some o → H b = none → H' b = none) :
    Inv (cxC X (x :: ys) sc s H fp pins C) [] (none :: look σ js) H' { s with heap := h', toks := t' } where
  ok := cxC_ok S I hf hl hC
  os := rfl
  bare := I.bare
  base := un
  loc := ⟨m, hn, fun i y v e1 e2 e3 => by
    cases i with
    | zero => simp at e2
    | succ i =>
      have z1 : ((x :: ys) : List Str)[i + 1]? = some y := e1
      obtain ⟨j, g1, g2, g3, g4⟩ := Fo.get (σ := σ) (i := i) (y := y) (v := v) (by simpa using z1) (by simpa using e2)
      obtain ⟨mo, hmo, lo⟩ := I.loc
      have vis : Vis X.env.scope y := .inr (.inl g3)
      obtain ⟨u, ru, lk⟩ := lo j y v g1 g2 vis
      refine ⟨u, ru, .inr ⟨.inl (relabel_cell I.ok.kind g3 g4), ?_⟩⟩
      rcases lk with ⟨k, _⟩ | ⟨_, c, hc, cell⟩
      · rw [g3] at k; cases k
      · obtain ⟨c', hc'⟩ := clOf_has (env := X.env) (PySem.mem_of_lookup g4)
        have e : c' = c := by
          have := (clOf_in (S.cells I) hc').1
          rw [hc] at this
          cases this; rfl
        subst e
        obtain ⟨oc, ho, hd⟩ := cell
        exact ⟨c', hc', oc, kp _ _ ho, hd⟩⟩
  cell := fun y c hc => by
    obtain ⟨v, oc, ho, hd⟩ := I.cell y c (clOf_in (S.cells I) hc).1
    exact ⟨v, oc, kp _ _ ho, hd⟩
  free := nC
  freeC := fun y c hc => by
    obtain ⟨v, oc, ho, hd⟩ := I.cell y c (clOf_in (S.cells I) hc).1
    exact nf c oc ho (I.freeC y c (clOf_in (S.cells I) hc).1)
  pin := fun p hp => by
    rw [List.append_nil] at hp
    obtain ⟨e, n, ne, nfs, d⟩ := I.pin p hp
    exact ⟨kp _ _ e, nf _ _ e n, Nat.ne_of_lt (Nat.lt_of_lt_of_le (Heap.lt_size e) hC), notStk I ne nfs, d⟩
  hok := ok
  len := by
    have := Fo.len
    simp [look, cxC, this]
/-- .. and ends -/
theorem inv_out {s2 : Shared} {H2 H' : Hp} {N : List Str} {σ' : St} {pl : List (Addr × Obj)} (I : Inv X pins σ H2 s2) (hf : ∀ b ∈ fp, FpOk X pins H2 b) (I' : Inv (cxC X N sc s2 H2 fp pins C) pl σ' H' s) : Inv X pins σ H' s :=
  I.call' I'.os I'.base I'.hok I'.bare fun b hb => ⟨(hf b hb).2.2.2.1, (hf b hb).2.1, (hf b hb).2.2.2.2.1, (hf b hb).2.2.2.2.2⟩
end

def PIfs (X : Cx) (ifs : List Expr) (t : TT) : Prop :=
  ∀ (pins : List (Addr × Obj)) (s : Shared) (σ : St) (H : Hp) (Q : Bool → Hp → Prop), Inv X pins σ H s → t σ H Q →
    wpAny (model X.prog X.w) X.A (forIn ifs true fun c r => if r = true then do let ok ← isTrue c X.env (eval c X.env); pure (ForInStep.yield ok) else pure (ForInStep.yield r)) (TP X pins σ Q) X.xe s
def tYes : TT := fun _ H Q => Q true H
theorem pifs_nil {X : Cx} : PIfs X [] tYes := fun _ _ _ H _ I h => wpAny_tests_nil ⟨H, I, h⟩
section
variable {prog : Program} {w : World} {A : Around} {R : Result → Shared → Prop} {s : Shared}
theorem comp_loop {elt tg iter : Expr} {ifs : List Expr} {scope : Scope} {pos : Pos} {it acc : Value} {env : Env} (J : Nat → Shared → Prop)
    (turn : ∀ n s, J n s → wpAny (model prog w) A (pyNext it) (fun r s1 => match r with
      | none => R (.ok .next) s1
      | some v => wpAny (model prog w) A (letOwnedTupleGo tg it v) (fun _ s2 => wpAny (model prog w) A (assign tg env v) (fun _ s3 =>
          wpAny (model prog w) A (forIn ifs true fun c r => if r = true then do let ok ← isTrue c env (eval c env); pure (ForInStep.yield ok) else pure (ForInStep.yield r)) (fun ok s4 =>
            if ok = true then wpAny (model prog w) A (eval elt env) (fun x s5 => wpAny (model prog w) A (call (.builtin "list.append") [acc, x]) (fun _ s6 => ∃ m, m < n ∧ J m s6) (fun _ _ => False) s5) (fun _ _ => False) s4
            else ∃ m, m < n ∧ J m s4) (fun _ _ => False) s3) (fun _ _ => False) s2) (fun _ _ => False) s1) (fun _ _ => False) s)
    (n : Nat) (h : J n s) : codeAny (model prog w) A (.compLoop (.ListComp elt [⟨tg, iter, ifs, 0⟩] scope pos) 0 it acc env) R s := by
  refine codeAny_loop rfl J (fun n s j => ?_) n h
  refine wpAny_noted (m := compTurn (.ListComp elt [⟨tg, iter, ifs, 0⟩] scope pos) 0 it acc env) ?_
  rw [compTurn_list]
  refine wpAny_bind (wpAny_standAt (wpAny_bind (wpAny_mono (turn n s j) (fun r s1 h1 => ?_) fun _ _ z => z.elim)))
  cases r with
  | none => exact wpAny_pure h1
  | some v =>
    refine wpAny_bind (wpAny_mono h1 (fun _ s2 h2 => wpAny_bind (wpAny_mono h2 (fun _ s3 h3 => wpAny_bind (wpAny_mono h3 (fun ok s4 h4 => ?_) fun _ _ z => z.elim)) fun _ _ z => z.elim)) fun _ _ z => z.elim)
    cases ok with
    | false => exact wpAny_pure ⟨rfl, h4⟩
    | true => exact wpAny_bind (wpAny_bind (wpAny_mono h4 (fun y s5 h5 => wpAny_bind (wpAny_mono h5 (fun _ s6 h6 => wpAny_pure (wpAny_pure ⟨rfl, h6⟩)) fun _ _ z => z.elim)) fun _ _ z => z.elim))
end

def tComp (wi : TI) (js : List Nat) (tc : TT) (te : TE) : TE := fun σ H Q => wi σ H fun J H1 => ∀ D, H1 D = none → ∃ W : Nat → Nat → List V → Hp → Prop, (∃ m, W 0 m [] (upd H1 D (.lst []))) ∧
  ∀ i m acc H2, W i m acc H2 → H2 D = some (.lst acc) ∧ acc.length < sizeLine ∧ ((J.stop i H2 ∧ Q (.ref D) H2) ∨
    (J.go i H2 ∧ ∀ x H3, J.yld i H2 x H3 → tc (some x :: look σ js) H3 fun b H4 => if b = true then te (some x :: look σ js) H4 fun v H5 => H5 D = some (.lst acc) ∧ ∃ m', m' < m ∧ W (i + 1) m' (acc ++ [v]) (upd H5 D (.lst (acc ++ [v])))
      else ∃ m', m' < m ∧ W (i + 1) m' acc H4))
section
variable {X : Cx} {elt iter : Expr} {x : Str} {px pos : Pos} {ifs : List Expr} {sc : Scope} {wi : TI} {ys : List Str} {js : List Nat} {tc : TT} {te : TE}
theorem comp_core {pins : List (Addr × Obj)} {σ : St} {H : Hp} {s : Shared} {Q : VK} {RR : Value → Addr → Result → Shared → Prop} (hc : (0 : Nat) = 0) (S : ScOk X sc x) (Fo : FreeOk X sc ys js) (hN : (x :: ys).Nodup) (hi : PI X (.Name x px) iter wi)
    (hifs : ∀ s H fp pins C, PIfs (cxC X (x :: ys) sc s H fp pins C) ifs tc) (helt : ∀ s H fp pins C, PE (cxC X (x :: ys) sc s H fp pins C) elt te)
    (I : Inv X pins σ H s) (h : tComp wi js tc te σ H Q)
    (hRR : ∀ D C H' s' m, Inv X pins σ H' s' → s'.heap.Ns C m → FpOk X pins H' C → Q (.ref D) H' → RR (.ref D) C (.ok .next) s') :
    wpAny (model X.prog X.w) X.A (eval iter X.env) (fun v s1 => wpAny (model X.prog X.w) X.A (pyIter v) (fun it s2 => wpAny (model X.prog X.w) X.A (newList []) (fun acc s3 =>
      wpAny (model X.prog X.w) X.A (newFunctionEnv sc X.env.globals (clOf X.env sc.names) [] X.env.qual none .none (some X.env)) (fun cenv s4 =>
        codeAny (model X.prog X.w) X.A (.compStart (.ListComp elt [⟨.Name x px, iter, ifs, 0⟩] sc pos) 0 it acc { cenv with scope := relabel sc X.env }) (RR acc cenv.locals) s4) X.xe s3) X.xe s2) X.xe s1) X.xe s := by
  refine thn (hi pins s σ H _ I h) fun v s1 h1 => thn h1 fun itv s2 h2 => ?_
  obtain ⟨it, fp, tn, J, H2, e, I2, T, st2, f2, q⟩ := h2
  subst e
  have hl : ∀ b ∈ fp, b < s2.heap.objs.size := fun b hb => let ⟨_, e, _⟩ := T.obj 0 _ st2 b hb; Heap.lt_size e
  have hfr := I2.hok.fresh (Nat.le_refl s2.heap.objs.size)
  obtain ⟨W, ⟨m0, w0⟩, turn⟩ := q s2.heap.objs.size hfr
  refine wpAny_newObj_type (wpAny_newFunctionEnv S.nocell (by intro y hy; simp at hy) (fun h4 hn4 hb4 => ?_) S.kind) (by size_fits)
  dsimp only at hn4 hb4 ⊢
  generalize hD : s2.heap.objs.size = D at hfr w0 turn hn4 hb4 ⊢
  generalize hp : s2.heap.push { cls := .type "list", data := .seq ([] : List Value).toArray } = h3 at hn4 hb4 ⊢
  have hC : h3.objs.size = D + 1 := by rw [← hp, Heap.size_push, hD]
  generalize hCe : h3.objs.size = C at hC hn4 hb4 ⊢
  have hDs : s2.heap.objs.size ≤ D := Nat.le_of_eq hD
  have hCs : s2.heap.objs.size ≤ C := by rw [hD, hC]; exact Nat.le_succ _
  have hDC : D ≠ C := by rw [hC]; exact Nat.ne_of_lt (Nat.lt_succ_self D)
  have k3 : ∀ b o, s2.heap.get? b = some o → h3.get? b = some o := fun b o e => by rw [← hp]; exact Heap.get?_push_of_some _ e
  have k4 : ∀ b o, b ≠ C → h3.get? b = some o → h4.get? b = some o := fun b o ne e => hb4.extBut b o ne (Heap.get?_push_of_some _ e)
  have kp : ∀ b o, s2.heap.get? b = some o → h4.get? b = some o := fun b o e => k4 b o (Nat.ne_of_lt (Nat.lt_of_lt_of_le (Heap.lt_size e) hCs)) (k3 b o e)
  have hDo : h4.get? D = some { cls := .type "list", data := .seq ([] : List Value).toArray } := k4 D _ hDC (by rw [← hp, ← hD]; exact Heap.get?_push_size _ rfl)
  have new : ObjOk X.prog X.w (upd H2 D (.lst [])) h4 D (.lst []) := ⟨Nat.zero_le _, [], 0, .nil, hDo⟩
  have ok4 : HOk X.prog X.w (upd H2 D (.lst [])) h4 := I2.hok.laid kp hDs new
  have un4 : Un (frs X.stack) fp H2 (upd H2 D (.lst [])) s2.heap h4 := Un.laid kp hDs hfr
  have nC : upd H2 D (.lst []) C = none := by
    rw [upd_ne hDC.symm]
    exact I2.hok.fresh hCs
  have nf : ∀ b o, s2.heap.get? b = some o → H2 b = none → upd H2 D (.lst []) b = none := fun b o e n => by
    rw [upd_ne (Nat.ne_of_lt (Nat.lt_of_lt_of_le (Heap.lt_size e) hDs))]
    exact n
  have I4 := inv_block (t' := s2.toks) S Fo I2 f2 hl hCs kp hn4 un4 ok4 nC nf
  have stat : ∀ {H' : Hp} {pl : List (Addr × Obj)}, (∀ b ∈ fp, H' b = none) → ∀ b ∈ fp, FpOk (cxC X (x :: ys) sc s2 H2 fp pins C) [] H' b := fun {H' pl} hn b hb =>
    ⟨hn b hb, Nat.ne_of_lt (Nat.lt_of_lt_of_le (hl b hb) hCs), notStk I2 (f2 b hb).2.1 (f2 b hb).2.2.1, .inl hb, fun y c e => (f2 b hb).2.2.2.2.1 y c (clOf_in (S.cells I2) e).1, fun p hp => (f2 b hb).2.2.2.2.2 p (by simpa [cxC] using hp)⟩
  have loop : ∀ s', s' = { s2 with heap := h4, toks := s2.toks + ([] : List (Str × Value)).length } → codeAny (model X.prog X.w) X.A (.compLoop (.ListComp elt [⟨.Name x px, iter, ifs, 0⟩] sc pos) 0 (.ref it) (.ref D) (cxC X (x :: ys) sc s2 H2 fp pins C).env) (RR (.ref D) C) s' := by
    rintro s' rfl
    refine comp_loop (fun n s' => ∃ i a H' z, Inv (cxC X (x :: ys) sc s2 H2 fp pins C) [] (z :: look σ js) H' s' ∧ tn i s'.heap ∧ (∀ b ∈ fp, H' b = none) ∧ W i n a H') ?_ m0
      ⟨0, [], _, none, I4, T.keep _ _ _ st2 fun b hb o e => kp b o e, fun b hb => nf b _ (T.obj 0 _ st2 b hb).choose_spec.1 (f2 b hb).1, w0⟩
    rintro n s5 ⟨i, a, H5, z, I5, t5, n5, w5⟩
    obtain ⟨eD, hz, alt⟩ := turn i n a H5 w5
    rcases alt with ⟨stop, qn⟩ | ⟨go, step⟩
    · refine wpAny_mono (T.done (cxC X (x :: ys) sc s2 H2 fp pins C) rfl rfl rfl hc i [] s5 _ H5 (fun _ _ => False) I5 (stat (pl := []) n5) t5 stop) (fun r s6 ⟨hr, I6⟩ => ?_) fun _ _ z => z
      subst hr
      obtain ⟨m6, hn6, _⟩ := I6.loc
      exact hRR D C H5 s6 m6 (inv_out I2 f2 I6) hn6 (I2.fpOk hCs I6.free) qn
    · refine wpAny_mono (T.item (cxC X (x :: ys) sc s2 H2 fp pins C) rfl rfl rfl hc i [] s5 _ H5 (fun _ _ => False) I5 (stat (pl := []) n5) t5 go) (fun r s6 ⟨u, hr, h6⟩ => ?_) fun _ _ z => z
      subst hr
      refine wpAny_mono h6 (fun _ s7 ⟨y, H7, I7, r7, y7, t7, n7⟩ => ?_) fun _ _ z => z
      have I7' := I7.pinned (stat (pl := []) n7) (T.obj _ _ t7)
      have q7 := step y H7 y7
      have hx : Loc (cxC X (x :: ys) sc s2 H2 fp pins C).env.scope x := .inl (lookup_relabel_local S.var)
      refine wpAny_mono (pg_name (X := cxC X (x :: ys) sc s2 H2 fp pins C) (i := 0) (x := x) (pos := px) hN rfl hx (.inr (lookup_relabel_local S.var)) _ s7 _ H7 y u (fun σ' H' => σ' = some y :: look σ js ∧ H' = H7) I7' r7 ⟨rfl, rfl⟩) (fun _ s8 ⟨σ8, H8, I8, e8, e8'⟩ => ?_) fun _ _ z => z
      subst e8; subst e8'
      have again : ∀ {s9 : Shared} {H9 : Hp} {m' : Nat} {a' : List V}, Inv (cxC X (x :: ys) sc s2 H2 fp pins C) ([] ++ pinsAt fp s7.heap) (some y :: look σ js) H9 s9 → m' < n → W (i + 1) m' a' H9 →
          ∃ m, m < n ∧ ∃ i a H' z, Inv (cxC X (x :: ys) sc s2 H2 fp pins C) [] (z :: look σ js) H' s9 ∧ tn i s9.heap ∧ (∀ b ∈ fp, H' b = none) ∧ W i m a H' := fun {s9 H9 m' a'} I9 hm w9 =>
        ⟨m', hm, i + 1, a', H9, some y, I9.unpinned, T.keep _ _ _ t7 fun b hb o e => (I9.pin (b, o) (List.mem_append_right _ (List.mem_append_right _ (mem_pinsAt hb e)))).1, fun b hb => by
          obtain ⟨o, e, _⟩ := T.obj _ _ t7 b hb
          exact (I9.pin (b, o) (List.mem_append_right _ (List.mem_append_right _ (mem_pinsAt hb e)))).2.1, w9⟩
      refine wpAny_mono (hifs s2 H2 fp pins C _ s8 _ H8 _ I8 q7) (fun ok s9 ⟨H9, I9, q9⟩ => ?_) fun _ _ z => z
      cases ok with
      | false =>
        rw [if_neg Bool.false_ne_true] at q9 ⊢
        obtain ⟨m', hm, w9⟩ := q9
        exact again I9 hm w9
      | true =>
        rw [if_pos rfl] at q9 ⊢
        refine wpAny_mono (helt s2 H2 fp pins C _ s9 _ H9 _ I9 q9) (fun ev s10 ⟨ve, H10, I10, r10, e10, m', hm, w10⟩ => ?_) fun _ _ z => z
        refine wpAny_mono (mt_append (X := cxC X (x :: ys) sc s2 H2 fp pins C) _ s10 _ H10 (.ref D) [ve] (.ref D) [ev] (fun _ H' => H' = upd H10 D (.lst (a ++ [ve]))) I10 rfl (.cons r10 .nil) ⟨D, a, ve, rfl, rfl, e10, hz, rfl⟩) (fun _ s11 ⟨_, H11, I11, _, e11⟩ => ?_) fun _ _ z => z
        subst e11
        exact again I11 hm w10
  exact codeAny_compStart_list (loop _ rfl) (T.self _ 0 _ _ _ (T.keep _ _ _ st2 fun b hb o e => kp b o e) (loop _ rfl))
theorem pe_comp (hc : (0 : Nat) = 0) (S : ScOk X sc x) (Fo : FreeOk X sc ys js) (hN : (x :: ys).Nodup) (hi : PI X (.Name x px) iter wi)
    (hifs : ∀ s H fp pins C, PIfs (cxC X (x :: ys) sc s H fp pins C) ifs tc) (helt : ∀ s H fp pins C, PE (cxC X (x :: ys) sc s H fp pins C) elt te) (hs : ∀ v, foldedSetIterable iter X.env v = pure v := by intro _; rfl) :
    PE X (.ListComp elt [⟨.Name x px, iter, ifs, 0⟩] sc pos) (tComp wi js tc te) := by
  intro pins s σ H Q I h
  rw [eval_ListComp]
  refine wpAny_comprehension_free rfl hs (closure_of (S.cells I)) S.kind S.names (comp_core (Q := Q) hc S Fo hN hi hifs helt I h fun D C H' s' m I' hn fo q => ?_)
  exact ⟨m, hn, fun h' sb => ⟨.ref D, H', I'.turned (t' := s'.toks) (fun b o ne e => sb.extBut b o ne e) fo.1 fo.2.1 fo.2.2.2.1 fo.2.2.2.2.1 fo.2.2.2.2.2, rfl, q⟩⟩
end
end L2

end

section
set_option autoImplicit false
set_option maxRecDepth 100000
set_option linter.all false
namespace L2
open PySem PySem.Spec PyProof.Rows EoD Eo

mutual
inductive Rep (K : PySem.W.Frag) (H : Hp) : V → PyData → Prop
  | non : Rep K H .non .none
  | bl (b : Bool) : Rep K H (.bl b) (.bool b)
  | int (i : Int) : Rep K H (.int i) (.int i)
  | tup {a : Addr} {xs : List V} {ds : List PyData} : SqT K H a xs → Reps K H xs ds → Rep K H (.ref a) (.tuple ds)
  | lst {a : Addr} {xs : List V} {ds : List PyData} : SqL K H a xs → Reps K H xs ds → Rep K H (.ref a) (.list ds)
inductive Reps (K : PySem.W.Frag) (H : Hp) : List V → List PyData → Prop
  | nil : Reps K H [] []
  | cons {v : V} {d : PyData} {vs : List V} {ds : List PyData} : Rep K H v d → Reps K H vs ds → Reps K H (v :: vs) (d :: ds)
end
mutual
theorem Rep.reads {X : Cx} {pins : List (Addr × Obj)} {σ : St} {H : Hp} {s : Shared} (I : Inv X pins σ H s) : ∀ {v : V} {d : PyData} {u : Value}, Rep X.K H v d → RelV v u → ∃ as, Reads s.heap u d as
  | _, _, _, .non, r => by cases r; exact ⟨_, .none⟩
  | _, _, _, .bl b, r => by cases r; exact ⟨_, .bool b⟩
  | _, _, _, .int i, r => by obtain ⟨t, rfl⟩ := r; exact ⟨_, .int i t⟩
  | _, _, _, .tup h rs, r => by
    cases r
    obtain ⟨its, rv, ⟨o, e, c, n, d⟩, _⟩ := I.tuple h
    obtain ⟨as, ra⟩ := Reps.reads I rs rv
    exact ⟨_, .tuple e c d ra⟩
  | _, _, _, .lst h rs, r => by
    cases r
    obtain ⟨its, rv, ⟨o, n, e, c, _, d⟩, _⟩ := I.list h
    obtain ⟨as, ra⟩ := Reps.reads I rs rv
    exact ⟨_, .list e c d ra⟩
theorem Reps.reads {X : Cx} {pins : List (Addr × Obj)} {σ : St} {H : Hp} {s : Shared} (I : Inv X pins σ H s) : ∀ {vs : List V} {ds : List PyData} {us : List Value}, Reps X.K H vs ds → Vals vs us → ∃ as, ReadsAll s.heap us ds as
  | _, _, _, .nil, .nil => ⟨_, .nil⟩
  | _, _, _, .cons a b, .cons r t => by
    obtain ⟨as, ra⟩ := Rep.reads I a r
    obtain ⟨bs, rb⟩ := Reps.reads I b t
    exact ⟨_, .cons ra rb⟩
end
def rEqD (K : PySem.W.Frag) : R2 := fun x y H Q => ∃ dx dy, Rep K H x dx ∧ Rep K H y dy ∧ SeqAt.shaped dx = true ∧ SeqAt.shaped dy = true ∧ Q (.bl (PyData.eqv dx dy)) H
section
variable {X : Cx}
theorem op_eqD (hu : X.A.units + 64 < cLine) : OpR X (compareOp .Eq) (rEqD X.K) := by
  intro pins s σ H x y v u Q I rx ry ⟨dx, dy, hx, hy, sx, sy, q⟩
  obtain ⟨as, ra⟩ := hx.reads I rx
  obtain ⟨bs, rb⟩ := hy.reads I ry
  exact eq_dataH ra rb sx sy hu ⟨.bl _, H, I, rfl, q⟩
end

theorem eqvAll_map {α : Type} [DecidableEq α] {f : α → PyData} (h : ∀ x y, PyData.eqv (f x) (f y) = decide (x = y)) : ∀ l m : List α, PyData.eqvAll (l.map f) (m.map f) = decide (l = m)
  | [], [] => by simp [PyData.eqvAll]
  | [], _ :: _ => by simp [PyData.eqvAll]
  | _ :: _, [] => by simp [PyData.eqvAll]
  | a :: l, b :: m => by
    simp only [List.map_cons, PyData.eqvAll, h, eqvAll_map h l m]
    rw [Bool.eq_iff_iff]
    simp

def IsW (H : Hp) (v : V) (x : W) : Prop := ∃ p, v = .ref p ∧ H p = some (.tup [.int x.1, .bl x.2])
def IsP (H : Hp) (v : V) (p : W × W) : Prop := ∃ q a b, v = .ref q ∧ H q = some (.tup [a, b]) ∧ IsW H a p.1 ∧ IsW H b p.2
abbrev Ps (H : Hp) : List V → List (W × W) → Prop := Paired (IsP H)
section
variable {K : PySem.W.Frag} {H H' : Hp} {v : V} {x : W} {p : W × W}
theorem IsW.same (e : Same H H') (h : IsW H v x) : IsW H' v x := let ⟨q, h1, h2⟩ := h; ⟨q, h1, e _ _ h2⟩
theorem IsP.same (e : Same H H') (h : IsP H v p) : IsP H' v p := let ⟨q, a, b, h1, h2, h3, h4⟩ := h; ⟨q, a, b, h1, e _ _ h2, h3.same e, h4.same e⟩
theorem Ps.same (e : Same H H') {vs : List V} {xs : List (W × W)} (h : Ps H vs xs) : Ps H' vs xs := Paired.mapP h fun _ _ z => z.same e
theorem paired_get {α β : Type} {F : α → β → Prop} : ∀ {l : List α} {m : List β}, Paired F l m → ∀ {i : Nat} {a : α}, l[i]? = some a → ∃ b, m[i]? = some b ∧ F a b
  | _, _, .nil, i, a, h => by simp at h
  | _, _, .cons f t, 0, a, h => by simp at h; subst h; exact ⟨_, rfl, f⟩
  | _, _, .cons f t, i + 1, a, h => by
    obtain ⟨b, h1, h2⟩ := paired_get t (i := i) (a := a) (by simpa using h)
    exact ⟨b, by simpa using h1, h2⟩
end

section
variable {X : Cx} {pins : List (Addr × Obj)} {σ : St} {H : Hp} {s : Shared} {a : Addr} {kvs : List (W × V)} {A : Around} {E : Value → Shared → Prop}
end
end L2

end

section
set_option autoImplicit false
set_option maxRecDepth 100000
set_option linter.all false
namespace L2
open PySem PySem.Spec PyProof.Rows EoD Eo

theorem ns_one {h : Heap} {a : Addr} {m m' : Str → Option Value} (x : h.Ns a m) (y : h.Ns a m') : m = m' := by
  obtain ⟨o, es, ep, e, d, _, f⟩ := x
  obtain ⟨o', es', ep', e', d', _, f'⟩ := y
  rw [e] at e'
  cases e'
  rw [d] at d'
  cases d'
  funext n
  rw [← f n, ← f' n]
section
variable {X : Cx} {pins : List (Addr × Obj)} {σ : St} {H : Hp} {s : Shared}
theorem news_keep {base h h' : Heap} {L : Addr} {m m' : Str → Option Value} {q : List (Addr × Obj)} (F : Fr base L h m) (F' : Fr base L h' m') (N : News base L h' q) (hq : ∀ p ∈ allNews base h L, p ∈ q) : ∀ b o, b ≠ L → h.get? b = some o → h'.get? b = some o := fun b o hb e => by
  cases z : base.get? b with
  | some u =>
    have := F.keep b u z
    rw [e] at this
    cases this
    exact F'.keep b _ z
  | none => exact (N (b, o) (hq _ (mem_allNews hb z e))).1
end

section
variable {prog : Program} {w : World} {A : Around} {E : Value → Shared → Prop} {s : Shared} {Q : Bool → Shared → Prop}
end

section
variable {prog : Program} {w : World} {A : Around} {E : Value → Shared → Prop} {s : Shared}
end
section
variable {X : Cx}
end
end L2

end

section
set_option autoImplicit false
set_option maxRecDepth 100000
set_option linter.all false
namespace L2
open PySem PySem.Spec PyProof.Rows EoD Eo
section
variable {X : Cx}
theorem vals_bools : ∀ {bs : List Bool} {us : List Value}, Vals (bs.map V.bl) us → LSm.BoolsAre us bs
  | [], _, .nil => .nil
  | b :: bs, _, .cons r t => by cases r; exact .cons b (vals_bools t)
/-- all([..]) of truths -/
theorem call_allB (hc : (0 : Nat) = 0) : CallR X (.builtin "all") (fun xs H Q => ∃ (p : Addr) (bs : List Bool), xs = [.ref p] ∧ SqL X.K H p (bs.map V.bl) ∧ Q (.bl (bs.all id)) H) := by
  intro pins s σ H xs us Q I r ⟨p, bs, e, hq, q⟩
  subst e
  obtain ⟨u, rfl, ru⟩ := vals1 r
  cases ru
  obtain ⟨its, rv, pl, hz⟩ := I.list hq
  obtain ⟨m, F⟩ := I.fr
  refine EoH.all_bools F (news_all (g := X.base) (h := s.heap) (L := X.env.locals)) I.hdn pl.isList (vals_bools rv) fun h' tk F' N' => ⟨.bl _, H, ?_, rfl, q⟩
  have k := news_keep F F' N' fun _ hp => hp
  have nL : ∀ b u, H b = some u → b ≠ X.env.locals := fun b u e z => by rw [z, I.free] at e; cases e
  have there : ∀ b o, s.heap.get? b = some o → ∃ o', h'.get? b = some o' := fun b o e => by
    by_cases hb : b = X.env.locals
    · obtain ⟨o', _, _, e', _⟩ := F'.ns
      exact ⟨o', by rw [hb]; exact e'⟩
    · exact ⟨o, k b o hb e⟩
  refine I.step (g' := s.gens) (d' := s.drawn) (ch := []) (fun _ z => nomatch z) (fun b o h1 _ _ e _ => k b o h1 e) (fun b o h1 _ _ e _ => ⟨o.slots, k b o h1 e⟩) (fun b o _ e n => n) (fun b o _ e => there b o e) (fun _ _ e => e) (fun _ _ _ e => e) (fun b ps e => ⟨#[], by rw [e]; simp⟩)
    (fun m' hm' => by rw [← ns_one F.ns hm']; exact F'.ns) (fun b u w => (I.hok b u w).stay (fun c v hc z => ?_) (fun _ z => z) fun _ _ z => z) I.bare
  rcases hc with rfl | hc
  · exact k _ v (nL _ _ w) z
  · exact k _ v (nL _ _ hc) z
/-- isinstance(x, T) of a built-in type -/
theorem call_isinst : CallR X (.builtin "isinstance") (fun xs H Q => ∃ x T t b, xs = [x, .ty T] ∧ TyOf X.K H x t ∧ PySem.W.kitOne X.K t (.type T) = some b ∧ Q (.bl b) H) := by
  intro pins s σ H xs us Q I r ⟨x, T, t, b, e, ty, hk, q⟩
  subst e
  obtain ⟨u, v, rfl, ru, rv⟩ := vals2 r
  cases rv
  exact isinst_ok I ru ty hk fun tk => ⟨.bl b, H, I.tok tk, rfl, q⟩
end
end L2

end

section
set_option autoImplicit false
set_option maxRecDepth 100000
set_option linter.all false
namespace EoE
open PySem PySem.Spec PyProof.Rows EoH
section
variable {prog : Program} {w : World} {A : Around} {E : Value → Shared → Prop} {s : Shared}
theorem nextOf_end {it l : Addr} {i : Nat} {items : Array Value} {Q : Value → Shared → Prop} (hq : HdN A s.heap) (hit : s.heap.IsListIter it l i) (hl : s.heap.IsList l items) (hx : items[i]? = none)
    (k : ∀ h' e, Heap.ExtBut it s.heap h' → (∃ o, h'.get? e = some o ∧ o.cls = .type "StopIteration") → E (.ref e) { s with heap := h' }) : wpAny (model prog w) A (Builtin.SmallTypes.nextOf (.ref it)) Q E s := by
  obtain ⟨oi, hoi, ci, di⟩ := id hit
  obtain ⟨ol, hol, _, nl, dl⟩ := hl
  unfold Builtin.SmallTypes.nextOf
  refine wpAny_bind (wpAny_callSpecial?_slot (name := Str.ofString "__next__") hit.typeIs slot_listiter_next (wpAny_call_entry slot_listiter_next hit.typeIs entry_listiter_next ?_ (args_listiter_next _)))
  change wpAny (model prog w) A.in1 (field (.ref it) 0 >>= _) _ _ s
  refine wpAny_bind (wpAny_field hoi di (x := .ref l) rfl ?_)
  change wpAny (model prog w) A.in1 (if (Value.ref l == Value.none) = true then _ else _) _ _ s
  rw [if_neg (show ¬ ((Value.ref l == Value.none) = true) from Bool.false_ne_true)]
  change wpAny (model prog w) A.in1 (field (.ref it) 1 >>= _) _ _ s
  refine wpAny_bind (wpAny_field hoi di (x := .int i 0) rfl ?_)
  change wpAny (model prog w) A.in1 (seqItems? (.ref l) >>= _) _ _ s
  refine wpAny_bind (wpAny_seqItems hol dl ?_)
  simp only [Int.toNat_natCast, hx]
  refine wpAny_bind (wpAny_rule (wpAny_bind (wpAny_setField hoi di (by simp) ?_)))
  have kp : ∀ b o, b ≠ it → s.heap.get? b = some o → (s.heap.update it (Obj.mapFields (·.setIfInBounds 0 Value.none))).get? b = some o := fun b o nb e => (Heap.get?_update_other _ _ (Ne.symm nb)).trans e
  exact stop_hd (s := { s with heap := s.heap.update it (Obj.mapFields (·.setIfInBounds 0 Value.none)) }) (hq.but hoi ci kp) fun h' x kk ts => k _ _ (fun b o nb e => kk b o (kp b o nb e)) ts
end
end EoE
namespace L2
open PySem PySem.Spec PyProof.Rows
section
variable {X : Cx} {pins : List (Addr × Obj)} {σ : St} {H : Hp} {s : Shared} {fp : List Addr} {h' : Heap}
/-- several own records of an iterator turned -/
theorem Inv.turnedL {t' : Nat} (I : Inv X pins σ H s) (hf : ∀ b ∈ fp, FpOk X pins H b) (k : ∀ b o, b ∉ fp → s.heap.get? b = some o → h'.get? b = some o) : Inv X pins σ H { s with heap := h', toks := t' } := by
  have nit : ∀ b u, H b = some u → b ∉ fp := fun b u e z => by rw [(hf b z).1] at e; cases e
  refine I.step (g' := s.gens) (d' := s.drawn) (ch := fp) (fun b hb => ⟨(hf b hb).2.2.2.1, (hf b hb).2.1, (hf b hb).2.2.2.2.1, (hf b hb).2.2.2.2.2⟩) (fun b o _ _ hc e _ => k b o hc e) (fun b o _ _ hc e _ => ⟨o.slots, k b o hc e⟩) (fun _ _ _ _ n => n)
    (fun b o hc e => ⟨o, k b o hc e⟩) (fun _ _ e => e) (fun _ _ _ e => e) (fun b ps e => ⟨#[], by rw [e]; simp⟩) (fun m hm => ?_) (fun b u e => ?_) I.bare
  · obtain ⟨o, es, ep, ho, r⟩ := hm
    exact ⟨o, es, ep, k _ _ (fun z => (hf _ z).2.1 rfl) ho, r⟩
  · refine (I.hok b u e).stay (fun c v hc z => k c v ?_ z) (fun _ z => z) fun _ _ z => z
    rcases hc with rfl | hc
    · exact nit _ _ e
    · exact nit _ _ hc
/-- .. and a new object laid -/
theorem Inv.turnedN {t' : Nat} {a : Addr} {o : HO} (I : Inv X pins σ H s) (hf : ∀ b ∈ fp, FpOk X pins H b) (k : ∀ b o, b ∉ fp → s.heap.get? b = some o → h'.get? b = some o) (hp : s.heap.objs.size ≤ a) (new : ObjOk X.prog X.w (upd H a o) h' a o) :
    Inv X pins σ (upd H a o) { s with heap := h', toks := t' } := by
  have nit : ∀ b u, H b = some u → b ∉ fp := fun b u e z => by rw [(hf b z).1] at e; cases e
  have hn : H a = none := I.hok.fresh hp
  refine I.step (g' := s.gens) (d' := s.drawn) (ch := fp) (fun b hb => ⟨(hf b hb).2.2.2.1, (hf b hb).2.1, (hf b hb).2.2.2.2.1, (hf b hb).2.2.2.2.2⟩) (fun b o _ _ hc e _ => k b o hc e) (fun b o _ _ hc e _ => ⟨o.slots, k b o hc e⟩)
    (fun b u _ e n => by rw [upd_ne (Nat.ne_of_lt (Nat.lt_of_lt_of_le (Heap.lt_size e) hp))]; exact n)
    (fun b o hc e => ⟨o, k b o hc e⟩) (fun b xs e => by rw [upd_ne (ne_of_none e hn)]; exact e) (fun b _ _ e => by rw [upd_ne (ne_of_none e hn)]; exact e) (fun b ps e => ⟨#[], by rw [upd_ne (ne_of_none e hn), e]; simp⟩) (fun m hm => ?_) (fun b u e => ?_) I.bare
  · obtain ⟨o, es, ep, ho, r⟩ := hm
    exact ⟨o, es, ep, k _ _ (fun z => (hf _ z).2.1 rfl) ho, r⟩
  · by_cases hb : b = a
    · subst hb; rw [upd_same] at e; cases e; exact new
    · rw [upd_ne hb] at e
      refine (I.hok b u e).stay (fun c v hc z => k c v ?_ z) (fun c q => by rw [upd_ne (ne_of_none q hn)]; exact q) fun c xs q => by rw [upd_ne (ne_of_none q hn)]; exact q
      rcases hc with rfl | hc
      · exact nit _ _ e
      · exact nit _ _ hc
end
theorem off_ne (n : Nat) {i j : Nat} (h : i ≠ j) : n + i ≠ n + j := fun z => h (Nat.add_left_cancel z)
theorem tup2_ok {P : Program} {w : World} {H : Hp} {h : Heap} {T : Addr} {x y : V} {u v : Value} (rx : RelV x u) (ry : RelV y v) (e : h.get? T = some { cls := .type "tuple", data := .seq #[u, v] }) : ObjOk P w H h T (.tup [x, y]) :=
  ⟨by show 2 ≤ sizeLine; decide, [u, v], .cons rx (.cons ry .nil), _, e, rfl, _, rfl⟩
theorem bt_enumerate : bootBuiltins "enumerate" = some (.type "enumerate") := by decide +kernel
end L2

end

section
set_option autoImplicit false
set_option maxRecDepth 100000
set_option linter.all false
namespace L2
open PySem PySem.Spec PyProof.Rows
section
variable {X : Cx} {pins : List (Addr × Obj)} {σ : St} {H : Hp} {s : Shared} {sc : Scope} {x : Str} {ys : List Str} {js : List Nat} {fp : List Addr} {C D : Addr}
end
section
variable {X : Cx} {elt iter : Expr} {x x2 : Str} {px px2 pt pos : Pos} {kt : Nat} {ifs : List Expr} {sc : Scope} {wi : TI} {ys : List Str} {js : List Nat} {tc : TT} {te : TE}
end
end L2

end

section
set_option autoImplicit false
set_option maxRecDepth 100000
set_option linter.all false
namespace L2
open PySem PySem.Spec PyProof.Rows EoD Eo
theorem bt_isinstance : bootBuiltins "isinstance" = some (.builtin "isinstance") := by decide +kernel
theorem bt_len : bootBuiltins "len" = some (.builtin "len") := by decide +kernel
theorem bt_all : bootBuiltins "all" = some (.builtin "all") := by decide +kernel
theorem bt_min : bootBuiltins "min" = some (.builtin "min") := by decide +kernel
theorem bt_int : bootBuiltins "int" = some (.type "int") := by decide +kernel
theorem bt_bool : bootBuiltins "bool" = some (.type "bool") := by decide +kernel
theorem bt_tuple : bootBuiltins "tuple" = some (.type "tuple") := by decide +kernel
theorem bt_list : bootBuiltins "list" = some (.type "list") := by decide +kernel
/-- the built-in names stand as they were -/
structure Bare (mg : Str → Option Value) : Prop where
  isin : mg "isinstance" = none
  len : mg "len" = none
  all : mg "all" = none
  min : mg "min" = none
  srt : mg "sorted" = none
  int : mg "int" = none
  bool : mg "bool" = none
  tup : mg "tuple" = none
  lst : mg "list" = none
  rev : mg "reversed" = none
  rng : mg "range" = none
/-- a def of the top -/
structure Def (K : PySem.W.Frag) (mg : Str → Option Value) (x : Str) (st : Stmt) (ps : List Str) : Prop where
  ex : ∃ f fd, Fun K x x st f fd ∧ mg x = some (.ref f) ∧ Binds K fd ps []
/-- a def of the top may be called, and keeps its promise -/
def Cal (P : Program) (w : World) (K : PySem.W.Frag) (mg : Str → Option Value) (base : Heap) (x : Str) (k : Nat) (ps : List Str) (sp : Sp) : Prop :=
  ∃ f fd, FnOk P w K mg base CX0 k f fd ps sp ∧ mg x = some (.ref f) ∧ PySem.W.keepIn K (.ref f) = true ∧ Binds K fd ps []
section
variable {P : Program} {w : World} {K : PySem.W.Frag} {mg : Str → Option Value} {base : Heap}
theorem Def.cal {x : Str} {st : Stmt} {N ps : List Str} {k : Nat} {sp : Sp} (D : Def K mg x st ps) (S : FnScope N ps (defScope st)) (len : ∀ vs H Q E, sp vs H Q E → vs.length = ps.length)
    (hbody : ∀ (f : Addr) (cdv : Value) (A : Around) (outer : List Env) (s : Shared) (H : Hp) (vs : List V) (Q : VK) (E : XK), Room k (A.deeper (envOfC x (defScope st) s.heap.objs.size f cdv)) → sp vs H Q E →
      ∃ t, PSs (cxOf CX0 P w K mg base N x (defScope st) f cdv A outer s H E).nox (defBody st) t ∧ t { nx := fun _ H' => Q .non H', rt := Q } (start N vs) H) : Cal P w K mg base x (k + 1) ps sp := by
  obtain ⟨f, fd, F, m, b⟩ := D.ex
  exact ⟨f, fd, F.ok S len (hbody f), m, F.kp, b⟩
end
theorem pe_cal {X : Cx} {x : Str} {k : Nat} {ps : List Str} {sp : Sp} {e : Expr} {es : List Expr} {t : TA} {p pos : Pos} (c : Cal X.prog X.w X.K X.mg X.base x k ps sp) (hr : Room k X.A) (hg : Gl X x) (ha : PA X (e :: es) t) (hdb : (x == ("__debug__" : Str)) = false := by decide)
    (he : starEach (e :: es) X.env = (false, eval e X.env) :: starEach es X.env := by rfl) (hpl : (backTo pos (starEach es X.env)).any (·.1) = false := by rfl) : PE X (.Call (.Name x p) (e :: es) [] pos) (tCall sp [] E0 t) :=
  let ⟨_, _, F, m, kp, b⟩ := c; pe_call F hr hg m kp b .nil pass0 ha hdb he hpl
/-- isinstance(e, T) -/
theorem pe_isin {X : Cx} (B : Bare X.mg) {e : Expr} {te : TE} {T : String} {x : Str} {p1 p2 pos : Pos} (he : PE X e te) (hg : Gl X "isinstance") (hx : Gl X x) (hm : X.mg x = none) (hv : bootBuiltins x = some (.type T)) (hn : x ≠ "__name__" := by decide) (hd : (x == ("__debug__" : Str)) = false := by decide)
    (s1 : starEach [e, .Name x p2] X.env = [(false, eval e X.env), (false, eval (.Name x p2) X.env)] := by rfl) (s2 : starEach [.Name x p2] X.env = [(false, eval (.Name x p2) X.env)] := by rfl) :
    PE X (.Call (.Name "isinstance" p1) [e, .Name x p2] [] pos) (tCB (fun xs H Q => ∃ x T t b, xs = [x, .ty T] ∧ TyOf X.K H x t ∧ PySem.W.kitOne X.K t (.type T) = some b ∧ Q (.bl b) H) (tCons te (tCons (tC (.ty T)) tNil))) :=
  pe_callB call_isinst hg B.isin bt_isinstance (pa_cons he (pa_cons (pe_bltn hx hm hv rfl hn hd) pa_nil s2) (by rw [s1, s2])) (he := by rw [s1, s2]) (hpl := by rw [s2]; rfl)

/-- the tuples stay -/
def Tups (H H' : Hp) : Prop := ∀ b xs, H b = some (.tup xs) → H' b = some (.tup xs)
theorem Same.tups {H H' : Hp} (e : Same H H') : Tups H H' := fun b xs h => e b _ h
theorem Tups.trans {H H1 H2 : Hp} (a : Tups H H1) (b : Tups H1 H2) : Tups H H2 := fun c xs h => b c xs (a c xs h)
theorem Tups.upd {H : Hp} {a : Addr} {o : HO} (h : ∀ xs, H a ≠ some (.tup xs)) : Tups H (upd H a o) := fun b xs e => by
  by_cases z : b = a
  · subst z; exact absurd e (h xs)
  · rw [upd_ne z]; exact e
theorem IsW.tups {H H' : Hp} {v : V} {x : W} (e : Tups H H') (h : IsW H v x) : IsW H' v x := let ⟨q, h1, h2⟩ := h; ⟨q, h1, e _ _ h2⟩
theorem IsP.tups {H H' : Hp} {v : V} {p : W × W} (e : Tups H H') (h : IsP H v p) : IsP H' v p := let ⟨q, a, b, h1, h2, h3, h4⟩ := h; ⟨q, a, b, h1, e _ _ h2, h3.tups e, h4.tups e⟩
theorem Ps.tups {H H' : Hp} (e : Tups H H') {vs : List V} {xs : List (W × W)} (h : Ps H vs xs) : Ps H' vs xs := Paired.mapP h fun _ _ z => z.tups e
theorem Same.laid {H : Hp} {a : Addr} {o : HO} (h : H a = Option.none) : Same H (upd H a o) := fun b u e => by
  rw [upd_ne (ne_of_none e h)]; exact e
theorem Same.laidT {H H' : Hp} {a : Addr} {o : HO} (e : Same H H') (h : H' a = Option.none) : Same H (upd H' a o) := e.trans (Same.laid h)
/-- what was fresh then may change -/
theorem Same.chg {H H' : Hp} {a : Addr} {o : HO} (e : Same H H') (h : H a = Option.none) : Same H (upd H' a o) := fun b u z => by
  rw [upd_ne (ne_of_none z h)]; exact e b u z

def flds (N : Nat) (q : Addr) : List (Str × V) := putF "kept" (.ref q) (putF "names" (.int N) [])
theorem nk : ¬ (("names" : Str) = "kept") := by decide +kernel
theorem flds_names (N : Nat) (q : Addr) : (flds N q).lookup ("names" : Str) = some (.int N) := by
  unfold flds
  rw [lookup_putF, if_neg nk, lookup_putF, if_pos rfl]
theorem flds_kept (N : Nat) (q : Addr) : (flds N q).lookup ("kept" : Str) = some (.ref q) := by
  unfold flds
  rw [lookup_putF, if_pos rfl]
theorem flds_no (N : Nat) (q : Addr) {m : Str} (h1 : ¬ m = "kept") (h2 : ¬ m = "names") : (flds N q).lookup m = none := by
  unfold flds
  rw [lookup_putF, if_neg h1, lookup_putF, if_neg h2]
  all_goals rfl
structure HouseAt (C : Addr) (H : Hp) (v : V) (N : Nat) (ws : List (W × W)) : Prop where
  ob : ∃ p dx q vs, v = .ref p ∧ H p = some (.ins C dx (flds N q)) ∧ H q = some (.tup vs) ∧ Ps H vs ws ∧ vs.length ≤ 24
theorem HouseAt.same {C : Addr} {H H' : Hp} {v : V} {N : Nat} {ws : List (W × W)} (e : Same H H') (h : HouseAt C H v N ws) : HouseAt C H' v N ws :=
  let ⟨p, dx, q, vs, h1, h2, h3, h4, h5⟩ := h.ob; ⟨p, dx, q, vs, h1, e _ _ h2, e _ _ h3, h4.same e, h5⟩
/-- a house that is one -/
structure GoodH (N : Nat) (ws : List (W × W)) : Prop where
  lo : 1 ≤ N
  hi : N ≤ 8
  len : ws.length ≤ 24
  good : Good N ws

theorem iteP {c A B : Prop} [Decidable c] (hc : c) (h : A) : if decide c = true then A else B := by rw [decide_eq_true hc]; exact iteT h
theorem iteN {c A B : Prop} [Decidable c] (hc : ¬ c) (h : B) : if decide c = true then A else B := by rw [decide_eq_false hc]; exact iteF h
theorem iteD {c A B : Prop} [Decidable c] (h1 : c → A) (h2 : ¬ c → B) : if decide c = true then A else B := by
  by_cases hc : c
  · exact iteP hc (h1 hc)
  · exact iteN hc (h2 hc)
theorem iteB {b : Bool} {A B : Prop} (h1 : b = true → A) (h2 : b = false → B) : if b = true then A else B := by
  cases b with
  | true => exact iteT (h1 rfl)
  | false => exact iteF (h2 rfl)

theorem shp {d : PyData} (h1 : d.canLay0 = true) (h2 : d.depth ≤ 64) : SeqAt.shaped d = true := by
  unfold SeqAt.shaped
  rw [h1, decide_eq_true h2]; rfl
theorem lay_all {α : Type} {f : α → PyData} (h : ∀ x, (f x).canLay0 = true) : ∀ l : List α, PyData.canLayAll0 (l.map f) = true
  | [] => rfl
  | x :: l => by simp [PyData.canLayAll0, h x, lay_all h l]
theorem dep_all {α : Type} {f : α → PyData} {n : Nat} (h : ∀ x, (f x).depth ≤ n) : ∀ l : List α, PyData.depthAll (l.map f) ≤ n
  | [] => by simp [PyData.depthAll]
  | x :: l => by
    have := h x
    have := dep_all h l
    simp only [List.map_cons, PyData.depthAll]
    omega
theorem shp_list {α : Type} {f : α → PyData} {n : Nat} (h1 : ∀ x, (f x).canLay0 = true) (h2 : ∀ x, (f x).depth ≤ n) (hn : n ≤ 60) (l : List α) : SeqAt.shaped (.list (l.map f)) = true := by
  refine shp ?_ ?_
  · show PyData.canLayAll0 _ = true
    exact lay_all h1 l
  · have := dep_all h2 l
    simp only [PyData.depth]
    omega
section
variable {X : Cx}
theorem OpR.imp {f : Value → Value → Sem Value} {r r' : R2} (h : OpR X f r) (i : ∀ x y H Q, r' x y H Q → r x y H Q) : OpR X f r' := fun pins s σ H x y v u Q I rx ry q => h pins s σ H x y v u Q I rx ry (i x y H Q q)
end
/-- xs.append(e) -/
theorem ps_app {X : Cx} {o e : Expr} {to te : TE} {p1 p2 p3 : Pos} (ho : PE X o to) (he : PE X e te) (hb : attributeBase o "append" X.env (eval o X.env) = eval o X.env := by rfl)
    (hf : ((backTo p2 (starEach [e] X.env)).all (fun x => !x.1) && (backToKw p2 (keywordEach [] X.env)).all (fun x => x.1.isSome) && decide (([e] : List Expr).length + ([] : List Keyword).length + (if ([] : List Keyword).isEmpty then 0 else 1) < 30)) = true := by rfl)
    (hl : (p1.endLine == p2.line) = true := by rfl) (hs : swapsWith (.Call (.Attribute o "append" p1) [e] [] p2) none p3.line X.env = pure false := by rfl) (s1 : starEach [e] X.env = (false, eval e X.env) :: starEach [] X.env := by rfl) :
    PS X (.Expr (.Call (.Attribute o "append" p1) [e] [] p2) p3) (tDrop (tBM X.K "list" rAppend to (tCons te tNil))) :=
  ps_expr (pe_bm (hbase := hb) (hfew := hf) (hline := hl) (hs := s1) PySem.F.plainAttrs_list PySem.F.slot_list_append PySem.F.type_list_append mt_append ho (pa_cons he pa_nil s1)) hs
end L2

end

section
set_option autoImplicit false
set_option maxRecDepth 100000
set_option linter.all false
namespace L2
open PySem PySem.Spec PyProof.Rows EoD Eo
def plV (l : List Nat) : List V := l.map fun i : Nat => V.int (i : Int)
theorem plV_len (l : List Nat) : (plV l).length = l.length := by simp [plV]
section
variable {K : PySem.W.Frag} {a b : Addr} {xs ys : List V} {H H' H'' : Hp} {i : Nat} {x : V}
end
end L2
namespace L2
open PySem PySem.Spec PyProof.Rows
end L2

end

section
set_option autoImplicit false
namespace Eo
end Eo

end

section
set_option autoImplicit false
set_option maxRecDepth 100000
set_option linter.all false
namespace L2
open PySem PySem.Spec PyProof.Rows EoD Eo
end L2

end

section
set_option autoImplicit false
set_option maxRecDepth 100000
set_option linter.all false
namespace L2
open PySem PySem.Spec PyProof.Rows EoD Eo
/-- any([..]) of truths -/
theorem call_anyB {X : Cx} (hc : (0 : Nat) = 0) : CallR X (.builtin "any") (fun xs H Q => ∃ (p : Addr) (bs : List Bool), xs = [.ref p] ∧ SqL X.K H p (bs.map V.bl) ∧ Q (.bl (bs.any id)) H) := by
  intro pins s σ H xs us Q I r ⟨p, bs, e, hq, q⟩
  subst e
  obtain ⟨u, rfl, ru⟩ := vals1 r
  cases ru
  obtain ⟨its, rv, pl, hz⟩ := I.list hq
  obtain ⟨m, F⟩ := I.fr
  refine EoH.any_bools F (news_all (g := X.base) (h := s.heap) (L := X.env.locals)) I.hdn pl.isList (vals_bools rv) fun h' tk F' N' => ⟨.bl _, H, ?_, rfl, q⟩
  have k := news_keep F F' N' fun _ hp => hp
  have nL : ∀ b u, H b = some u → b ≠ X.env.locals := fun b u e z => by rw [z, I.free] at e; cases e
  have there : ∀ b o, s.heap.get? b = some o → ∃ o', h'.get? b = some o' := fun b o e => by
    by_cases hb : b = X.env.locals
    · obtain ⟨o', _, _, e', _⟩ := F'.ns
      exact ⟨o', by rw [hb]; exact e'⟩
    · exact ⟨o, k b o hb e⟩
  refine I.step (g' := s.gens) (d' := s.drawn) (ch := []) (fun _ z => nomatch z) (fun b o h1 _ _ e _ => k b o h1 e) (fun b o h1 _ _ e _ => ⟨o.slots, k b o h1 e⟩) (fun b o _ e n => n) (fun b o _ e => there b o e) (fun _ _ e => e) (fun _ _ _ e => e) (fun b ps e => ⟨#[], by rw [e]; simp⟩)
    (fun m' hm' => by rw [← ns_one F.ns hm']; exact F'.ns) (fun b u w => (I.hok b u w).stay (fun c v hc z => ?_) (fun _ z => z) fun _ _ z => z) I.bare
  rcases hc with rfl | hc
  · exact k _ v (nL _ _ w) z
  · exact k _ v (nL _ _ hc) z
theorem bt_any : bootBuiltins "any" = some (.builtin "any") := by decide +kernel
end L2

end

section
set_option autoImplicit false
set_option linter.all false
namespace Eo
open PySem PySem.StrLaws PySem.Builtin PySem.Builtin.Str
def SEP : PySem.Str := ⟨#[59, 32]⟩
theorem len_list (x : PySem.Str) : x.cps.toList.length = x.length := by simp [PySem.Str.length]
theorem join_two (p q : PySem.Str) (r : List PySem.Str) : (PySem.Str.join SEP (p :: q :: r)).cps.toList = p.cps.toList ++ 59 :: 32 :: (PySem.Str.join SEP (q :: r)).cps.toList := by
  show (p ++ SEP ++ PySem.Str.join SEP (q :: r)).cps.toList = _
  rw [PySem.Str.cps_append, PySem.Str.cps_append, Array.toList_append, Array.toList_append]
  simp [SEP]
end Eo

end

section
set_option autoImplicit false
set_option maxRecDepth 100000
set_option linter.all false
namespace L2
open PySem PySem.Spec PyProof.Rows EoD Eo
theorem vals_strs : ∀ {ts : List Str} {us : List Value}, Vals (ts.map V.str) us → ∃ l : List (Str × Tok), us = strValues l ∧ l.map (·.1) = ts
  | [], _, .nil => ⟨[], rfl, rfl⟩
  | t :: ts, _, .cons r q => by
    obtain ⟨k, rfl⟩ := r
    obtain ⟨l, e, h⟩ := vals_strs q
    exact ⟨(t, k) :: l, by rw [e]; rfl, by rw [List.map_cons, h]⟩
theorem strs_vals : ∀ {l : List (Str × Tok)}, Vals (l.map fun p => V.str p.1) (strValues l)
  | [] => .nil
  | p :: l => .cons ⟨p.2, rfl⟩ strs_vals
section
variable {X : Cx}
def rJoin (K : PySem.W.Frag) : V → List V → Hp → VK → Prop := fun x vs H Q => ∃ sep p ts, x = .str sep ∧ vs = [.ref p] ∧ SqL K H p (ts.map V.str) ∧ JoinOk sep ts = true ∧ Q (.str (Str.join sep ts)) H
theorem mt_join : MtM X "str.join" (rJoin X.K) := by
  intro pins s σ H x xs v us Q I rx r ⟨sep, p, ts, e1, e2, hq, ok, q⟩
  subst e1; subst e2
  obtain ⟨t, rfl⟩ := rx
  obtain ⟨u, rfl, ru⟩ := vals1 r
  cases ru
  obtain ⟨its, rv, pl, hz⟩ := I.list hq
  obtain ⟨l, rfl, hl⟩ := vals_strs rv
  refine SC.join pl.isList hl ok fun t' k => ⟨.str _, H, I.tok k, ⟨t', rfl⟩, ?_⟩
  show Q (.str (Builtin.Str.glued sep ts)) H
  rw [StrLaws.glued_eq_join]
  exact q
def rSplit : V → List V → Hp → VK → Prop := fun x vs H Q => ∃ z sep, x = .str z ∧ vs = [.str sep] ∧ (sep.length == 0) = false ∧ z.length ≤ sizeLine ∧ (Txt.split z sep).length ≤ sizeLine ∧ ∀ p, H p = none → Q (.ref p) (upd H p (.lst ((Txt.split z sep).map V.str)))
theorem mt_split : MtM X "str.split" rSplit := by
  intro pins s σ H x xs v us Q I rx r ⟨z, sep, e1, e2, h0, hz, hz2, q⟩
  subst e1; subst e2
  obtain ⟨t, rfl⟩ := rx
  obtain ⟨u, rfl, ru⟩ := vals1 r
  obtain ⟨t2, rfl⟩ := ru
  have fin : ∀ (l : List (Str × Tok)) (tk n : Nat), l.map (·.1) = Txt.split z sep → EP X pins σ Q (.ref s.heap.objs.size) { s with heap := s.heap.push { cls := .type "list", data := .seq (strValues l).toArray n }, toks := tk } := fun l tk n hl => by
    have e : (Txt.split z sep).map V.str = l.map fun p => V.str p.1 := by rw [← hl, List.map_map]; rfl
    refine ⟨.ref _, _, I.laid (t' := tk) (o := .lst ((Txt.split z sep).map V.str)) (fun b o e => Heap.get?_push_of_some _ e) (Nat.le_refl _) ⟨by rw [List.length_map]; exact hz2, strValues l, n, ?_, Heap.get?_push_size _ rfl⟩, rfl, q _ (I.hok.fresh (Nat.le_refl _))⟩
    rw [e]
    exact strs_vals
  cases h1 : (decide (z.length < sep.length) || decide (Builtin.Str.strKind z < Builtin.Str.strKind sep))
  · cases hf : (Builtin.Str.occurrences z sep 0 z.length (z.length + 1)).isEmpty
    · have hs : Txt.split z sep = Builtin.Str.partsBetween z (Builtin.Str.occurrences z sep 0 z.length (z.length + 1)) sep.length := (if_neg (ne_true_of_eq_false h1)).trans (if_neg (ne_true_of_eq_false hf))
      refine call_meets F.slot_str_split (typeIs_str _ _ _) F.entry_str_split (F.args_str_split_2 _ _) (meets_str_split_sep z sep t t2 h1 h0 hf hz (by rw [← hs]; exact hz2)) ?_
      change wants (EP X pins σ Q) X.xe _ { s with toks := _, heap := s.heap.push { cls := .type "list", data := .seq (strsFrom s.toks (Builtin.Str.partsBetween z (Builtin.Str.occurrences z sep 0 z.length (z.length + 1)) sep.length)).toArray } }
      rw [strsFrom_eq]
      exact fin (numbered s.toks _) _ _ ((numbered_texts _ _).trans hs.symm)
    · have hs : Txt.split z sep = [z] := (if_neg (ne_true_of_eq_false h1)).trans (if_pos hf)
      exact call_meets F.slot_str_split (typeIs_str _ _ _) F.entry_str_split (F.args_str_split_2 _ _) (meets_str_split_not_found z sep t t2 h1 h0 hf) (fin [(z, t)] s.toks _ hs.symm)
  · have hs : Txt.split z sep = [z] := if_pos h1
    exact call_meets F.slot_str_split (typeIs_str _ _ _) F.entry_str_split (F.args_str_split_2 _ _) (meets_str_split_cannot_occur z sep t t2 h1) (fin [(z, t)] s.toks _ hs.symm)
/-- int(text) -/
theorem call_intT : CallR X (.type "int") (fun xs H Q => ∃ z n, xs = [.str z] ∧ PySem.intText? z = some n ∧ z.length ≤ 640 ∧ Q (.int n) H) := by
  intro pins s σ H xs us Q I r ⟨z, n, e, hn, hl, q⟩
  subst e
  obtain ⟨u, rfl, ru⟩ := vals1 r
  obtain ⟨t, rfl⟩ := ru
  exact PySem.W.KIN.call_text hn hl ⟨.int n, H, I.tok _, ⟨_, rfl⟩, q⟩
/-- z[lo:hi] -/
def rSlS : V → Option Int → Option Int → Hp → VK → Prop := fun x lo hi H Q => ∃ z, x = .str z ∧ z.length ≤ sizeLine ∧ Q (.str (Txt.slice z lo hi)) H
theorem sl_str : SlR X rSlS := by
  intro pins s σ H x v vl vu lo hi sl Q I rx hs pl pu ⟨z, e, hz, q⟩
  subst e
  obtain ⟨t, rfl⟩ := rx
  have fin : ∀ t' k, EP X pins σ Q (.str (Txt.slice z lo hi) t') { s with toks := k } := fun t' k => ⟨.str _, H, I.tok k, ⟨t', rfl⟩, q⟩
  refine ⟨"str", _, F.slot_str_getitem.lookup, typeIs_str _ _ _, ?_⟩
  cases pl with
  | none =>
    cases pu with
    | none => exact wpAny_getItem_str_slice (l := none) (u := none) (st := none) hs rfl (post_val_or_str ⟨Nat.le_trans (Txt.slice_le z _ _) hz, fin⟩)
    | int j uj => exact wpAny_getItem_str_slice (l := none) (u := some (j, uj)) (st := none) hs rfl (post_val_or_str ⟨Nat.le_trans (Txt.slice_le z _ _) hz, fin⟩)
  | int i ui =>
    cases pu with
    | none => exact wpAny_getItem_str_slice (l := some (i, ui)) (u := none) (st := none) hs rfl (post_val_or_str ⟨Nat.le_trans (Txt.slice_le z _ _) hz, fin⟩)
    | int j uj => exact wpAny_getItem_str_slice (l := some (i, ui)) (u := some (j, uj)) (st := none) hs rfl (post_val_or_str ⟨Nat.le_trans (Txt.slice_le z _ _) hz, fin⟩)
end
end L2

end

section
set_option autoImplicit false
set_option maxRecDepth 100000
set_option linter.all false
namespace EoE
open PySem PySem.Spec PyProof.Rows EoH
open AutoSeq1 (wpAny_loadPart')
section
variable {prog : Program} {w : World} {A : Around} {E : Value → Shared → Prop} {s : Shared}
theorem enum_itemB {e it l : Addr} {i : Nat} {j : Int} {items : Array Value} {x old : Value} {Q : Value → Shared → Prop} (he : IsEnum s.heap e it j old) (hi : s.heap.IsListIter it l i) (hl : s.heap.IsList l items) (hx : items[i]? = some x) (ne : e ≠ it)
    (k : ∀ h', IsEnumOut h' e it (j + 1) x s.heap.objs.size → h'.IsListIter it l (i + 1) → h'.get? s.heap.objs.size = some { cls := .type "tuple", data := .seq #[.int j s.toks, x] } → (∀ b o, b ≠ e → b ≠ it → s.heap.get? b = some o → h'.get? b = some o) → Q (.ref s.heap.objs.size) { s with heap := h', toks := s.toks + 1 }) :
    wpAny (model prog w) A (Builtin.«enumerate.__next__» ⟨[.ref e], []⟩) (fun fin s' => ∃ v, fin = .done (.ret v) ∧ Q v s') E s := by
  obtain ⟨hp, g, d, tk, os⟩ := s; change wpAny (model prog w) A (field (.ref e) 2 >>= _) _ _ _
  refine wpAny_bind (wpAny_field he rfl (x := .ref it) rfl (wpAny_bind (wpAny_nextOf_list_item hi hl hx fun g1 hi1 hs1 => ?_)))
  replace hs1 : Heap.SameBut it hp g1 := hs1
  have he1 : IsEnum g1 e it j old := (hs1.2 e ne).trans he
  change wpAny (model prog w) A (field (.ref e) 3 >>= _) _ _ ⟨g1, g, d, tk, os⟩; refine wpAny_bind (wpAny_field he1 rfl (x := rawInt j) rfl ?_)
  change wpAny (model prog w) A (field (.ref e) 4 >>= _) _ _ ⟨g1, g, d, tk, os⟩; refine wpAny_bind (wpAny_field he1 rfl (x := .none) rfl ?_)
  change wpAny (model prog w) A (mkInt j >>= _) _ _ ⟨g1, g, d, tk, os⟩; refine wpAny_bind (wpAny_mkInt ?_)
  change wpAny (model prog w) A (setField (.ref e) 3 (rawInt (j + 1)) >>= _) _ _ ⟨g1, g, d, tk + 1, os⟩; refine wpAny_bind (wpAny_setField_rec he1 (by simp) fun g2 he2 hs2 => ?_)
  replace hs2 : Heap.SameBut e g1 g2 := hs2
  replace he2 : IsEnum g2 e it (j + 1) old := he2
  change wpAny (model prog w) A (setField (.ref e) 4 .none >>= _) _ _ ⟨g2, g, d, tk + 1, os⟩; refine wpAny_bind (wpAny_setField_rec he2 (by simp) fun g3 he3 hs3 => ?_)
  replace hs3 : Heap.SameBut e g2 g3 := hs3
  replace he3 : IsEnum g3 e it (j + 1) old := he3
  change wpAny (model prog w) A (newTuple [.int j tk, x] >>= _) _ _ ⟨g3, g, d, tk + 1, os⟩; refine wpAny_bind (wpAny_newTuple ?_)
  have he4 : IsEnum (g3.push { cls := .type "tuple", data := .seq #[.int j tk, x] }) e it (j + 1) old := Heap.get?_push_of_some _ he3
  generalize hg4 : g3.push { cls := .type "tuple", data := .seq #[.int j tk, x] } = g4 at he4
  have sz : g3.objs.size = hp.objs.size := by rw [hs3.1, hs2.1, hs1.1]
  have lte : e < hp.objs.size := Heap.lt_size he
  have t4 : g4.get? hp.objs.size = some { cls := .type "tuple", data := .seq #[.int j tk, x] } := by rw [← hg4, ← sz]; exact Heap.get?_push_size _ rfl
  have k4 : ∀ b o, b ≠ e → b ≠ it → hp.get? b = some o → g4.get? b = some o := fun b o n1 n2 hb => by rw [← hg4]; exact Heap.get?_push_of_some _ (hs3.extBut b o n1 (hs2.extBut b o n1 (hs1.extBut b o n2 hb)))
  have i4 : g4.IsListIter it l (i + 1) := by rw [← hg4]; obtain ⟨o, ho, r⟩ := (hi1.extBut hs2.extBut (Ne.symm ne)).extBut hs3.extBut (Ne.symm ne); exact ⟨o, Heap.get?_push_of_some _ ho, r⟩
  change wpAny (model prog w) A (Builtin.SmallTypes.ownedTupleIsFree (.ref e) >>= _) _ _ ⟨g4, g, d, tk + 1, os⟩; rw [sz]
  clear hg4 he3 hs3 he2 hs2 he1 hs1 hi1 sz g3 g2 g1
  refine wpAny_bind ?_; unfold Builtin.SmallTypes.ownedTupleIsFree
  refine wpAny_bind (wpAny_field he4 rfl (x := .none) rfl (wpAny_pure ?_)); simp only [if_true]
  refine wpAny_bind (wpAny_rule (wpAny_bind (wpAny_field he4 rfl (x := old) rfl (wpAny_bind (wpAny_setField_rec he4 (by simp) fun g5 he5 hs5 => ?_)))))
  replace hs5 : Heap.SameBut e g4 g5 := hs5
  replace he5 : IsEnum g5 e it (j + 1) x := he5
  change wpAny (model prog w) A (Builtin.SmallTypes.ownedTupleHandOut (.ref e) (.ref hp.objs.size) >>= _) _ _ ⟨g5, g, d, tk + 1, os⟩; refine wpAny_bind ?_; unfold Builtin.SmallTypes.ownedTupleHandOut
  refine wpAny_bind (wpAny_setField_rec he5 (by simp) fun g6 he6 hs6 => ?_)
  replace hs6 : Heap.SameBut e g5 g6 := hs6
  replace he6 : IsEnumOut g6 e it (j + 1) x hp.objs.size := he6
  refine wpAny_setField_rec he6 (by simp) fun g7 he7 hs7 => ?_
  replace hs7 : Heap.SameBut e g6 g7 := hs7
  replace he7 : IsEnumOut g7 e it (j + 1) x hp.objs.size := he7
  refine wpAny_bind (wpAny_letGo (wpAny_pure ⟨_, rfl, k g7 he7 (((i4.extBut hs5.extBut (Ne.symm ne)).extBut hs6.extBut (Ne.symm ne)).extBut hs7.extBut (Ne.symm ne)) ?_ fun b o n1 n2 hb => hs7.extBut b o n1 (hs6.extBut b o n1 (hs5.extBut b o n1 (k4 b o n1 n2 hb)))⟩))
  exact hs7.extBut _ _ (Nat.ne_of_gt lte) (hs6.extBut _ _ (Nat.ne_of_gt lte) (hs5.extBut _ _ (Nat.ne_of_gt lte) t4))
theorem enum_item {e it l : Addr} {i : Nat} {j : Int} {items : Array Value} {x old : Value} {Q : Option Value → Shared → Prop} (he : IsEnum s.heap e it j old) (hi : s.heap.IsListIter it l i) (hl : s.heap.IsList l items) (hx : items[i]? = some x) (ne : e ≠ it)
    (k : ∀ h', IsEnumOut h' e it (j + 1) x s.heap.objs.size → h'.IsListIter it l (i + 1) → h'.get? s.heap.objs.size = some { cls := .type "tuple", data := .seq #[.int j s.toks, x] } → (∀ b o, b ≠ e → b ≠ it → s.heap.get? b = some o → h'.get? b = some o) → Q (some (.ref s.heap.objs.size)) { s with heap := h', toks := s.toks + 1 }) :
    wpAny (model prog w) A (pyNext (.ref e)) Q E s := by
  have ty : s.TypeIs (.ref e) "enumerate" := ⟨_, he, rfl⟩
  unfold pyNext
  exact wpAny_bind (wpAny_attempt (wpAny_callSpecial?_slot (name := Str.ofString "__next__") ty F.slot_enumerate_next (wpAny_call_entry F.slot_enumerate_next ty F.entry_enumerate_next (enum_itemB he hi hl hx ne fun h' a b c d => wpAny_pure (k h' a b c d)) (F.args_enumerate_next_1 _))))
theorem enum_endJ {e it l : Addr} {i : Nat} {j : Int} {items : Array Value} {old : Value} {Q : Option Value → Shared → Prop} (hq : HdN A s.heap) (he : IsEnum s.heap e it j old) (hit : s.heap.IsListIter it l i) (hl : s.heap.IsList l items) (hx : items[i]? = none)
    (k : ∀ h', Heap.ExtBut it s.heap h' → Q none { s with heap := h' }) : wpAny (model prog w) A (pyNext (.ref e)) Q E s := by
  have ty : s.TypeIs (.ref e) "enumerate" := ⟨_, he, rfl⟩
  unfold pyNext
  refine wpAny_bind (wpAny_attempt (wpAny_callSpecial?_slot (name := Str.ofString "__next__") ty F.slot_enumerate_next (wpAny_call_entry F.slot_enumerate_next ty F.entry_enumerate_next ?_ (F.args_enumerate_next_1 _))))
  change wpAny (model prog w) A.in1 (field (.ref e) 2 >>= _) _ _ s
  refine wpAny_bind (wpAny_field he rfl (x := .ref it) rfl (wpAny_bind (nextOf_end (A := A.in1) hq hit hl hx fun h' x ex ts => ?_)))
  exact wpAny_bind (wpAny_isInstance (T := "StopIteration") (b := true) ts isSubtype_stop (wpAny_pure (k _ ex)))
theorem meets_start (l : Addr) (items : Array Value) (n : Nat) (dct : Option Addr) (sl : Array (Option Value)) (j : Int) (u : Tok) (hj : Builtin.SmallTypes.fitsIndex j = true) :
    Meets (Builtin.«enumerate.__new__» ⟨[.type "enumerate", .ref l], [("start", .int j u)]⟩) (fun _ R s => s.heap.get? l = some { cls := .type "list", dict := dct, data := .seq items n, slots := sl } ∧
      R (.ok (.ret (.ref (s.heap.push { cls := .type "list_iterator", data := .fields #[.ref l, .int 0 0] }).objs.size))) { s with heap := (s.heap.push { cls := .type "list_iterator", data := .fields #[.ref l, .int 0 0] }).push { cls := .type "enumerate", data := .fields #[.none, .bool false, .ref s.heap.objs.size, rawInt j, .none, .none] } }) :=
  .of_wp fun prog w A R s h => by
    obtain ⟨hp, g, d, tk, os⟩ := s; obtain ⟨hl, h⟩ := h
    have hsub := sub_enumerate
    have hL : Heap.IsList (Shared.heap ⟨hp, g, d, tk, os⟩) l items := ⟨_, hl, rfl, n, rfl⟩
    wp_walk using wpAny_loadPart' hl
    refine wpAny_stack_any fun st => wpAny_pure ?_
    split
    · rename_i c _ _ _ _ _
      cases (c == Value.type "enumerate")
      · wp_walk using wpAny_loadPart' hl, wpAny_pyIter_list hL
        exact ⟨_, rfl, h⟩
      · wp_walk using wpAny_loadPart' hl, wpAny_pyIter_list hL
        exact ⟨_, rfl, h⟩
    · wp_walk using wpAny_loadPart' hl, wpAny_pyIter_list hL
      exact ⟨_, rfl, h⟩
theorem called_kw {T newId initId : String} {Bn Bi : Builtin} {args : List Value} {kw : List (Str × Value)} {S : PySem.Spec} {Q Q₁ : Value → Shared → Prop} (ft : TypeCalled T newId initId) (hct : checkTypeCall T ⟨args, kw⟩ = pure ()) (hcn : checkBuiltinCall newId ⟨.type T :: args, kw⟩ = pure ())
    (eN : entryFor table newId = some Bn) (eI : entryFor table initId = some Bi) (gm : Meets (Bn ⟨.type T :: args, kw⟩) S) (h : S A.in1 (wants Q₁ E) s)
    (nxt : ∀ obj s₁, Q₁ obj s₁ → s₁.TypeIs obj T ∧ argsOk initId ⟨obj :: args, kw⟩ ∧ ∃ Si, Meets (Bi ⟨obj :: args, kw⟩) Si ∧ Si A.in1 (wants (fun r s₂ => r = .none ∧ Q obj s₂) E) s₁) : wpAny (model prog w) A (call (.type T) args kw) Q E s := by
  obtain ⟨cc, tll, hmr⟩ := ft.mro; have hmd := ft.made; have hsb := ft.sub
  refine wpAny_call (codeAny_of_tree ?_); change wpAny (model prog w) _ (callAny (.type T) _) _ _ _
  refine wpAny_pure ⟨Code.quiet_builtin _ (by decide +kernel), codeAny_builtin F.entry_type_call ?_⟩; rw [Around.under_plain (weight_type_call_type T args kw) (units_type_call_type T args kw)]
  have q1 := ft.notType; have q2 := ft.canCreate
  repeat (any_goals (first | assumption | wp_step))
  refine codeAny_mono (codeAny_call_builtin ft.plain eN (wpAny_of_eq hcn (gm prog w A.in1 _ s h))) fun r s₁ hr => ?_
  cases r with
  | error e => exact hr
  | ok fl =>
    cases fl with
    | ret obj =>
      obtain ⟨hT, hok, Si, gi, hsi⟩ := nxt _ _ hr; have hli := ft.init.lookup; have hbi := ft.init.bind obj
      repeat (any_goals (first | assumption | wp_step))
      refine codeAny_mono (codeAny_call_builtin ft.init.plain eI (ft.init.check _ _ _ _ _ _ _ _ hT hok (gi prog w A.in1 _ s₁ hsi))) fun r₂ s₂ hr₂ => ?_
      cases r₂ with
      | error e => exact hr₂
      | ok fl₂ =>
        cases fl₂ with
        | ret r =>
          obtain ⟨rfl, hq⟩ := hr₂
          repeat (any_goals (first | assumption | wp_step))
        | _ => exact hr₂.elim
    | _ => exact hr.elim
theorem type_kw (a b : Value) : checkTypeCall "enumerate" ⟨[a], [("start", b)]⟩ = pure () := by kernel_rfl
theorem new_kw (a b : Value) : checkBuiltinCall "enumerate.__new__" ⟨[.type "enumerate", a], [("start", b)]⟩ = pure () := by kernel_rfl
theorem init_kw (a b c : Value) : argsOk "object.__init__" ⟨[a, b], [("start", c)]⟩ := by unfold argsOk; rw [signature?_of (id := "object.__init__") (n := ['_', '_', 't', 'i', 'n', 'i', '_', '_']) (o := ['t', 'c', 'e', 'j', 'b', 'o']) (by kernel_rfl) F.owner_object]; kernel_rfl
theorem init_meets {self a c : Value} (hl : typeLookup (.type "enumerate") "__init__" = pure (some (.builtin "object.__init__"))) (hm : Bind.madeBy (.type "enumerate") = pure (some "enumerate.__new__")) (hne : (some "enumerate.__new__" != some "object.__new__") = true) :
    Meets (Builtin.«object.__init__» ⟨[self, a], [("start", c)]⟩) (fun _ R s => s.TypeIs self "enumerate" ∧ R (.ok (.ret .none)) s) := by
  refine Meets.of_wp fun prog w A R s hs => ?_
  obtain ⟨hT, hq⟩ := hs
  repeat (any_goals (first | assumption | wp_step))
  exact ⟨_, rfl, hq⟩
theorem call_start {l : Addr} {items : Array Value} {j : Int} {u : Tok} {Q : Value → Shared → Prop} (hj : Builtin.SmallTypes.fitsIndex j = true) (hL : s.heap.IsList l items)
    (k : ∀ h', IsEnum h' (s.heap.objs.size + 1) s.heap.objs.size j .none → h'.IsListIter s.heap.objs.size l 0 → (∀ b o, s.heap.get? b = some o → h'.get? b = some o) → Q (.ref (s.heap.objs.size + 1)) { s with heap := h' }) :
    wpAny (model prog w) A (call (.type "enumerate") [.ref l] [("start", .int j u)]) Q E s := by
  obtain ⟨⟨c, dct, dt, sl⟩, hl, hc, n, hd⟩ := hL
  replace hc : c = .type "list" := hc
  replace hd : dt = .seq items n := hd
  subst hc hd
  refine called_kw F.called_enumerate (type_kw _ _) (new_kw _ _) F.entry_enumerate_new F.entry_object_init (meets_start l items n dct sl j u hj) (Q₁ := fun obj s₁ => s₁.TypeIs obj "enumerate" ∧ Q obj s₁) ⟨hl, ?_⟩ fun obj s₁ hq => ⟨hq.1, init_kw _ _ _, _, init_meets F.called_enumerate.init.lookup F.called_enumerate.made (by decide), hq.1, rfl, hq.2⟩
  have sz : (s.heap.push { cls := .type "list_iterator", data := .fields #[.ref l, .int 0 0] }).objs.size = s.heap.objs.size + 1 := Heap.size_push ..
  have he := Heap.get?_push_size (s.heap.push { cls := .type "list_iterator", data := .fields #[.ref l, .int 0 0] }) (o := { cls := .type "enumerate", data := .fields #[.none, .bool false, .ref s.heap.objs.size, rawInt j, .none, .none] }) rfl
  rw [sz] at he
  change _ ∧ _
  rw [sz]
  exact ⟨⟨_, he, rfl⟩, k _ he ⟨_, Heap.get?_push_of_some _ (Heap.get?_push_size _ rfl), rfl, rfl⟩ fun b o x => Heap.get?_push_of_some _ (Heap.get?_push_of_some _ x)⟩
end
end EoE
namespace L2
open PySem PySem.Spec PyProof.Rows
def Itk (K : PySem.W.Frag) (a : Addr) (j : Int) : It :=
  ⟨fun i H => ∃ xs x, SqL K H a xs ∧ xs[i]? = some x, fun i H x H' => ∃ T y, x = .ref T ∧ H T = none ∧ (∀ xs, SqL K H a xs → xs[i]? = some y) ∧ H' = upd H T (.tup [.int (j + i), y]), fun i H => ∃ xs, SqL K H a xs ∧ xs.length ≤ i⟩
theorem turn_enumK {P : Program} {w : World} {K : PySem.W.Frag} {elts : List Expr} {k : Nat} {pos : Pos} (a e it : Addr) (j : Int) (hne : e ≠ it) :
    Turn P w K (.Tuple elts k pos) (Itk K a j) [e, it] e (fun i h => (∃ old, IsEnum h e it (j + i) old) ∧ h.IsListIter it a i) where
  mem := by simp
  obj := fun i h st b hb => by
    obtain ⟨⟨old, he⟩, hi⟩ := st
    have hb' : b = e ∨ b = it := by simpa using hb
    rcases hb' with rfl | rfl
    · exact ⟨_, he, fun v z => by cases (show Data.fields _ = Data.cell v from z)⟩
    · obtain ⟨o, e, c, d⟩ := hi
      exact ⟨o, e, fun v z => by rw [d] at z; cases z⟩
  keep := fun i h h' st k => ⟨let ⟨old, he⟩ := st.1; ⟨old, k e (by simp) _ he⟩, st.2.at fun o q => k it (by simp) o q⟩
  item := by
    intro X hP hw hK hc i pins s σ H E I hf st hg
    subst hP hw hK
    obtain ⟨xs, x, hq, hx⟩ := hg
    obtain ⟨⟨old, he⟩, hi⟩ := st
    obtain ⟨its, rv, p, hz⟩ := I.list hq
    obtain ⟨u, hu, ru⟩ := rv.get hx
    refine EoE.enum_item he hi p.isList (x := u) (by simpa using hu) hne fun h1 ho hi1 hT hk => ⟨_, rfl, wpAny_letOwnedTupleGo_enum ho fun h2 he2 hs2 => ?_⟩
    replace hs2 : Heap.SameBut e h1 h2 := hs2
    have hT2 : h2.get? s.heap.objs.size = some { cls := .type "tuple", data := .seq #[.int (j + i) s.toks, u] } := hs2.extBut _ _ (Nat.ne_of_gt (Heap.lt_size he)) hT
    have kk : ∀ b o, b ∉ [e, it] → s.heap.get? b = some o → h2.get? b = some o := fun b o hb q => hs2.extBut b o (fun z => hb (by simp [z])) (hk b o (fun z => hb (by simp [z])) (fun z => hb (by simp [z])) q)
    refine ⟨.ref s.heap.objs.size, _, I.turnedN (t' := s.toks + 1) hf kk (Nat.le_refl _) (tup2_ok (x := .int (j + i)) (y := x) ⟨_, rfl⟩ ru hT2), rfl, ⟨_, x, rfl, I.hok.fresh (Nat.le_refl _), fun ys hy => by rw [I.list_inj hy hq]; exact hx, rfl⟩, ⟨⟨u, ?_⟩, ?_⟩, fun b hb => ?_⟩
    · have : (j + (i : Int) + 1) = j + ((i + 1 : Nat) : Int) := by omega
      rw [← this]; exact he2
    · exact hi1.at fun o q => hs2.extBut _ o hne.symm q
    · have lt : b < s.heap.objs.size := by
        have hb' : b = e ∨ b = it := by simpa using hb
        rcases hb' with rfl | rfl
        · exact Heap.lt_size he
        · obtain ⟨o, q, _⟩ := hi; exact Heap.lt_size q
      rw [upd_ne (Nat.ne_of_lt lt)]
      exact (hf b hb).1
  done := by
    intro X hP hw hK hc i pins s σ H E I hf st hg
    subst hP hw hK
    obtain ⟨xs, hq, hx⟩ := hg
    obtain ⟨⟨old, he⟩, hi⟩ := st
    obtain ⟨its, rv, p, hz⟩ := I.list hq
    have hl := rv.length
    exact EoE.enum_endJ I.hdn he hi p.isList (by simp; omega) fun h' eb => ⟨rfl, I.turnedL (t' := s.toks) hf fun b o hb q => eb b o (fun z => hb (by simp [z])) q⟩
  self := fun _ _ _ _ _ st h => let ⟨_, he⟩ := st.1; wpAny_pyIter_enum he h
def iEnumK (K : PySem.W.Frag) (tl tk : TE) : TI := fun σ H R => tl σ H fun x H1 => tk σ H1 fun y H2 => ∃ a j, x = .ref a ∧ y = .int j ∧ Builtin.SmallTypes.fitsIndex j = true ∧ (∃ xs, SqL K H2 a xs) ∧ R (Itk K a j) H2
theorem callWith_tkw {M : Model} {A : Around} {E : Value → Shared → Prop} {s : Shared} {env : Env} {pos : Pos} {T : String} {e : Expr} {kws : List Keyword} {Q : Value → Shared → Prop}
    (h : wpAny M A (spliced (backTo pos (starEach [e] env))) (fun vs s₁ => wpAny M A (evalAll ((backToKw pos (keywordEach kws env)).map (·.2))) (fun ks s₂ => wpAny M A (call (.type T) vs (((backToKw pos (keywordEach kws env)).filterMap (·.1)).zip ks)) Q E s₂) E s₁) E s)
    (hall : (backToKw pos (keywordEach kws env)).all (·.1.isSome) = true) (hpl : ((backTo pos (starEach [e] env)).any (·.1) || (backToKw pos (keywordEach kws env)).any (·.1.isNone)) = false) (he : starEach [e] env = (false, eval e env) :: starEach [] env) :
    wpAny M A (callWith pos (.type T) [] (backTo pos (starEach [e] env)) (backToKw pos (keywordEach kws env))) Q E s := by
  unfold callWith
  refine wpAny_bind (wpAny_holding (wpAny_mono (evalArgs_kw2 (Q := fun a s₁ => wpAny M A (call (.type T) ([] ++ a.pos) a.kw) Q E s₁) hall h he) (fun a s₁ h₁ => wpAny_bind (wpAny_standAt ?_)) fun _ _ x => x))
  simp only [hpl]
  refine wpAny_bind (wpAny_pure ?_)
  exact wpAny_bind (wpAny_mono h₁ (fun r s₂ hr => wpAny_bind (wpAny_holding (wpAny_point (wpAny_pure hr)))) fun _ _ x => x)
theorem pi_enumK {X : Cx} {elts : List Expr} {k : Nat} {pos p1 p2 p3 : Pos} {l v : Expr} {tl tv : TE} (hl : PE X l tl) (hv : PE X v tv) (hg : Gl X "enumerate") (hm : X.mg "enumerate" = none) (s2 : starEach [l] X.env = (false, eval l X.env) :: starEach [] X.env := by rfl)
    (hall : (backToKw p2 (keywordEach [⟨some "start", v, p3⟩] X.env)).all (·.1.isSome) = true := by rfl) (hpl : ((backTo p2 (starEach [l] X.env)).any (·.1) || (backToKw p2 (keywordEach [⟨some "start", v, p3⟩] X.env)).any (·.1.isNone)) = false := by rfl)
    (hks : (backToKw p2 (keywordEach [⟨some "start", v, p3⟩] X.env)).filterMap (·.1) = [("start" : Str)] := by rfl) :
    PI X (.Tuple elts k pos) (.Call (.Name "enumerate" p1) [l] [⟨some "start", v, p3⟩] p2) (iEnumK X.K tl tv) := by
  intro pins s σ H R I h
  refine wpAny_Call_Name_kw (ld_blt I hg hm bt_enumerate (callWith_tkw ?_ hall hpl s2))
  refine thn (pa_cons hl pa_nil s2 p2 pins s σ H (fun vs H1 => match vs with | [x] => tv σ H1 (fun y H2 => ∃ a j, x = .ref a ∧ y = .int j ∧ Builtin.SmallTypes.fitsIndex j = true ∧ (∃ xs, SqL X.K H2 a xs) ∧ R (Itk X.K a j) H2) | _ => False) I h) fun us s1 ⟨vs, H1, I1, r1, q1⟩ => ?_
  obtain ⟨x, rfl⟩ : ∃ x, vs = [x] := by
    match vs, q1 with
    | [x], _ => exact ⟨x, rfl⟩
  refine thn (pk_cons hv pk_nil p2 pins s1 σ H1 (fun zs H2 => match zs with | [y] => ∃ a j, x = .ref a ∧ y = .int j ∧ Builtin.SmallTypes.fitsIndex j = true ∧ (∃ xs, SqL X.K H2 a xs) ∧ R (Itk X.K a j) H2 | _ => False) I1 ?_) fun ks s2 ⟨zs, H2, I2, r2, q2⟩ => ?_
  · exact q1
  · obtain ⟨y, rfl⟩ : ∃ y, zs = [y] := by
      match zs, q2 with
      | [y], _ => exact ⟨y, rfl⟩
    obtain ⟨a, j, rfl, rfl, fj, ⟨xs, hq⟩, q⟩ := q2
    obtain ⟨u, rfl, ru⟩ := vals1 r1
    cases ru
    obtain ⟨u2, rfl, t2, rfl⟩ := vals1 r2
    rw [hks]
    obtain ⟨its, rv, p, hz⟩ := I2.list hq
    refine EoE.call_start fj p.isList fun h' he hi hk => wpAny_pyIter_enum he ?_
    have I3 : Inv X pins σ H2 { s2 with heap := h' } := I2.kept (t' := s2.toks) hk
    refine ⟨_, [s2.heap.objs.size + 1, s2.heap.objs.size], _, _, H2, rfl, I3, turn_enumK a _ s2.heap.objs.size j (off_ne s2.heap.objs.size (i := 1) (j := 0) (by decide)), ⟨⟨.none, by rw [show j + ((0 : Nat) : Int) = j by omega]; exact he⟩, hi⟩, fun b hb => ?_, q⟩
    have hb' : b = s2.heap.objs.size + 1 ∨ b = s2.heap.objs.size := by simpa using hb
    have hle : s2.heap.objs.size ≤ b := by
      rcases hb' with e | e
      · rw [e]; exact Nat.le_succ _
      · rw [e]; exact Nat.le_refl _
    exact I2.fpOk hle (I2.hok.fresh hle)
end L2

end

section
set_option autoImplicit false
set_option maxRecDepth 100000
set_option linter.all false
namespace L2
open PySem PySem.Spec PyProof.Rows EoD Eo
def sg (b : Bool) : Nat := if b then 43 else 45
def dg (n : Nat) : Str := ⟨#[48 + n]⟩
def cW (x : W) : Str := ⟨#[48 + x.1.toNat, sg x.2]⟩
def cP (p : W × W) : Str := ⟨#[48 + p.1.1.toNat, sg p.1.2, 48 + p.2.1.toNat, sg p.2.2]⟩
def cParts (N : Nat) (ws : List (W × W)) : List Str := dg N :: ws.map cP
def cT (N : Nat) (ws : List (W × W)) : Str := Str.join SEP (cParts N ws)
theorem dg_str : ∀ n : Nat, n < 9 → Str.ofString (toString (n : Int)) = dg n := by decide +kernel
theorem dg_strI {x : W} (h : InN 8 x) : Str.ofString (toString x.1) = dg x.1.toNat := by
  have h0 := h.1
  have h1 := h.2
  have := dg_str x.1.toNat (by omega)
  rwa [Int.toNat_of_nonneg h0] at this
theorem plus_is : Str.ofString "+" = ⟨#[43]⟩ := by decide +kernel
theorem minus_is : Str.ofString "-" = ⟨#[45]⟩ := by decide +kernel
theorem sep_is : Str.ofString "; " = SEP := by decide +kernel
theorem counts_is : Str.ofString "12345678" = ⟨#[49, 50, 51, 52, 53, 54, 55, 56]⟩ := by decide +kernel
theorem names_is : Str.ofString "01234567" = ⟨#[48, 49, 50, 51, 52, 53, 54, 55]⟩ := by decide +kernel
theorem signs_is : Str.ofString "+-" = ⟨#[43, 45]⟩ := by decide +kernel
theorem cW_cat (x : W) : dg x.1.toNat ++ (⟨#[sg x.2]⟩ : Str) = cW x := rfl
theorem cP_cat (p : W × W) : cW p.1 ++ cW p.2 = cP p := rfl
theorem inUp {N : Nat} {x : W} (h : InN N x) (hN : N ≤ 8) : InN 8 x := ⟨h.1, by have := h.2; show x.1 < (8 : Int); omega⟩
theorem cParts_len (N : Nat) (ws : List (W × W)) : ∀ p ∈ cParts N ws, p.length ≤ 4 := by
  intro p hp
  rcases List.mem_cons.mp hp with rfl | hp
  · show 1 ≤ 4
    decide
  · obtain ⟨q, hq, rfl⟩ := List.mem_map.mp hp
    exact Nat.le_refl _
theorem join_ok {parts : List Str} {B : Nat} {sep : Str} (hB : ∀ p ∈ parts, p.length ≤ B) (h : parts.length * B + parts.length * sep.length ≤ 16777216) : JoinOk sep parts = true := by
  unfold JoinOk
  have := StrLaws.joinFits (sep := sep) hB h
  have e : parts.toArray.foldl (fun a p => a + p.length + sep.length) 0 = parts.toArray.foldl (· + ·.length + sep.length) 0 := rfl
  rw [← e, this]
  rfl
theorem cT_ok {N : Nat} {ws : List (W × W)} (h : ws.length ≤ 24) : JoinOk SEP (cParts N ws) = true := by
  refine join_ok (B := 4) (cParts_len N ws) ?_
  have : (cParts N ws).length ≤ 25 := by simp [cParts]; omega
  have e : SEP.length = 2 := rfl
  rw [e]
  omega
theorem cT_len {N : Nat} {ws : List (W × W)} (h : ws.length ≤ 24) : (cT N ws).length ≤ 200 := by
  have l1 := StrLaws.join_length_le SEP (cParts N ws)
  have l2 := StrLaws.sumLen_le (B := 4) (cParts N ws) (cParts_len N ws)
  have : (cParts N ws).length ≤ 25 := by simp [cParts]; omega
  have e : SEP.length = 2 := rfl
  rw [e] at l1
  show (Str.join SEP (cParts N ws)).length ≤ 200
  omega
theorem cut_lo (p : W × W) : Txt.slice (cP p) none (some 2) = cW p.1 := by with_unfolding_all rfl
theorem cut_hi (p : W × W) : Txt.slice (cP p) (some 2) none = cW p.2 := by with_unfolding_all rfl
theorem int_dg {n : Nat} (h : n < 9) : PySem.intText? (dg n) = some (n : Int) := by
  rw [← dg_str n h]
  exact PySem.W.KIN.num_reads (by omega) (by omega)
theorem sg_plus (b : Bool) : decide (V.str ⟨#[sg b]⟩ = V.str (Str.ofString "+")) = b := by
  rw [plus_is]
  cases b <;> decide
theorem for_J {J : It} {g : TG} {tb : TS} {D : Ends} {σ : St} {H : Hp} (n : Nat) (Pv : Nat → St → Hp → Prop) (h0 : Pv 0 σ H) (go : ∀ i σ H, i < n → Pv i σ H → J.go i H) (st : ∀ σ H, Pv n σ H → J.stop n H)
    (hs : ∀ i σ H x H', i < n → Pv i σ H → J.yld i H x H' → g x σ H' fun σ2 H2 => tb { D with nx := Pv (i + 1), ct := Pv (i + 1), bk := D.nx } σ2 H2) (hd : ∀ σ H, Pv n σ H → D.nx σ H) :
    ∃ W : Nat → Nat → St → Hp → Prop, (∃ m, W 0 m σ H) ∧ ∀ i m σ H, W i m σ H →
      (J.stop i H ∧ D.nx σ H) ∨ (J.go i H ∧ ∃ N : St → Hp → Prop, (∀ σ' H', N σ' H' → ∃ m', m' < m ∧ W (i + 1) m' σ' H') ∧ ∀ x H', J.yld i H x H' → g x σ H' fun σ2 H2 => tb { D with nx := N, ct := N, bk := D.nx } σ2 H2) := by
  refine ⟨fun i m σ H => m = n - i ∧ i ≤ n ∧ Pv i σ H, ⟨n, by simp, Nat.zero_le _, h0⟩, ?_⟩
  rintro i m σ H ⟨rfl, hi, p⟩
  by_cases hlt : i < n
  · exact .inr ⟨go i σ H hlt p, Pv (i + 1), fun σ' H' q => ⟨n - (i + 1), by omega, rfl, hlt, q⟩, fun x H' y => hs i σ H x H' hlt p y⟩
  · have e : i = n := by omega
    subst e
    exact .inl ⟨st σ H p, hd σ H p⟩
section
variable {K : PySem.W.Frag} {a : Addr} {j : Int} {xs : List V} {H H' H'' : Hp} {i : Nat} {x : V}
theorem itk_go (s : Same H H') (h : SqL K H a xs) (hi : i < xs.length) : (Itk K a j).go i H' := ⟨xs, xs[i], s.seq h, by simp [hi]⟩
theorem itk_stop (s : Same H H') (h : SqL K H a xs) : (Itk K a j).stop xs.length H' := ⟨xs, s.seq h, Nat.le_refl _⟩
theorem itk_yld (s : Same H H') (h : SqL K H a xs) (y : (Itk K a j).yld i H' x H'') : ∃ T v, x = .ref T ∧ xs[i]? = some v ∧ H' T = none ∧ H'' = upd H' T (.tup [.int (j + i), v]) := by
  obtain ⟨T, v, ex, hT, hv, e⟩ := y
  exact ⟨T, v, ex, hv xs (s.seq h), hT, e⟩
end
/-- z.join(e), z.split(e) -/
theorem pe_join {X : Cx} {o e : Expr} {to te : TE} {p1 p2 : Pos} (ho : PE X o to) (he : PE X e te) (hb : attributeBase o "join" X.env (eval o X.env) = eval o X.env := by rfl)
    (hf : ((backTo p2 (starEach [e] X.env)).all (fun x => !x.1) && (backToKw p2 (keywordEach [] X.env)).all (fun x => x.1.isSome) && decide (([e] : List Expr).length + ([] : List Keyword).length + (if ([] : List Keyword).isEmpty then 0 else 1) < 30)) = true := by rfl)
    (hl : (p1.endLine == p2.line) = true := by rfl) (s1 : starEach [e] X.env = (false, eval e X.env) :: starEach [] X.env := by rfl) :
    PE X (.Call (.Attribute o "join" p1) [e] [] p2) (tBM X.K "str" (rJoin X.K) to (tCons te tNil)) :=
  pe_bm (hbase := hb) (hfew := hf) (hline := hl) (hs := s1) PySem.F.plainAttrs_str PySem.F.slot_str_join PySem.F.type_str_join mt_join ho (pa_cons he pa_nil s1)
theorem pe_split {X : Cx} {o e : Expr} {to te : TE} {p1 p2 : Pos} (ho : PE X o to) (he : PE X e te) (hb : attributeBase o "split" X.env (eval o X.env) = eval o X.env := by rfl)
    (hf : ((backTo p2 (starEach [e] X.env)).all (fun x => !x.1) && (backToKw p2 (keywordEach [] X.env)).all (fun x => x.1.isSome) && decide (([e] : List Expr).length + ([] : List Keyword).length + (if ([] : List Keyword).isEmpty then 0 else 1) < 30)) = true := by rfl)
    (hl : (p1.endLine == p2.line) = true := by rfl) (s1 : starEach [e] X.env = (false, eval e X.env) :: starEach [] X.env := by rfl) :
    PE X (.Call (.Attribute o "split" p1) [e] [] p2) (tBM X.K "str" rSplit to (tCons te tNil)) :=
  pe_bm (hbase := hb) (hfew := hf) (hline := hl) (hs := s1) PySem.F.plainAttrs_str PySem.F.slot_str_split PySem.F.type_str_split mt_split ho (pa_cons he pa_nil s1)
theorem bt_str : bootBuiltins "str" = some (.type "str") := by decide +kernel
end L2

end

section
set_option autoImplicit false
set_option maxRecDepth 100000
set_option linter.all false
namespace L2
open PySem PySem.Spec PyProof.Rows EoD Eo PySem.StrLaws
def fig (N c : Nat) : Prop := 48 ≤ c ∧ c < 48 + N
def sgn (c : Nat) : Prop := c = 43 ∨ c = 45
instance (N c : Nat) : Decidable (fig N c) := inferInstanceAs (Decidable (_ ∧ _))
instance (c : Nat) : Decidable (sgn c) := inferInstanceAs (Decidable (_ ∨ _))
def wdB (N : Nat) (p : Str) : Bool := match p.cps.toList with
  | [a, b] => decide (fig N a) && decide (sgn b)
  | _ => false
def wsB (N : Nat) (p : Str) : Bool := match p.cps.toList with
  | [a, b, c, d] => decide (fig N a) && decide (sgn b) && decide (fig N c) && decide (sgn d)
  | _ => false
def cntB (p : Str) : Bool := match p.cps.toList with
  | [c] => decide (49 ≤ c ∧ c ≤ 56)
  | _ => false
def cntN (p : Str) : Nat := p.cps.toList.headD 48 - 48
theorem str_list {p : Str} {l : List Nat} (h : p.cps.toList = l) : p = ⟨l.toArray⟩ := by
  apply PySem.Str.ext'
  apply Array.toList_inj.mp
  rw [h]
theorem cnt_dg {p : Str} (h : cntB p = true) : p = dg (cntN p) ∧ 1 ≤ cntN p ∧ cntN p ≤ 8 := by
  unfold cntB at h
  split at h
  · rename_i c e
    have h := of_decide_eq_true h
    have en : cntN p = c - 48 := by unfold cntN; rw [e]; rfl
    rw [en]
    refine ⟨?_, by omega, by omega⟩
    rw [str_list e]
    unfold dg
    rw [show 48 + (c - 48) = c by omega]
  · cases h
theorem ws_cP {N : Nat} {p : Str} (h : wsB N p = true) : ∃ q : W × W, p = cP q ∧ InN N q.1 ∧ InN N q.2 := by
  unfold wsB at h
  split at h
  · rename_i a b c d e
    simp only [Bool.and_eq_true, decide_eq_true_iff] at h
    obtain ⟨⟨⟨h1, h2⟩, h3⟩, h4⟩ := h
    unfold fig at h1 h3
    have sg' : ∀ {x : Nat}, sgn x → sg (x == 43) = x := fun {x} hx => by
      rcases hx with rfl | rfl <;> rfl
    refine ⟨((((a - 48 : Nat) : Int), b == 43), (((c - 48 : Nat) : Int), d == 43)), ?_, ⟨by show (0 : Int) ≤ ((a - 48 : Nat) : Int); omega, by show ((a - 48 : Nat) : Int) < _; omega⟩, by show (0 : Int) ≤ ((c - 48 : Nat) : Int); omega, by show ((c - 48 : Nat) : Int) < _; omega⟩
    rw [str_list e]
    unfold cP
    simp only [Int.toNat_natCast, sg' h2, sg' h4]
    rw [show 48 + (a - 48) = a by omega, show 48 + (c - 48) = c by omega]
  · cases h
theorem ws_of {N : Nat} {q : W × W} (h1 : InN N q.1) (h2 : InN N q.2) : wsB N (cP q) = true := by
  have a0 := h1.1
  have a1 := h1.2
  have b0 := h2.1
  have b1 := h2.2
  have s : ∀ b, sgn (sg b) := fun b => by cases b <;> decide
  show (decide (fig N (48 + q.1.1.toNat)) && decide (sgn (sg q.1.2)) && decide (fig N (48 + q.2.1.toNat)) && decide (sgn (sg q.2.2))) = true
  rw [decide_eq_true (show fig N (48 + q.1.1.toNat) from ⟨by omega, by omega⟩), decide_eq_true (show fig N (48 + q.2.1.toNat) from ⟨by omega, by omega⟩), decide_eq_true (s _), decide_eq_true (s _)]
  rfl
theorem in_cnt (c : Nat) : (!(Builtin.Str.occurrences ⟨#[49, 50, 51, 52, 53, 54, 55, 56]⟩ ⟨#[c]⟩ 0 8 1).isEmpty) = decide (49 ≤ c ∧ c ≤ 56) := by
  have := found_one ⟨#[49, 50, 51, 52, 53, 54, 55, 56]⟩ c
  have e : (⟨#[49, 50, 51, 52, 53, 54, 55, 56]⟩ : Str).length = 8 := rfl
  rw [e] at this
  rw [this, Bool.eq_iff_iff]
  simp
  omega
theorem in_sgn (c : Nat) : (!(Builtin.Str.occurrences ⟨#[43, 45]⟩ ⟨#[c]⟩ 0 2 1).isEmpty) = decide (sgn c) := by
  have := found_one ⟨#[43, 45]⟩ c
  have e : (⟨#[43, 45]⟩ : Str).length = 2 := rfl
  rw [e] at this
  rw [this, Bool.eq_iff_iff, decide_eq_true_iff, decide_eq_true_iff]
  unfold sgn
  simp
theorem slice_names : ∀ N : Nat, N < 9 → (Txt.slice ⟨#[48, 49, 50, 51, 52, 53, 54, 55]⟩ none (some (N : Int))).cps.toList = (List.range N).map (48 + ·) := by decide +kernel
theorem in_nam {N : Nat} (hN : N ≤ 8) (c : Nat) : (!(Builtin.Str.occurrences (Txt.slice ⟨#[48, 49, 50, 51, 52, 53, 54, 55]⟩ none (some (N : Int))) ⟨#[c]⟩ 0 (Txt.slice ⟨#[48, 49, 50, 51, 52, 53, 54, 55]⟩ none (some (N : Int))).length 1).isEmpty) = decide (fig N c) := by
  rw [found_one, slice_names N (by omega), Bool.eq_iff_iff]
  simp only [decide_eq_true_iff, List.mem_map, List.mem_range]
  unfold fig
  constructor
  · rintro ⟨k, hk, rfl⟩
    omega
  · intro h
    exact ⟨c - 48, by omega, by omega⟩
theorem slice_two {p : Str} (h : 2 ≤ p.length) : Txt.slice p none (some 2) = ⟨(p.cps.toList.take 2).toArray⟩ ∧ Txt.slice p (some 2) none = ⟨(p.cps.toList.drop 2).toArray⟩ := by
  have hl := Eo.len_list p
  have e1 : Txt.slice p none (some 2) = sliceText p none (some 2) := rfl
  have e2 : Txt.slice p (some 2) none = sliceText p (some 2) none := rfl
  rw [e1, e2, sliceText_to ⟨by decide, by rw [hl]; omega⟩, sliceText_from ⟨by decide, by rw [hl]; omega⟩]
  refine ⟨rfl, ?_⟩
  have e3 : ((2 : Int)).toNat = 2 := rfl
  rw [e3, List.take_of_length_le]
  rw [List.length_drop]
  omega
theorem ws_split (N : Nat) (p : Str) : wsB N p = (wdB N (Txt.slice p none (some 2)) && wdB N (Txt.slice p (some 2) none)) := by
  have hl := Eo.len_list p
  by_cases h : 2 ≤ p.length
  · obtain ⟨e1, e2⟩ := slice_two h
    rw [e1, e2]
    unfold wsB wdB
    match e : p.cps.toList with
    | [] => rw [e] at hl; simp at hl; omega
    | [a] => rw [e] at hl; simp at hl; omega
    | [a, b] => simp
    | [a, b, c] => simp
    | [a, b, c, d] => simp [Bool.and_assoc]
    | a :: b :: c :: d :: f :: r => simp
  · have s := Txt.slice_le p none (some 2)
    have z : wdB N (Txt.slice p none (some 2)) = false := by
      unfold wdB
      split
      · rename_i a b e
        have := Eo.len_list (Txt.slice p none (some 2))
        rw [e] at this
        simp at this
        omega
      · rfl
    rw [z, Bool.false_and]
    unfold wsB
    split
    · rename_i a b c d e
      rw [e] at hl
      simp at hl
      omega
    · rfl
theorem split_ne (z : Str) : Txt.split z SEP ≠ [] := by
  unfold Txt.split
  split
  · simp
  · split
    · simp
    · rw [partsBetween_eq]
      generalize Builtin.Str.occurrences z SEP 0 z.length (z.length + 1) = l
      cases l with
      | nil => exact fun h => nomatch h
      | cons _ _ => exact fun h => nomatch h
theorem join_ge : ∀ (ps : List Str), 2 * ps.length ≤ (Str.join SEP ps).length + 2 ∧ ∀ p ∈ ps, p.length ≤ (Str.join SEP ps).length
  | [] => ⟨by simp, fun p hp => by simp at hp⟩
  | [p] => ⟨by simp, fun q hq => by
      have : q = p := by simpa using hq
      rw [this]
      exact Nat.le_refl _⟩
  | p :: q :: r => by
    obtain ⟨h1, h2⟩ := join_ge (q :: r)
    have e : (Str.join SEP (p :: q :: r)).length = p.length + 2 + (Str.join SEP (q :: r)).length := by
      rw [← Eo.len_list, join_two, ← Eo.len_list p, ← Eo.len_list (Str.join SEP (q :: r))]
      simp
      omega
    refine ⟨by rw [e]; simp at h1 ⊢; omega, fun x hx => ?_⟩
    rcases List.mem_cons.mp hx with rfl | hx
    · omega
    · have := h2 x hx
      omega
theorem parts_le (z : Str) : 2 * (Txt.split z SEP).length ≤ z.length + 2 ∧ ∀ p ∈ Txt.split z SEP, p.length ≤ z.length := by
  have := join_ge (Txt.split z SEP)
  rwa [join_split] at this
/-- which part is told; -1 where none is -/
def due (z : Str) : Int := match Txt.split z SEP with
  | [] => 0
  | p :: r => if cntB p = true then (match r.findIdx? (fun q => !wsB (cntN p) q) with
    | some i => (i : Int) + 1
    | none => if 24 < r.length then (r.length : Int) + 1 else -1) else 0
theorem due_count {z p : Str} {r : List Str} (e : Txt.split z SEP = p :: r) (h : cntB p = false) : due z = 0 := by
  unfold due
  rw [e]
  simp [h]
theorem due_part {z p : Str} {r : List Str} {i : Nat} {q : Str} (e : Txt.split z SEP = p :: r) (h : cntB p = true) (all : ∀ j x, j < i → r[j]? = some x → wsB (cntN p) x = true) (hi : r[i]? = some q) (bad : wsB (cntN p) q = false) : due z = (i : Int) + 1 := by
  have f : r.findIdx? (fun q => !wsB (cntN p) q) = some i := by
    obtain ⟨hl, eq⟩ := List.getElem?_eq_some_iff.mp hi
    rw [List.findIdx?_eq_some_iff_getElem]
    refine ⟨hl, by rw [eq, bad]; rfl, fun j hj => ?_⟩
    rw [all j r[j] hj (List.getElem?_eq_getElem _)]
    simp
  unfold due
  rw [e]
  simp [h, f]
theorem due_all {z p : Str} {r : List Str} (e : Txt.split z SEP = p :: r) (h : cntB p = true) (all : ∀ (j : Nat) x, r[j]? = some x → wsB (cntN p) x = true) : due z = if 24 < r.length then (r.length : Int) + 1 else -1 := by
  have f : r.findIdx? (fun q => !wsB (cntN p) q) = none := by
    rw [List.findIdx?_eq_none_iff]
    intro x hx
    obtain ⟨j, hj⟩ := List.mem_iff_getElem?.mp hx
    rw [all j x hj]
    rfl
  unfold due
  rw [e]
  simp [h, f]
theorem due_ge {z : Str} (h : due z ≠ -1) : 0 ≤ due z := by
  unfold due at h ⊢
  generalize Txt.split z SEP = l at h ⊢
  cases l with
  | nil => exact Int.le_refl _
  | cons p r =>
    dsimp only at h ⊢
    cases c : cntB p with
    | false => simp
    | true =>
      rw [c] at h
      simp only [if_true] at h ⊢
      cases f : r.findIdx? (fun q => !wsB (cntN p) q) with
      | some i => show (0 : Int) ≤ (i : Int) + 1; omega
      | none =>
        rw [f] at h
        dsimp only at h ⊢
        by_cases g : 24 < r.length
        · rw [if_pos g]; omega
        · rw [if_neg g] at h; exact absurd rfl h
/-- the text of a house as it is read -/
theorem read_cT {z : Str} {N : Nat} {ws : List (W × W)} (e : Txt.split z SEP = cParts N ws) : z = cT N ws := by
  have := join_split z SEP
  rw [e] at this
  exact this.symm
end L2

end

section
set_option autoImplicit false
set_option maxRecDepth 100000
set_option linter.all false
namespace L2
open PySem PySem.Spec PyProof.Rows EoD Eo
inductive StrsE : List Expr → List Str → Prop
  | nil : StrsE [] []
  | cons {x : Str} {j : Nat} {pos : Pos} {es : List Expr} {ts : List Str} (h : StrsE es ts) : StrsE (.Constant (.str x) j pos :: es) (x :: ts)
def tStrs (ts : List Str) : TA := fun _ H Q => Q (ts.map V.str) H
theorem pa_strs {X : Cx} : ∀ {es : List Expr} {ts : List Str}, StrsE es ts → PA X es (tStrs ts)
  | _, _, .nil => pa_nil
  | _, _, .cons h => pa_cons pe_str (pa_strs h) rfl
end L2

end

section
set_option autoImplicit false
set_option maxRecDepth 100000
set_option linter.all false
namespace L2
open PySem PySem.Spec PyProof.Rows EoD Eo
/-- the object of an exception at e: its class, its dict, its last entry -/
def ExcO (h : Heap) (e : Addr) (cls : Value) (dO T : Option Addr) : Prop := ∃ oe vs, h.get? e = some oe ∧ oe.cls = cls ∧ oe.dict = dO ∧ oe.data = .fields vs ∧ 2 < vs.size ∧ vs[2]? = some Value.none ∧
  (match T with
  | none => vs[1]? = some Value.none
  | some t => vs[1]? = some (Value.ref t) ∧ t ≠ e ∧ ∃ ot ts, h.get? t = some ot ∧ ot.data = .fields ts ∧ 3 < ts.size)
structure Exc (X : Cx) (pins : List (Addr × Obj)) (H : Hp) (h : Heap) (e : Addr) (cls : Value) (dO : Option Addr) : Prop where
  fe : FpOk X pins H e
  ob : ∃ T, (∀ t, T = some t → FpOk X pins H t) ∧ ExcO h e cls dO T
section
variable {X : Cx} {pins : List (Addr × Obj)} {σ : St} {H : Hp} {s : Shared}
/-- records of ours have changed, and slots of frames -/
theorem Inv.recs {h' : Heap} {ch : List Addr} (I : Inv X pins σ H s) (hc : ∀ b ∈ ch, FpOk X pins H b) (kp : ∀ b o, b ∉ ch → b ∉ frs X.stack → s.heap.get? b = some o → h'.get? b = some o)
    (sl : ∀ b o, b ∉ ch → s.heap.get? b = some o → ∃ q, h'.get? b = some { o with slots := q }) : Inv X pins σ H { s with heap := h' } := by
  have nch : ∀ b u, H b = some u → b ∉ ch := fun b u e z => by rw [(hc b z).1] at e; cases e
  have nst : ∀ b u, H b = some u → b ∉ frs X.stack := fun b u e z => by rw [I.stkFree b z] at e; cases e
  refine I.step (g' := s.gens) (d' := s.drawn) (t' := s.toks) (ch := ch) (fun b hb => let ⟨_, a2, _, a4, a5, a6⟩ := hc b hb; ⟨a4, a2, a5, a6⟩) (fun b o h1 h2 h3 e _ => kp b o h3 (fun z => (List.mem_cons.mp (I.stkSub b z)).elim h1 h2) e) (fun b o _ _ h3 e _ => sl b o h3 e) (fun _ _ _ _ n => n)
    (fun b o h3 e => let ⟨_, q⟩ := sl b o h3 e; ⟨_, q⟩) (fun _ _ e => e) (fun _ _ _ e => e) (fun b ps e => ⟨#[], by rw [e]; simp⟩) (fun m hm => ?_) (fun b u e => ?_) I.bare
  · obtain ⟨o, es, ep, ho, r⟩ := hm
    obtain ⟨q, hq⟩ := sl _ o (fun z => (hc _ z).2.1 rfl) ho
    exact ⟨_, es, ep, hq, r⟩
  · refine (I.hok b u e).stay (fun c v hv q => ?_) (fun _ q => q) fun _ _ q => q
    rcases hv with z | z
    · subst z; exact kp c v (nch c u e) (nst c u e) q
    · exact kp c v (nch c _ z) (nst c _ z) q
theorem mapF {o : Obj} {vs : Array Value} {i : Nat} {x : Value} (hd : o.data = .fields vs) : (o.mapFields (·.setIfInBounds i x)).data = .fields (vs.setIfInBounds i x) := Obj.data_mapFields hd _
theorem upd_at {h : Heap} {a : Addr} {o : Obj} {vs : Array Value} {i : Nat} {x : Value} (ho : h.get? a = some o) (hd : o.data = .fields vs) : (h.update a (Obj.mapFields (·.setIfInBounds i x))).get? a = some (o.mapFields (·.setIfInBounds i x)) := Heap.get?_update_self _ ho (Obj.isFreed_of_fields (mapF hd))
theorem upd_off {h : Heap} {a b : Addr} {f : Obj → Obj} (n : b ≠ a) : (h.update a f).get? b = h.get? b := Heap.get?_update_other _ _ (Ne.symm n)
theorem mapF_dict {o : Obj} {f : Array Value → Array Value} : (o.mapFields f).dict = o.dict := by
  obtain ⟨c, d, dt, sl⟩ := o
  cases dt <;> rfl
/-- a new entry is laid ahead of the others -/
theorem entry_x {M : Model} {A : Around} {E : Value → Shared → Prop} {base : Heap} {env : Env} {outer : List Env} {L e : Addr} {oe : Obj} {vs : Array Value} {head : Value} {had : Bool} {Q : Unit → Shared → Prop}
    (hfr : A.frames = some (env :: outer)) (hl : s.heap.FunFrames base (env :: outer)) (hf : env.frame = some L) (he : s.heap.get? e = some oe) (hd : oe.data = .fields vs) (h1 : 1 < vs.size)
    (k : ∀ h' T ot ts, (∀ b o, b ≠ e → b ∉ frs (env :: outer) → s.heap.get? b = some o → h'.get? b = some o) → (∀ b o, b ≠ e → s.heap.get? b = some o → ∃ q, h'.get? b = some { o with slots := q }) → h'.get? e = some (oe.mapFields (·.setIfInBounds 1 (.ref T))) → s.heap.objs.size ≤ T →
      h'.get? T = some ot → ot.data = .fields ts → 3 < ts.size → Q () { s with heap := h' }) :
    wpAny M A (do let a ← frameOf env; let pl ← entryPlaceOf L had; let b ← EntryCells.newEntry head a .none (rawInt L) .none pl; setField (.ref e) 1 b) Q E s := by
  have nfe : e ∉ frs (env :: outer) := fun hm => by
    obtain ⟨_, o, ho, nf⟩ := hl.mem hm
    rw [he] at ho; cases ho
    exact nf vs hd
  refine wpAny_bind (wpAny_frameOf_fun hfr hl hf fun g1 so => wpAny_bind (wpAny_entryPlaceOf fun pl hpl => ?_))
  unfold EntryCells.newEntry newFields
  refine wpAny_bind (wpAny_newObj_type ?_ (hpl.sizeOk5 _ _ _ _ _))
  have e1 : g1.get? e = some oe := (so.2.1 e nfe).trans he
  have e2 := Heap.get?_push_of_some (h := g1) { cls := .type "traceback", dict := none, data := .fields ([head, .ref L, .none, rawInt L, .none] ++ (if pl.isEmpty then List.replicate 6 Value.none else pl)).toArray } e1
  refine wpAny_setField e2 hd h1 (k _ g1.objs.size _ _ (fun b o nb nf q => ?_) (fun b o nb q => ?_) (upd_at e2 hd) (by rw [so.1]; exact Nat.le_refl _) ((upd_off (Nat.ne_of_gt (Heap.lt_size e1))).trans (Heap.get?_push_size _ rfl)) rfl ?_)
  · rw [upd_off nb]
    exact Heap.get?_push_of_some _ ((so.2.1 b nf).trans q)
  · obtain ⟨sl, hs⟩ := so.2.2 b o q
    exact ⟨sl, by rw [upd_off nb]; exact Heap.get?_push_of_some _ hs⟩
  · simp only [List.size_toArray, List.length_append, List.length_cons, List.length_nil]
    omega
theorem entry_ok {E : Value → Shared → Prop} {e : Addr} {cls : Value} {dO : Option Addr} {oe : Obj} {vs : Array Value} {head : Value} {had : Bool} {Q : Unit → Shared → Prop} (I : Inv X pins σ H s) (st : X.stack = X.env :: X.outer ∧ X.env.frame = some X.env.locals)
    (fe : FpOk X pins H e) (he : s.heap.get? e = some oe) (hc : oe.cls = cls) (hdi : oe.dict = dO) (hd : oe.data = .fields vs) (h2 : 2 < vs.size) (h2n : vs[2]? = some Value.none)
    (k : ∀ s' t, Inv X pins σ H s' → FpOk X pins H t → ExcO s'.heap e cls dO (some t) → Q () s') :
    wpAny (model X.prog X.w) X.A (do let a ← frameOf X.env; let pl ← entryPlaceOf X.env.locals had; let b ← EntryCells.newEntry head a .none (rawInt X.env.locals) .none pl; setField (.ref e) 1 b) Q E s := by
  have fr : X.A.frames = some (X.env :: X.outer) := by rw [I.ok.frames, st.1]
  have ff : s.heap.FunFrames X.base (X.env :: X.outer) := by have := I.stack; rwa [st.1] at this
  refine entry_x fr ff st.2 he hd (by omega) fun h' T ot ts kp sl e' lt eT dT zT => ?_
  have ne : T ≠ e := fun z => by rw [z] at lt; exact absurd (Heap.lt_size he) (Nat.not_lt.mpr lt)
  refine k _ T (I.recs (ch := [e]) (fun b hb => ?_) (fun b o nb nf q => kp b o (fun z => nb (by simp [z])) (by rw [← st.1]; exact nf) q) fun b o nb q => sl b o (fun z => nb (by simp [z])) q) (I.fpOk lt (I.hok.fresh lt)) ?_
  · have : b = e := by simpa using hb
    subst this
    exact fe
  · refine ⟨_, _, e', (Obj.cls_mapFields _ _).trans hc, mapF_dict.trans hdi, mapF hd, by rw [Array.size_setIfInBounds]; exact h2, ?_, ?_, ne, ot, ts, eT, dT, zT⟩
    · rw [Array.getElem?_setIfInBounds_ne (by decide)]; exact h2n
    · rw [Array.getElem?_setIfInBounds_self_of_lt (by omega)]
theorem note_ok {E : Value → Shared → Prop} {e : Addr} {cls : Value} {dO : Option Addr} {Q : Unit → Shared → Prop} (I : Inv X pins σ H s) (st : X.stack = X.env :: X.outer ∧ X.env.frame = some X.env.locals) (x : Exc X pins H s.heap e cls dO)
    (k : ∀ s' t, Inv X pins σ H s' → FpOk X pins H t → ExcO s'.heap e cls dO (some t) → Q () s') : wpAny (model X.prog X.w) X.A (noteFrame (.ref e) X.env) Q E s := by
  obtain ⟨fe, T, ft, oe, vs, he, hc, hdi, hd, h2, h2n, hT⟩ := x
  unfold noteFrame
  simp only [st.2]
  cases T with
  | none =>
    refine wpAny_bind (wpAny_field he hd hT ?_)
    rw [if_neg (by decide)]
    exact entry_ok I st fe he hc hdi hd h2 h2n k
  | some t =>
    obtain ⟨h1, ne, ot, ts, et, dt, z3⟩ := hT
    have fT := ft t rfl
    refine wpAny_bind (wpAny_field he hd h1 ?_)
    rw [if_pos (show (Value.ref t != Value.none) = true from by simp)]
    refine wpAny_bind (wpAny_field et dt (Array.getElem?_eq_getElem z3) ?_)
    by_cases here : (ts[3] == rawInt X.env.locals) = true
    · rw [if_pos here]
      exact wpAny_pure (k s t I fT ⟨oe, vs, he, hc, hdi, hd, h2, h2n, h1, ne, ot, ts, et, dt, z3⟩)
    · rw [if_neg here]
      refine wpAny_bind (wpAny_setField et dt z3 ?_)
      have I1 : Inv X pins σ H { s with heap := s.heap.update t (Obj.mapFields (·.setIfInBounds 3 Value.none)) } := I.recs (ch := [t]) (fun b hb => by
        have : b = t := by simpa using hb
        subst this
        exact fT) (fun b o nb _ q => (upd_off (fun z => nb (by simp [z]))).trans q) fun b o nb q => ⟨o.slots, (upd_off (fun z => nb (by simp [z]))).trans q⟩
      exact entry_ok I1 st fe ((upd_off (Ne.symm ne)).trans he) hc hdi hd h2 h2n k
theorem flight_ok {E : Value → Shared → Prop} {e t : Addr} {cls : Value} {dO fr : Option Addr} {Q : Unit → Shared → Prop} (I : Inv X pins σ H s) (ft : FpOk X pins H t) (x : ExcO s.heap e cls dO (some t))
    (k : ∀ s', Inv X pins σ H s' → ExcO s'.heap e cls dO (some t) → Q () s') : wpAny (model X.prog X.w) X.A (setFlight (.ref e) fr) Q E s := by
  obtain ⟨oe, vs, he, hc, hdi, hd, h2, h2n, h1, ne, ot, ts, et, dt, z3⟩ := x
  unfold setFlight
  refine wpAny_bind (wpAny_field he hd h1 ?_)
  rw [if_pos (show (Value.ref t != Value.none) = true from by simp)]
  refine wpAny_setField et dt z3 (k _ (I.recs (ch := [t]) (fun b hb => ?_) (fun b o nb _ q => (upd_off (fun z => nb (by simp [z]))).trans q) fun b o nb q => ⟨o.slots, (upd_off (fun z => nb (by simp [z]))).trans q⟩) ?_)
  · have : b = t := by simpa using hb
    subst this
    exact ft
  · exact ⟨oe, vs, (upd_off (Ne.symm ne)).trans he, hc, hdi, hd, h2, h2n, h1, ne, _, _, upd_at et dt, mapF dt, by rw [Array.size_setIfInBounds]; exact z3⟩
/-- an exception leaves the frame -/
theorem leave_ok {E : Value → Shared → Prop} {e : Addr} {cls : Value} {dO : Option Addr} {Q : Unit → Shared → Prop} (I : Inv X pins σ H s) (st : X.stack = X.env :: X.outer ∧ X.env.frame = some X.env.locals) (x : Exc X pins H s.heap e cls dO)
    (k : ∀ s', Inv X pins σ H s' → Exc X pins H s'.heap e cls dO → Q () s') : wpAny (model X.prog X.w) X.A (leaving X.env (.ref e)) Q E s := by
  unfold leaving
  refine wpAny_bind (note_ok I st x fun s1 t I1 ft x1 => flight_ok I1 ft x1 fun s2 I2 x2 => k s2 I2 ⟨x.fe, some t, fun t' q => by cases q; exact ft, x2⟩)
/-- what lies behind: the state as it was, the exception -/
def XP (X : Cx) (E : XK) : Value → Shared → Prop := fun v s => ∃ pins σ H e cls dO, v = .ref e ∧ Inv X pins σ H s ∧ Exc X pins H s.heap e cls dO ∧ E cls dO H
theorem passes_own {E : XK} (st : X.stack = X.env :: X.outer ∧ X.env.frame = some X.env.locals) : PassesOwn (model X.prog X.w) X.A X.env (XP X E) := by
  rintro v s ⟨pins, σ, H, e, cls, dO, rfl, I, x, q⟩
  refine note_ok I st x fun s1 t I1 ft x1 => ?_
  show wpAny _ _ _ _ _ s1
  obtain ⟨oe, vs, he, hc, hdi, hd, h2, h2n, h1, r⟩ := id x1
  refine wpAny_bind (wpAny_field he hd h1 ?_)
  rw [if_neg (show ¬ ((Value.ref t == Value.none) = true) from Bool.false_ne_true)]
  exact flight_ok I1 ft x1 fun s2 I2 x2 => ⟨pins, σ, H, e, cls, dO, rfl, I2, ⟨x.fe, some t, fun t' q => by cases q; exact ft, x2⟩, q⟩
end
/-- behind a call that raised -/
def CXE (P : Program) (w : World) : CXT := fun outer H s E v s' => ∃ e cls dO H', v = .ref e ∧ s'.os = s.os ∧ AllBare s'.gens ∧ Un (frs outer) [] H H' s.heap s'.heap ∧ HOk P w H' s'.heap ∧
  (s.heap.get? e = none ∧ H' e = none) ∧ (∃ T, (∀ t, T = some t → s.heap.get? t = none ∧ H' t = none) ∧ ExcO s'.heap e cls dO T) ∧ E cls dO H'
/-- a context that lets exceptions with E pass -/
def Thr (X : Cx) (E : XK) : Prop := ∀ (pins : List (Addr × Obj)) (σ : St) (H : Hp) (s : Shared) (e : Addr) (cls : Value) (dO : Option Addr), Inv X pins σ H s → Exc X pins H s.heap e cls dO → E cls dO H → X.xe (.ref e) s
section
variable {X : Cx} {E : XK}
theorem passes_thr (t : Thr X E) : Passes (CXE X.prog X.w) X E := by
  rintro pins σ H s v s' I ⟨e, cls, dO, H', rfl, os, bare, un, hok, ⟨l1, n1⟩, ⟨T, hT, x⟩, q⟩
  have I' : Inv X pins σ H' s' := I.call' os un hok bare (fun b z => nomatch z)
  exact t pins σ H' s' e cls dO I' ⟨I.fpNew l1 n1, T, fun t' e' => I.fpNew (hT t' e').1 (hT t' e').2, x⟩ q
theorem thr_xp (X : Cx) (E : XK) : Thr (X.wish (XP X E)) E := fun pins σ H s e cls dO I x q => ⟨pins, σ, H, e, cls, dO, rfl, I.unwish, ⟨x.fe, let ⟨T, a, b⟩ := x.ob; ⟨T, a, b⟩⟩, q⟩
end
end L2

end

section
set_option autoImplicit false
set_option maxRecDepth 100000
set_option linter.all false
namespace PySem
section
variable {pg : Program} {wo : World} {Ar : Around} {Ex : Value → Shared → Prop} {h : Heap} {gs : Array GenState} {dr : Drawn} {tn : Nat} {os : OsState}
variable {nm qn : Str} {C N : Addr} {bs bm bmB : List Value} {hd : Bool} {sn : List Str} {sub : List Value} {ab : Bool} {col : Option Bool} {dd : Option Addr} {k0 k1 k2 k3 k5 : Option Value} {B newId initId : String}

theorem xi_type (F : ExcBaseFacts B newId initId bmB) (T : OwnTail h bmB bm) {mN : Str → Option Value} {us : List Value} {fI : Addr} {oI : Obj} {Q : Fin → Shared → Prop}
    (cC : h.get? C = some (excClassObj nm qn C N bs bm hd sn sub ab col dd k0 k1 k2 k3 k5 newId)) (cN : h.Ns N mN) (hi : mN "__init__" = some (.ref fI)) (hf : h.get? fI = some oI) (hfc : oI.cls = .type "function")
    (k : ∀ h' e, Heap.MadeExcOf h h' e (.ref C) us → wpAny (model pg wo) Ar (call (.ref fI) (.ref e :: us)) (fun r s' => r = .none ∧ Q (.done (.ret (.ref e))) s') Ex ⟨h', gs, dr, tn, os⟩) (hz : us.length ≤ sizeLine) :
    wpAny (model pg wo) Ar (Builtin.«type.__call__» ⟨.ref C :: us, []⟩) Q Ex ⟨h, gs, dr, tn, os⟩ := by
  repeat (first | with_reducible refine wpAny_loadPart_at cC ?_ | with_reducible refine wpAny_madeBy_exc cC ?_ | wp_step)
  refine codeAny_call_builtin_code (Code.quiet_builtin _ F.quiet) (wpAny_check_new_subT F T cC ?_)
  refine codeAny_exc_new_subT F T cC ?_ hz
  change wpAny _ _ _ _ _ _
  have kp : ∀ b o, h.get? b = some o → ((h.push { cls := .type "tuple", data := .seq us.toArray }).push { cls := .ref C, data := .fields #[.ref h.objs.size, .none, .none, .none, .bool false, .none] }).get? b = some o := fun b o q => Heap.get?_push_of_some _ (Heap.get?_push_of_some _ q)
  have cC1 := kp _ _ cC
  have hf1 := kp _ _ hf
  have cN1 := cN.keeps kp
  have hg1 : ((h.push { cls := .type "tuple", data := .seq us.toArray }).push { cls := .ref C, data := .fields #[.ref h.objs.size, .none, .none, .none, .bool false, .none] }).get? (h.objs.size + 1) = some { cls := .ref C, data := .fields #[.ref h.objs.size, .none, .none, .none, .bool false, .none] } := by heap_get
  have hcc : (Value.ref C :: bm).contains (.ref C) = true := by simp
  have T1 := T.keeps kp
  unfold isInstance
  repeat (first | with_reducible refine wpAny_loadPart_at hg1 ?_ | (with_reducible refine wpAny_isSubtype_exc cC1 ?_; rw [hcc]) | wp_step)
  change wpAny _ _ (typeLookup (.ref C) _) _ _ _
  refine wpAny_typeLookup_tail cC1 cN1 T1 F.mroIs F.init.lookup ?_
  rw [hi]
  refine wpAny_holding (wpAny_bind ?_)
  unfold bindSpecial
  refine wpAny_bind (wpAny_typeOf (T := "function") ⟨_, hf1, hfc⟩ ?_)
  rw [if_pos (by decide)]
  refine wpAny_pure (wpAny_bind (wpAny_mono (k _ (h.objs.size + 1) ⟨kp, Heap.get?_none_of_le (Nat.le_succ _), h.objs.size, hg1, Heap.get?_none_of_le (Nat.le_refl _), ?_⟩) (fun r s' hr => ?_) fun _ _ x => x))
  · exact Heap.get?_push_of_some _ (Heap.get?_push_at rfl rfl)
  · obtain ⟨rfl, hQ⟩ := hr
    wp_walk
    exact hQ

theorem xi_call (F : ExcBaseFacts B newId initId bmB) (T : OwnTail h bmB bm) {mN : Str → Option Value} {us : List Value} {fI : Addr} {oI : Obj} {Q : Value → Shared → Prop}
    (cC : h.get? C = some (excClassObj nm qn C N bs bm hd sn sub ab col dd k0 k1 k2 k3 k5 newId)) (cN : h.Ns N mN) (hi : mN "__init__" = some (.ref fI)) (hf : h.get? fI = some oI) (hfc : oI.cls = .type "function")
    (k : ∀ h' e, Heap.MadeExcOf h h' e (.ref C) us → wpAny (model pg wo) (Ar.under (.builtin "type.__call__" ⟨.ref C :: us, []⟩)) (call (.ref fI) (.ref e :: us)) (fun r s' => r = .none ∧ Q (.ref e) s') Ex ⟨h', gs, dr, tn, os⟩) (hz : us.length ≤ sizeLine) :
    wpAny (model pg wo) Ar (call (.ref C) us) Q Ex ⟨h, gs, dr, tn, os⟩ := by
  have f1 := tc_lookup
  have f2 := tc_bind (.ref C)
  have hT : (⟨h, gs, dr, tn, os⟩ : Shared).TypeIs (.ref C) "type" := ⟨_, cC, rfl⟩
  refine wpAny_call (codeAny_of_tree ?_)
  change wpAny _ _ (callAny (.ref C) _) _ _ _
  repeat (any_goals (first | assumption | with_reducible refine wpAny_loadPart_at cC ?_ | wp_step))
  refine ⟨rfl, ?_⟩
  refine codeAny_call_builtin_at (Code.quiet_builtin _ (by decide +kernel)) entry_typeCall (wpAny_check_type_call_sub cC (xi_type F T cC cN hi hf hfc (fun h' e hm => ?_) hz))
  exact k h' e hm

theorem xr_raise {M : Model} {s : Shared} {x : Sem Value} {env : Env} {Q : Flow → Shared → Prop} (hb : bm.contains (.type "BaseException") = true) (hh : Ar.handled = none)
    (k : wpAny M Ar x (fun v s₁ => ∃ e oe vs, v = .ref e ∧ s₁.heap.get? C = some (excClassObj nm qn C N bs bm hd sn sub ab col dd k0 k1 k2 k3 k5 newId) ∧ s₁.heap.get? e = some oe ∧ oe.cls = .ref C ∧ oe.data = .fields vs ∧ vs[1]? = some Value.none ∧ Ex (.ref e) s₁) Ex s) :
    wpAny M Ar (raiseStmt env (some x) none) Q Ex s := by
  have hcb : (Value.ref C :: bm).contains (.type "BaseException") = true := by rw [List.contains_cons, hb, Bool.or_true]
  unfold raiseStmt
  refine wpAny_bind (wpAny_mono k (fun v s₁ k₁ => ?_) fun _ _ z => z)
  obtain ⟨e, oe, vs, rfl, cC, he, hcl, hda, h1, hE⟩ := k₁
  obtain ⟨hp, gs, dr, tn, os⟩ := s₁
  obtain ⟨oc, od, oda, osl⟩ := oe
  dsimp only at hcl hda
  subst hcl hda
  repeat (first | with_reducible refine wpAny_loadPart_at he ?_ | with_reducible refine wpAny_loadPart_at cC ?_ | (with_reducible refine wpAny_isSubtype_exc cC ?_; rw [hcb]) | with_reducible refine wpAny_field he rfl h1 ?_ | wp_step)
  exact wpAny_raiseNew_none hh hE
end
end PySem
namespace PySem
section
variable {pg : Program} {wo : World} {Ar : Around} {Ex : Value → Shared → Prop} {h : Heap} {gs : Array GenState} {dr : Drawn} {tn : Nat} {os : OsState}
variable {nm qn : Str} {C N : Addr} {bs bm bmB : List Value} {hd : Bool} {sn : List Str} {sub : List Value} {ab : Bool} {col : Option Bool} {dd : Option Addr} {k0 k1 k2 k3 k5 : Option Value} {B newId initId : String}
/-- Base.__init__(e, ..) -/
theorem xi_init (F : ExcBaseFacts B newId initId bmB) (T : OwnTail h bmB bm) {us : List Value} {e : Addr} {dO : Option Addr} {vs : Array Value} {sl : Array (Option Value)} {Q : Value → Shared → Prop}
    (cC : h.get? C = some (excClassObj nm qn C N bs bm hd sn sub ab col dd k0 k1 k2 k3 k5 newId)) (he : h.get? e = some ⟨.ref C, dO, .fields vs, sl⟩) {t₁ : Addr} (h0 : vs[0]? = some (.ref t₁)) (hu : us.length ≤ sizeLine)
    (k : ∀ h' t0, (∀ b o, b ≠ e → h.get? b = some o → h'.get? b = some o) → h'.get? e = some ⟨.ref C, dO, .fields (vs.setIfInBounds 0 (.ref t0)), sl⟩ → Q .none ⟨h', gs, dr, tn, os⟩) :
    wpAny (model pg wo) Ar (call (.builtin initId) (.ref e :: us)) Q Ex ⟨h, gs, dr, tn, os⟩ := by
  refine wpAny_call (codeAny_call_builtin F.init.plain F.initEntry (wpAny_check_init_subT F T cC he rfl ?_))
  have he1 := Heap.get?_push_of_some { cls := .type "tuple", data := .seq us.toArray } he
  unfold Builtin.«BaseException.__init__»
  refine wpAny_bind ?_
  unfold newTuple
  refine wpAny_newObj_type ?_ (by change us.toArray.size ≤ sizeLine; rw [List.size_toArray]; exact hu)
  have hz : 0 < vs.size := (Array.getElem?_eq_some_iff.mp h0).1
  refine wpAny_bind ?_
  unfold Builtin.BaseException.bexcPut
  refine wpAny_bind (wpAny_field he1 rfl h0 (wpAny_bind (wpAny_setField he1 rfl hz ?_)))
  wp_walk
  refine k _ _ (fun b o nb q => ?_) (Heap.get?_update_self _ he1 rfl)
  rw [Heap.get?_update_other _ _ (Ne.symm nb)]
  exact Heap.get?_push_of_some _ q
end
end PySem

end

section
set_option autoImplicit false
set_option maxRecDepth 100000
set_option maxHeartbeats 1000000
set_option linter.all false
namespace PySem.W
open PySem PySem.Spec PySem.Calls PyProof.Rows Builtin Builtin.ObjectAttr
def onlyVE : List Value → Bool
  | .ref _ :: r => onlyVE r
  | l => l == [.type "ValueError", .type "Exception", .type "BaseException", .type "object"]
theorem onlyVE_pass (self : Value) : ∀ {l : List Value}, onlyVE l = true → refuseLoop self "__setattr__" l = pure () ∧ l.contains (.type "object") = true ∧ l ≠ []
  | [], e => by cases e
  | .ref c :: r, e => by
    obtain ⟨a, b, _⟩ := onlyVE_pass self (l := r) e
    exact ⟨by rw [refuseLoop_ref]; exact a, by rw [List.contains_cons, b, Bool.or_true], by simp⟩
  | .type n :: r, e => by
    have e' : (Value.type n :: r) = [.type "ValueError", .type "Exception", .type "BaseException", .type "object"] := beq_iff_eq.mp e
    rw [e']
    exact ⟨PySem.F.store_ValueError.passes self, by decide +kernel, by simp⟩
  | .none :: r, e => by cases beq_iff_eq.mp (show ((Value.none :: r) == [.type "ValueError", .type "Exception", .type "BaseException", .type "object"]) = true from e)
  | .bool b :: r, e => by cases beq_iff_eq.mp (show ((Value.bool b :: r) == [.type "ValueError", .type "Exception", .type "BaseException", .type "object"]) = true from e)
  | .int i t :: r, e => by cases beq_iff_eq.mp (show ((Value.int i t :: r) == [.type "ValueError", .type "Exception", .type "BaseException", .type "object"]) = true from e)
  | .float i t :: r, e => by cases beq_iff_eq.mp (show ((Value.float i t :: r) == [.type "ValueError", .type "Exception", .type "BaseException", .type "object"]) = true from e)
  | .str i t :: r, e => by cases beq_iff_eq.mp (show ((Value.str i t :: r) == [.type "ValueError", .type "Exception", .type "BaseException", .type "object"]) = true from e)
  | .bytes i t :: r, e => by cases beq_iff_eq.mp (show ((Value.bytes i t :: r) == [.type "ValueError", .type "Exception", .type "BaseException", .type "object"]) = true from e)
  | .builtin i :: r, e => by cases beq_iff_eq.mp (show ((Value.builtin i :: r) == [.type "ValueError", .type "Exception", .type "BaseException", .type "object"]) = true from e)
  | .notImplemented :: r, e => by cases beq_iff_eq.mp (show ((Value.notImplemented :: r) == [.type "ValueError", .type "Exception", .type "BaseException", .type "object"]) = true from e)
  | .ellipsis :: r, e => by cases beq_iff_eq.mp (show ((Value.ellipsis :: r) == [.type "ValueError", .type "Exception", .type "BaseException", .type "object"]) = true from e)
/-- an exception class of one's own, over ValueError -/
structure XC (K : Frag) (C : Addr) : Prop where
  ga : findIn K (.ref C) "__getattribute__" = some (some (.builtin "BaseException.__getattribute__"))
  gt : findIn K (.ref C) "__getattr__" = some none
  be : mroIn K C (.type "BaseException") = some true
  hd : hasDictIn K C = true
  sa : findIn K (.ref C) "__setattr__" = some (some (.builtin "object.__setattr__"))
  cl : findIn K (.ref C) "__class__" = some (some (.builtin "object.__class__"))
  cg : specialIn K (.builtin "object.__class__") "__get__" = some (some (.builtin "getset_descriptor.__get__"))
  ct : takesIn K (.builtin "object.__class__") = some true
  ve : (clsIn K C).any (fun cd => onlyVE cd.mro) = true
theorem XC.ob {K : Frag} {C : Addr} (c : XC K C) : mroIn K C (.type "object") = some true := by
  obtain ⟨cd, hc, ho⟩ := any_some c.ve
  obtain ⟨_, h2, h3⟩ := onlyVE_pass .none ho
  have ne : cd.mro.isEmpty = false := by
    cases q : cd.mro with
    | nil => exact absurd q h3
    | cons _ _ => rfl
  unfold mroIn
  rw [hc, Option.bind_some, if_neg (by rw [ne]; decide), h2]
section
variable {prog : Program} {w : World} {A : Around} {E : Value → Shared → Prop} {s : Shared} {K : Frag} {x C : Addr} {ox : Obj} {od : Option Obj} {name : Str}
theorem xg_body {tk : Tok} {v : Value} {Q : Fin → Shared → Prop} (X : K.In s.heap) (I : InstAt s.heap x ox C od) (hf : findObj K C od name = some (.value v)) (h : Q (.done (.ret v)) s) :
    wpAny (model prog w) A (Builtin.«object.__getattribute__» ⟨[.ref x, .str name tk], []⟩) Q E s := by
  obtain ⟨hh, g, d, t, os⟩ := s
  have L0 := I.type (M := model prog w)
  have L1 := looks_find (M := model prog w) X I hf
  unfold Builtin.«object.__getattribute__»
  repeat lk
  exact h
theorem findObj_dataX {a g : Value} (hc : (clsIn K C).isSome = true) (ha : findIn K (.ref C) name = some (some a)) (hg : specialIn K a "__get__" = some (some g)) (ht : takesIn K a = some true) : findObj K C od name = some (.bind g a) := by
  obtain ⟨cd, hc⟩ := Option.isSome_iff_exists.mp hc
  unfold findObj
  rw [hc, Option.bind_some, ha, Option.bind_some]
  simp [hg, ht]
theorem xg_bodyC {tk : Tok} {Q : Fin → Shared → Prop} (c : XC K C) (X : K.In s.heap) (I : InstAt s.heap x ox C od) (h : Q (.done (.ret (.ref C))) s) :
    wpAny (model prog w) A (Builtin.«object.__getattribute__» ⟨[.ref x, .str "__class__" tk], []⟩) Q E s := by
  have hf : findObj K C od "__class__" = some (.bind (.builtin "getset_descriptor.__get__") (.builtin "object.__class__")) := findObj_dataX (by obtain ⟨cd, hc, _⟩ := any_some c.hd; rw [hc]; rfl) c.cl c.cg c.ct
  have cg := fun {Q' : Value → Shared → Prop} {A' : Around} (z : Q' (.ref C) s) => (wpAny_call (class_get (prog := prog) (w := w) (A := A') (tp := .ref C) (R := fun r s' => match r with | .ok (.ret v) => Q' v s' | .ok _ => False | .error e => E e s') X I c.ob z) : wpAny (model prog w) A' (call (.builtin "getset_descriptor.__get__") [.builtin "object.__class__", .ref x, .ref C]) Q' E s)
  obtain ⟨hh, g, d, t, os⟩ := s
  have L0 := I.type (M := model prog w)
  have L1 := looks_find (M := model prog w) X I hf
  refine wpAny_bind (wpAny_pure (wpAny_bind (wpAny_pure (wpAny_bind (L0.at (wpAny_bind (L1.at ?_)))))))
  change wpAny _ _ (holding [Value.builtin "object.__class__"] (call (.builtin "getset_descriptor.__get__") [.builtin "object.__class__", .ref x, .ref C]) >>= ret) _ _ _
  exact wpAny_bind (wpAny_holding (cg (wpAny_pure h)))
theorem xg_call {tk : Tok} {v : Value} {R : Result → Shared → Prop} (c : XC K C) (X : K.In s.heap) (I : InstAt s.heap x ox C od)
    (hb : ∀ {A' : Around} {Q : Fin → Shared → Prop} {E' : Value → Shared → Prop}, Q (.done (.ret v)) s → wpAny (model prog w) A' (Builtin.«object.__getattribute__» ⟨[.ref x, .str name tk], []⟩) Q E' s) (h : R (.ok (.ret v)) s) :
    codeAny (model prog w) A (.call (.builtin "BaseException.__getattribute__") ⟨[.ref x, .str name tk], []⟩) R s := by
  have hi : Looks (model prog w) s.heap (isInstance (.ref x) (.type "BaseException")) true := I.type.andThen (looks_mroIn X c.be)
  refine codeAny_call_builtin PySem.F.excAttr_ValueError.ga.plain PySem.F.entry_bexc_ga (@check_slot (model prog w) _ _ s "BaseException.__getattribute__" "BaseException" "__getattribute__" (.ref x) [.str name tk] [] _ (by decide +kernel) (by decide +kernel) hi (PySem.F.args_bexc_ga (.ref x) (.str name tk)) ?_)
  exact hb h
theorem xg_by {tk : Tok} {v : Value} {fill expr : Bool} {Q : Value → Shared → Prop} (c : XC K C) (X : K.In s.heap) (I : InstAt s.heap x ox C od)
    (hb : ∀ {A' : Around} {Q : Fin → Shared → Prop} {E' : Value → Shared → Prop}, Q (.done (.ret v)) s → wpAny (model prog w) A' (Builtin.«object.__getattribute__» ⟨[.ref x, .str name tk], []⟩) Q E' s) (hv : handedIn v = true) (h : Q v s) :
    wpAny (model prog w) A (getAttrBy (.ref x) (.str name tk) fill expr) Q E s := by
  have L0 := I.type (M := model prog w)
  have L1 := looks_findIn (M := model prog w) X c.ga
  have L2 := looks_findIn (M := model prog w) X c.gt
  have hx1 : (onTheHeap (Value.ref C) && Value.builtin "BaseException.__getattribute__" == Value.builtin "object.__getattribute__") = false := by
    rw [show (Value.builtin "BaseException.__getattribute__" == Value.builtin "object.__getattribute__") = false by decide +kernel, Bool.and_false]
  have hx0 : (expr && onTheHeap (Value.builtin "BaseException.__getattribute__")) = false := by cases expr <;> rfl
  unfold getAttrBy
  refine wpAny_holding (wpAny_bind (L0.here (wpAny_bind (L1.here ?_))))
  dsimp only
  rw [hx1, if_neg Bool.false_ne_true]
  unfold getAttrByItsOwn
  refine wpAny_bind ?_
  change wpAny _ _ (typeLookup (.ref C) "__getattr__") _ _ _
  refine L2.here (wpAny_bind (wpAny_attempt (wpAny_holding ?_)))
  unfold callGetattribute
  rw [hx0, if_neg Bool.false_ne_true]
  unfold boundAndCalled
  rw [PySem.F.excAttr_ValueError.ga.bind]
  refine wpAny_bind (wpAny_pure (wpAny_call (xg_call c X I hb ?_)))
  change wpAny _ _ (handedOut v) _ _ _
  rw [handedOut_of hv]
  exact wpAny_pure h
/-- e.name, where the exception's own dict has it -/
theorem xg_attr {v : Value} {expr : Bool} {Q : Value → Shared → Prop} (c : XC K C) (X : K.In s.heap) (I : InstAt s.heap x ox C od) (hf : findObj K C od name = some (.value v)) (hv : handedIn v = true) (h : Q v { s with toks := s.toks + 1 }) :
    wpAny (model prog w) A (getAttr (.ref x) name expr) Q E s := by
  unfold getAttr
  refine wpAny_bind (wpAny_mkText (xg_by (s := { s with toks := s.toks + 1 }) c X I (fun z => xg_body (s := { s with toks := s.toks + 1 }) X I hf z) hv h))
theorem xg_class {Q : Option Value → Shared → Prop} (c : XC K C) (X : K.In s.heap) (I : InstAt s.heap x ox C od) (h : Q (some (.ref C)) { s with toks := s.toks + 1 }) :
    wpAny (model prog w) A (getAttr? (.ref x) "__class__") Q E s := by
  unfold getAttr? getAttrBy?
  refine wpAny_bind (wpAny_mkText (wpAny_bind (wpAny_attempt (xg_by (s := { s with toks := s.toks + 1 }) c X I (fun z => xg_bodyC (s := { s with toks := s.toks + 1 }) c X I z) rfl ?_))))
  exact wpAny_pure h
theorem kitx_exc (c : XC K C) : KitX K (.ref x) (.ref C) (fun h => InstAt h x ox C od) where
  ty := fun _ _ _ I => I.type
  it := fun _ _ X _ => by
    obtain ⟨cdD, hcD, _⟩ := any_some c.hd
    unfold clsIn at hcD
    split at hcD
    · rename_i c' d' cd' sl' ho
      intro A' Q' E' s' kk q
      unfold isType loadHead
      exact wpAny_bind (wpAny_loadPart (kk _ _ (X _ _ ho)) (wpAny_pure q))
    · cases hcD
  ne := fun h tp dd its n sl X htp => by
    obtain ⟨cdD, hcD, _⟩ := any_some c.hd
    refine Bool.eq_false_iff.mpr fun q => ?_
    have e : C = tp := Value.ref.inj (beq_iff_eq.mp q)
    subst e
    unfold clsIn at hcD
    split at hcD
    · rename_i c' d' cd' sl' ho
      have z := (X _ _ ho).symm.trans htp
      cases z
    · cases hcD
  ca := fun X I k => xg_class c X I k
/-- e.name = v, the first attribute of an exception -/
theorem xs_open {R : Result → Shared → Prop} {tk : Tok} {v : Value} (c : XC K C) (X : K.In s.heap) (I : InstAt s.heap x ox C od) (ht : takerIn K C name = some none)
    (h : ∀ b, wpAny (model prog w) A.in1 (storeInOwnDict (.ref x) (.ref C) (.str name tk) name v b)
      (fun fin s' => match fin with | .done f => R (.ok f) s' | .again c' => c'.quiet = true ∧ codeAny (model prog w) A c' R s') (fun e s' => R (.error e) s') s) :
    codeAny (model prog w) A (.call (.builtin "object.__setattr__") ⟨[.ref x, .str name tk, v], []⟩) R s := by
  have SF := PySem.F.store_object
  obtain ⟨cd, hc, ho⟩ := any_some c.ve
  have sub : Looks (model prog w) s.heap (isInstance (.ref x) (.type "object")) true := I.type.andThen (looks_mroIn X c.ob)
  refine codeAny_call_builtin SF.slot.plain SF.entry (@check_slot (model prog w) _ _ s "object.__setattr__" "object" "__setattr__" (.ref x) [.str name tk, v] [] _ SF.kind SF.split sub (SF.args (.ref x) (.str name tk) v) ?_)
  obtain ⟨attr, ha, hr⟩ := Option.bind_eq_some_iff.mp ht
  have hm : Looks (model prog w) s.heap (mroOf (.ref C)) cd.mro := (looks_clsIn X hc).andThen .now
  have L3 : Looks (model prog w) s.heap (storeTaker? attr) none := by
    cases attr with
    | none => exact .now
    | some a =>
      obtain ⟨b, hb, hbb⟩ := Option.map_eq_some_iff.mp hr
      refine (looks_takesIn X hb).andThen ?_
      cases b with
      | false => exact .now
      | true => cases hbb
  rw [osa_eq, refuse_eq]
  refine wpAny_bind (wpAny_bind (I.type.here (wpAny_bind (hm.here ?_))))
  rw [(onlyVE_pass _ ho).1]
  refine wpAny_pure (wpAny_bind (I.type.here (wpAny_bind ((looks_findIn X ha).here (wpAny_bind (L3.here ?_))))))
  exact h _
theorem xs_set {v : Value} {vs : Array Value} {sl : Array (Option Value)} {Q : Unit → Shared → Prop} (c : XC K C) (X : K.In s.heap) (he : s.heap.get? x = some ⟨.ref C, none, .fields vs, sl⟩) (ht : takerIn K C name = some none)
    (h : ∀ h' tk', h'.get? x = some ⟨.ref C, some s.heap.objs.size, .fields vs, sl⟩ → h'.Ns1 s.heap.objs.size (fun y => if y = name then some v else none) → (∀ b o, b ≠ x → s.heap.get? b = some o → h'.get? b = some o) → Q () { s with heap := h', toks := tk' }) :
    wpAny (model prog w) A (setAttr (.ref x) name v) Q E s := by
  have I : InstAt s.heap x ⟨.ref C, none, .fields vs, sl⟩ C none := ⟨he, rfl, rfl, trivial⟩
  refine set_plain X I c.sa (xs_open (s := { s with toks := s.toks + 1 }) c X I ht fun b => ?_)
  obtain ⟨hh, g, d, t, os⟩ := s
  obtain ⟨cd, hc, hd'⟩ := any_some c.hd
  refine wpAny_bind (wpAny_pure (wpAny_bind (wpAny_bind (wpAny_loadPart he (wpAny_bind (looks_clsIn (M := model prog w) X hc _ _ _ _ (fun _ _ e => e) ?_))))))
  rw [hd']
  dsimp only
  have hx₁ : (hh.push { cls := .type "dict", data := .dict #[] }).get? x = some ⟨.ref C, none, .fields vs, sl⟩ := Heap.get?_push_of_some _ he
  have hxs : x ≠ hh.objs.size := Nat.ne_of_lt (Heap.lt_size he)
  have hgd : ((hh.push { cls := .type "dict", data := .dict #[] }).update x fun o => { o with dict := some hh.objs.size }).get? hh.objs.size = some { cls := .type "dict", data := .dict #[] } :=
    (Heap.get?_update_ne _ _ _ _ hxs.symm).trans (Heap.get?_push_at rfl rfl)
  have hnd : ((hh.push { cls := .type "dict", data := .dict #[] }).update x fun o => { o with dict := some hh.objs.size }).Ns hh.objs.size (fun _ => none) :=
    ⟨_, #[], _, hgd, rfl, fun e he => absurd he (by simp), fun _ => rfl⟩
  simp only [Bool.not_true, Bool.false_or, typeHasDict, Bool.false_eq_true, if_false]
  refine wpAny_bind (wpAny_alloc' (wpAny_bind (wpAny_update' hx₁ ?_)))
  refine wpAny_pure ?_
  change wpAny _ _ (storeInDict hh.objs.size (.str name _) name v) _ _ _
  unfold storeInDict newKeyGuard
  refine wpAny_bind (wpAny_pure (wpAny_bind (wpAny_nsSet1 (Heap.Ns1.of_empty hnd) fun h' hn' hs => ?_)))
  obtain ⟨oD, esD, epD, hoD, hdD, hcD⟩ := hn'.count (Within.cons name v Within.nil)
  refine wpAny_bind (wpAny_lookBehind hoD (by rw [hdD]; exact pastItsLine_dict (Nat.le_trans hcD (by rw [List.length_cons, List.length_nil, sizeLine_eq]; omega))) ?_)
  refine wpAny_pure (h h' _ ?_ hn' fun b o nb q => ?_)
  · exact (hs.2 x hxs).trans (Heap.get?_update_self _ hx₁ rfl)
  · exact (hs.2 b (Nat.ne_of_lt (Heap.lt_size q))).trans ((Heap.get?_update_ne _ _ _ _ nb).trans (Heap.get?_push_of_some _ q))
end
end PySem.W

end

section
set_option autoImplicit false
set_option maxRecDepth 100000
set_option linter.all false
namespace L2
open PySem PySem.Spec PyProof.Rows EoD Eo
def XeP (C : Addr) (dO : Option Addr) (e : Addr) (h : Heap) : Prop := ∃ vs sl t, h.get? e = some ⟨.ref C, dO, .fields vs, sl⟩ ∧ 2 < vs.size ∧ vs[0]? = some (Value.ref t) ∧ vs[1]? = some Value.none ∧ vs[2]? = some Value.none
def XE (C : Addr) (dO : Option Addr) (e : Addr) : HO := .ext (XeP C dO e)
theorem XeP.ok {P : Program} {w : World} {H : Hp} {h : Heap} {C e : Addr} {dO : Option Addr} (x : XeP C dO e h) : ObjOk P w H h e (XE C dO e) :=
  ⟨x, let ⟨_, _, _, q, _⟩ := x; ⟨_, q⟩, fun _ _ ⟨vs, sl, t, q, r⟩ k => ⟨vs, sl, t, k _ q, r⟩⟩
theorem HOk.xe {P : Program} {w : World} {H : Hp} {h : Heap} {C e : Addr} {dO : Option Addr} (x : HOk P w H h) (q : H e = some (XE C dO e)) : XeP C dO e h := (show ObjOk P w H h e (.ext _) from x e _ q).1
def del (H : Hp) (a : Addr) : Hp := fun b => if b = a then none else H b
theorem del_same {H : Hp} {a : Addr} : del H a a = none := by unfold del; rw [if_pos rfl]
theorem del_ne {H : Hp} {a b : Addr} (h : b ≠ a) : del H a b = H b := by unfold del; rw [if_neg h]
theorem del_some {H : Hp} {a b : Addr} {φ : Heap → Prop} {o : HO} (e : H a = some (.ext φ)) (n : ∀ ψ, o ≠ .ext ψ) (h : H b = some o) : del H a b = some o := by
  refine (del_ne fun z => ?_).trans h
  rw [z, e] at h
  exact n φ (Option.some.inj h).symm
theorem del_none {H : Hp} {a b : Addr} (h : H b = none) : del H a b = none := by
  unfold del
  split
  · rfl
  · exact h
theorem ObjOk.obj {P : Program} {w : World} {H : Hp} {h : Heap} {a : Addr} {o : HO} (x : ObjOk P w H h a o) : ∃ ob, h.get? a = some ob := by
  cases o with
  | lst xs => obtain ⟨_, _, _, _, e⟩ := x; exact ⟨_, e⟩
  | tup xs => obtain ⟨_, _, _, ob, e, _⟩ := x; exact ⟨_, e⟩
  | dK kvs => obtain ⟨_, _, _, _, o, _, _, e, _⟩ := x; exact ⟨_, e⟩
  | dT kvs => obtain ⟨_, _, _, _, o, _, _, e, _⟩ := x; exact ⟨_, e⟩
  | set S n => obtain ⟨o, _, _, _, e, _⟩ := x; exact ⟨_, e⟩
  | ins C dx fs => obtain ⟨_, _, _, e, _⟩ := x; exact ⟨_, e⟩
  | own y => exact x
  | xd fs => obtain ⟨_, ⟨_, _, _, e, _⟩, _⟩ := x; exact ⟨_, e⟩
  | rng lo hi => obtain ⟨_, _, _, e⟩ := x; exact ⟨_, e⟩
  | frz ob u => obtain ⟨e, _⟩ := x; exact ⟨_, e⟩
  | tbl ps => exact ⟨_, x⟩
  | met f y => exact ⟨_, x⟩
  | ext φ => exact x.2.1
theorem HOk.freshN {P : Program} {w : World} {H : Hp} {h : Heap} {a : Addr} (x : HOk P w H h) (e : h.get? a = none) : H a = none := by
  cases q : H a with
  | none => rfl
  | some u =>
    obtain ⟨ob, z⟩ := (x a u q).obj
    rw [e] at z
    cases z
section
variable {X : Cx} {pins : List (Addr × Obj)} {σ : St} {H : Hp} {s : Shared}
theorem Inv.del (I : Inv X pins σ H s) {e : Addr} {φ : Heap → Prop} (q : H e = some (.ext φ)) : Inv X pins σ (del H e) s := by
  refine ⟨I.ok, I.os, I.bare, ⟨I.base.keep, I.base.slot, fun b o h1 h2 h3 => del_none (I.base.free b o h1 h2 h3), I.base.there, fun b xs h => del_some q (fun _ z => nomatch z) (I.base.tups b xs h), fun b o u h => del_some q (fun _ z => nomatch z) (I.base.frzs b o u h), fun b ps h => ?_⟩,
    I.loc, I.cell, del_none I.free, fun x c h => del_none (I.freeC x c h), fun p hp => ?_, fun b o h => ?_, I.len⟩
  · obtain ⟨m, z⟩ := I.base.tbls b ps h
    exact ⟨m, del_some q (fun _ z => nomatch z) z⟩
  · obtain ⟨a1, a2, a3⟩ := I.pin p hp
    exact ⟨a1, del_none a2, a3⟩
  · have hb : H b = some o := by
      by_cases z : b = e
      · rw [z, del_same] at h; cases h
      · rw [del_ne z] at h; exact h
    exact (I.hok b o hb).stay (fun _ _ _ z => z) (fun c z => del_some q (fun _ z => nomatch z) z) fun c xs z => del_some q (fun _ z => nomatch z) z
theorem Inv.laidN {h' : Heap} {a : Addr} {o : HO} {t' : Nat} (I : Inv X pins σ H s) (k : ∀ b u, s.heap.get? b = some u → h'.get? b = some u) (hp : s.heap.get? a = none) (new : ObjOk X.prog X.w (upd H a o) h' a o) :
    Inv X pins σ (upd H a o) { s with heap := h', toks := t' } := by
  have hn := I.hok.freshN hp
  have ne : ∀ b u, s.heap.get? b = some u → b ≠ a := fun b u q z => by rw [z, hp] at q; cases q
  refine I.un ⟨fun b u q _ _ _ => k b u q, fun b u q _ _ _ => ⟨u.slots, k b u q⟩, fun b u q n _ => by rw [upd_ne (ne b u q)]; exact n, fun b u q _ => ⟨u, k b u q⟩, fun b xs q => by rw [upd_ne (ne_of_none q hn)]; exact q, fun b u xs q => by rw [upd_ne (ne_of_none q hn)]; exact q,
    fun b ps q => ⟨#[], by rw [upd_ne (ne_of_none q hn), q]; simp⟩⟩ fun b u e => ?_
  by_cases hb : b = a
  · subst hb; rw [upd_same] at e; cases e; exact new
  · rw [upd_ne hb] at e
    exact (I.hok b u e).stay (fun c v _ q => k c v q) (fun c q => by rw [upd_ne (ne_of_none q hn)]; exact q) fun c xs q => by rw [upd_ne (ne_of_none q hn)]; exact q
end
abbrev bmV : List Value := [.type "ValueError", .type "Exception", .type "BaseException", .type "object"]
theorem ns_val {K : PySem.W.Frag} {h : Heap} {N : Addr} {m : Str → Option Value} {n : Str} {v : Value} (X : K.In h) (G : h.Ns N m) (e : PySem.W.nsIn K N n = some (some v)) : m n = some v := by
  obtain ⟨o, es, ep, ho, hd, _, hf⟩ := G
  unfold PySem.W.nsIn at e
  split at e
  · rename_i c d es' n' sl q
    have := X _ _ q
    rw [ho] at this
    cases this
    cases hd
    split at e
    · rename_i en he
      cases e
      rw [← hf]
      unfold nsFind findBy
      rw [← Array.find?_toList, he]
      rfl
    · split at e <;> cases e
  · cases e
/-- an exception class over ValueError; r: its own __init__ -/
def xclIn (K : PySem.W.Frag) (C : Addr) (r : Option Value) : Bool := match K.lookup C with
  | some ⟨.type t, _, .cls cd, sl⟩ => (match cd.mro, sl.toList with
    | .ref C' :: bm, [_, _, _, _, some (.builtin n), _] => t == "type" && C' == C && n == "ValueError.__new__" && !cd.hasDel && PySem.W.tailIn K bmV bm && PySem.W.nsOkIn K cd.ns && PySem.W.nsIn K cd.ns "__init__" == some r
    | _, _ => false)
  | _ => false
structure XCls (h : Heap) (C : Addr) (r : Option Value) (nm qn : Str) (N : Addr) (bs bm : List Value) (hd : Bool) (sn : List Str) (sub : List Value) (ab : Bool) (col : Option Bool) (dd : Option Addr) (k0 k1 k2 k3 k5 : Option Value) (mN : Str → Option Value) : Prop where
  ob : h.get? C = some (excClassObj nm qn C N bs bm hd sn sub ab col dd k0 k1 k2 k3 k5 "ValueError.__new__")
  ns : h.Ns N mN
  ini : mN "__init__" = r
  tl : OwnTail h bmV bm
theorem xcls_of {K : PySem.W.Frag} {h : Heap} {C : Addr} {r : Option Value} (X : K.In h) (q : xclIn K C r = true) : ∃ nm qn N bs bm hd sn sub ab col dd k0 k1 k2 k3 k5 mN, XCls h C r nm qn N bs bm hd sn sub ab col dd k0 k1 k2 k3 k5 mN := by
  unfold xclIn at q
  split at q
  · rename_i t dd cd sl ho
    split at q
    · rename_i C' bm k0 k1 k2 k3 n k5 hm hs
      simp only [Bool.and_eq_true, beq_iff_eq, Bool.not_eq_true'] at q
      obtain ⟨⟨⟨⟨⟨⟨rfl, rfl⟩, rfl⟩, hdel⟩, ht⟩, hok⟩, hni⟩ := q
      obtain ⟨nm, bs, mro, ns, qn, hd, sn, sub, ab, col, dl⟩ := cd
      dsimp only at hm hdel hok hni
      subst hm hdel
      have hsl : sl = #[k0, k1, k2, k3, some (.builtin "ValueError.__new__"), k5] := by
        obtain ⟨l⟩ := sl
        simp only at hs
        rw [hs]
      subst hsl
      refine ⟨nm, qn, ns, bs, bm, hd, sn, sub, ab, col, dd, k0, k1, k2, k3, k5, _, X _ _ ho, .of_isNs (PySem.W.isNs_of_in X hok), ?_, PySem.W.tail_of_in X ht⟩
      cases r with
      | none => exact PySem.W.nsMap_none_of_in X hok hni
      | some v => exact ns_val X (.of_isNs (PySem.W.isNs_of_in X hok)) hni
    · cases q
  · cases q
theorem XCls.keeps {h h' : Heap} {C : Addr} {r : Option Value} {nm qn : Str} {N : Addr} {bs bm : List Value} {hd : Bool} {sn : List Str} {sub : List Value} {ab : Bool} {col : Option Bool} {dd : Option Addr} {k0 k1 k2 k3 k5 : Option Value} {mN : Str → Option Value}
    (c : XCls h C r nm qn N bs bm hd sn sub ab col dd k0 k1 k2 k3 k5 mN) (k : ∀ b o, h.get? b = some o → h'.get? b = some o) : XCls h' C r nm qn N bs bm hd sn sub ab col dd k0 k1 k2 k3 k5 mN := ⟨k _ _ c.ob, c.ns.keeps k, c.ini, c.tl.keeps k⟩
theorem own_base {h : Heap} {bm : List Value} (T : OwnTail h bmV bm) : bm.contains (.type "BaseException") = true := T.hasType (by decide +kernel)
theorem fn_at {K : PySem.W.Frag} {h : Heap} {f : Addr} (X : K.In h) (e : PySem.W.isFn K (.ref f) = true) : ∃ o, h.get? f = some o ∧ o.cls = .type "function" := by
  have e' : PySem.W.typeIn K (.ref f) = some (.type "function") := beq_iff_eq.mp e
  obtain ⟨o, ho, hc⟩ := Option.map_eq_some_iff.mp (show (K.lookup f).map (·.cls) = some (.type "function") from e')
  exact ⟨o, X _ _ ho, hc⟩
def tRaiseI (C : Addr) (sp : Sp) (E : XK) (t : TA) : TS := fun D σ H => t σ H fun vs H1 => vs.length ≤ sizeLine ∧ ∀ e, H1 e = none → sp (.ref e :: vs) (upd H1 e (XE C none e)) (fun v H2 => v = .non ∧ ∃ dO, H2 e = some (XE C dO e) ∧ E (.ref C) dO (del H2 e)) E0
section
variable {X : Cx} {x : Str} {np cpos pos : Pos} {a : Expr} {as : List Expr} {t : TA} {C f : Addr} {k : Nat} {fd : FuncData} {ps : List Str} {sp : Sp} {E : XK}
theorem ps_raiseI (hc : X.calm = true) (M : xclIn X.K C (some (.ref f)) = true) (kp : PySem.W.keepIn X.K (.ref C) = true) (isf : PySem.W.isFn X.K (.ref f) = true) (F : FnOk X.prog X.w X.K X.mg X.base CX0 k f fd ps sp) (hr : Room (k + 1) X.A)
    (hg : Gl X x) (hm : X.mg x = some (.ref C)) (hb : Binds X.K fd ps []) (th : Thr X E) (ha : PA X (a :: as) t) (hdb : (x == ("__debug__" : Str)) = false := by decide)
    (he : starEach (a :: as) X.env = (false, eval a X.env) :: starEach as X.env := by rfl) (hpl : (backTo cpos (starEach as X.env)).any (·.1) = false := by rfl) :
    PS X (.Raise (some (.Call (.Name x np) (a :: as) [] cpos)) none pos) (tRaiseI C sp E t) := by
  intro pins s σ H D I h
  obtain ⟨nm, qn, N, bs, bm, hd, sn, sub, ab, col, dd, k0, k1, k2, k3, k5, mN, c0⟩ := xcls_of I.mod.kin M
  rw [arm_exec_Raise]
  refine wpAny_bind (wpAny_standAt (xr_raise (C := C) (nm := nm) (qn := qn) (N := N) (bs := bs) (bm := bm) (hd := hd) (sn := sn) (sub := sub) (ab := ab) (col := col) (dd := dd) (k0 := k0) (k1 := k1) (k2 := k2) (k3 := k3) (k5 := k5) (newId := "ValueError.__new__") (own_base c0.tl) (I.ok.hd hc)
    (wpAny_bind (wpAny_mono (wpAny_Call_Name_kw (ld_glob I hg hm ?_ hdb)) (fun v s₃ h₃ => wpAny_bind (wpAny_standAt (wpAny_pure h₃))) fun _ _ z => z))))
  refine PySem.W.callWith_K (h₀ := X.base) I.ok.mod.kin kp (thn (ha cpos pins s σ H _ I h) fun us s1 ⟨vs, H1, I1, r, hz, hq⟩ => ⟨I1.kIn, ?_⟩) he hpl
  change wpAny _ _ (call (.ref C) us) _ _ _
  have c1 := c0.keeps I1.bk
  obtain ⟨oI, fI, fc⟩ := fn_at I1.kIn isf
  obtain ⟨hh, g1, d1, t1, o1⟩ := s1
  refine xi_call PySem.F.excBase_ValueError c1.tl c1.ob c1.ns c1.ini fI fc (fun h' e m => ?_) (by rw [← r.length]; exact hz)
  have xe0 : XeP C none e h' := by
    obtain ⟨t0, q, _⟩ := m.there
    exact ⟨_, _, t0, q, (by show 2 < 6; decide), rfl, rfl, rfl⟩
  have I2 : Inv X pins σ (upd H1 e (XE C none e)) ⟨h', g1, d1, t1, o1⟩ := I1.laidN (h' := h') (t' := t1) m.keeps m.new xe0.ok
  have hsp := hq e (I1.hok.freshN m.new)
  have r2 : Vals (V.ref e :: vs) (Value.ref e :: us) := .cons rfl r
  have hl : (Value.ref e :: us ++ ([] : List Value)).length = ps.length := by
    have z := r2.length
    rw [F.len _ _ _ _ hsp] at z
    rw [List.append_nil]
    exact z.symm
  refine wpAny_call (codeAny_mono (F.run _ X.stack _ _ ⟨Value.ref e :: us, []⟩ (Value.ref e :: us) _ _ E0 (hr.make C us []) (I2.env0.make C us []) (by have z := hb ⟨h', g1, d1, t1, o1⟩ (Value.ref e :: us) I2.kIn hl; rwa [List.append_nil] at z) r2 hsp) fun r s' hq' => ?_)
  cases r with
  | error e => exact False.elim hq'
  | ok fl =>
    cases fl with
    | ret u =>
      obtain ⟨v, H', I3, rv, ev, dO, eE, q3⟩ := I2.after hq'
      subst ev
      obtain ⟨ws, sl, t0, w1, w2, w3, w4, w5⟩ := I3.hok.xe eE
      refine ⟨rv, e, _, ws, rfl, (c0.keeps I3.bk).ob, w1, rfl, rfl, w4, ?_⟩
      exact th pins σ (L2.del H' e) s' e (.ref C) dO (I3.del eE) ⟨I1.fpNew m.new del_same, none, (fun _ z => nomatch z), _, ws, w1, rfl, rfl, rfl, w2, w5, w4⟩ q3
    | next => exact False.elim hq'
    | brk => exact False.elim hq'
    | cont => exact False.elim hq'
end
section
variable {P : Program} {w : World} {K : PySem.W.Frag} {mg : Str → Option Value} {base : Heap}
abbrev cxX (P : Program) (w : World) (K : PySem.W.Frag) (mg : Str → Option Value) (base : Heap) (N : List Str) (qual : Str) (scope : Scope) (f : Addr) (cd : Value) (A : Around) (outer : List Env) (s : Shared) (H : Hp) (E : XK) : Cx :=
  (cxOf (CXE P w) P w K mg base N qual scope f cd A outer s H E).wish (XP (cxOf (CXE P w) P w K mg base N qual scope f cd A outer s H E) E)
theorem Fun.okX {x qual : Str} {st : Stmt} {f : Addr} {fd : FuncData} {N ps : List Str} {k : Nat} {sp : Sp} (F : Fun K x qual st f fd) (S : FnScope N ps (defScope st)) (len : ∀ vs H Q E, sp vs H Q E → vs.length = ps.length)
    (hbody : ∀ (cdv : Value) (A : Around) (outer : List Env) (s : Shared) (H : Hp) (vs : List V) (Q : VK) (E : XK), Room k (A.deeper (envOfC qual (defScope st) s.heap.objs.size f cdv)) → sp vs H Q E →
      ∃ t, PSs (cxX P w K mg base N qual (defScope st) f cdv A outer s H E) (defBody st) t ∧ t { nx := fun _ H' => Q .non H', rt := Q } (start N vs) H) : FnOk P w K mg base (CXE P w) (k + 1) f fd ps sp := by
  obtain ⟨oc, od, kV, doc, pm, an, cdv, ct, osl, rfl, lk, hcd⟩ := F.ex
  refine fn_of lk hcd S len fun A outer s H vs Q E hr hsp => ?_
  obtain ⟨t, h, q⟩ := hbody cdv A outer s H vs Q E hr hsp
  refine ⟨t, fun pins s1 σ H1 D I hw => wpAny_mono (h pins s1 σ H1 D (I.wish _) hw) (fun _ _ q => q.unwish) fun v s2 z => ?_, q⟩
  obtain ⟨pins', σ', H', e, cls, dO, rfl, J, x, qE⟩ := z
  refine leave_ok J ⟨rfl, rfl⟩ x fun s3 J3 x3 => ?_
  have new : ∀ b, FpOk (cxOf (CXE P w) P w K mg base N qual (defScope st) f cdv A outer s H E) pins' H' b → s.heap.get? b = none ∧ H' b = none := fun b fp => ⟨fp.2.2.2.1.resolve_left (fun z => nomatch z), fp.1⟩
  obtain ⟨fe, T, hT, xo⟩ := x3
  exact ⟨e, cls, dO, H', rfl, J3.os, J3.bare, J3.base, J3.hok, new e fe, ⟨T, fun t' q => new t' (hT t' q), xo⟩, qE⟩
/-- a def of the top that may raise -/
def CalX (P : Program) (w : World) (K : PySem.W.Frag) (mg : Str → Option Value) (base : Heap) (x : Str) (k : Nat) (ps : List Str) (sp : Sp) : Prop :=
  ∃ f fd, FnOk P w K mg base (CXE P w) k f fd ps sp ∧ mg x = some (.ref f) ∧ PySem.W.keepIn K (.ref f) = true ∧ Binds K fd ps []
theorem Def.calX {x : Str} {st : Stmt} {N ps : List Str} {k : Nat} {sp : Sp} (D : Def K mg x st ps) (S : FnScope N ps (defScope st)) (len : ∀ vs H Q E, sp vs H Q E → vs.length = ps.length)
    (hbody : ∀ (f : Addr) (cdv : Value) (A : Around) (outer : List Env) (s : Shared) (H : Hp) (vs : List V) (Q : VK) (E : XK), Room k (A.deeper (envOfC x (defScope st) s.heap.objs.size f cdv)) → sp vs H Q E →
      ∃ t, PSs (cxX P w K mg base N x (defScope st) f cdv A outer s H E) (defBody st) t ∧ t { nx := fun _ H' => Q .non H', rt := Q } (start N vs) H) : CalX P w K mg base x (k + 1) ps sp := by
  obtain ⟨f, fd, F, m, b⟩ := D.ex
  exact ⟨f, fd, F.okX S len (hbody f), m, F.kp, b⟩
end
theorem pe_calX {X : Cx} {x : Str} {k : Nat} {ps : List Str} {sp : Sp} {E : XK} {e : Expr} {es : List Expr} {t : TA} {p pos : Pos} (c : CalX X.prog X.w X.K X.mg X.base x k ps sp) (hr : Room k X.A) (hg : Gl X x) (th : Thr X E) (ha : PA X (e :: es) t) (hdb : (x == ("__debug__" : Str)) = false := by decide)
    (he : starEach (e :: es) X.env = (false, eval e X.env) :: starEach es X.env := by rfl) (hpl : (backTo pos (starEach es X.env)).any (·.1) = false := by rfl) : PE X (.Call (.Name x p) (e :: es) [] pos) (tCall sp [] E t) :=
  let ⟨_, _, F, m, kp, b⟩ := c; pe_call F hr hg m kp b .nil (passes_thr th) ha hdb he hpl
/-- a def that is not to raise here -/
theorem thr_never {X : Cx} : Thr X E0 := fun _ _ _ _ _ _ _ _ _ h => h.elim
end L2

end

section
set_option autoImplicit false
set_option maxRecDepth 100000
set_option linter.all false
namespace L2
open PySem PySem.Spec PyProof.Rows EoD Eo
theorem upd_id {H : Hp} {a : Addr} {o : HO} (h : H a = some o) : upd H a o = H := by
  funext b
  unfold upd
  split
  · rename_i z; rw [z, h]
  · rfl
def tBase (C : Addr) (t : TA) : TE := fun σ H Q => t σ H fun vs H1 => ∃ e dO v, vs = [.ref e, v] ∧ H1 e = some (XE C dO e) ∧ Q .non H1
structure BaseOf (K : PySem.W.Frag) (W : Addr) : Prop where
  ga : PySem.W.specialIn K (.ref W) "__getattribute__" = some (some (.builtin "type.__getattribute__"))
  rd : PySem.W.readsIn K W (.type "type") = true
  fi : PySem.W.findCls K (.ref W) (.type "type") "__init__" = some (.val (.builtin "ValueError.__init__"))
theorem pe_base {X : Cx} {x : Str} {p apos pos : Pos} {a : Expr} {as : List Expr} {t : TA} {W C : Addr} {r : Option Value} {pl : Sem Bool} (hg : Gl X x) (hm : X.mg x = some (.ref W)) (B : BaseOf X.K W) (M : xclIn X.K C r = true) (ha : PA X (a :: as) t) (hdb : (x == ("__debug__" : Str)) = false := by decide)
    (he : starEach (a :: as) X.env = (false, eval a X.env) :: starEach as X.env := by rfl) (hpl : (backTo pos (starEach as X.env)).any (·.1) = false := by rfl)
    (ht : eval (.Call (.Attribute (.Name x p) "__init__" apos) (a :: as) [] pos) X.env = (do
      let ov ← eval (.Name x p) X.env
      standAt apos.atName
      let (f, first) ← holding [ov] (getMethod ov "__init__" pl)
      callWith pos f first (backTo pos (starEach (a :: as) X.env)) (backToKw pos (keywordEach [] X.env))) := by rfl) :
    PE X (.Call (.Attribute (.Name x p) "__init__" apos) (a :: as) [] pos) (tBase C t) := by
  intro pins s σ H Q I h
  obtain ⟨nm, qn, N, bs, bm, hd, sn, sub, ab, col, dd, k0, k1, k2, k3, k5, mN, c0⟩ := xcls_of I.mod.kin M
  refine PySem.W.methodCall_KW (pl := pl) (ld_glob I hg hm ?_ hdb) ht
  refine PySem.W.method_cls I.kIn B.ga (PySem.W.cls_value I.kIn B.rd B.fi rfl ?_)
  refine PyProof.Rows.callWith_builtin1 (thn (ha pos pins _ σ H _ (I.tok _) h) fun us s1 ⟨vs, H1, I1, r, e, dO, v, ev, eE, q⟩ => ?_) he hpl
  subst ev
  obtain ⟨u1, u2, rfl, ru, rv⟩ := vals2 r
  obtain rfl : u1 = Value.ref e := ru
  obtain ⟨ws, sl, t0, w1, w2, w3, w4, w5⟩ := I1.hok.xe eE
  have c1 := c0.keeps I1.bk
  obtain ⟨hh, g1, d1, t1, o1⟩ := s1
  refine xi_init PySem.F.excBase_ValueError c1.tl c1.ob w1 w3 (by show 1 ≤ sizeLine; decide) fun h' t' kp e' => ?_
  have sz : (ws.setIfInBounds 0 (Value.ref t')).size = ws.size := Array.size_setIfInBounds
  have I3 := I1.write (x := e) (e := e) (o := XE C dO e) (h' := h') (t' := t1) (by rw [eE]; exact True.intro) (.inl rfl) (fun b u nb z => kp b u nb z) ⟨_, e'⟩
    (XeP.ok ⟨_, sl, t', e', by rw [sz]; exact w2, Array.getElem?_setIfInBounds_self_of_lt (by omega), by rw [Array.getElem?_setIfInBounds_ne (by decide)]; exact w4, by rw [Array.getElem?_setIfInBounds_ne (by decide)]; exact w5⟩)
  rw [upd_id eE] at I3
  exact ⟨.non, H1, I3, rfl, q⟩
def sXFld (K : PySem.W.Frag) (ta tv : TE) (f : Str) : TS := fun D σ H => tv σ H fun y H1 => ta σ H1 fun x H2 => ∃ e C, x = .ref e ∧ PySem.W.XC K C ∧ NoAttr K C f ∧ H2 e = some (XE C none e) ∧ ∀ d, H2 d = none → d ≠ e → D.nx σ (upd (upd H2 d (.xd [(f, y)])) e (XE C (some d) e))
theorem ps_xfld {X : Cx} {o value : Expr} {f : Str} {pos pos' : Pos} {ta tv : TE} (ha : PE X o ta) (hv : PE X value tv) (hs : swapsWith value (some (.Attribute o f pos')) pos.line X.env = pure false) : PS X (.Assign [.Attribute o f pos'] value pos) (sXFld X.K ta tv f) := by
  intro pins s σ H D I h
  refine plainObj_wpAny_Assign_Attribute (thn (hv pins s σ H _ I h) fun u s1 ⟨y, H1, I1, ry, q⟩ => thn (ha pins s1 σ H1 _ I1 q) fun ov s2 ⟨x, H2, I2, rx, e, C, ex, xc, na, eE, q2⟩ => ?_) hs
  subst ex
  obtain rfl : ov = Value.ref e := rx
  obtain ⟨ws, sl, t0, w1, w2, w3, w4, w5⟩ := I2.hok.xe eE
  refine PySem.W.xs_set xc I2.kIn w1 na.taker fun h' tk' e' ns kp => ?_
  have hd : H2 s2.heap.objs.size = none := I2.hok.fresh (Nat.le_refl _)
  have ned : s2.heap.objs.size ≠ e := (ne_of_none eE hd).symm
  refine ⟨σ, _, ?_, q2 _ hd ned⟩
  have nx : ∀ b o, H2 b = some o → (∀ φ, o ≠ .ext φ) → b ≠ e := fun b o z n w => by rw [w, eE] at z; exact n _ (Option.some.inj z).symm
  have up : ∀ b o, H2 b = some o → b ≠ e → upd (upd H2 s2.heap.objs.size (.xd [(f, y)])) e (XE C (some s2.heap.objs.size) e) b = some o := fun b o z n => by rw [upd_ne n, upd_ne (ne_of_none z hd)]; exact z
  refine I2.un (t' := tk') ⟨fun b ob z n _ _ => kp b ob (fun w => by rw [w, eE] at n; cases n) z, fun b ob z n _ _ => ⟨ob.slots, kp b ob (fun w => by rw [w, eE] at n; cases n) z⟩, fun b ob z n _ => ?_, fun b ob z _ => ?_, fun b xs z => up b _ z (nx b _ z fun _ w => nomatch w), fun b ob xs z => up b _ z (nx b _ z fun _ w => nomatch w), fun b ps z => ⟨#[], ?_⟩⟩ fun b ob z => ?_
  · rw [upd_ne (fun w => by rw [w, eE] at n; cases n), upd_ne (Nat.ne_of_lt (Heap.lt_size z))]; exact n
  · by_cases w : b = e
    · rw [w]; exact ⟨_, e'⟩
    · exact ⟨ob, kp b ob w z⟩
  · rw [up b _ z (nx b _ z fun _ w => nomatch w)]; simp
  · by_cases w : b = e
    · subst w
      rw [upd_same] at z
      cases z
      exact XeP.ok ⟨ws, sl, t0, e', w2, w3, w4, w5⟩
    · rw [upd_ne w] at z
      by_cases w' : b = s2.heap.objs.size
      · subst w'
        rw [upd_same] at z
        cases z
        refine ⟨_, ns, fun g => ?_⟩
        by_cases hgf : g = f
        · subst hgf
          rw [if_pos rfl, show ([(g, y)] : List (Str × V)).lookup g = some y by simp]
          exact ry
        · rw [if_neg hgf, show ([(f, y)] : List (Str × V)).lookup g = none by simp [List.lookup, beq_eq_false_iff_ne.mpr hgf]]
          exact True.intro
      · rw [upd_ne w'] at z
        refine (I2.hok b ob z).stay (fun c v hc k => kp c v (fun m => ?_) k) (fun c k => up c _ k (nx c _ k fun _ w => nomatch w)) fun c xs k => up c _ k (nx c _ k fun _ w => nomatch w)
        rcases hc with rfl | hc
        · exact w m
        · exact nx c _ hc (fun _ w => nomatch w) m
section
variable {P : Program} {w : World} {K : PySem.W.Frag} {mg : Str → Option Value} {base : Heap}
end
end L2

end

section
set_option autoImplicit false
set_option maxRecDepth 100000
set_option linter.all false
namespace PySem.W
open PySem PySem.Spec PySem.Calls PyProof.Rows
structure CatchOf (K : Frag) (W : Addr) : Prop where
  tup : instIn K (.ref W) (.type "tuple") = some false
  be : mroIn K W (.type "BaseException") = some true
  cl : (clsIn K W).isSome = true
theorem isTy_of {K : Frag} {M : Model} {h : Heap} {W : Addr} (X : K.In h) (e : (clsIn K W).isSome = true) : Looks M h (isType (.ref W)) true := by
  unfold clsIn at e
  split at e
  · rename_i c' d' cd' sl' ho
    intro A' Q' E' s' kk q
    unfold isType loadHead
    exact wpAny_bind (wpAny_loadPart (kk _ _ (X _ _ ho)) (wpAny_pure q))
  · cases e
theorem x_match {K : Frag} {M : Model} {A : Around} {E : Value → Shared → Prop} {s : Shared} {W C e : Addr} {oe : Obj} {Q : Bool → Shared → Prop} (X : K.In s.heap) (c : CatchOf K W) (he : s.heap.get? e = some oe) (hc : oe.cls = .ref C) (hm : mroIn K C (.ref W) = some true) (q : Q true s) :
    wpAny M A (excMatches (.ref e) (.ref W)) Q E s := by
  have L1 := looks_instIn (M := M) X c.tup
  have L2 := isTy_of (M := M) X c.cl
  have L3 := looks_mroIn (M := M) X c.be
  have L4 : Looks M s.heap (typeOf (.ref e)) (.ref C) := hc ▸ (Looks.ld he).andThen .now
  have L5 := looks_mroIn (M := M) X hm
  obtain ⟨hh, g, d, t, os⟩ := s
  unfold excMatches
  repeat lk
  exact q
end PySem.W
namespace L2
open PySem PySem.Spec PyProof.Rows EoD Eo
abbrev hcx (X : Cx) (e : Addr) (oe : Obj) : Cx := { X with A := X.A.mark (some (.ref e)), calm := false, pn := (e, oe) :: X.pn, xe := fun _ _ => False }
section
variable {X : Cx} {pins : List (Addr × Obj)} {σ : St} {H : Hp} {s : Shared}
theorem Inv.hcx {e C : Addr} {oe : Obj} {vs : Array Value} (I : Inv X pins σ H s) (fp : FpOk X pins H e) (ge : s.heap.get? e = some oe) (hc : oe.cls = .ref C) (hd : oe.data = .fields vs) (h2 : vs[2]? = some Value.none) : Inv (hcx X e oe) pins σ H s := by
  refine ⟨⟨I.ok.mod, I.ok.kind, I.ok.glob, I.ok.blt, I.ok.above, I.ok.inj, I.ok.has, I.ok.cab, (fun z => absurd z Bool.false_ne_true), I.ok.frames, I.ok.stk, I.ok.exf, I.ok.bs, I.ok.bsz, I.ok.noex, I.ok.exfs, I.ok.funs, I.ok.frf, .inr ⟨e, C, oe, vs, rfl, hc, hd, h2, .inl List.mem_cons_self⟩⟩,
    I.os, I.bare, I.base, I.loc, I.cell, I.free, I.freeC, fun p hp => ?_, I.hok, I.len⟩
  rcases List.mem_cons.mp (show p ∈ (e, oe) :: (X.pn ++ pins) from hp) with rfl | hp
  · exact ⟨ge, fp.1, fp.2.1, fp.2.2.1, fun v z => by rw [hd] at z; cases z⟩
  · exact I.pin p hp
theorem Inv.unhcx {e : Addr} {oe : Obj} (ok : X.Ok) (I : Inv (L2.hcx X e oe) pins σ H s) : Inv X pins σ H s :=
  ⟨ok, I.os, I.bare, I.base, I.loc, I.cell, I.free, I.freeC, fun p hp => I.pin p (List.mem_cons_of_mem _ hp), I.hok, I.len⟩
/-- the frame's map is another one: nothing is known of the names -/
theorem Inv.forget {h' : Heap} {m' : Str → Option Value} {t' : Nat} (I : Inv X pins σ H s) (hn : h'.Ns X.env.locals m') (hs : Heap.SameBut X.env.locals s.heap h') : Inv X pins (List.replicate σ.length none) H { s with heap := h', toks := t' } := by
  have neL : ∀ b o, X.s₀.heap.get? b = some o → b ≠ X.env.locals := fun b o e => Nat.ne_of_lt (Nat.lt_of_lt_of_le (Heap.lt_size e) I.ok.above)
  refine ⟨I.ok, I.os, I.bare, ⟨fun b o e n hb hx => (hs.2 b (neL b o e)).trans (I.base.keep b o e n hb hx), fun b o e n hb hx => ?_, I.base.free, fun b o e hx => ?_, I.base.tups, I.base.frzs, I.base.tbls⟩, ⟨m', hn, fun i x v _ e2 _ => ?_⟩, fun x c e => ?_, I.free, I.freeC, fun p hp => ?_, fun b o e => ?_, by rw [List.length_replicate]; exact I.len⟩
  · obtain ⟨sl, e1⟩ := I.base.slot b o e n hb hx
    exact ⟨sl, (hs.2 b (neL b o e)).trans e1⟩
  · obtain ⟨o', e1⟩ := I.base.there b o e hx
    exact ⟨o', (hs.2 b (neL b o e)).trans e1⟩
  · rw [List.getElem?_replicate] at e2
    split at e2 <;> cases e2
  · obtain ⟨w', z⟩ := I.cell x c e
    exact ⟨w', z.sameBut hs (I.cne x c e)⟩
  · obtain ⟨e, n, ne, nf, d⟩ := I.pin p hp
    exact ⟨(hs.2 p.1 ne).trans e, n, ne, nf, d⟩
  · refine (I.hok b o e).stay (fun c w' hc q => (hs.2 c ?_).trans q) (fun _ q => q) fun _ _ q => q
    rintro rfl
    rcases hc with rfl | hc
    · rw [I.free] at e; cases e
    · rw [I.free] at hc; cases hc
end
def tTry (K : PySem.W.Frag) (W : Addr) (sp : Sp) (t : TA) (i : Nat) (u : Addr → Obj → TS) : TS := fun D σ H => t σ H fun vs H1 => sp vs H1 (fun _ H2 => D.nx σ H2)
  (fun cls dO H2 => ∃ C, cls = .ref C ∧ PySem.W.mroIn K C (.ref W) = some true ∧ ∀ e oe, H2 e = none → oe.cls = .ref C → oe.dict = dO → u e oe { nx := fun _ _ => False, rt := D.rt } (σ.set i (some (.ref e))) H2)
theorem ps_try {X : Cx} {x wn n : Str} {p cpos epos wp hp pos : Pos} {a : Expr} {as : List Expr} {b₀ : Stmt} {suite : List Stmt} {t : TA} {W : Addr} {k i : Nat} {ps : List Str} {sp : Sp} {u : Addr → Obj → TS}
    (c : CalX X.prog X.w X.K X.mg X.base x k ps sp) (hr : Room k X.A) (hg : Gl X x) (st : X.stack = X.env :: X.outer ∧ X.env.frame = some X.env.locals) (ha : ∀ E', PA (X.wish E') (a :: as) t) (hgW : Gl X wn) (mW : X.mg wn = some (.ref W)) (cW : PySem.W.CatchOf X.K W)
    (hN : X.N.Nodup) (hi : X.N[i]? = some n) (hl : X.env.scope.names.lookup n = some .local) (hs : ∀ e oe vs, oe.data = .fields vs → PSs (hcx X e oe) (b₀ :: suite) (u e oe))
    (hdb : (x == ("__debug__" : Str)) = false := by decide) (hdw : (wn == ("__debug__" : Str)) = false := by decide) (he : starEach (a :: as) X.env = (false, eval a X.env) :: starEach as X.env := by rfl) (hpl : (backTo cpos (starEach as X.env)).any (·.1) = false := by rfl)
    (hsw : swapsWith (.Call (.Name x p) (a :: as) [] cpos) none epos.line X.env = pure false := by rfl) :
    PS X (.Try [.Expr (.Call (.Name x p) (a :: as) [] cpos) epos] [.ExceptHandler (some (.Name wn wp)) (some n) (b₀ :: suite) hp] [] [] pos) (tTry X.K W sp t i u) := by
  obtain ⟨f, fd, F, m, kp, b⟩ := c
  intro pins s σ H D I h
  refine wpAny_Try_except ?_
  let EE : XK := fun cls dO H2 => ∃ C, cls = .ref C ∧ PySem.W.mroIn X.K C (.ref W) = some true ∧ ∀ e oe, H2 e = none → oe.cls = .ref C → oe.dict = dO → u e oe { nx := fun _ _ => False, rt := D.rt } (σ.set i (some (.ref e))) H2
  let W0 : Value → Shared → Prop := fun v s' => ∃ e cls dO H', v = .ref e ∧ Inv X pins σ H' s' ∧ Exc X pins H' s'.heap e cls dO ∧ EE cls dO H'
  have callp : wpAny (model X.prog X.w) X.A (eval (.Call (.Name x p) (a :: as) [] cpos) X.env) (EP X pins σ (fun _ H2 => D.nx σ H2)) W0 s := by
    refine wpAny_Call_Name_kw (ld_glob I hg m ?_ hdb)
    refine PySem.W.callWith_K (h₀ := X.base) I.ok.mod.kin kp (thn (ha W0 cpos pins s σ H _ (I.wish W0) h) fun us s1 ⟨vs, H1, I1, r, q⟩ => ⟨I1.kIn, ?_⟩) he hpl
    have J1 : Inv X pins σ H1 s1 := I1.unwish
    have hlen : (us ++ ([] : List Value)).length = ps.length := by rw [List.append_nil, ← r.length]; exact F.len _ _ _ _ q
    refine wpAny_call (codeAny_mono (F.run X.A X.stack s1 H1 ⟨us, []⟩ us vs _ EE hr J1.env0 (by have z := b s1 us J1.kIn hlen; rwa [List.append_nil] at z) r q) fun r s' hq => ?_)
    cases r with
    | error v =>
      obtain ⟨e, cls, dO, H', rfl, os, bare, un, hok, ⟨l1, n1⟩, ⟨T, hT, x⟩, q⟩ := hq
      exact ⟨e, cls, dO, H', rfl, J1.call' os un hok bare (fun b z => nomatch z), ⟨J1.fpNew l1 n1, T, fun t' e' => J1.fpNew (hT t' e').1 (hT t' e').2, x⟩, q⟩
    | ok fl =>
      cases fl with
      | ret u => exact J1.after hq
      | next => exact False.elim hq
      | brk => exact False.elim hq
      | cont => exact False.elim hq
  have body : wpAny (model X.prog X.w) X.A (execs [.Expr (.Call (.Name x p) (a :: as) [] cpos) epos] X.env) (fun f s1 => f = .next ∧ ∃ H1, Inv X pins σ H1 s1 ∧ D.nx σ H1) W0 s := by
    refine wpAny_execs_cons (wpAny_Expr_any (thn callp fun v s1 ⟨x, H1, I1, r1, q1⟩ => ?_) I.quiet hsw)
    exact wpAny_execs_nil ⟨rfl, H1, I1, q1⟩
  refine wpAny_mono body (fun f s1 ⟨ef, H1, I1, q⟩ => by subst ef; exact wpAny_execs_nil ⟨σ, H1, I1, q⟩) (fun v s1 ⟨e, cls, dO, H', ev, I', xx, C, ec, mro, hu⟩ => ?_)
  subst ev ec
  refine note_ok I' st xx fun s2 t2 I2 ft x2 => flight_ok I2 ft x2 fun s3 I3 x3 => ?_
  obtain ⟨oe, vs, ge, hcls, hdi, hda, h2, h2n, h1, ne, ot, ts, et, dt, z3⟩ := id x3
  have J : Inv (hcx X e oe) pins σ H' s3 := I3.hcx xx.fe ge hcls hda h2n
  have ft' : FpOk (hcx X e oe) pins H' t2 := ⟨ft.1, ft.2.1, ft.2.2.1, ft.2.2.2.1, ft.2.2.2.2.1, fun p hp => by
    rcases List.mem_cons.mp (show p ∈ (e, oe) :: (X.pn ++ pins) from hp) with rfl | hp
    · exact Ne.symm ne
    · exact ft.2.2.2.2.2 p hp⟩
  refine wpAny_handleBy_cons (codeAny_handlers_test (ld_glob (X := hcx X e oe) J hgW mW (PySem.W.x_match J.kIn cW ge hcls mro ?_) hdw)) (by intro q; cases q)
  change codeAny _ _ _ _ _
  refine codeAny_handlers_suite_as (flight_ok (X := hcx X e oe) J ft' x3 fun s4 J4 x4 => store_ok (X := hcx X e oe) (v := .ref e) J4 hN hi (Or.inl hl) rfl (fun s5 J5 => ?_) (.inr hl))
  refine wpAny_mono (hs e oe vs hda pins s5 _ H' _ J5 (hu e oe xx.fe.1 hcls hdi)) (fun f s6 hf => ?_) (fun _ _ z => z.elim)
  cases f with
  | next => obtain ⟨_, _, _, q⟩ := hf; exact q.elim
  | brk => obtain ⟨_, _, _, q⟩ := hf; exact q.elim
  | cont => obtain ⟨_, _, _, q⟩ := hf; exact q.elim
  | ret uu =>
    obtain ⟨v, σ', H6, J6, rv, q⟩ := hf
    obtain ⟨m6, n6, _⟩ := id J6.loc
    refine wpAny_nameGoes hl n6 (by rw [I.ok.kind]; rfl) fun h' m' n' s' => ?_
    exact ⟨v, _, H6, (J6.unhcx I.ok).forget n' s', rv, q⟩
def tXGet (K : PySem.W.Frag) (e : Addr) (oe : Obj) (te : TE) (f : Str) : TE := fun σ H Q => te σ H fun x H1 => ∃ C d fs v, x = .ref e ∧ oe.cls = .ref C ∧ oe.dict = some d ∧ PySem.W.XC K C ∧ NoAttr K C f ∧ H1 d = some (.xd fs) ∧ fs.lookup f = some v ∧ Q v H1
theorem pe_xget {X : Cx} {e : Addr} {oe : Obj} {vs : Array Value} {ex : Expr} {te : TE} {f : Str} {pos : Pos} (hp : (e, oe) ∈ X.pn) (hda : oe.data = .fields vs) (he : PE X ex te) (hb : attributeBase ex f X.env (eval ex X.env) = eval ex X.env) : PE X (.Attribute ex f pos) (tXGet X.K e oe te f) := by
  intro pins s σ H Q I h
  refine attr_of hb (thn (he pins s σ H _ I h) fun u s1 ⟨x, H1, I1, rx, C, d, fs, v, ee, ec, ed, xc, na, hd, l, q⟩ => ?_)
  subst ee
  obtain rfl : u = Value.ref e := rx
  obtain ⟨ge, _⟩ := I1.pin (e, oe) (List.mem_append_left _ hp)
  obtain ⟨mA, ns, r⟩ := (show ObjOk X.prog X.w H1 s1.heap d (.xd fs) from I1.hok d _ hd)
  obtain ⟨od, god, lk⟩ := lookIn_ns ns
  obtain ⟨u, hu, ru⟩ := RelO.some_of (v := v) (o := mA f) (by rw [← l]; exact r f)
  have J : PySem.W.InstAt s1.heap e oe C (some od) := ⟨ge, ec, by unfold PySem.W.notCls; rw [hda], by rw [ed]; exact god⟩
  exact PySem.W.xg_attr xc I1.kIn J (PySem.W.findObj_own xc.hd na rfl (by rw [lk, hu])) (handed_of ru) ⟨v, H1, I1.tok _, ru, q⟩
def rIsX (K : PySem.W.Frag) (e : Addr) (oe : Obj) : List V → Hp → VK → Prop := fun xs H Q => ∃ c C b, xs = [.ref e, c] ∧ (∀ u, RelV c u → PySem.W.kitOne K (.ref C) u = some b) ∧ oe.cls = .ref C ∧ PySem.W.XC K C ∧ (oe.dict = none ∨ ∃ d fs, oe.dict = some d ∧ H d = some (.xd fs)) ∧ Q (.bl b) H
theorem call_isX {X : Cx} {e : Addr} {oe : Obj} {vs : Array Value} (hp : (e, oe) ∈ X.pn) (hda : oe.data = .fields vs) : CallR X (.builtin "isinstance") (rIsX X.K e oe) := by
  intro pins s σ H xs us Q I r ⟨c, C, b, ex, hk, ec, xc, hd, q⟩
  subst ex
  obtain ⟨u, v, rfl, ru, rv⟩ := vals2 r
  obtain rfl : u = Value.ref e := ru
  obtain ⟨ge, _⟩ := I.pin (e, oe) (List.mem_append_left _ hp)
  have nc : PySem.W.notCls oe = true := by unfold PySem.W.notCls; rw [hda]
  rcases hd with hd | ⟨d, fs, hd, hx⟩
  · have J : PySem.W.InstAt s.heap e oe C none := ⟨ge, ec, nc, by rw [hd]; trivial⟩
    exact PySem.W.kia_one (PySem.W.kitx_exc xc) I.kIn J (hk v rv) (fun z => nomatch z) fun tk => ⟨.bl b, H, I.tok tk, rfl, q⟩
  · obtain ⟨mA, ns, _⟩ := (show ObjOk X.prog X.w H s.heap d (.xd fs) from I.hok d _ hx)
    obtain ⟨od, god, _⟩ := lookIn_ns ns
    have J : PySem.W.InstAt s.heap e oe C (some od) := ⟨ge, ec, nc, by rw [hd]; exact god⟩
    exact PySem.W.kia_one (PySem.W.kitx_exc xc) I.kIn J (hk v rv) (fun z => nomatch z) fun tk => ⟨.bl b, H, I.tok tk, rfl, q⟩
abbrev tIsX (K : PySem.W.Frag) (e : Addr) (oe : Obj) (te : TE) (c : V) : TE := tCB (rIsX K e oe) (tCons te (tCons (tC c) tNil))
theorem pe_isX {X : Cx} (B : Bare X.mg) {e : Addr} {oe : Obj} {vs : Array Value} {ex : Expr} {te : TE} {D : Addr} {x : Str} {p1 p2 pos : Pos} (hp : (e, oe) ∈ X.pn) (hda : oe.data = .fields vs) (he : PE X ex te) (hg : Gl X "isinstance") (hx : Gl X x) (hm : X.mg x = some (.ref D)) (hd : (x == ("__debug__" : Str)) = false := by decide)
    (s1 : starEach [ex, .Name x p2] X.env = [(false, eval ex X.env), (false, eval (.Name x p2) X.env)] := by rfl) (s2 : starEach [.Name x p2] X.env = [(false, eval (.Name x p2) X.env)] := by rfl) :
    PE X (.Call (.Name "isinstance" p1) [ex, .Name x p2] [] pos) (tIsX X.K e oe te (.ref D)) :=
  pe_callB (call_isX hp hda) hg B.isin bt_isinstance (pa_cons he (pa_cons (pe_glob hx hm rfl hd) pa_nil s2) (by rw [s1, s2])) (he := by rw [s1, s2]) (hpl := by rw [s2]; rfl)
theorem pe_isXT {X : Cx} (B : Bare X.mg) {e : Addr} {oe : Obj} {vs : Array Value} {ex : Expr} {te : TE} {T : String} {x : Str} {p1 p2 pos : Pos} (hp : (e, oe) ∈ X.pn) (hda : oe.data = .fields vs) (he : PE X ex te) (hg : Gl X "isinstance") (hx : Gl X x) (hm : X.mg x = none) (hv : bootBuiltins x = some (.type T)) (hn : x ≠ "__name__" := by decide) (hd : (x == ("__debug__" : Str)) = false := by decide)
    (s1 : starEach [ex, .Name x p2] X.env = [(false, eval ex X.env), (false, eval (.Name x p2) X.env)] := by rfl) (s2 : starEach [.Name x p2] X.env = [(false, eval (.Name x p2) X.env)] := by rfl) :
    PE X (.Call (.Name "isinstance" p1) [ex, .Name x p2] [] pos) (tIsX X.K e oe te (.ty T)) :=
  pe_callB (call_isX hp hda) hg B.isin bt_isinstance (pa_cons he (pa_cons (pe_bltn hx hm hv rfl hn hd) pa_nil s2) (by rw [s1, s2])) (he := by rw [s1, s2]) (hpl := by rw [s2]; rfl)
theorem mem_hcx {X : Cx} {e : Addr} {oe : Obj} : (e, oe) ∈ (hcx X e oe).pn := List.mem_cons_self
end L2

end

section
set_option autoImplicit false
set_option maxRecDepth 100000
set_option linter.all false
namespace L2
open PySem PySem.Spec PyProof.Rows EoD Eo
def top (i : Nat) : Stmt := PySem.Challenge.pw_eitheror_k07_texts_misread.main.body.getD i (.Pass ⟨0, 0, 0, 0⟩)
abbrev S_btinit : Stmt := inClass (top 6) 0
abbrev S_init : Stmt := inClass (top 10) 0
abbrev S_wishes : Stmt := inClass (top 10) 1
abbrev S_num : Stmt := top 11
abbrev S_word : Stmt := top 12
abbrev S_wish : Stmt := top 13
abbrev S_written : Stmt := top 19
abbrev S_read : Stmt := top 20
abbrev S_wrword : Stmt := top 21
abbrev S_rdword : Stmt := top 22
abbrev S_iscount : Stmt := top 23
abbrev S_iswrw : Stmt := top 24
abbrev S_iswrh : Stmt := top 25
abbrev S_cell : Stmt := top 27
abbrev S_draw : Stmt := top 28
abbrev S_told : Stmt := top 29
abbrev S_lword : Stmt := top 30
abbrev S_lnot : Stmt := top 31
abbrev S_l7ref : Stmt := top 38
abbrev S_ldue : Stmt := top 39
abbrev S_l7right : Stmt := top 40
abbrev S_lother : Stmt := top 41
abbrev S_law : Stmt := top 42
end L2

end

section
set_option autoImplicit false
set_option maxRecDepth 100000
set_option linter.all false
namespace L2
open PySem PySem.Spec PyProof.Rows EoD Eo
section
variable {P : Program} {w : World} {K : PySem.W.Frag} {mg : Str → Option Value} {base : Heap}
inductive X_sp_num  (vs : List V) (H : Hp) (Q : VK) (E : XK) : Prop
  | mk (i : _) (z_1 : vs = [.int i]) (z_2 : Q (.bl true) H)
def sp_num : Sp := fun vs H Q E => X_sp_num  vs H Q E
theorem sc_num : FnScope ["value"] ["value"] (defScope S_num) := ⟨rfl, rfl, rfl, by decide +kernel, rfl, by decide +kernel, by decide +kernel⟩
theorem ok_num (D : Def K mg "is_number" S_num ["value"]) (B : Bare mg) : Cal P w K mg base "is_number" 1 ["value"] sp_num := by
  refine D.cal (k := 0) sc_num (fun vs H Q E h => by obtain ⟨i, rfl, _⟩ := h; rfl) (fun f cdv A outer s H vs Q E hr h => ?_)
  obtain ⟨i, rfl, k⟩ := h
  refine ⟨_, pss_one (ps_ret (pe_and (pe_isin B (pv 0) rfl rfl B.int bt_int) (pe_one (pe_not (pe_isin B (pv 0) rfl rfl B.bool bt_bool))))), ?_⟩
  refine ⟨_, rfl, _, _, _, true, rfl, .int i, rfl, true, rfl, iteT ⟨_, rfl, _, _, _, false, rfl, .int i, rfl, false, rfl, k⟩⟩
inductive X_sp_word  (vs : List V) (H : Hp) (Q : VK) (E : XK) : Prop
  | mk (N : Nat) (v : V) (x : W) (z_1 : vs = [.int N, v]) (z_2 : IsW H v x) (z_3 : InN N x) (z_4 : Q (.bl true) H)
def sp_word : Sp := fun vs H Q E => X_sp_word  vs H Q E
theorem sc_word : FnScope ["names", "value"] ["names", "value"] (defScope S_word) := ⟨rfl, rfl, rfl, by decide +kernel, rfl, by decide +kernel, by decide +kernel⟩
theorem ok_word (D : Def K mg "is_word" S_word ["names", "value"]) (B : Bare mg) (cn : Cal P w K mg base "is_number" 1 ["value"] sp_num) : Cal P w K mg base "is_word" 2 ["names", "value"] sp_word := by
  refine D.cal (k := 1) sc_word (fun vs H Q E h => by obtain ⟨N, v, x, rfl, _⟩ := h; rfl) (fun f cdv A outer s H vs Q E hr h => ?_)
  obtain ⟨N, v, x, rfl, ⟨p, rfl, hp⟩, hx, k⟩ := h
  refine ⟨_, pss_cons (ps_if (PW.pt (pw_or (pt_not (pt_val (pe_isin B (pv 1) rfl rfl B.tup bt_tuple))) (pw_or1 (pt_cmpR op_ne (pe_callB call_len_seq rfl B.len bt_len (pa_cons (pv 1) pa_nil)) pe_int (nomark _))))) (pss_one (ps_ret pe_bl)) pss_nil)
    (pss_one (ps_ret (pe_and (pe_cal cn hr rfl (pa_cons (pe_ix ix_tup (pv 1) pe_int (fun _ _ => rfl)) pa_nil)) (pe_and (pe_chain op_le op_lt pe_int (pe_ix ix_tup (pv 1) pe_int (fun _ _ => rfl)) (pv 0)) (pe_one (pe_isin B (pe_ix ix_tup (pv 1) pe_int (fun _ _ => rfl)) rfl rfl B.bool bt_bool)))))), ?_⟩
  have h0 : atI [V.int x.1, V.bl x.2] 0 = some (V.int x.1) := rfl
  have h1 : atI [V.int x.1, V.bl x.2] 1 = some (V.bl x.2) := rfl
  refine ⟨_, rfl, _, _, _, true, rfl, .tup hp, rfl, true, rfl, iteF ⟨_, rfl, p, _, rfl, .inr (SqT.of hp), rfl, _, rfl, iteNS rfl ?_⟩⟩
  refine ⟨_, rfl, p, _, 0, _, rfl, rfl, SqT.of hp, h0, x.1, rfl, true, rfl, iteT ?_⟩
  refine ⟨_, rfl, p, _, 0, _, rfl, rfl, SqT.of hp, h0, ?_⟩
  refine ⟨_, _, rfl, rfl, _, rfl, iteP hx.1 ⟨_, rfl, _, _, rfl, rfl, _, rfl, iteP hx.2 ?_⟩⟩
  exact ⟨_, rfl, p, _, 1, _, rfl, rfl, SqT.of hp, h1, _, _, _, true, rfl, .bl _, rfl, k⟩
inductive X_sp_wish  (vs : List V) (H : Hp) (Q : VK) (E : XK) : Prop
  | mk (N : Nat) (v : V) (x : W × W) (z_1 : vs = [.int N, v]) (z_2 : IsP H v x) (z_3 : InN N x.1) (z_4 : InN N x.2) (z_5 : Q (.bl true) H)
def sp_wish : Sp := fun vs H Q E => X_sp_wish  vs H Q E
theorem sc_wish : FnScope ["names", "value"] ["names", "value"] (defScope S_wish) := ⟨rfl, rfl, rfl, by decide +kernel, rfl, by decide +kernel, by decide +kernel⟩
theorem ok_wish (D : Def K mg "is_wish" S_wish ["names", "value"]) (B : Bare mg) (cw : Cal P w K mg base "is_word" 2 ["names", "value"] sp_word) : Cal P w K mg base "is_wish" 3 ["names", "value"] sp_wish := by
  refine D.cal (k := 2) sc_wish (fun vs H Q E h => by obtain ⟨N, v, x, rfl, _⟩ := h; rfl) (fun f cdv A outer s H vs Q E hr h => ?_)
  obtain ⟨N, v, x, rfl, ⟨p, a, b, rfl, hp, ha, hb⟩, h1, h2, k⟩ := h
  refine ⟨_, pss_cons (ps_if (PW.pt (pw_or (pt_not (pt_val (pe_isin B (pv 1) rfl rfl B.tup bt_tuple))) (pw_or1 (pt_cmpR op_ne (pe_callB call_len_seq rfl B.len bt_len (pa_cons (pv 1) pa_nil)) pe_int (nomark _))))) (pss_one (ps_ret pe_bl)) pss_nil)
    (pss_one (ps_ret (pe_and (pe_cal cw hr rfl (pa_cons (pv 0) (pa_cons (pe_ix ix_tup (pv 1) pe_int (fun _ _ => rfl)) pa_nil))) (pe_one (pe_cal cw hr rfl (pa_cons (pv 0) (pa_cons (pe_ix ix_tup (pv 1) pe_int (fun _ _ => rfl)) pa_nil))))))), ?_⟩
  have i0 : atI [a, b] 0 = some a := rfl
  have i1 : atI [a, b] 1 = some b := rfl
  refine ⟨_, rfl, _, _, _, true, rfl, .tup hp, rfl, true, rfl, iteF ⟨_, rfl, p, _, rfl, .inr (SqT.of hp), rfl, _, rfl, iteNS rfl ?_⟩⟩
  refine ⟨_, rfl, _, rfl, p, _, 0, _, rfl, rfl, SqT.of hp, i0, N, a, x.1, rfl, ha, h1, true, rfl, iteT ?_⟩
  exact ⟨_, rfl, _, rfl, p, _, 1, _, rfl, rfl, SqT.of hp, i1, N, b, x.2, rfl, hb, h2, k⟩
/-- what the walk asks of the class House -/
structure TxtH (K : PySem.W.Frag) (C : Addr) : Prop where
  cl : Cls K C
  nN : NoAttr K C "names"
  nK : NoAttr K C "kept"
inductive X_sp_opp  (vs : List V) (H : Hp) (Q : VK) (E : XK) : Prop
  | mk (v : V) (x : W) (z_1 : vs = [v]) (z_2 : IsW H v x) (z_3 : ∀ H' v', Same H H' → IsW H' v' (neg x) → Q v' H')
def sp_opp : Sp := fun vs H Q E => X_sp_opp  vs H Q E
end
end L2

end

section
set_option autoImplicit false
set_option maxRecDepth 100000
set_option linter.all false
namespace L2
open PySem PySem.Spec PyProof.Rows EoD Eo
section
variable {P : Program} {w : World} {K : PySem.W.Frag} {mg : Str → Option Value} {base : Heap} {C : Addr}
inductive X_sp_wishes (C : Addr) (vs : List V) (H : Hp) (Q : VK) (E : XK) : Prop
  | mk (h : V) (N : Nat) (ws : List (W × W)) (z_1 : vs = [h]) (z_2 : HouseAt C H h N ws) (z_3 : ∀ l us, H l = none → Ps H us ws → us.length ≤ 24 → Q (.ref l) (upd H l (.lst us)))
def sp_wishes (C : Addr) : Sp := fun vs H Q E => X_sp_wishes C vs H Q E
theorem sc_wishes : FnScope ["self"] ["self"] (defScope S_wishes) := ⟨rfl, rfl, rfl, by decide +kernel, rfl, by decide +kernel, by decide +kernel⟩
theorem ok_wishes {f : Addr} {fd : FuncData} (F : Fun K "wishes" "House.wishes" S_wishes f fd) (B : Bare mg) (T : TxtH K C) : FnOk P w K mg base CX0 1 f fd ["self"] (sp_wishes C) := by
  refine F.ok sc_wishes (fun vs H Q E h => by obtain ⟨_, _, _, rfl, _⟩ := h; rfl) (fun cdv A outer s H vs Q E hr h => ?_)
  obtain ⟨h, N, ws, rfl, ⟨p, dx, q, us, rfl, hp, hq, hu, hn⟩, k⟩ := h
  refine ⟨_, pss_one (ps_ret (pe_callTy call_list_of rfl B.lst bt_list (pa_cons (pe_fld (pv 0) rfl) pa_nil))), ?_⟩
  exact ⟨_, rfl, p, C, dx, _, _, rfl, hp, T.cl, T.nK, flds_kept _ _, q, us, rfl, .inr (SqT.of hq), fun l hl => k l us hl hu hn⟩
/-- the method wishes may be called -/
def CalW (P : Program) (w : World) (K : PySem.W.Frag) (mg : Str → Option Value) (base : Heap) (C : Addr) : Prop := ∃ f fd, FnOk P w K mg base CX0 1 f fd ["self"] (sp_wishes C) ∧ Meth K C "wishes" f ∧ Binds K fd ["self"] []
theorem pe_wishes {X : Cx} {o : Expr} {to : TE} {p1 p2 : Pos} (c : CalW X.prog X.w X.K X.mg X.base C) (T : TxtH X.K C) (hr : Room 1 X.A) (ho : PE X o to) {pl : Sem Bool}
    (ht : eval (.Call (.Attribute o "wishes" p1) [] [] p2) X.env = (do
      let ov ← eval o X.env
      standAt p1.atName
      let (f, first) ← holding [ov] (getMethod ov "wishes" pl)
      callWith p2 f first (backTo p2 (starEach [] X.env)) (backToKw p2 (keywordEach [] X.env))) := by rfl) : PE X (.Call (.Attribute o "wishes" p1) [] [] p2) (tMeth C "wishes" (sp_wishes C) [] E0 to tNil) :=
  let ⟨_, _, F, m, b⟩ := c; pe_meth0 ho T.cl m F hr b .nil pass0 ht
end
end L2

end

section
set_option autoImplicit false
set_option maxRecDepth 100000
set_option linter.all false
namespace L2
open PySem PySem.Spec PyProof.Rows EoD Eo
section
variable {P : Program} {w : World} {K : PySem.W.Frag} {mg : Str → Option Value} {base : Heap} {C : Addr}
end
end L2

end

section
set_option autoImplicit false
set_option maxRecDepth 100000
set_option linter.all false
namespace L2
open PySem PySem.Spec PyProof.Rows EoD Eo
theorem lst_notup {H : Hp} {a : Addr} {vs : List V} {o : HO} (h : H a = some (.lst vs)) : Tups H (upd H a o) := Tups.upd (by rw [h]; intro _ z; cases z)
section
variable {P : Program} {w : World} {K : PySem.W.Frag} {mg : Str → Option Value} {base : Heap} {C : Addr}
end
end L2

end

section
set_option autoImplicit false
set_option maxRecDepth 100000
set_option linter.all false
namespace L2
open PySem PySem.Spec PyProof.Rows EoD Eo
section
variable {P : Program} {w : World} {K : PySem.W.Frag} {mg : Str → Option Value} {base : Heap} {C : Addr}
end
end L2

end

section
set_option autoImplicit false
set_option maxRecDepth 100000
set_option linter.all false
namespace L2
open PySem PySem.Spec PyProof.Rows EoD Eo
def AllFree (X : Cx) : List (Str × NameKind) → Prop
  | [] => True
  | x :: r => (x.2 = .free → X.env.kindOf x.1 = some .cell) ∧ AllFree X r
theorem AllFree.all {X : Cx} : ∀ {l : List (Str × NameKind)}, AllFree X l → ∀ y ∈ l, y.2 = .free → X.env.kindOf y.1 = some .cell
  | [], _, y, hy => by simp at hy
  | x :: r, h, y, hy => by
    rcases List.mem_cons.mp hy with e | hy
    · subst e; exact h.1
    · exact AllFree.all h.2 y hy
theorem comp_list {K : PySem.W.Frag} {a D : Addr} {xs : List V} {js : List Nat} {tc : TT} {te : TE} {σ : St} {H : Hp} {Qd : Hp → Prop} (Pv : Nat → List V → Hp → Prop) (h0 : Pv 0 [] (upd H D (.lst []))) (hl : ∀ i acc H, i ≤ xs.length → Pv i acc H → SqL K H a xs ∧ H D = some (.lst acc) ∧ acc.length < sizeLine)
    (hs : ∀ i x acc H (R : List V → Hp → Prop), xs[i]? = some x → Pv i acc H → (∀ acc' H', Pv (i + 1) acc' H' → R acc' H') → tc (some x :: look σ js) H fun b H4 => if b = true then te (some x :: look σ js) H4 fun v H5 => H5 D = some (.lst acc) ∧ R (acc ++ [v]) (upd H5 D (.lst (acc ++ [v]))) else R acc H4)
    (hd : ∀ acc H, Pv xs.length acc H → Qd H) :
    ∃ W : Nat → Nat → List V → Hp → Prop, (∃ m, W 0 m [] (upd H D (.lst []))) ∧ ∀ i m acc H2, W i m acc H2 → H2 D = some (.lst acc) ∧ acc.length < sizeLine ∧ (((Itl K a).stop i H2 ∧ Qd H2) ∨
      ((Itl K a).go i H2 ∧ ∀ x H3, (Itl K a).yld i H2 x H3 → tc (some x :: look σ js) H3 fun b H4 => if b = true then te (some x :: look σ js) H4 fun v H5 => H5 D = some (.lst acc) ∧ ∃ m', m' < m ∧ W (i + 1) m' (acc ++ [v]) (upd H5 D (.lst (acc ++ [v])))
        else ∃ m', m' < m ∧ W (i + 1) m' acc H4)) := by
  refine ⟨fun i m acc H => m = xs.length - i ∧ i ≤ xs.length ∧ Pv i acc H, ⟨xs.length, by simp, Nat.zero_le _, h0⟩, ?_⟩
  rintro i m acc H2 ⟨rfl, hi, p⟩
  obtain ⟨q, eD, sz⟩ := hl i acc H2 hi p
  refine ⟨eD, sz, ?_⟩
  by_cases hlt : i < xs.length
  · refine .inr ⟨⟨xs, xs[i], q, by simp [hlt]⟩, fun x H3 y => ?_⟩
    obtain ⟨e, y⟩ := y
    subst e
    exact hs i x acc _ (fun acc' H' => ∃ m', m' < xs.length - i ∧ m' = xs.length - (i + 1) ∧ i + 1 ≤ xs.length ∧ Pv (i + 1) acc' H') (y xs q) p fun acc' H' p' => ⟨_, by omega, rfl, hlt, p'⟩
  · have e : i = xs.length := by omega
    subst e
    exact .inl ⟨⟨xs, q, Nat.le_refl _⟩, hd acc H2 p⟩
theorem comp_range {lo : Int} {n : Nat} {D : Addr} {js : List Nat} {tc : TT} {te : TE} {σ : St} {H : Hp} {Qd : Hp → Prop} (Pv : Nat → List V → Hp → Prop) (h0 : Pv 0 [] (upd H D (.lst []))) (hl : ∀ i acc H, i ≤ n → Pv i acc H → H D = some (.lst acc) ∧ acc.length < sizeLine)
    (hs : ∀ i acc H (R : List V → Hp → Prop), i < n → Pv i acc H → (∀ acc' H', Pv (i + 1) acc' H' → R acc' H') → tc (some (.int (lo + i)) :: look σ js) H fun b H4 => if b = true then te (some (.int (lo + i)) :: look σ js) H4 fun v H5 => H5 D = some (.lst acc) ∧ R (acc ++ [v]) (upd H5 D (.lst (acc ++ [v]))) else R acc H4)
    (hd : ∀ acc H, Pv n acc H → Qd H) :
    ∃ W : Nat → Nat → List V → Hp → Prop, (∃ m, W 0 m [] (upd H D (.lst []))) ∧ ∀ i m acc H2, W i m acc H2 → H2 D = some (.lst acc) ∧ acc.length < sizeLine ∧ (((Itr lo n).stop i H2 ∧ Qd H2) ∨
      ((Itr lo n).go i H2 ∧ ∀ x H3, (Itr lo n).yld i H2 x H3 → tc (some x :: look σ js) H3 fun b H4 => if b = true then te (some x :: look σ js) H4 fun v H5 => H5 D = some (.lst acc) ∧ ∃ m', m' < m ∧ W (i + 1) m' (acc ++ [v]) (upd H5 D (.lst (acc ++ [v])))
        else ∃ m', m' < m ∧ W (i + 1) m' acc H4)) := by
  refine ⟨fun i m acc H => m = n - i ∧ i ≤ n ∧ Pv i acc H, ⟨n, by simp, Nat.zero_le _, h0⟩, ?_⟩
  rintro i m acc H2 ⟨rfl, hi, p⟩
  obtain ⟨eD, sz⟩ := hl i acc H2 hi p
  refine ⟨eD, sz, ?_⟩
  by_cases hlt : i < n
  · refine .inr ⟨hlt, fun x H3 y => ?_⟩
    obtain ⟨e, y⟩ := y
    subst e; subst y
    exact hs i acc _ (fun acc' H' => ∃ m', m' < n - i ∧ m' = n - (i + 1) ∧ i + 1 ≤ n ∧ Pv (i + 1) acc' H') hlt p fun acc' H' p' => ⟨_, by omega, rfl, hlt, p'⟩
  · have e : i = n := by omega
    subst e
    exact .inl ⟨Nat.le_refl _, hd acc H2 p⟩

section
variable {P : Program} {w : World} {K : PySem.W.Frag} {mg : Str → Option Value} {base : Heap} {C : Addr}
end
end L2

end

section
set_option autoImplicit false
set_option maxRecDepth 100000
set_option linter.all false
namespace L2
open PySem PySem.Spec PyProof.Rows EoD Eo
theorem all_rep (n : Nat) : (List.replicate n true).all id = true := by
  induction n with
  | zero => rfl
  | succ n ih => rw [List.replicate_succ, List.all_cons, ih]; rfl
section
variable {P : Program} {w : World} {K : PySem.W.Frag} {mg : Str → Option Value} {base : Heap} {C : Addr}
inductive X_sp_init (C : Addr) (vs : List V) (H : Hp) (Q : VK) (E : XK) : Prop
  | mk (p dx l : Addr) (N : Nat) (us : List V) (ws : List (W × W)) (z_1 : vs = [.ref p, .int N, .ref l]) (z_2 : H p = some (.ins C dx [])) (z_3 : GoodH N ws) (z_4 : H l = some (.lst us)) (z_5 : Ps H us ws) (z_6 : ∀ H', HouseAt C H' (.ref p) N ws → (∀ b o, H b = some o → b ≠ p → H' b = some o) → Q .non H')
def sp_init (C : Addr) : Sp := fun vs H Q E => X_sp_init C vs H Q E
theorem sc_init : FnScope ["self", "names", "wishes"] ["self", "names", "wishes"] (defScope S_init) := ⟨rfl, rfl, rfl, by decide +kernel, rfl, by decide +kernel, by decide +kernel⟩
theorem ok_init {f : Addr} {fd : FuncData} (F : Fun K "__init__" "House.__init__" S_init f fd) (B : Bare mg) (T : TxtH K C) (m8 : ∃ t, mg "MOST_NAMES" = some (.int 8 t)) (m24 : ∃ t, mg "MOST_WISHES" = some (.int 24 t)) (cn : Cal P w K mg base "is_number" 1 ["value"] sp_num) (cw : Cal P w K mg base "is_wish" 3 ["names", "value"] sp_wish) :
    FnOk P w K mg base CX0 4 f fd ["self", "names", "wishes"] (sp_init C) := by
  refine F.ok sc_init (fun vs H Q E h => by obtain ⟨_, _, _, _, _, _, rfl, _⟩ := h; rfl) (fun cdv A outer s H vs Q E hr h => ?_)
  obtain ⟨p, dx, l, N, us, ws, rfl, hp, gh, el, pu, k⟩ := h
  obtain ⟨t8, m8⟩ := m8
  obtain ⟨t24, m24⟩ := m24
  have hr1 : Room 1 _ := hr.mono (by decide)
  refine ⟨_, pss_cons (ps_if (PW.pt (pw_or (pt_not (pt_val (pe_cal cn hr1 rfl (pa_cons (pv 1) pa_nil)))) (pw_or1 (pt_not (pt_chain op_le op_le pe_int (pv 1) (pe_glob (v := .int 8) rfl m8 ⟨_, rfl⟩)))))) pss_never pss_nil)
    (pss_cons (ps_if (PW.pt (pw_or (pt_not (pt_val (pe_isin B (pv 2) rfl rfl B.lst bt_list))) (pw_or1 (pt_cmpR op_gt (pe_callB call_len_seq rfl B.len bt_len (pa_cons (pv 2) pa_nil)) (pe_glob (v := .int 24) rfl m24 ⟨_, rfl⟩) (nomark _))))) pss_never pss_nil)
    (pss_cons (ps_if (pt_not (pt_val (pe_callB (call_allB rfl) rfl B.all bt_all (pa_cons (pe_comp (tc := tYes) (te := tCall sp_wish [] E0 (tCons (tVar 1) (tCons (tVar 0) tNil))) rfl ⟨rfl, by decide +kernel, rfl, by decide +kernel, AllFree.all ⟨(fun e => nomatch e), (fun e => nomatch e), (fun e => nomatch e), fun _ => rfl, trivial⟩⟩
        (ys := ["names"]) (js := [1]) ⟨rfl, rfl, rfl, trivial⟩ (by decide +kernel) (pi_list (pv 2)) (fun _ _ _ _ _ => pifs_nil) (fun _ _ _ _ _ => pe_cal cw hr rfl (pa_cons (pv 1) (pa_cons (pv 0) pa_nil)))) pa_nil)))) pss_never pss_nil)
    (pss_cons (ps_fld (pv 0) (pv 1) rfl) (pss_one (ps_fld (pv 0) (pe_callTy call_tuple_of rfl B.tup bt_tuple (pa_cons (pv 2) pa_nil)) rfl))))), ?_⟩
  have N1 := gh.lo
  have N8 := gh.hi
  have lw : us.length ≤ 24 := by rw [Paired.length pu]; exact gh.len
  refine ⟨_, rfl, N, rfl, true, rfl, iteF ⟨_, rfl, _, _, rfl, rfl, _, rfl, iteP (by omega) ⟨_, _, rfl, rfl, _, rfl, iteNS (by omega) ?_⟩⟩⟩
  refine ⟨_, rfl, _, _, _, true, rfl, .lst el, rfl, true, rfl, iteF ⟨_, rfl, l, us, rfl, .inl (SqL.of el), _, _, rfl, rfl, _, rfl, iteN (by omega) ?_⟩⟩
  refine ⟨_, rfl, l, rfl, ⟨_, SqL.of el⟩, fun Dd hD => ?_⟩
  have s1 : ∀ {acc : List V}, Same H (upd H Dd (.lst acc)) := Same.laid hD
  refine comp_list (K := K) (a := l) (xs := us) (js := [1]) (tc := tYes) (te := tCall sp_wish [] E0 (tCons (tVar 1) (tCons (tVar 0) tNil))) (σ := start ["self", "names", "wishes"] [.ref p, .int N, .ref l]) (fun j acc H6 => H6 = upd H Dd (.lst acc) ∧ acc = (List.replicate j true).map V.bl) ⟨rfl, rfl⟩ ?_ ?_ ?_
  · rintro j acc H6 hj ⟨rfl, ea⟩
    refine ⟨SqL.of (s1 _ _ el), upd_same, ?_⟩
    rw [ea, List.length_map, List.length_replicate, sizeLine_eq]
    omega
  · rintro j x' acc H6 R' hj ⟨rfl, ea⟩ hR
    obtain ⟨pr, hpr, isx⟩ := paired_get pu hj
    have g := gh.good pr (List.mem_of_getElem? hpr)
    simp only [tYes, if_true]
    refine ⟨_, rfl, _, rfl, N, x', pr, rfl, isx.same s1, g.1, g.2, upd_same, hR _ _ ⟨upd_upd, ?_⟩⟩
    rw [ea, List.replicate_succ']
    simp
  · rintro acc H6 ⟨rfl, ea⟩
    refine ⟨Dd, List.replicate us.length true, rfl, SqL.of (by rw [← ea]; exact upd_same), _, rfl, ?_⟩
    rw [all_rep]
    refine iteF ?_
    have pD : p ≠ Dd := ne_of_none hp hD
    have lD : l ≠ Dd := ne_of_none el hD
    have lp : l ≠ p := ne_of el hp (by intro z; cases z)
    refine ⟨_, rfl, _, rfl, p, C, dx, [], rfl, s1 _ _ hp, T.cl, T.nN, (by show 0 < 1000; decide), ?_⟩
    refine ⟨_, rfl, l, us, rfl, .inl ⟨SqL.of (by rw [upd_ne lp, upd_ne lD]; exact el), fun q hq => ?_⟩⟩
    have pq : p ≠ q := fun z => by rw [← z, upd_same] at hq; cases hq
    refine ⟨_, rfl, p, C, dx, _, rfl, by rw [upd_ne pq]; exact upd_same, T.cl, T.nK, (by show 1 < 1000; decide), ?_⟩
    have keep : ∀ b o, H b = some o → b ≠ p → (upd (upd (upd (upd H Dd (.lst acc)) p (.ins C dx (putF "names" (.int N) []))) q (.tup us)) p (.ins C dx (putF "kept" (.ref q) (putF "names" (.int N) [])))) b = some o := fun b o e hb => by
      have bq : b ≠ q := fun z => by
        rw [← z, upd_ne hb, s1 _ _ e] at hq
        cases hq
      rw [upd_ne hb, upd_ne bq, upd_ne hb]
      exact s1 _ _ e
    have tp : Tups H (upd (upd (upd (upd H Dd (.lst acc)) p (.ins C dx (putF "names" (.int N) []))) q (.tup us)) p (.ins C dx (putF "kept" (.ref q) (putF "names" (.int N) [])))) := fun b xs e => keep b _ e (ne_of e hp (by intro z; cases z))
    exact k _ ⟨p, dx, q, us, rfl, upd_same, by rw [upd_ne pq.symm]; exact upd_same, pu.tups tp, lw⟩ keep
end
end L2

end

section
set_option autoImplicit false
set_option maxRecDepth 100000
set_option linter.all false
namespace L2
open PySem PySem.Spec PyProof.Rows EoD Eo
theorem atI_in {xs : List V} {i : Int} (h0 : 0 ≤ i) (h1 : i < xs.length) : ∃ v, atI xs i = some v ∧ v ∈ xs := by
  obtain ⟨j, rfl⟩ := Int.eq_ofNat_of_zero_le h0
  have hj : j < xs.length := by omega
  exact ⟨xs[j], atI_nat (List.getElem?_eq_getElem hj), List.getElem_mem hj⟩
theorem cmulR {i j : Int} (h1 : -(2 ^ 64) < j) (h2 : j < 2 ^ 64) : CMul i j := .inr ⟨h1, h2⟩
section
variable {P : Program} {w : World} {K : PySem.W.Frag} {mg : Str → Option Value} {base : Heap} {C : Addr}
inductive X_sp_cell (K : PySem.W.Frag) (vs : List V) (H : Hp) (Q : VK) (E : XK) : Prop
  | mk (a : Addr) (ns : List Int) (k : Int) (z_1 : vs = [.ref a, .int k]) (z_2 : SqL K H a (ns.map V.int)) (z_3 : 0 ≤ k) (z_4 : ∀ i, Q (.int i) H)
def sp_cell (K : PySem.W.Frag) : Sp := fun vs H Q E => X_sp_cell K vs H Q E
theorem sc_cell : FnScope ["_law_script", "_law_k"] ["_law_script", "_law_k"] (defScope S_cell) := ⟨rfl, rfl, rfl, by decide +kernel, rfl, by decide +kernel, by decide +kernel⟩
theorem ok_cell (D : Def K mg "_law_cell_at" S_cell ["_law_script", "_law_k"]) (B : Bare mg) : Cal P w K mg base "_law_cell_at" 1 ["_law_script", "_law_k"] (sp_cell K) := by
  refine D.cal (k := 0) sc_cell (fun vs H Q E h => by obtain ⟨_, _, _, rfl, _⟩ := h; rfl) (fun f cdv A outer s H vs Q E hr h => ?_)
  obtain ⟨a, ns, k, rfl, hq, hk, q⟩ := h
  refine ⟨_, pss_cons (ps_if (pt_cmpR op_lt (pv 1) (pe_callB call_len_seq rfl B.len bt_len (pa_cons (pv 0) pa_nil)) (nomark _)) (pss_one (ps_ret (pe_ix ix_list (pv 0) (pv 1) (fun _ _ => rfl)))) pss_nil) (pss_one (ps_ret pe_int)), ?_⟩
  refine ⟨_, rfl, _, rfl, a, _, rfl, .inl hq, _, _, rfl, rfl, _, rfl, iteD (fun h => ?_) (fun h => q 0)⟩
  obtain ⟨v, e, hm⟩ := atI_in (xs := ns.map V.int) hk h
  obtain ⟨n, _, rfl⟩ := List.mem_map.mp hm
  exact ⟨_, rfl, _, rfl, a, _, k, _, rfl, rfl, hq, e, q n⟩
inductive X_sp_draw  (vs : List V) (H : Hp) (Q : VK) (E : XK) : Prop
  | mk (c k m : Int) (z_1 : vs = [.int c, .int k, .int m]) (z_2 : 0 < m) (z_3 : ∀ H' r, Same H H' → 0 ≤ r → r < m → Q (.int r) H')
def sp_draw : Sp := fun vs H Q E => X_sp_draw  vs H Q E
theorem sc_draw : FnScope ["_law_cell", "_law_k", "_law_many", "_law_primes", "_law_blend"] ["_law_cell", "_law_k", "_law_many"] (defScope S_draw) := ⟨rfl, rfl, rfl, by decide +kernel, rfl, by decide +kernel, by decide +kernel⟩

set_option maxHeartbeats 4000000 in
theorem ok_draw (D : Def K mg "_law_draw" S_draw ["_law_cell", "_law_k", "_law_many"]) : Cal P w K mg base "_law_draw" 1 ["_law_cell", "_law_k", "_law_many"] sp_draw := by
  refine D.cal (k := 0) sc_draw (fun vs H Q E h => by obtain ⟨_, _, _, rfl, _⟩ := h; rfl) (fun f cdv A outer s H vs Q E hr h => ?_)
  obtain ⟨c, k, m, rfl, hm, q⟩ := h
  refine ⟨_, pss_cons (ps_set (i := 3) sc_draw.nd rfl (Or.inl rfl) (pe_tup (pa_cons pe_int (pa_cons pe_int (pa_cons pe_int (pa_cons pe_int (pa_cons pe_int (pa_cons pe_int (pa_cons pe_int (pa_cons pe_int pa_nil))))))))))
    (pss_cons (ps_set (i := 4) sc_draw.nd rfl (Or.inl rfl) (pe_op op_add (pe_op op_add (pe_op op_mul (pv 0) pe_int) (pe_op op_mul (pv 1) pe_int)) (pe_op op_mul (pe_op op_mod (pe_op op_fdiv (pv 0) pe_int) pe_int) pe_int)))
    (pss_one (ps_ret (pe_op op_mod (pe_op op_mod (pv 4) (pe_ix ix_tup (pv 3) (pe_op op_mod (pv 1) pe_int) (fun _ _ => rfl))) (pv 2))))), ?_⟩
  refine ⟨(by show 8 ≤ sizeLine; decide), fun p hp => ?_⟩
  refine ⟨_, rfl, _, _, rfl, rfl, cmulR (by decide) (by decide), _, rfl, _, _, rfl, rfl, cmulR (by decide) (by decide), _, _, rfl, rfl, ?_⟩
  refine ⟨_, rfl, _, _, rfl, rfl, ⟨by decide, by decide⟩, _, _, rfl, rfl, (show (0 : Int) < 1000003 by decide), _, _, rfl, rfl, cmulR (by decide) (by decide), _, _, rfl, rfl, ?_⟩
  have h0 : 0 ≤ k % 8 := Int.emod_nonneg _ (by decide)
  have h8 : k % 8 < 8 := Int.emod_lt_of_pos _ (by decide)
  obtain ⟨v, e, hv⟩ := atI_in (xs := [V.int 1000003, .int 1000033, .int 1000037, .int 1000039, .int 1000081, .int 1000099, .int 1000117, .int 1000121]) h0 h8
  have pv' : ∃ n : Int, v = .int n ∧ 0 < n := by
    simp only [List.mem_cons, List.not_mem_nil, or_false] at hv
    rcases hv with rfl | rfl | rfl | rfl | rfl | rfl | rfl | rfl <;> exact ⟨_, rfl, by decide⟩
  obtain ⟨n, rfl, hn⟩ := pv'
  refine ⟨_, rfl, _, rfl, _, rfl, _, _, rfl, rfl, (show (0 : Int) < 8 by decide), p, _, _, _, rfl, rfl, SqT.of upd_same, e, _, _, rfl, rfl, hn, _, rfl, _, _, rfl, rfl, hm, ?_⟩
  exact q _ _ (Same.laid hp) (Int.emod_nonneg _ (by omega)) (Int.emod_lt_of_pos _ hm)
inductive X_sp_lword  (vs : List V) (H : Hp) (Q : VK) (E : XK) : Prop
  | mk (c : Int) (N : Nat) (z_1 : vs = [.int c, .int N]) (z_2 : 1 ≤ N) (z_3 : ∀ H' v x, Same H H' → IsW H' v x → InN N x → Q v H')
def sp_lword : Sp := fun vs H Q E => X_sp_lword  vs H Q E
theorem sc_lword : FnScope ["_law_cell", "_law_names"] ["_law_cell", "_law_names"] (defScope S_lword) := ⟨rfl, rfl, rfl, by decide +kernel, rfl, by decide +kernel, by decide +kernel⟩
theorem ok_lword (D : Def K mg "_law_word" S_lword ["_law_cell", "_law_names"]) (cd : Cal P w K mg base "_law_draw" 1 ["_law_cell", "_law_k", "_law_many"] sp_draw) : Cal P w K mg base "_law_word" 2 ["_law_cell", "_law_names"] sp_lword := by
  refine D.cal (k := 1) sc_lword (fun vs H Q E h => by obtain ⟨_, _, rfl, _⟩ := h; rfl) (fun f cdv A outer s H vs Q E hr h => ?_)
  obtain ⟨c, N, rfl, hN, q⟩ := h
  refine ⟨_, pss_one (ps_ret (pe_tup (pa_cons (pe_cal cd hr rfl (pa_cons (pv 0) (pa_cons pe_int (pa_cons (pv 1) pa_nil)))) (pa_cons (pe_cmpR op_eq (pe_cal cd hr rfl (pa_cons (pv 0) (pa_cons pe_int (pa_cons pe_int pa_nil)))) pe_int (nomark _)) pa_nil)))), ?_⟩
  refine ⟨_, rfl, _, rfl, c, 1, N, rfl, by omega, fun H1 r1 s1 a1 a2 => ⟨_, rfl, c, 2, 2, rfl, by decide, fun H2 r2 s2 b1 b2 => ?_⟩⟩
  refine ⟨rfl, (by show 2 ≤ sizeLine; decide), fun p hp => ?_⟩
  exact q _ _ (r1, decide (V.int r2 = V.int 1)) ((s1.trans s2).laidT hp) ⟨p, rfl, upd_same⟩ ⟨a1, a2⟩
theorem sc_lnot : FnScope ["_law_word_here"] ["_law_word_here"] (defScope S_lnot) := ⟨rfl, rfl, rfl, by decide +kernel, rfl, by decide +kernel, by decide +kernel⟩
theorem ok_lnot (D : Def K mg "_law_not" S_lnot ["_law_word_here"]) : Cal P w K mg base "_law_not" 1 ["_law_word_here"] sp_opp := by
  refine D.cal (k := 0) sc_lnot (fun vs H Q E h => by obtain ⟨_, _, rfl, _⟩ := h; rfl) (fun f cdv A outer s H vs Q E hr h => ?_)
  obtain ⟨v, x, rfl, ⟨p, rfl, hp⟩, k⟩ := h
  refine ⟨_, pss_one (ps_ret (pe_tup (pa_cons (pe_ix ix_tup (pv 0) pe_int (fun _ _ => rfl)) (pa_cons (pe_not (pe_ix ix_tup (pv 0) pe_int (fun _ _ => rfl))) pa_nil)))), ?_⟩
  have i0 : atI [V.int x.1, V.bl x.2] 0 = some (V.int x.1) := rfl
  have i1 : atI [V.int x.1, V.bl x.2] 1 = some (V.bl x.2) := rfl
  refine ⟨_, rfl, p, _, 0, _, rfl, rfl, SqT.of hp, i0, _, rfl, p, _, 1, _, rfl, rfl, SqT.of hp, i1, _, rfl, (by show 2 ≤ sizeLine; decide), fun q hq => ?_⟩
  exact k _ _ (Same.laid hq) ⟨q, rfl, upd_same⟩
end
end L2

end

section
set_option autoImplicit false
set_option maxRecDepth 100000
set_option linter.all false
namespace L2
open PySem PySem.Spec PyProof.Rows EoD Eo
/-- a house, told plainly -/
def ToldAt (H : Hp) (v : V) (N : Nat) (ws : List (W × W)) : Prop := ∃ (p l : Addr) (us : List V), v = .ref p ∧ H p = some (.tup [.int N, .ref l]) ∧ H l = some (.lst us) ∧ Ps H us ws
theorem ps_last {H : Hp} {us : List V} {ws : List (W × W)} (h : Ps H us ws) (n : us ≠ []) : ∃ u pr, atI us (-1) = some u ∧ IsP H u pr ∧ pr ∈ ws := by
  have g : us[us.length - 1]? = some (us.getLast n) := by
    rw [List.getElem?_eq_getElem (by have := List.length_pos_iff.mpr n; omega), List.getLast_eq_getElem]
  obtain ⟨pr, h1, h2⟩ := paired_get h g
  have z := atI_last us.dropLast (us.getLast n)
  rw [List.dropLast_concat_getLast] at z
  exact ⟨us.getLast n, pr, z, h2, List.mem_of_getElem? h1⟩
section
variable {P : Program} {w : World} {K : PySem.W.Frag} {mg : Str → Option Value} {base : Heap} {C : Addr}
theorem told_app {D : Ends} {σ : St} {H : Hp} {l : Addr} {vo vt : V} {us : List V} (e6 : σ[6]? = some (some (.ref l))) (e8 : σ[8]? = some (some vo)) (e9 : σ[9]? = some (some vt)) (el : H l = some (.lst us)) (sz : us.length < sizeLine)
    (k : ∀ t, H t = none → D.nx σ (upd (upd H t (.tup [vo, vt])) l (.lst (us ++ [.ref t])))) : tDrop (tBM K "list" rAppend (tVar 6) (tCons (tTup (tCons (tVar 8) (tCons (tVar 9) tNil))) tNil)) D σ H :=
  ⟨_, e6, .inl ⟨rfl, _, SqL.of el⟩, _, e8, _, e9, (by show 2 ≤ sizeLine; decide), fun t ht => ⟨l, us, _, rfl, rfl, by rw [upd_ne (ne_of_none el ht)]; exact el, sz, k t ht⟩⟩
def PvTold (H : Hp) (a l : Addr) (f0 c o m : Int) (N : Nat) (i : Nat) (σ : St) (H4 : Hp) : Prop := ∃ (us : List V) (ws : List (W × W)) (z7 z8 z9 : Option V), σ = [some (.ref a), some (.int f0), some (.int c), some (.int o), some (.int N), some (.int m), some (.ref l), z7, z8, z9] ∧ Same H H4 ∧ H4 l = some (.lst us) ∧ Ps H4 us ws ∧ us.length = i ∧ Good N ws
inductive X_sp_told (K : PySem.W.Frag) (vs : List V) (H : Hp) (Q : VK) (E : XK) : Prop
  | mk (a : Addr) (ns : List Int) (f : Int) (z_1 : vs = [.ref a, .int f]) (z_2 : SqL K H a (ns.map V.int)) (z_3 : 0 ≤ f) (z_4 : ∀ H' v N ws, Same H H' → ToldAt H' v N ws → GoodH N ws → Q v H')
def sp_told (K : PySem.W.Frag) : Sp := fun vs H Q E => X_sp_told K vs H Q E
abbrev N_told : List Str := ["_law_script", "_law_first", "_law_cell", "_law_other_here", "_law_names", "_law_many", "_law_wishes", "_law_k", "_law_one", "_law_two"]
theorem sc_told : FnScope N_told ["_law_script", "_law_first"] (defScope S_told) := ⟨rfl, rfl, rfl, by decide +kernel, rfl, by decide +kernel, by decide +kernel⟩
set_option maxHeartbeats 4000000 in
theorem ok_told (D : Def K mg "_law_told" S_told ["_law_script", "_law_first"]) (B : Bare mg) (cc : Cal P w K mg base "_law_cell_at" 1 ["_law_script", "_law_k"] (sp_cell K)) (cd : Cal P w K mg base "_law_draw" 1 ["_law_cell", "_law_k", "_law_many"] sp_draw)
    (cw : Cal P w K mg base "_law_word" 2 ["_law_cell", "_law_names"] sp_lword) (cn : Cal P w K mg base "_law_not" 1 ["_law_word_here"] sp_opp) : Cal P w K mg base "_law_told" 3 ["_law_script", "_law_first"] (sp_told K) := by
  refine D.cal (k := 2) sc_told (fun vs H Q E h => by obtain ⟨_, _, _, rfl, _⟩ := h; rfl) (fun f cdv A outer s H vs Q E hr h => ?_)
  obtain ⟨a, ns, f0, rfl, hq, hf, k⟩ := h
  have hr1 : Room 1 _ := hr.mono (by decide)
  have T2 : ∃ u, PSs (cxOf CX0 P w K mg base N_told "_law_told" (defScope S_told) f cdv A outer s H E).nox ((defBody S_told).drop 4) u ∧
      ∀ (N : Nat) (H2 : Hp) (c o : Int), 1 ≤ N → N ≤ 8 → Same H H2 → u { nx := fun _ H' => Q .non H', rt := Q } [some (.ref a), some (.int f0), some (.int c), some (.int o), some (.int N), none, none, none, none, none] H2 := by
    refine ⟨_, pss_cons (ps_set (i := 5) sc_told.nd rfl (Or.inl rfl) (pe_cal cd hr1 rfl (pa_cons (pv 3) (pa_cons pe_int (pa_cons (pe_op op_add (pe_op op_mul (pe_ix ix_tup (pe_tup (pa_cons pe_int (pa_cons pe_int (pa_cons pe_int (pa_cons pe_int pa_nil))))) (pe_op op_mod (pe_op op_fdiv (pv 2) pe_int) pe_int) (fun _ _ => rfl)) (pv 4)) pe_int) pa_nil)))))
      (pss_cons (ps_set (i := 6) sc_told.nd rfl (Or.inl rfl) (pe_lst pa_nil))
      (pss_cons (ps_for PassesOwn.never rfl (pi_range1 rfl B.rng (pa_cons (pe_callB (call_min2 rfl) rfl B.min bt_min (pa_cons (pv 5) (pa_cons pe_int pa_nil))) pa_nil)) (pg_name (i := 7) sc_told.nd rfl (Or.inl rfl))
        (pss_cons (ps_set (i := 8) sc_told.nd rfl (Or.inl rfl) (pe_cal cw hr rfl (pa_cons (pe_op op_add (pe_op op_fdiv (pv 3) (pe_op op_add (pv 7) pe_int)) (pe_op op_mul pe_int (pv 7))) (pa_cons (pv 4) pa_nil))))
        (pss_cons (ps_set (i := 9) sc_told.nd rfl (Or.inl rfl) (pe_cal cw hr rfl (pa_cons (pe_op op_add (pe_op op_add (pe_op op_mul (pe_op op_fdiv (pv 3) (pe_op op_add (pv 7) pe_int)) pe_int) (pe_op op_mul pe_int (pv 7))) pe_int) (pa_cons (pv 4) pa_nil))))
        (pss_cons (ps_if (PW.pt (pw_and (pt_cmpR op_eq (pe_op op_mod (pe_op op_fdiv (pv 2) pe_int) pe_int) pe_int (nomark _)) (pw_and1 (pt_cmpR op_gt (pv 7) pe_int (nomark _)))))
          (pss_one (ps_set (i := 8) sc_told.nd rfl (Or.inl rfl) (pe_cal cn hr1 rfl (pa_cons (pe_ix ix_tup (pe_ix ix_list (pv 6) (pe_un un_neg pe_int) (fun _ _ => rfl)) pe_int (fun _ _ => rfl)) pa_nil)))) pss_nil)
        (pss_one (ps_app (pv 6) (pe_tup (pa_cons (pv 8) (pa_cons (pv 9) pa_nil)))))))))
      (pss_one (ps_ret (pe_tup (pa_cons (pv 4) (pa_cons (pv 6) pa_nil))))))), ?_⟩
    intro N H2 c o N1 N8 s2
    have h0 : 0 ≤ c / 16 % 4 := Int.emod_nonneg _ (by decide)
    have h4 : c / 16 % 4 < 4 := Int.emod_lt_of_pos _ (by decide)
    obtain ⟨v, e, hv⟩ := atI_in (xs := [V.int 2, .int 3, .int 4, .int 2]) h0 h4
    have pv' : ∃ n : Int, v = .int n ∧ 0 < n ∧ n < 8 := by
      simp only [List.mem_cons, List.not_mem_nil, or_false] at hv
      rcases hv with rfl | rfl | rfl | rfl <;> exact ⟨_, rfl, by decide, by decide⟩
    obtain ⟨n, rfl, n0, n8⟩ := pv'
    have hpos : 0 < n * (N : Int) + 1 := by
      have : 0 ≤ n * (N : Int) := Int.mul_nonneg (by omega) (by omega)
      omega
    refine ⟨_, rfl, (by show 4 ≤ sizeLine; decide), fun t ht => ⟨_, rfl, _, _, rfl, rfl, ⟨by decide, by decide⟩, _, _, rfl, rfl, (show (0 : Int) < 4 by decide), t, _, _, _, rfl, rfl, SqT.of upd_same, e, _, rfl, _, _, rfl, rfl, .inl ⟨by omega, by omega⟩, _, _, rfl, rfl, o, 0, _, rfl, hpos, fun H3 m s3 m0 _ => ?_⟩⟩
    refine ⟨Nat.zero_le _, fun l hl => ?_⟩
    have sH : Same H (upd H3 l (.lst [])) := (s2.trans ((Same.laid ht).trans s3)).laidT hl
    have nl : H l = none := (s2.trans ((Same.laid ht).trans s3)).free hl
    have m24 : (if (24 : Int) < m then (24 : Int) else m) ≤ 24 ∧ 0 ≤ (if (24 : Int) < m then (24 : Int) else m) := by split <;> omega
    refine ⟨_, rfl, m, 24, rfl, _, rfl, by omega, by omega, ?_⟩
    generalize (if (24 : Int) < m then (24 : Int) else m) = M at m24 ⊢
    refine for_range (lo := 0) (n := M.toNat) (PvTold H a l f0 c o m N) ⟨[], [], none, none, none, rfl, sH, upd_same, .nil, rfl, fun p hp => by simp at hp⟩ ?_ ?_
    · rintro i σ H4 hi ⟨us, ws, z7, z8, z9, rfl, s4, el, pu, lu, gd⟩
      have i24 : i < 24 := by omega
      refine ⟨_, rfl, _, rfl, _, _, rfl, rfl, _, _, rfl, rfl, ⟨by omega, by omega⟩, _, rfl, _, _, rfl, rfl, .inl ⟨by decide, by decide⟩, _, _, rfl, rfl, _, rfl, _, N, rfl, N1, fun H5 vo x s5 wo io => ?_⟩
      refine ⟨_, rfl, _, rfl, _, _, rfl, rfl, _, _, rfl, rfl, ⟨by omega, by omega⟩, _, _, rfl, rfl, cmulR (by decide) (by decide), _, rfl, _, _, rfl, rfl, .inl ⟨by decide, by decide⟩, _, _, rfl, rfl, _, _, rfl, rfl, _, rfl, _, N, rfl, N1, fun H6 vt y s6 wt it => ?_⟩
      have s46 : Same H4 H6 := s5.trans s6
      have fin : ∀ (H7 : Hp) (vo' : V) (x' : W) (Dd : Ends), Same H6 H7 → IsW H7 vo' x' → InN N x' → (∀ σ H', PvTold H a l f0 c o m N (i + 1) σ H' → Dd.nx σ H') →
          tDrop (tBM K "list" rAppend (tVar 6) (tCons (tTup (tCons (tVar 8) (tCons (tVar 9) tNil))) tNil)) Dd [some (.ref a), some (.int f0), some (.int c), some (.int o), some (.int N), some (.int m), some (.ref l), some (.int (0 + (i : Int))), some vo', some vt] H7 := by
        intro H7 vo' x' Dd s67 w' i' hD
        have s47 := s46.trans s67
        have el7 : H7 l = some (.lst us) := s47 _ _ el
        refine told_app rfl rfl rfl el7 (by rw [sizeLine_eq]; omega) fun t ht => hD _ _ ⟨us ++ [.ref t], ws ++ [(x', y)], _, _, _, rfl, ((s4.trans s47).laidT ht).chg nl, upd_same, ?_, by simp [lu], ?_⟩
        · have tl : t ≠ l := (ne_of_none el7 ht).symm
          have tp : Tups H7 (upd (upd H7 t (.tup [vo', vt])) l (.lst (us ++ [.ref t]))) := (Same.laid ht).tups.trans (Tups.upd (by rw [upd_ne tl.symm, el7]; intro _ z; cases z))
          exact ((pu.same s47).tups tp).snoc ⟨t, vo', vt, rfl, by rw [upd_ne tl]; exact upd_same, w'.tups tp, (wt.same s67).tups tp⟩
        · intro p hp
          rcases List.mem_append.mp hp with hp | hp
          · exact gd p hp
          · have e : p = (x', y) := by simpa using hp
            subst e
            exact ⟨i', it⟩
      refine ⟨_, rfl, _, _, rfl, rfl, ⟨by decide, by decide⟩, _, _, rfl, rfl, (show (0 : Int) < 3 by decide), rfl, _, rfl, iteD (fun _ => ⟨_, rfl, _, _, rfl, rfl, _, rfl, iteD (fun hk => ?_) (fun _ => fin H6 vo x _ (Same.refl _) (wo.same s6) io fun _ _ z => z)⟩) (fun _ => iteF (fin H6 vo x _ (Same.refl _) (wo.same s6) io fun _ _ z => z))⟩
      have ne : us ≠ [] := fun z => by
        rw [z] at lu
        have : i = 0 := by simpa using lu.symm
        subst this
        exact absurd hk (by decide)
      obtain ⟨u, pr, eu, ⟨q, qa, qb, rfl, hq', ha', hb'⟩, hm⟩ := ps_last (pu.same s46) ne
      have i1 : atI [qa, qb] 1 = some qb := rfl
      exact ⟨_, rfl, 1, rfl, l, us, -1, _, rfl, rfl, SqL.of (s46 _ _ el), eu, q, _, 1, _, rfl, rfl, SqT.of hq', i1, qb, pr.2, rfl, hb', fun H7 v' s67 isn => fin H7 v' (neg pr.2) _ s67 isn (gd pr hm).2 fun _ _ z => z⟩
    · rintro σ H4 ⟨us, ws, z7, z8, z9, rfl, s4, el, pu, lu, gd⟩
      refine ⟨_, rfl, _, rfl, (by show 2 ≤ sizeLine; decide), fun p hp => k _ _ N ws (s4.laidT hp) ⟨p, l, us, rfl, upd_same, by rw [upd_ne (ne_of_none el hp)]; exact el, pu.same (Same.laid hp)⟩ ⟨N1, N8, ?_, gd⟩⟩
      have := Paired.length pu
      omega
  obtain ⟨u, hu, hu'⟩ := T2
  refine ⟨_, pss_cons (ps_set (i := 2) sc_told.nd rfl (Or.inl rfl) (pe_cal cc hr1 rfl (pa_cons (pv 0) (pa_cons (pv 1) pa_nil))))
    (pss_cons (ps_set (i := 3) sc_told.nd rfl (Or.inl rfl) (pe_cal cc hr1 rfl (pa_cons (pv 0) (pa_cons (pe_op op_add (pv 1) pe_int) pa_nil))))
    (pss_cons (ps_set (i := 4) sc_told.nd rfl (Or.inl rfl) (pe_ix ix_tup (pe_tup (pa_cons pe_int (pa_cons pe_int (pa_cons pe_int (pa_cons pe_int (pa_cons pe_int (pa_cons pe_int (pa_cons pe_int (pa_cons pe_int pa_nil))))))))) (pe_op op_mod (pv 2) pe_int) (fun _ _ => rfl)))
    (pss_cons (ps_if (pt_cmpR op_eq (pe_op op_mod (pe_op op_fdiv (pv 2) pe_int) pe_int) pe_int (nomark _)) (pss_one (ps_set (i := 4) sc_told.nd rfl (Or.inl rfl) (pe_op op_add pe_int (pe_op op_mod (pe_op op_fdiv (pv 2) pe_int) pe_int)))) pss_nil) hu))), ?_⟩
  refine ⟨_, rfl, _, rfl, a, ns, f0, rfl, hq, hf, fun c => ⟨_, rfl, _, rfl, _, _, rfl, rfl, a, ns, f0 + 1, rfl, hq, by omega, fun o => ?_⟩⟩
  have h0 : 0 ≤ c % 8 := Int.emod_nonneg _ (by decide)
  have h8 : c % 8 < 8 := Int.emod_lt_of_pos _ (by decide)
  obtain ⟨v, e, hv⟩ := atI_in (xs := [V.int 3, .int 4, .int 2, .int 5, .int 3, .int 4, .int 1, .int 6]) h0 h8
  have pv' : ∃ n : Int, v = .int n ∧ 0 < n ∧ n ≤ 8 := by
    simp only [List.mem_cons, List.not_mem_nil, or_false] at hv
    rcases hv with rfl | rfl | rfl | rfl | rfl | rfl | rfl | rfl <;> exact ⟨_, rfl, by decide, by decide⟩
  obtain ⟨n, rfl, n0, n8⟩ := pv'
  obtain ⟨N, rfl⟩ := Int.eq_ofNat_of_zero_le (Int.le_of_lt n0)
  refine ⟨(by show 8 ≤ sizeLine; decide), fun t ht => ⟨_, rfl, _, _, rfl, rfl, (show (0 : Int) < 8 by decide), t, _, _, _, rfl, rfl, SqT.of upd_same, e, ?_⟩⟩
  refine ⟨_, rfl, _, _, rfl, rfl, ⟨by decide, by decide⟩, _, _, rfl, rfl, (show (0 : Int) < 12 by decide), rfl, _, rfl, iteD (fun _ => ?_) (fun _ => hu' N _ c o (by omega) (by omega) (Same.laid ht))⟩
  refine ⟨_, rfl, _, _, rfl, rfl, ⟨by decide, by decide⟩, _, _, rfl, rfl, (show (0 : Int) < 2 by decide), _, _, rfl, rfl, ?_⟩
  have g0 : 0 ≤ c / 96 % 2 := Int.emod_nonneg _ (by decide)
  have g2 : c / 96 % 2 < 2 := Int.emod_lt_of_pos _ (by decide)
  obtain ⟨M, hM⟩ := Int.eq_ofNat_of_zero_le (show 0 ≤ 7 + c / 96 % 2 by omega)
  have z := hu' M (upd H t (.tup [V.int 3, .int 4, .int 2, .int 5, .int 3, .int 4, .int 1, .int 6])) c o (by omega) (by omega) (Same.laid ht)
  rw [← hM] at z
  exact z
end
end L2

end

section
set_option autoImplicit false
set_option maxRecDepth 100000
set_option linter.all false
namespace L2
open PySem PySem.Spec PyProof.Rows EoD Eo
section
variable {P : Program} {w : World} {K : PySem.W.Frag} {mg : Str → Option Value} {base : Heap} {C : Addr}
end
end L2

end

section
set_option autoImplicit false
set_option maxRecDepth 100000
set_option linter.all false
namespace L2
open PySem PySem.Spec PyProof.Rows EoD Eo
section
variable {P : Program} {w : World} {K : PySem.W.Frag} {mg : Str → Option Value} {base : Heap} {C : Addr}
end
end L2

end

section
set_option autoImplicit false
set_option maxRecDepth 100000
set_option linter.all false
namespace L2
open PySem PySem.Spec PyProof.Rows EoD Eo
section
variable {P : Program} {w : World} {K : PySem.W.Frag} {mg : Str → Option Value} {base : Heap} {C : Addr}
end
end L2

end

section
set_option autoImplicit false
set_option maxRecDepth 100000
set_option linter.all false
namespace L2
open PySem PySem.Spec PyProof.Rows EoD Eo
section
variable {P : Program} {w : World} {K : PySem.W.Frag} {mg : Str → Option Value} {base : Heap} {C : Addr}
end
end L2

end

section
set_option autoImplicit false
set_option maxRecDepth 100000
set_option linter.all false
namespace L2
open PySem PySem.Spec PyProof.Rows EoD Eo
theorem reps_pl {K : PySem.W.Frag} {H : Hp} : ∀ l : List Nat, Reps K H (plV l) (l.map fun i : Nat => PyData.int i)
  | [] => .nil
  | i :: l => .cons (.int i) (reps_pl l)
theorem eqv_pn (x y : Nat) : PyData.eqv (.int (x : Int)) (.int (y : Int)) = decide (x = y) := by
  simp only [PyData.eqv]
  rw [Bool.eq_iff_iff]
  simp
  constructor <;> intro h <;> omega
theorem lay_pn (x : Nat) : (PyData.int (x : Int)).canLay0 = true := rfl
theorem dep_pn (x : Nat) : (PyData.int (x : Int)).depth ≤ 8 := by simp [PyData.depth]
/-- a list of places, compared -/
def PLs (K : PySem.W.Frag) (H : Hp) (v : V) (l : List Nat) : Prop := ∃ a, v = .ref a ∧ SqL K H a (plV l)
theorem PLs.rep {K : PySem.W.Frag} {H : Hp} {v : V} {l : List Nat} (h : PLs K H v l) : Rep K H v (.list (l.map fun i : Nat => PyData.int i)) := by
  obtain ⟨a, rfl, h1⟩ := h
  exact .lst h1 (reps_pl l)
theorem eqv_pls (l m : List Nat) : PyData.eqv (.list (l.map fun i : Nat => PyData.int i)) (.list (m.map fun i : Nat => PyData.int i)) = decide (l = m) := by
  simp only [PyData.eqv]
  exact eqvAll_map eqv_pn l m
inductive X_rEqPs (K : PySem.W.Frag) (x : V) (y : V) (H : Hp) (Q : VK) : Prop
  | mk (a : _) (b : _) (z_1 : PLs K H x a) (z_2 : PLs K H y b) (z_3 : Q (.bl (decide (a = b))) H)
def rEqPs (K : PySem.W.Frag) : R2 := fun x y H Q => X_rEqPs K x y H Q
theorem op_eqPs {X : Cx} (hu : X.A.units + 64 < cLine) : OpR X (compareOp .Eq) (rEqPs X.K) := (op_eqD hu).imp fun x y H Q ⟨a, b, h1, h2, q⟩ => ⟨_, _, h1.rep, h2.rep, shp_list lay_pn dep_pn (by decide) a, shp_list lay_pn dep_pn (by decide) b, by rw [eqv_pls]; exact q⟩
section
variable {P : Program} {w : World} {K : PySem.W.Frag} {mg : Str → Option Value} {base : Heap} {C : Addr}
end
end L2

end

section
set_option autoImplicit false
set_option maxRecDepth 100000
set_option linter.all false
namespace L2
open PySem PySem.Spec PyProof.Rows EoD Eo
section
variable {P : Program} {w : World} {K : PySem.W.Frag} {mg : Str → Option Value} {base : Heap} {C : Addr}
end
end L2

end

section
set_option autoImplicit false
set_option maxRecDepth 100000
set_option linter.all false
namespace L2
open PySem PySem.Spec PyProof.Rows EoD Eo
theorem pe_m1 {X : Cx} {p q : Pos} {k : Nat} : PE X (.UnaryOp .USub (.Constant (.int 1) k p) q) (tC (.int (-1))) := fun pins s σ H Q I h => pe_un un_neg pe_int pins s σ H Q I ⟨1, rfl, h⟩
theorem cut_tail (us : List V) : cutV us (some 1) none = us.tail := by
  unfold cutV HT.sIx
  cases us with
  | nil => rfl
  | cons a r => simp
section
variable {P : Program} {w : World} {K : PySem.W.Frag} {mg : Str → Option Value} {base : Heap} {C : Addr}
end
end L2

end

section
set_option autoImplicit false
set_option maxRecDepth 100000
set_option linter.all false
namespace L2
open PySem PySem.Spec PyProof.Rows EoD Eo
def CalMk (P : Program) (w : World) (K : PySem.W.Frag) (mg : Str → Option Value) (base : Heap) (C : Addr) (x : Str) (k : Nat) (ps : List Str) (sp : Sp) : Prop := ∃ f fd, Mk K C f ∧ FnOk P w K mg base CX0 k f fd ps sp ∧ mg x = some (.ref C) ∧ Binds K fd ps []
theorem pe_mk {X : Cx} {C : Addr} {x : Str} {k : Nat} {ps : List Str} {sp : Sp} {e : Expr} {es : List Expr} {t : TA} {p pos : Pos} (c : CalMk X.prog X.w X.K X.mg X.base C x k ps sp) (hr : Room (k + 1) X.A) (hg : Gl X x) (ha : PA X (e :: es) t)
    (hdb : (x == ("__debug__" : Str)) = false := by decide) (he : starEach (e :: es) X.env = (false, eval e X.env) :: starEach es X.env := by rfl) (hpl : (backTo pos (starEach es X.env)).any (·.1) = false := by rfl) : PE X (.Call (.Name x p) (e :: es) [] pos) (tMake C sp [] E0 t) :=
  let ⟨_, _, M, F, m, b⟩ := c; pe_make M F hr hg m b .nil pass0 ha hdb he hpl
section
variable {P : Program} {w : World} {K : PySem.W.Frag} {mg : Str → Option Value} {base : Heap} {C CP CT CC : Addr}
end
end L2

end

section
set_option autoImplicit false
set_option maxRecDepth 100000
set_option linter.all false
namespace L2
open PySem PySem.Spec PyProof.Rows EoD Eo
section
variable {P : Program} {w : World} {K : PySem.W.Frag} {mg : Str → Option Value} {base : Heap} {C CP CT CC : Addr}
end
end L2

end

section
set_option autoImplicit false
set_option maxRecDepth 100000
set_option linter.all false
namespace L2
open PySem PySem.Spec PyProof.Rows EoD Eo
section
variable {P : Program} {w : World} {K : PySem.W.Frag} {mg : Str → Option Value} {base : Heap} {C CP CT CC CA : Addr}
end
end L2

end

section
set_option autoImplicit false
set_option maxRecDepth 100000
set_option linter.all false
namespace L2
open PySem PySem.Spec PyProof.Rows EoD Eo
theorem kit_t {K : PySem.W.Frag} {C : Addr} {t : Value} (y : PySem.W.isClsIn K C = true) (x : PySem.W.typeIn K (.ref C) = some (.type "type")) (s : PySem.W.subIn K t (.ref C) = some true) : PySem.W.kitOne K t (.ref C) = some true := by
  unfold PySem.W.kitOne
  split
  · rfl
  · unfold PySem.W.kitCls
    have e : ((PySem.W.clsIn K C).isSome && PySem.W.typeIn K (.ref C) == some (.type "type")) = true := by
      have y : (PySem.W.clsIn K C).isSome = true := y
      rw [y, x]; rfl
    simp only [e, if_true]
    exact s
theorem kit_f {K : PySem.W.Frag} {A C : Addr} (y : PySem.W.isClsIn K C = true) (x : PySem.W.typeIn K (.ref C) = some (.type "type")) (r : PySem.W.subIn K (.ref A) (.ref A) = some true) (s : PySem.W.subIn K (.ref A) (.ref C) = some false) : PySem.W.kitOne K (.ref A) (.ref C) = some false := by
  unfold PySem.W.kitOne
  rw [if_neg]
  · unfold PySem.W.kitCls
    have e : ((PySem.W.clsIn K C).isSome && PySem.W.typeIn K (.ref C) == some (.type "type")) = true := by
      have y : (PySem.W.clsIn K C).isSome = true := y
      rw [y, x]; rfl
    simp only [e, if_true]
    exact s
  · intro z
    have z : Value.ref A = Value.ref C := by simpa using z
    cases z
    rw [r] at s
    cases s
section
variable {P : Program} {w : World} {K : PySem.W.Frag} {mg : Str → Option Value} {base : Heap} {C CP CT CC CA : Addr}
end
end L2

end

section
set_option autoImplicit false
set_option maxRecDepth 100000
set_option linter.all false
namespace L2
open PySem PySem.Spec PyProof.Rows EoD Eo
inductive X_sp_law (K : PySem.W.Frag) (vs : List V) (H : Hp) (Q : VK) (E : XK) : Prop
  | mk (a : Addr) (ns : List Int) (z_1 : vs = [.ref a]) (z_2 : SqL K H a (ns.map V.int)) (z_3 : ∀ H', Q (.bl true) H')
def sp_law (K : PySem.W.Frag) : Sp := fun vs H Q E => X_sp_law K vs H Q E
theorem made_house {C : Addr} {H1 : Hp} {l x dx : Addr} {N : Nat} {ts : List V} {ws : List (W × W)} {R : Hp → Prop} (nx : H1 x = none) (ndx : H1 dx = none) (nex : dx ≠ x) (hl : H1 l = some (.lst ts)) (pu : Ps H1 ts ws) (gh : GoodH N ws) (k : ∀ H', Same H1 H' → HouseAt C H' (.ref x) N ws → R H') :
    sp_init C (.ref x :: ([.int N, .ref l] ++ [])) (upd (upd H1 dx (.own x)) x (.ins C dx [])) (fun v H2 => v = .non ∧ R H2) E0 := by
  have s0 : Same H1 (upd (upd H1 dx (.own x)) x (.ins C dx [])) := fun b o e => by
    rw [upd_ne (ne_of_none e nx), upd_ne (ne_of_none e ndx)]
    exact e
  refine ⟨x, dx, l, N, ts, ws, rfl, upd_same, gh, s0 _ _ hl, pu.same s0, fun H3 hh kp => ⟨rfl, ?_⟩⟩
  exact k H3 (fun b o e => kp b o (s0 b o e) (ne_of_none e nx)) hh
end L2

end

section
set_option autoImplicit false
set_option maxRecDepth 100000
set_option linter.all false
namespace L2
open PySem PySem.Spec PyProof.Rows EoD Eo
/-- an exception class with an own __init__ that sets one field -/
structure ExF (K : PySem.W.Frag) (mg : Str → Option Value) (CW CU f : Addr) (x n : Str) : Prop where
  mW : mg "WishError" = some (.ref CW)
  bW : BaseOf K CW
  M : xclIn K CU (some (.ref f)) = true
  xc : PySem.W.XC K CU
  na : NoAttr K CU n
  kp : PySem.W.keepIn K (.ref CU) = true
  isf : PySem.W.isFn K (.ref f) = true
  mU : mg x = some (.ref CU)
  up : PySem.W.mroIn K CU (.ref CW) = some true
inductive X_sp_xinit (CU : Addr) (n : Str) (vs : List V) (H : Hp) (Q : VK) (E : XK) : Prop
  | mk (e : Addr) (v : V) (z_1 : vs = [.ref e, v]) (z_2 : H e = some (XE CU none e)) (z_3 : ∀ d, H d = none → d ≠ e → Q .non (upd (upd H d (.xd [(n, v)])) e (XE CU (some d) e)))
def sp_xinit (CU : Addr) (n : Str) : Sp := fun vs H Q E => X_sp_xinit CU n vs H Q E
theorem xs_same {H : Hp} {e d : Addr} {o1 o2 o3 : HO} (he : H e = none) (hd : upd H e o1 d = none) : Same H (del (upd (upd (upd H e o1) d o2) e o3) e) := fun b o h => by
  have nbe := ne_of_none h he
  have nde : d ≠ e := fun z => by rw [z, upd_same] at hd; cases hd
  rw [upd_ne nde] at hd
  rw [del_ne nbe, upd_ne nbe, upd_ne (ne_of_none h hd), upd_ne nbe]
  exact h
theorem xs_at {H : Hp} {e d : Addr} {o1 o2 o3 : HO} (nde : d ≠ e) : del (upd (upd (upd H e o1) d o2) e o3) e d = some o2 := by rw [del_ne nde, upd_ne nde, upd_same]
section
variable {P : Program} {w : World} {K : PySem.W.Frag} {mg : Str → Option Value} {base : Heap} {C CT CW CU fU : Addr}
end
end L2

end

section
set_option autoImplicit false
set_option maxRecDepth 100000
set_option linter.all false
namespace L2
open PySem PySem.Spec PyProof.Rows EoD Eo
section
variable {P : Program} {w : World} {K : PySem.W.Frag} {mg : Str → Option Value} {base : Heap} {C : Addr}
end
end L2

end

section
set_option autoImplicit false
set_option maxRecDepth 100000
set_option linter.all false
namespace L2
open PySem PySem.Spec PyProof.Rows EoD Eo
theorem kq {K : PySem.W.Frag} {CU D : Addr} {b : Bool} (h : PySem.W.kitOne K (.ref CU) (.ref D) = some b) : ∀ u, RelV (.ref D) u → PySem.W.kitOne K (.ref CU) u = some b := fun u hu => by
  obtain rfl : u = Value.ref D := hu
  exact h
theorem xd_one {n : Str} {v : V} : ([(n, v)] : List (Str × V)).lookup n = some v := by simp
section
variable {P : Program} {w : World} {K : PySem.W.Frag} {mg : Str → Option Value} {base : Heap} {C CT CW CU fU BC BH BW BT : Addr}
end
end L2

end

section
set_option autoImplicit false
set_option maxRecDepth 100000
set_option linter.all false
namespace L2
open PySem PySem.Spec PyProof.Rows EoD Eo
/-- what stands in the module of notes -/
structure BareS (mg : Str → Option Value) : Prop where
  str : mg "str" = none
  enu : mg "enumerate" = none
  sep : ∃ t, mg "BETWEEN" = some (.str (Str.ofString "; ") t)
  cnt : ∃ t, mg "COUNTS" = some (.str (Str.ofString "12345678") t)
  nam : ∃ t, mg "NAMES" = some (.str (Str.ofString "01234567") t)
  sgn : ∃ t, mg "SIGNS" = some (.str (Str.ofString "+-") t)
  m24 : ∃ t, mg "MOST_WISHES" = some (.int 24 t)
section
variable {P : Program} {w : World} {K : PySem.W.Frag} {mg : Str → Option Value} {base : Heap} {C : Addr}
inductive X_sp_wrword  (vs : List V) (H : Hp) (Q : VK) (E : XK) : Prop
  | mk (v : V) (x : W) (z_1 : vs = [v]) (z_2 : IsW H v x) (z_3 : InN 8 x) (z_4 : Q (.str (cW x)) H)
def sp_wrword : Sp := fun vs H Q E => X_sp_wrword  vs H Q E
theorem sc_wrword : FnScope ["word"] ["word"] (defScope S_wrword) := ⟨rfl, rfl, rfl, by decide +kernel, rfl, by decide +kernel, by decide +kernel⟩
theorem wr_sum {x : W} {b : Bool} (h : InN 8 x) (e : x.2 = b) : Str.ofString (toString x.1) ++ (if b = true then Str.ofString "+" else Str.ofString "-") = cW x := by
  rw [dg_strI h, plus_is, minus_is, ← cW_cat, ← e]
  cases x.2 <;> rfl
theorem log_small {n : Int} (h0 : 0 ≤ n) (h1 : n < 9) : n.natAbs.log2 < 1920 := by
  have : n.natAbs < 9 := by omega
  exact Nat.lt_of_le_of_lt (Nat.log2_le_self _) (by omega)
theorem ok_wrword (D : Def K mg "written_word" S_wrword ["word"]) (B : BareS mg) : Cal P w K mg base "written_word" 1 ["word"] sp_wrword := by
  refine D.cal (k := 0) sc_wrword (fun vs H Q E h => by obtain ⟨_, _, rfl, _⟩ := h; rfl) (fun f cdv A outer s H vs Q E hr h => ?_)
  obtain ⟨v, x, rfl, ⟨p, rfl, hp⟩, ix, k⟩ := h
  refine ⟨_, pss_one (ps_ret (pe_op op_add_str (pe_callTy call_str_int rfl B.str bt_str (pa_cons (pe_ix ix_tup (pv 0) pe_int (fun _ _ => rfl)) pa_nil)) (pe_ifExp (pt_val (pe_ix ix_tup (pv 0) pe_int (fun _ _ => rfl))) pe_str pe_str))), ?_⟩
  have h0 : atI [V.int x.1, V.bl x.2] 0 = some (V.int x.1) := rfl
  have h1 : atI [V.int x.1, V.bl x.2] 1 = some (V.bl x.2) := rfl
  have e1 : (Str.ofString (toString x.1)).length = 1 := by rw [dg_strI ix]; rfl
  refine ⟨_, rfl, p, _, 0, _, rfl, rfl, SqT.of hp, h0, x.1, rfl, log_small ix.1 (by have := ix.2; omega), ?_⟩
  refine ⟨_, rfl, p, _, 1, _, rfl, rfl, SqT.of hp, h1, _, rfl, ?_⟩
  cases e : x.2 with
  | true =>
    refine iteT ⟨_, _, rfl, rfl, by rw [e1, plus_is, sizeLine_eq]; decide, ?_⟩
    have z := wr_sum ix e
    rw [if_pos rfl] at z
    rw [z]
    exact k
  | false =>
    refine iteF ⟨_, _, rfl, rfl, by rw [e1, minus_is, sizeLine_eq]; decide, ?_⟩
    have z := wr_sum ix e
    rw [if_neg Bool.false_ne_true] at z
    rw [z]
    exact k
inductive X_sp_written (C : Addr) (vs : List V) (H : Hp) (Q : VK) (E : XK) : Prop
  | mk (h : V) (N : Nat) (ws : List (W × W)) (z_1 : vs = [h]) (z_2 : HouseAt C H h N ws) (z_3 : GoodH N ws) (z_4 : ∀ H', Same H H' → Q (.str (cT N ws)) H')
def sp_written (C : Addr) : Sp := fun vs H Q E => X_sp_written C vs H Q E
theorem sc_written : FnScope ["house", "parts", "wish"] ["house"] (defScope S_written) := ⟨rfl, rfl, rfl, by decide +kernel, rfl, by decide +kernel, by decide +kernel⟩
theorem ok_written (D : Def K mg "written" S_written ["house"]) (B : BareS mg) (T : TxtH K C) (cw : Cal P w K mg base "written_word" 1 ["word"] sp_wrword) (cW' : CalW P w K mg base C) : Cal P w K mg base "written" 2 ["house"] (sp_written C) := by
  refine D.cal (k := 1) sc_written (fun vs H Q E h => by obtain ⟨_, _, _, rfl, _⟩ := h; rfl) (fun f cdv A outer s H vs Q E hr h => ?_)
  obtain ⟨h, N, ws, rfl, hh, gh, k⟩ := h
  obtain ⟨tS, mS⟩ := B.sep
  refine ⟨_, pss_cons (ps_set (i := 1) sc_written.nd rfl (Or.inl rfl) (pe_lst (pa_cons (pe_callTy call_str_int rfl B.str bt_str (pa_cons (pe_fld (pv 0) rfl) pa_nil)) pa_nil)))
    (pss_cons (ps_for PassesOwn.never rfl (pi_list (pe_wishes cW' T hr (pv 0))) (pg_name (i := 2) sc_written.nd rfl (Or.inl rfl)) (pss_one (ps_app (pv 1) (pe_op op_add_str (pe_cal cw hr rfl (pa_cons (pe_ix ix_tup (pv 2) pe_int (fun _ _ => rfl)) pa_nil)) (pe_cal cw hr rfl (pa_cons (pe_ix ix_tup (pv 2) pe_int (fun _ _ => rfl)) pa_nil))))))
    (pss_one (ps_ret (pe_join (pe_glob (v := .str (Str.ofString "; ")) rfl mS ⟨_, rfl⟩) (pv 1))))), ?_⟩
  obtain ⟨p, dx, q, us0, rfl, hp, _⟩ := id hh
  have N8 := gh.hi
  have l24 := gh.len
  refine ⟨_, rfl, p, C, dx, _, _, rfl, hp, T.cl, T.nN, flds_names _ _, (N : Int), rfl, log_small (by omega) (by omega), (by show 1 ≤ sizeLine; decide), fun l hl => ?_⟩
  have s1 : Same H (upd H l (.lst [V.str (Str.ofString (toString (N : Int)))])) := Same.laid hl
  have hh1 := hh.same s1
  refine ⟨_, rfl, p, dx, _, rfl, s1 _ _ hp, flds_no _ _ (by decide +kernel) (by decide +kernel), _, N, ws, rfl, hh1, fun l2 us hl2 hu hn => ⟨l2, rfl, ⟨_, SqL.of upd_same⟩, ?_⟩⟩
  have nl2 : l2 ≠ l := fun z => by rw [z, upd_same] at hl2; cases hl2
  have s2 := s1.laidT (o := .lst us) hl2
  have el : upd (upd H l (.lst [V.str (Str.ofString (toString (N : Int)))])) l2 (.lst us) l = some (.lst ((cParts N (ws.take 0)).map V.str)) := by
    rw [upd_ne nl2.symm, upd_same, dg_str N (by omega)]
    rfl
  have el2 : upd (upd H l (.lst [V.str (Str.ofString (toString (N : Int)))])) l2 (.lst us) l2 = some (.lst us) := upd_same
  have pu := hu.same (Same.laid (o := .lst us) hl2)
  generalize upd (upd H l (.lst [V.str (Str.ofString (toString (N : Int)))])) l2 (.lst us) = H2 at s2 el el2 pu ⊢
  refine for_list (K := K) (a := l2) (xs := us) (fun i σ H3 => ∃ z, σ = [some (.ref p), some (.ref l), z] ∧ Same H H3 ∧ H3 l2 = some (.lst us) ∧ Ps H3 us ws ∧ H3 l = some (.lst ((cParts N (ws.take i)).map V.str))) ⟨none, rfl, s2, el2, pu, el⟩ (fun i σ H3 _ ⟨_, _, _, z, _⟩ => SqL.of z) ?_ ?_
  · rintro i y σ H3 hi ⟨z, rfl, s3, e2, p3, e3⟩
    obtain ⟨pr, hpr, wq, a, b, rfl, hw, ha, hb⟩ := paired_get p3 hi
    have g2 := gh.good pr (List.mem_of_getElem? hpr)
    have i0 : atI [a, b] 0 = some a := rfl
    have i1 : atI [a, b] 1 = some b := rfl
    have lp : (cParts N (ws.take i)).length ≤ 25 := by simp [cParts]; omega
    refine ⟨_, rfl, .inl ⟨rfl, _, SqL.of e3⟩, _, rfl, wq, _, 0, _, rfl, rfl, SqT.of hw, i0, a, pr.1, rfl, ha, inUp g2.1 N8, ?_⟩
    refine ⟨_, rfl, wq, _, 1, _, rfl, rfl, SqT.of hw, i1, b, pr.2, rfl, hb, inUp g2.2 N8, _, _, rfl, rfl, (by show 2 + 2 ≤ sizeLine; rw [sizeLine_eq]; decide), l, _, _, rfl, rfl, e3, by rw [List.length_map, sizeLine_eq]; omega, ?_⟩
    have tp : Tups H3 (upd H3 l (.lst ((cParts N (ws.take i)).map V.str ++ [V.str (cW pr.1 ++ cW pr.2)]))) := lst_notup e3
    refine ⟨_, rfl, s3.chg hl, by rw [upd_ne nl2]; exact e2, p3.tups tp, ?_⟩
    rw [upd_same, cP_cat, List.take_add_one, hpr]
    simp [cParts]
  · rintro σ H3 ⟨z, rfl, s3, e2, p3, e3⟩
    have e : us.length = ws.length := Paired.length p3
    rw [e, List.take_length] at e3
    refine ⟨rfl, _, rfl, _, l, _, rfl, rfl, SqL.of e3, by rw [sep_is]; exact cT_ok l24, ?_⟩
    rw [sep_is]
    exact k H3 s3
theorem sc_iscount : FnScope ["part"] ["part"] (defScope S_iscount) := ⟨rfl, rfl, rfl, by decide +kernel, rfl, by decide +kernel, by decide +kernel⟩
theorem sc_iswrw : FnScope ["names", "note"] ["names", "note"] (defScope S_iswrw) := ⟨rfl, rfl, rfl, by decide +kernel, rfl, by decide +kernel, by decide +kernel⟩
theorem sc_iswrh : FnScope ["names", "part"] ["names", "part"] (defScope S_iswrh) := ⟨rfl, rfl, rfl, by decide +kernel, rfl, by decide +kernel, by decide +kernel⟩
inductive X_sp_rdword  (vs : List V) (H : Hp) (Q : VK) (E : XK) : Prop
  | mk (x : W) (z_1 : vs = [.str (cW x)]) (z_2 : InN 8 x) (z_3 : ∀ H' v, Same H H' → IsW H' v x → Q v H')
def sp_rdword : Sp := fun vs H Q E => X_sp_rdword  vs H Q E
theorem sc_rdword : FnScope ["note"] ["note"] (defScope S_rdword) := ⟨rfl, rfl, rfl, by decide +kernel, rfl, by decide +kernel, by decide +kernel⟩
theorem ok_rdword (D : Def K mg "read_word" S_rdword ["note"]) (B0 : Bare mg) : Cal P w K mg base "read_word" 1 ["note"] sp_rdword := by
  refine D.cal (k := 0) sc_rdword (fun vs H Q E h => by obtain ⟨_, rfl, _⟩ := h; rfl) (fun f cdv A outer s H vs Q E hr h => ?_)
  obtain ⟨x, rfl, ix, k⟩ := h
  refine ⟨_, pss_one (ps_ret (pe_tup (pa_cons (pe_callTy call_intT rfl B0.int bt_int (pa_cons (pe_ix ix_str (pv 0) pe_int (fun _ _ => rfl)) pa_nil)) (pa_cons (pe_cmpR op_eq (pe_ix ix_str (pv 0) pe_int (fun _ _ => rfl)) pe_str (nomark _)) pa_nil)))), ?_⟩
  have i0 : atI (cW x).cps.toList 0 = some (48 + x.1.toNat) := rfl
  have i1 : atI (cW x).cps.toList 1 = some (sg x.2) := rfl
  have h0 := ix.1
  have h8 := ix.2
  have e0 : PySem.intText? (dg x.1.toNat) = some x.1 := by
    have := int_dg (n := x.1.toNat) (by omega)
    rwa [Int.toNat_of_nonneg h0] at this
  refine ⟨_, rfl, _, _, _, rfl, rfl, (by show 2 ≤ sizeLine; decide), i0, _, x.1, rfl, e0, (by show 1 ≤ 640; decide), _, rfl, _, _, _, rfl, rfl, (by show 2 ≤ sizeLine; decide), i1, rfl, (by show 2 ≤ sizeLine; decide), fun q hq => ?_⟩
  refine k _ _ (Same.laid hq) ⟨q, rfl, ?_⟩
  rw [upd_same, sg_plus]
end
end L2

end

section
set_option autoImplicit false
set_option maxRecDepth 100000
set_option linter.all false
namespace L2
open PySem PySem.Spec PyProof.Rows EoD Eo
theorem list1 {l : List Nat} (h : l.length = 1) : ∃ a, l = [a] := List.length_eq_one_iff.mp h
theorem list2 {l : List Nat} (h : l.length = 2) : ∃ a b, l = [a, b] := by
  cases l with
  | nil => cases h
  | cons a r => obtain ⟨b, e⟩ := list1 (Nat.succ.inj h); exact ⟨a, b, by rw [e]⟩
section
variable {P : Program} {w : World} {K : PySem.W.Frag} {mg : Str → Option Value} {base : Heap} {C CW BT fB : Addr}
theorem sc_btinit : FnScope ["self", "place"] ["self", "place"] (defScope S_btinit) := ⟨rfl, rfl, rfl, by decide +kernel, rfl, by decide +kernel, by decide +kernel⟩
theorem ok_btinit {fd : FuncData} (F : Fun K "__init__" "BadText.__init__" S_btinit fB fd) (Z : ExF K mg CW BT fB "BadText" "place") : FnOk P w K mg base CX0 1 fB fd ["self", "place"] (sp_xinit BT "place") := by
  refine F.ok (k := 0) sc_btinit (fun vs H Q E h => by obtain ⟨_, _, rfl, _⟩ := h; rfl) (fun cdv A outer s H vs Q E hr h => ?_)
  obtain ⟨e, v, rfl, he, k⟩ := h
  refine ⟨_, pss_cons (ps_expr (pe_base rfl Z.mW Z.bW Z.M (pa_cons (pv 0) (pa_cons pe_str pa_nil)))) (pss_one (ps_xfld (pv 0) (pv 1) rfl)), ?_⟩
  exact ⟨_, rfl, e, none, _, rfl, he, _, rfl, _, rfl, e, BT, rfl, Z.xc, Z.na, he, fun d hd hn => k d hd hn⟩
inductive X_sp_iscG  (vs : List V) (H : Hp) (Q : VK) (E : XK) : Prop
  | mk (p : Str) (z_1 : vs = [.str p]) (z_2 : p.length ≤ 2000) (z_3 : Q (.bl (cntB p)) H)
def sp_iscG : Sp := fun vs H Q E => X_sp_iscG  vs H Q E
theorem ok_iscG (D : Def K mg "is_count" S_iscount ["part"]) (B0 : Bare mg) (B : BareS mg) : Cal P w K mg base "is_count" 1 ["part"] sp_iscG := by
  refine D.cal (k := 0) sc_iscount (fun vs H Q E h => by obtain ⟨_, rfl, _⟩ := h; rfl) (fun f cdv A outer s H vs Q E hr h => ?_)
  obtain ⟨p, rfl, lp, k⟩ := h
  obtain ⟨tC, mC⟩ := B.cnt
  have hl := Eo.len_list p
  refine ⟨_, pss_one (ps_ret (pe_and (pe_cmpR op_eq (pe_callB call_len_str rfl B0.len bt_len (pa_cons (pv 0) pa_nil)) pe_int (nomark _)) (pe_one (pe_cmpR op_in_str (pv 0) (pe_glob (v := .str (Str.ofString "12345678")) rfl mC ⟨_, rfl⟩) (by with_unfolding_all rfl))))), ?_⟩
  refine ⟨_, rfl, _, rfl, (by rw [sizeLine_eq]; omega), rfl, _, rfl, iteD (fun e => ⟨_, rfl, _, _, rfl, rfl, ?_⟩) (fun e => ?_)⟩
  · have e1 : p.length = 1 := by have := V.int.inj e; omega
    obtain ⟨c, ec⟩ := list1 (hl.trans e1)
    have ep := str_list ec
    subst ep
    rw [counts_is]
    show Q (.bl (!(Builtin.Str.occurrences ⟨#[49, 50, 51, 52, 53, 54, 55, 56]⟩ ⟨#[c]⟩ 0 8 1).isEmpty)) H
    rw [in_cnt]
    exact k
  · have z : cntB p = false := by
      unfold cntB
      split
      · rename_i c ec
        rw [ec] at hl
        exact absurd (by rw [← hl]; rfl) e
      · rfl
    rw [z] at k
    exact k
inductive X_sp_wdG  (vs : List V) (H : Hp) (Q : VK) (E : XK) : Prop
  | mk (N : Nat) (p : Str) (z_1 : vs = [.int N, .str p]) (z_2 : N ≤ 8) (z_3 : p.length ≤ 2000) (z_4 : Q (.bl (wdB N p)) H)
def sp_wdG : Sp := fun vs H Q E => X_sp_wdG  vs H Q E
theorem ok_wdG (D : Def K mg "is_written_word" S_iswrw ["names", "note"]) (B0 : Bare mg) (B : BareS mg) : Cal P w K mg base "is_written_word" 1 ["names", "note"] sp_wdG := by
  refine D.cal (k := 0) sc_iswrw (fun vs H Q E h => by obtain ⟨_, _, rfl, _⟩ := h; rfl) (fun f cdv A outer s H vs Q E hr h => ?_)
  obtain ⟨N, p, rfl, N8, lp, k⟩ := h
  obtain ⟨tN, mN⟩ := B.nam
  obtain ⟨tG, mG⟩ := B.sgn
  have hl := Eo.len_list p
  have lz : p.length ≤ sizeLine := by rw [sizeLine_eq]; omega
  refine ⟨_, pss_one (ps_ret (pe_and (pe_cmpR op_eq (pe_callB call_len_str rfl B0.len bt_len (pa_cons (pv 1) pa_nil)) pe_int (nomark _)) (pe_and (pe_cmpR op_in_str (pe_ix ix_str (pv 1) pe_int (fun _ _ => rfl)) (pe_slice sl_str (pe_glob (v := .str (Str.ofString "01234567")) rfl mN ⟨_, rfl⟩) po_none (po_some (pv 0))) (by with_unfolding_all rfl)) (pe_one (pe_cmpR op_in_str (pe_ix ix_str (pv 1) pe_int (fun _ _ => rfl)) (pe_glob (v := .str (Str.ofString "+-")) rfl mG ⟨_, rfl⟩) (by with_unfolding_all rfl)))))), ?_⟩
  refine ⟨_, rfl, _, rfl, lz, rfl, _, rfl, iteD (fun e => ?_) (fun e => ?_)⟩
  · have e2 : p.length = 2 := by have := V.int.inj e; omega
    obtain ⟨a, b, ec⟩ := list2 (hl.trans e2)
    have ep := str_list ec
    subst ep
    have i0 : atI (⟨#[a, b]⟩ : Str).cps.toList 0 = some a := rfl
    have i1 : atI (⟨#[a, b]⟩ : Str).cps.toList 1 = some b := rfl
    refine ⟨_, rfl, _, _, _, rfl, rfl, lz, i0, _, rfl, N, rfl, _, rfl, (by rw [names_is, sizeLine_eq]; decide), _, _, rfl, rfl, ?_⟩
    rw [names_is]
    have z := in_nam N8 a
    rw [z]
    have kd : wdB N ⟨#[a, b]⟩ = (decide (fig N a) && decide (sgn b)) := rfl
    rw [show wdB N ⟨[a, b].toArray⟩ = (decide (fig N a) && decide (sgn b)) from rfl] at k
    refine ⟨_, rfl, iteD (fun ea => ⟨_, rfl, _, _, _, rfl, rfl, lz, i1, _, _, rfl, rfl, ?_⟩) (fun ea => ?_)⟩
    · rw [signs_is]
      show Q (.bl (!(Builtin.Str.occurrences ⟨#[43, 45]⟩ ⟨#[b]⟩ 0 2 1).isEmpty)) H
      rw [in_sgn]
      rw [decide_eq_true ea, Bool.true_and] at k
      exact k
    · rw [decide_eq_false ea, Bool.false_and] at k
      exact k
  · have z : wdB N p = false := by
      unfold wdB
      split
      · rename_i a b ec
        rw [ec] at hl
        exact absurd (by rw [← hl]; rfl) e
      · rfl
    rw [z] at k
    exact k
inductive X_sp_whG  (vs : List V) (H : Hp) (Q : VK) (E : XK) : Prop
  | mk (N : Nat) (p : Str) (z_1 : vs = [.int N, .str p]) (z_2 : N ≤ 8) (z_3 : p.length ≤ 2000) (z_4 : Q (.bl (wsB N p)) H)
def sp_whG : Sp := fun vs H Q E => X_sp_whG  vs H Q E
theorem ok_whG (D : Def K mg "is_written_wish" S_iswrh ["names", "part"]) (cw : Cal P w K mg base "is_written_word" 1 ["names", "note"] sp_wdG) : Cal P w K mg base "is_written_wish" 2 ["names", "part"] sp_whG := by
  refine D.cal (k := 1) sc_iswrh (fun vs H Q E h => by obtain ⟨_, _, rfl, _⟩ := h; rfl) (fun f cdv A outer s H vs Q E hr h => ?_)
  obtain ⟨N, p, rfl, N8, lp, k⟩ := h
  have lz : p.length ≤ sizeLine := by rw [sizeLine_eq]; omega
  have l1 := Txt.slice_le p none (some 2)
  have l2 := Txt.slice_le p (some 2) none
  refine ⟨_, pss_one (ps_ret (pe_and (pe_cal cw hr rfl (pa_cons (pv 0) (pa_cons (pe_slice sl_str (pv 1) po_none (po_some pe_int)) pa_nil))) (pe_one (pe_cal cw hr rfl (pa_cons (pv 0) (pa_cons (pe_slice sl_str (pv 1) (po_some pe_int) po_none) pa_nil)))))), ?_⟩
  rw [ws_split] at k
  refine ⟨_, rfl, _, rfl, 2, rfl, _, rfl, lz, N, _, rfl, N8, by omega, _, rfl, iteB (fun e => ⟨_, rfl, _, rfl, 2, rfl, _, rfl, lz, N, _, rfl, N8, by omega, ?_⟩) (fun e => ?_)⟩
  · have e' : wdB N (Txt.slice p none (some 2)) = true := by simpa using e
    rw [e', Bool.true_and] at k
    exact k
  · have e' : wdB N (Txt.slice p none (some 2)) = false := by simpa using e
    rw [e', Bool.false_and] at k
    exact k
def Place (BT : Addr) (E : XK) (H : Hp) (n : Int) : Prop := ∀ H' d, Same H H' → H' d = some (.xd [("place", .int n)]) → E (.ref BT) (some d) H'
inductive X_sp_readX (K : PySem.W.Frag) (C BT : Addr) (vs : List V) (H : Hp) (Q : VK) (E : XK) : Prop
  | mk (v : V) (z_1 : vs = [v]) (z_2 : ((∃ z, v = .str z ∧ z.length ≤ 1000 ∧ (∀ N ws, GoodH N ws → z = cT N ws → due z = -1 → ∀ H' v', Same H H' → HouseAt C H' v' N ws → Q v' H') ∧ (due z ≠ -1 → Place BT E H (due z))) ∨ (∃ t, TyOf K H v t ∧ PySem.W.kitOne K t (.type "str") = some false ∧ Place BT E H 0)))
def sp_readX (K : PySem.W.Frag) (C BT : Addr) : Sp := fun vs H Q E => X_sp_readX K C BT vs H Q E
abbrev N_read : List Str := ["text", "parts", "names", "wishes", "place", "part"]
theorem sc_read : FnScope N_read ["text"] (defScope S_read) := ⟨rfl, rfl, rfl, by decide +kernel, rfl, by decide +kernel, by decide +kernel⟩
/-- behind a raise BadText(n) -/
theorem raised {H0 H : Hp} {E : XK} {n : Int} (p : Place BT E H0 n) (s : Same H0 H) : (1 : Nat) ≤ sizeLine ∧ ∀ e, H e = none → sp_xinit BT "place" [.ref e, .int n] (upd H e (XE BT none e)) (fun v H2 => v = .non ∧ ∃ dO, H2 e = some (XE BT dO e) ∧ E (.ref BT) dO (del H2 e)) E0 := by
  refine ⟨by rw [sizeLine_eq]; decide, fun e he => ⟨e, .int n, rfl, upd_same, fun d hd nd => ⟨rfl, some d, upd_same, ?_⟩⟩⟩
  exact p _ d (s.trans (xs_same (o2 := .xd [("place", .int n)]) (o3 := XE BT (some d) e) he hd)) (xs_at nd)
set_option maxHeartbeats 4000000 in
theorem ok_readX {fd : FuncData} (D : Def K mg "read" S_read ["text"]) (B0 : Bare mg) (B : BareS mg) (Z : ExF K mg CW BT fB "BadText" "place") (F : FnOk P w K mg base CX0 1 fB fd ["self", "place"] (sp_xinit BT "place")) (bn : Binds K fd ["self", "place"] [])
    (ci : Cal P w K mg base "is_count" 1 ["part"] sp_iscG) (ch : Cal P w K mg base "is_written_wish" 2 ["names", "part"] sp_whG) (cr : Cal P w K mg base "read_word" 1 ["note"] sp_rdword) (cm : CalMk P w K mg base C "House" 4 ["self", "names", "wishes"] (sp_init C)) :
    CalX P w K mg base "read" 6 ["text"] (sp_readX K C BT) := by
  refine D.calX (k := 5) sc_read (fun vs H Q E h => by obtain ⟨_, rfl, _⟩ := h; rfl) (fun f cdv A outer s H vs Q E hr h => ?_)
  obtain ⟨v, rfl, alt⟩ := h
  obtain ⟨tS, mS⟩ := B.sep
  obtain ⟨t24, m24⟩ := B.m24
  have hr1 : Room 1 _ := hr.mono (by decide)
  have hr2 : Room 2 _ := hr.mono (by decide)
  refine ⟨_, pss_cons (ps_if (pt_not (pt_val (pe_isin B0 (pv 0) rfl rfl B.str bt_str))) (pss_one (ps_raiseI rfl Z.M Z.kp Z.isf F hr2 rfl Z.mU bn (thr_xp _ E) (pa_cons pe_int pa_nil))) pss_nil)
    (pss_cons (ps_set (i := 1) sc_read.nd rfl (Or.inl rfl) (pe_split (pv 0) (pe_glob (v := .str (Str.ofString "; ")) rfl mS ⟨_, rfl⟩)))
    (pss_cons (ps_if (pt_not (pt_val (pe_cal ci hr1 rfl (pa_cons (pe_ix ix_list (pv 1) pe_int (fun _ _ => rfl)) pa_nil)))) (pss_one (ps_raiseI rfl Z.M Z.kp Z.isf F hr2 rfl Z.mU bn (thr_xp _ E) (pa_cons pe_int pa_nil))) pss_nil)
    (pss_cons (ps_set (i := 2) sc_read.nd rfl (Or.inl rfl) (pe_callTy call_intT rfl B0.int bt_int (pa_cons (pe_ix ix_list (pv 1) pe_int (fun _ _ => rfl)) pa_nil)))
    (pss_cons (ps_set (i := 3) sc_read.nd rfl (Or.inl rfl) (pe_lst pa_nil))
    (pss_cons (ps_for (passes_own ⟨rfl, rfl⟩) rfl (pi_enumK (pe_slice sl_list (pv 1) (po_some pe_int) po_none) pe_int rfl B.enu) (pg_tup rfl (pgs_cons (pg_name (i := 4) sc_read.nd rfl (Or.inl rfl)) (pgs_cons (pg_name (i := 5) sc_read.nd rfl (Or.inl rfl)) pgs_nil)))
      (pss_cons (ps_if (pt_not (pt_val (pe_cal ch hr2 rfl (pa_cons (pv 2) (pa_cons (pv 5) pa_nil))))) (pss_one (ps_raiseI rfl Z.M Z.kp Z.isf F hr2 rfl Z.mU bn (thr_xp _ E) (pa_cons (pv 4) pa_nil))) pss_nil)
      (pss_one (ps_app (pv 3) (pe_tup (pa_cons (pe_cal cr hr1 rfl (pa_cons (pe_slice sl_str (pv 5) po_none (po_some pe_int)) pa_nil)) (pa_cons (pe_cal cr hr1 rfl (pa_cons (pe_slice sl_str (pv 5) (po_some pe_int) po_none) pa_nil)) pa_nil)))))))
    (pss_cons (ps_if (pt_cmpR op_gt (pe_callB call_len_seq rfl B0.len bt_len (pa_cons (pv 3) pa_nil)) (pe_glob (v := .int 24) rfl m24 ⟨_, rfl⟩) (nomark _)) (pss_one (ps_raiseI rfl Z.M Z.kp Z.isf F hr2 rfl Z.mU bn (thr_xp _ E) (pa_cons (pe_callB call_len_seq rfl B0.len bt_len (pa_cons (pv 1) pa_nil)) pa_nil))) pss_nil)
    (pss_one (ps_ret (pe_mk cm hr rfl (pa_cons (pv 2) (pa_cons (pv 3) pa_nil)))))))))))
    , ?_⟩
  rcases alt with ⟨z, rfl, lz, k1, k2⟩ | ⟨t, ty, kt, k3⟩
  rotate_left
  · exact ⟨_, rfl, _, _, _, false, rfl, ty, kt, false, rfl, iteT (raised k3 (Same.refl _))⟩
  refine ⟨_, rfl, _, _, _, true, rfl, .str _, rfl, true, rfl, iteF ?_⟩
  obtain ⟨pl, pm⟩ := parts_le z
  obtain ⟨p, r, er⟩ : ∃ p r, Txt.split z SEP = p :: r := by
    cases e : Txt.split z SEP with
    | nil => exact absurd e (split_ne z)
    | cons p r => exact ⟨p, r, rfl⟩
  have lr : r.length ≤ 501 := by rw [er] at pl; simp at pl; omega
  have lp : p.length ≤ 1000 := Nat.le_trans (pm p (by rw [er]; simp)) lz
  have lpr : ∀ x ∈ r, x.length ≤ 1000 := fun x hx => Nat.le_trans (pm x (by rw [er]; simp [hx])) lz
  refine ⟨_, rfl, rfl, _, _, rfl, rfl, by rw [sep_is]; rfl, by rw [sizeLine_eq]; omega, by rw [sep_is, sizeLine_eq]; omega, fun l hl => ?_⟩
  have e1 : upd H l (.lst ((Txt.split z (Str.ofString "; ")).map V.str)) l = some (.lst ((p :: r).map V.str)) := by rw [upd_same, sep_is, er]
  have s1 : Same H (upd H l (.lst ((Txt.split z (Str.ofString "; ")).map V.str))) := Same.laid hl
  generalize upd H l (.lst ((Txt.split z (Str.ofString "; ")).map V.str)) = H1 at e1 s1 ⊢
  have j0 : atI ((p :: r).map V.str) 0 = some (V.str p) := atI_nat (j := 0) rfl
  refine ⟨_, rfl, l, _, 0, _, rfl, rfl, SqL.of e1, j0, p, rfl, by omega, _, rfl, ?_⟩
  cases cb : cntB p with
  | false =>
    have dz := due_count er cb
    exact iteT (raised (by rw [← dz]; exact k2 (by rw [dz]; decide)) s1)
  | true =>
  obtain ⟨ep, c1, c8⟩ := cnt_dg cb
  have kd := fun (i : Nat) (q : Str) => due_part (i := i) (q := q) er cb
  have ka := due_all er cb
  generalize hN : cntN p = N at ep c1 c8 kd ka
  have ci' : PySem.intText? p = some (N : Int) := by rw [ep]; exact int_dg (by omega)
  refine iteF ⟨_, rfl, l, _, 0, _, rfl, rfl, SqL.of e1, j0, p, (N : Int), rfl, ci', (by rw [ep]; show 1 ≤ 640; decide), Nat.zero_le _, fun g hg => ?_⟩
  have s2 : Same H1 (upd H1 g (.lst [])) := Same.laid hg
  have e12 := s2 _ _ e1
  have eg : upd H1 g (.lst []) g = some (.lst []) := upd_same
  have ng : H g = none := s1.free hg
  generalize upd H1 g (.lst []) = H2 at s2 e12 eg ⊢
  have s12 := s1.trans s2
  refine ⟨_, rfl, _, rfl, l, _, rfl, SqL.of e12, fun t ht => ?_⟩
  rw [cut_tail, List.map_cons, List.tail_cons]
  have s3 : Same H2 (upd H2 t (.lst (r.map V.str))) := Same.laid ht
  have et : upd H2 t (.lst (r.map V.str)) t = some (.lst (r.map V.str)) := upd_same
  have gt : g ≠ t := ne_of_none eg ht
  have eg3 := s3 _ _ eg
  have nl : l ≠ g := fun w => by rw [w] at e1; rw [e1] at hg; cases hg
  generalize upd H2 t (.lst (r.map V.str)) = H3 at s3 et eg3 ⊢
  have s13 := s12.trans s3
  have lw : (r.map V.str).length = r.length := by simp
  refine ⟨t, 1, rfl, rfl, by decide +kernel, ⟨_, SqL.of et⟩, for_J (J := Itk K t 1) r.length (fun i σ H4 => ∃ (us : List V) (ws : List (W × W)) (z4 z5 : Option V), σ = [some (.str z), some (.ref l), some (.int N), some (.ref g), z4, z5] ∧ Same H H4 ∧ H4 t = some (.lst (r.map V.str)) ∧ H4 l = some (.lst ((p :: r).map V.str)) ∧ H4 g = some (.lst us) ∧ Ps H4 us ws ∧ us.length = i ∧ Good N ws ∧ r.take i = ws.map cP) ⟨[], [], none, none, rfl, s13, et, s3 _ _ e12, eg3, .nil, rfl, fun x hx => by simp at hx, rfl⟩ ?_ ?_ ?_ ?_⟩
  · rintro i σ H4 hi ⟨us, ws, z4, z5, rfl, s4, e4, _⟩
    exact itk_go (Same.refl _) (SqL.of e4) (by rw [lw]; exact hi)
  · rintro σ H4 ⟨us, ws, z4, z5, rfl, s4, e4, _⟩
    have := itk_stop (j := 1) (K := K) (Same.refl H4) (SqL.of e4)
    rw [lw] at this
    exact this
  · rintro i σ H4 x H4' hi ⟨us, ws, z4, z5, rfl, s4, e4, l4, g4, p4, lu, gw, tk⟩ y
    obtain ⟨T', v, rfl, hv, hT, rfl⟩ := itk_yld (Same.refl _) (SqL.of e4) y
    obtain ⟨q, hq⟩ : ∃ q, r[i]? = some q := ⟨_, List.getElem?_eq_getElem hi⟩
    have ev : v = V.str q := by
      rw [List.getElem?_map, hq] at hv
      exact (Option.some.inj hv).symm
    subst ev
    have lq := lpr q (List.mem_of_getElem? hq)
    have s5 : Same H4 (upd H4 T' (.tup [.int (1 + (i : Int)), V.str q])) := Same.laid hT
    have eT : upd H4 T' (.tup [.int (1 + (i : Int)), V.str q]) T' = some (.tup [.int (1 + (i : Int)), V.str q]) := upd_same
    generalize upd H4 T' (.tup [.int (1 + (i : Int)), V.str q]) = H5 at s5 eT ⊢
    refine ⟨T', _, rfl, SqT.of eT, rfl, _, _, rfl, _, _, rfl, rfl, ?_⟩
    refine ⟨_, rfl, _, rfl, N, q, rfl, c8, by omega, _, rfl, ?_⟩
    cases wb : wsB N q with
    | false =>
      have dz := kd i q (fun j x hj hx => ?_) hq wb
      · refine iteT ⟨_, rfl, ?_⟩
        have e : (1 : Int) + (i : Int) = due z := by rw [dz]; omega
        rw [e]
        exact raised (k2 (by rw [dz]; omega)) (s4.trans s5)
      · have hx' : (r.take i)[j]? = some x := by rw [List.getElem?_take, if_pos hj]; exact hx
        rw [tk, List.getElem?_map] at hx'
        obtain ⟨pr, hpr, rfl⟩ := Option.map_eq_some_iff.mp hx'
        have := gw pr (List.mem_of_getElem? hpr)
        exact ws_of this.1 this.2
    | true =>
      obtain ⟨pr, rfl, i1, i2⟩ := ws_cP wb
      refine iteF ?_
      have g5 := s5 _ _ g4
      refine ⟨_, rfl, .inl ⟨rfl, _, SqL.of g5⟩, _, rfl, 2, rfl, _, rfl, (by show 4 ≤ sizeLine; decide), pr.1, by rw [cut_lo]; rfl, inUp i1 c8, fun H6 a s6 wa => ?_⟩
      refine ⟨_, rfl, 2, rfl, _, rfl, (by show 4 ≤ sizeLine; decide), pr.2, by rw [cut_hi]; rfl, inUp i2 c8, fun H7 b s7 wb' => ⟨(by show 2 ≤ sizeLine; decide), fun q' hq' => ?_⟩⟩
      have s47 := (s5.trans s6).trans s7
      have s8 : Same H7 (upd H7 q' (.tup [a, b])) := Same.laid hq'
      have s48 := s47.trans s8
      have g8 := s48 _ _ g4
      have eq8 : upd H7 q' (.tup [a, b]) q' = some (.tup [a, b]) := upd_same
      have wa8 := (wa.same s7).same s8
      have wb8 := wb'.same s8
      generalize upd H7 q' (.tup [a, b]) = H8 at s8 s48 g8 eq8 wa8 wb8 ⊢
      refine ⟨g, us, _, rfl, rfl, g8, by rw [sizeLine_eq]; omega, ?_⟩
      have tp : Tups H8 (upd H8 g (.lst (us ++ [.ref q']))) := lst_notup g8
      have tg : t ≠ g := gt.symm
      refine ⟨us ++ [.ref q'], ws ++ [pr], _, _, rfl, (s4.trans s48).chg ng, by rw [upd_ne tg]; exact s48 _ _ e4, by rw [upd_ne nl]; exact s48 _ _ l4, upd_same, Paired.snoc ((p4.same s48).tups tp) ⟨q', a, b, rfl, tp _ _ eq8, wa8.tups tp, wb8.tups tp⟩, by simp [lu], fun x hx => ?_, ?_⟩
      · rcases List.mem_append.mp hx with w' | w'
        · exact gw x w'
        · have : x = pr := by simpa using w'
          subst this
          exact ⟨i1, i2⟩
      · rw [List.take_add_one, hq, tk, List.map_append]
        rfl
  · rintro σ H4 ⟨us, ws, z4, z5, rfl, s4, e4, l4, g4, p4, lu, gw, tk⟩
    rw [List.take_length] at tk
    have lws : ws.length = r.length := by rw [tk, List.length_map]
    have dz := ka fun j x hx => by
      rw [tk, List.getElem?_map] at hx
      obtain ⟨pr, hpr, rfl⟩ := Option.map_eq_some_iff.mp hx
      have := gw pr (List.mem_of_getElem? hpr)
      exact ws_of this.1 this.2
    refine ⟨_, rfl, g, us, rfl, .inl (SqL.of g4), _, _, rfl, rfl, _, rfl, iteD (fun big => ?_) (fun small => ?_)⟩
    · have big' : 24 < r.length := by omega
      rw [if_pos big'] at dz
      refine ⟨_, rfl, l, _, rfl, .inl (SqL.of l4), ?_⟩
      have e : (((p :: r).map V.str).length : Int) = due z := by rw [dz]; simp
      rw [e]
      exact raised (k2 (by rw [dz]; omega)) s4
    · have small' : ¬ 24 < r.length := by omega
      rw [if_neg small'] at dz
      have gh : GoodH N ws := ⟨c1, c8, by omega, gw⟩
      have ez : z = cT N ws := read_cT (by rw [er, ep, tk]; rfl)
      refine ⟨_, rfl, _, rfl, fun x dq nq ndq neq => made_house nq ndq neq g4 p4 gh fun H5 s5 hh => ?_⟩
      exact k1 N ws gh ez dz H5 _ (s4.trans s5) hh
end
end L2

end

section
set_option autoImplicit false
set_option maxRecDepth 100000
set_option linter.all false
namespace L2
open PySem PySem.Spec PyProof.Rows EoD Eo
/-- the other refusals, and that a BadText is none of them -/
structure ExB (K : PySem.W.Frag) (mg : Str → Option Value) (BT BC BH BW CU : Addr) : Prop where
  mC : mg "BadChoice" = some (.ref BC)
  mH : mg "BadHouse" = some (.ref BH)
  mW : mg "BadWord" = some (.ref BW)
  mU : mg "Unpleased" = some (.ref CU)
  kC : PySem.W.kitOne K (.ref BT) (.ref BC) = some false
  kH : PySem.W.kitOne K (.ref BT) (.ref BH) = some false
  kW : PySem.W.kitOne K (.ref BT) (.ref BW) = some false
  kU : PySem.W.kitOne K (.ref BT) (.ref CU) = some false
  kT : PySem.W.kitOne K (.ref BT) (.ref BT) = some true
  kV : PySem.W.kitOne K (.ref BT) (.type "ValueError") = some true
theorem kqT {K : PySem.W.Frag} {CU : Addr} {T : String} {b : Bool} (h : PySem.W.kitOne K (.ref CU) (.type T) = some b) : ∀ u, RelV (.ty T) u → PySem.W.kitOne K (.ref CU) u = some b := fun u hu => by
  obtain rfl : u = Value.type T := hu
  exact h
theorem bt_ve : bootBuiltins "ValueError" = some (.type "ValueError") := by decide +kernel
theorem pe_neg {X : Cx} {p q : Pos} {k : Nat} {n : Int} : PE X (.UnaryOp .USub (.Constant (.int n) k p) q) (tC (.int (-n))) := fun pins s σ H Q I h => pe_un un_neg pe_int pins s σ H Q I ⟨n, rfl, h⟩
section
variable {P : Program} {w : World} {K : PySem.W.Frag} {mg : Str → Option Value} {base : Heap} {C CW BT fB BC BH BW CU : Addr}
theorem sc_l7ref : FnScope ["_law_text", "error", "_law_others"] ["_law_text"] (defScope S_l7ref) := ⟨rfl, rfl, rfl, by decide +kernel, rfl, by decide +kernel, by decide +kernel⟩
inductive X_sp_l7ref (K : PySem.W.Frag) (vs : List V) (H : Hp) (Q : VK) (E : XK) : Prop
  | mk (v : V) (z_1 : vs = [v]) (z_2 : ((∃ z, v = .str z ∧ z.length ≤ 1000 ∧ ∀ H', Same H H' → Q (.int (due z)) H') ∨ (∃ t, TyOf K H v t ∧ PySem.W.kitOne K t (.type "str") = some false ∧ ∀ H', Same H H' → Q (.int 0) H')))
def sp_l7ref (K : PySem.W.Frag) : Sp := fun vs H Q E => X_sp_l7ref K vs H Q E
set_option maxHeartbeats 4000000 in
theorem ok_l7ref (D : Def K mg "_law_refused" S_l7ref ["_law_text"]) (B : Bare mg) (any : mg "any" = none) (ve : mg "ValueError" = none) (Z : ExF K mg CW BT fB "BadText" "place") (cW : PySem.W.CatchOf K CW) (Y : ExB K mg BT BC BH BW CU)
    (cs' : CalX P w K mg base "read" 6 ["text"] (sp_readX K C BT)) : Cal P w K mg base "_law_refused" 7 ["_law_text"] (sp_l7ref K) := by
  refine D.cal (k := 6) sc_l7ref (fun vs H Q E h => by obtain ⟨_, rfl, _⟩ := h; rfl) (fun f cdv A outer s H vs Q E hr h => ?_)
  obtain ⟨v, rfl, alt⟩ := h
  refine ⟨_, pss_cons (ps_try (i := 1) cs' hr rfl ⟨rfl, rfl⟩ (fun _ => pa_cons (pv 0) pa_nil) rfl Z.mW cW sc_l7ref.nd rfl rfl (fun e oe ovs hda =>
      pss_cons (ps_set (i := 2) sc_l7ref.nd rfl (Or.inl rfl) (pe_lst (pa_cons (pe_isX B mem_hcx hda (pv 1) rfl rfl Y.mC) (pa_cons (pe_isX B mem_hcx hda (pv 1) rfl rfl Y.mH) (pa_cons (pe_isX B mem_hcx hda (pv 1) rfl rfl Y.mW) pa_nil)))))
      (pss_cons (ps_if (PW.pt (pw_or (pt_val (pe_callB (call_anyB rfl) rfl any bt_any (pa_cons (pv 2) pa_nil))) (pw_or (pt_val (pe_isX B mem_hcx hda (pv 1) rfl rfl Y.mU)) (pw_or1 (pt_not (pt_val (pe_isX B mem_hcx hda (pv 1) rfl rfl Z.mU))))))) (pss_one (ps_ret pe_neg)) pss_nil)
      (pss_one (ps_ret (pe_ifExp (pt_val (pe_isXT B mem_hcx hda (pv 1) rfl rfl ve bt_ve)) (pe_xget mem_hcx hda (pv 1) rfl) pe_neg))))))
    (pss_one (ps_ret pe_neg)), ?_⟩
  have thrown : ∀ (n : Int), (∀ H', Same H H' → Q (.int n) H') → ∀ (H2 : Hp) (d e : Addr) (oe : Obj), Same H H2 → H2 d = some (.xd [("place", .int n)]) → oe.cls = .ref BT → oe.dict = some d →
      ∀ (k : ∀ (H3 : Hp), Same H H3 → Q (.int n) H3), ∀ q, H2 q = none → Same H (upd H2 q (.lst [V.bl false, V.bl false, V.bl false])) := fun n kk H2 d e oe s2 hd ec ed k q hq => s2.laidT hq
  rcases alt with ⟨z, rfl, lz, k⟩ | ⟨t, ty, kt, k⟩
  · refine ⟨_, rfl, _, rfl, .inl ⟨z, rfl, lz, fun N ws gh ez dz H2 v s2 hh => ?_, fun dn H2 d s2 hd => ⟨BT, rfl, Z.up, fun e oe he ec ed => ?_⟩⟩⟩
    · have := k H2 s2
      rw [dz] at this
      exact this
    · refine ⟨_, rfl, _, BT, _, rfl, kq Y.kC, ec, Z.xc, .inr ⟨d, _, ed, hd⟩, _, rfl, _, BT, _, rfl, kq Y.kH, ec, Z.xc, .inr ⟨d, _, ed, hd⟩, _, rfl, _, BT, _, rfl, kq Y.kW, ec, Z.xc, .inr ⟨d, _, ed, hd⟩, (by show 3 ≤ sizeLine; decide), fun q hq => ?_⟩
      have t3 : Same H2 (upd H2 q (.lst [V.bl false, V.bl false, V.bl false])) := Same.laid hq
      refine ⟨_, rfl, q, [false, false, false], rfl, SqL.of upd_same, _, rfl, iteF ⟨_, rfl, _, BT, _, rfl, kq Y.kU, ec, Z.xc, .inr ⟨d, _, ed, t3 _ _ hd⟩, _, rfl, iteF ⟨_, rfl, _, BT, _, rfl, kq Y.kT, ec, Z.xc, .inr ⟨d, _, ed, t3 _ _ hd⟩, _, rfl, iteF ?_⟩⟩⟩
      refine ⟨_, rfl, _, BT, _, rfl, kqT Y.kV, ec, Z.xc, .inr ⟨d, _, ed, t3 _ _ hd⟩, _, rfl, iteT ⟨_, rfl, BT, d, _, _, rfl, ec, ed, Z.xc, Z.na, t3 _ _ hd, xd_one, k _ (s2.trans t3)⟩⟩
  · refine ⟨_, rfl, _, rfl, .inr ⟨t, ty, kt, fun H2 d s2 hd => ⟨BT, rfl, Z.up, fun e oe he ec ed => ?_⟩⟩⟩
    refine ⟨_, rfl, _, BT, _, rfl, kq Y.kC, ec, Z.xc, .inr ⟨d, _, ed, hd⟩, _, rfl, _, BT, _, rfl, kq Y.kH, ec, Z.xc, .inr ⟨d, _, ed, hd⟩, _, rfl, _, BT, _, rfl, kq Y.kW, ec, Z.xc, .inr ⟨d, _, ed, hd⟩, (by show 3 ≤ sizeLine; decide), fun q hq => ?_⟩
    have t3 : Same H2 (upd H2 q (.lst [V.bl false, V.bl false, V.bl false])) := Same.laid hq
    refine ⟨_, rfl, q, [false, false, false], rfl, SqL.of upd_same, _, rfl, iteF ⟨_, rfl, _, BT, _, rfl, kq Y.kU, ec, Z.xc, .inr ⟨d, _, ed, t3 _ _ hd⟩, _, rfl, iteF ⟨_, rfl, _, BT, _, rfl, kq Y.kT, ec, Z.xc, .inr ⟨d, _, ed, t3 _ _ hd⟩, _, rfl, iteF ?_⟩⟩⟩
    refine ⟨_, rfl, _, BT, _, rfl, kqT Y.kV, ec, Z.xc, .inr ⟨d, _, ed, t3 _ _ hd⟩, _, rfl, iteT ⟨_, rfl, BT, d, _, _, rfl, ec, ed, Z.xc, Z.na, t3 _ _ hd, xd_one, k _ (s2.trans t3)⟩⟩
abbrev N_due : List Str := ["_law_text", "_law_parts", "_law_figures", "_law_at", "_law_part"]
theorem sc_ldue : FnScope N_due ["_law_text"] (defScope S_ldue) := ⟨rfl, rfl, rfl, by decide +kernel, rfl, by decide +kernel, by decide +kernel⟩
inductive X_sp_ldue  (vs : List V) (H : Hp) (Q : VK) (E : XK) : Prop
  | mk (z : Str) (z_1 : vs = [.str z]) (z_2 : z.length ≤ 1000) (z_3 : ∀ H', Same H H' → Q (.int (due z)) H')
def sp_ldue : Sp := fun vs H Q E => X_sp_ldue  vs H Q E
def digs : List Str := [Str.ofString "1", Str.ofString "2", Str.ofString "3", Str.ofString "4", Str.ofString "5", Str.ofString "6", Str.ofString "7", Str.ofString "8"]
theorem digs_is : digs = [dg 1, dg 2, dg 3, dg 4, dg 5, dg 6, dg 7, dg 8] := by decide +kernel
theorem in_digs (p : Str) : inV (.str p) (digs.map V.str) = cntB p := by
  rw [digs_is]
  cases c : cntB p with
  | true =>
    obtain ⟨e, h1, h8⟩ := cnt_dg c
    rw [e]
    generalize cntN p = n at h1 h8
    have : n = 1 ∨ n = 2 ∨ n = 3 ∨ n = 4 ∨ n = 5 ∨ n = 6 ∨ n = 7 ∨ n = 8 := by omega
    rcases this with rfl | rfl | rfl | rfl | rfl | rfl | rfl | rfl <;> decide
  | false =>
    rw [show ∀ b : Bool, (b = false) ↔ ¬ (b = true) from fun b => by cases b <;> simp]
    intro h
    unfold inV at h
    rw [List.any_eq_true] at h
    obtain ⟨v, hv, e⟩ := h
    obtain ⟨q, hq, rfl⟩ := List.mem_map.mp hv
    have e' : q = p := eq_of_beq e
    subst e'
    simp only [List.mem_cons, List.not_mem_nil, or_false] at hq
    rcases hq with rfl | rfl | rfl | rfl | rfl | rfl | rfl | rfl <;> exact absurd c (by decide)
theorem flat_strs (l : List Str) : (l.map V.str).all flatV = true := by
  rw [List.all_map, List.all_eq_true]
  intro x _
  rfl
theorem ws4 (N : Nat) (p : Str) (h : p.length ≠ 4) : wsB N p = false := by
  have hl := Eo.len_list p
  unfold wsB
  split
  · rename_i a b c d e
    rw [e] at hl
    exact absurd hl.symm h
  · rfl
theorem list4 {l : List Nat} (h : l.length = 4) : ∃ a b c d, l = [a, b, c, d] := by
  match l, h with
  | [a, b, c, d], _ => exact ⟨a, b, c, d, rfl⟩
set_option maxHeartbeats 8000000 in
theorem ok_ldue (D : Def K mg "_law_due" S_ldue ["_law_text"]) (B : Bare mg) : Cal P w K mg base "_law_due" 1 ["_law_text"] sp_ldue := by
  refine D.cal (k := 0) sc_ldue (fun vs H Q E h => by obtain ⟨_, rfl, _⟩ := h; rfl) (fun f cdv A outer s H vs Q E hr h => ?_)
  obtain ⟨z, rfl, lz, k⟩ := h
  refine ⟨_, pss_cons (ps_set (i := 1) sc_ldue.nd rfl (Or.inl rfl) (pe_split (pv 0) pe_str))
    (pss_cons (ps_if (pt_cmpR op_notIn_seq (pe_ix ix_list (pv 1) pe_int (fun _ _ => rfl)) (pe_lst (pa_cons pe_str (pa_cons pe_str (pa_cons pe_str (pa_cons pe_str (pa_cons pe_str (pa_cons pe_str (pa_cons pe_str (pa_cons pe_str pa_nil))))))))) (by with_unfolding_all rfl)) (pss_one (ps_ret pe_int)) pss_nil)
    (pss_cons (ps_set (i := 2) sc_ldue.nd rfl (Or.inl rfl) (pe_slice sl_str pe_str po_none (po_some (pe_callTy call_intT rfl B.int bt_int (pa_cons (pe_ix ix_list (pv 1) pe_int (fun _ _ => rfl)) pa_nil)))))
    (pss_cons (ps_for PassesOwn.never rfl (pi_range2 rfl B.rng (pa_cons pe_int (pa_cons (pe_callB call_len_seq rfl B.len bt_len (pa_cons (pv 1) pa_nil)) pa_nil))) (pg_name (i := 3) sc_ldue.nd rfl (Or.inl rfl))
      (pss_cons (ps_set (i := 4) sc_ldue.nd rfl (Or.inl rfl) (pe_ix ix_list (pv 1) (pv 3) (fun _ _ => rfl)))
      (pss_cons (ps_if (PW.pt (pw_or (pt_cmpR op_ne (pe_callB call_len_str rfl B.len bt_len (pa_cons (pv 4) pa_nil)) pe_int (nomark _)) (pw_or (pt_cmpR op_notin_str (pe_ix ix_str (pv 4) pe_int (fun _ _ => rfl)) (pv 2) (by with_unfolding_all rfl)) (pw_or1 (pt_cmpR op_notin_str (pe_ix ix_str (pv 4) pe_int (fun _ _ => rfl)) (pv 2) (by with_unfolding_all rfl)))))) (pss_one (ps_ret (pv 3))) pss_nil)
      (pss_one (ps_if (PW.pt (pw_or (pt_cmpR op_notin_str (pe_ix ix_str (pv 4) pe_int (fun _ _ => rfl)) pe_str (by with_unfolding_all rfl)) (pw_or1 (pt_cmpR op_notin_str (pe_ix ix_str (pv 4) pe_int (fun _ _ => rfl)) pe_str (by with_unfolding_all rfl))))) (pss_one (ps_ret (pv 3))) pss_nil)))))
    (pss_one (ps_ret (pe_ifExp (pt_cmpR op_gt (pe_callB call_len_seq rfl B.len bt_len (pa_cons (pv 1) pa_nil)) pe_int (nomark _)) (pe_callB call_len_seq rfl B.len bt_len (pa_cons (pv 1) pa_nil)) pe_m1)))))), ?_⟩
  obtain ⟨pl, pm⟩ := parts_le z
  obtain ⟨p, r, er⟩ : ∃ p r, Txt.split z SEP = p :: r := by
    cases e : Txt.split z SEP with
    | nil => exact absurd e (split_ne z)
    | cons p r => exact ⟨p, r, rfl⟩
  have lr : r.length ≤ 501 := by rw [er] at pl; simp at pl; omega
  have lpr : ∀ x ∈ r, x.length ≤ 1000 := fun x hx => Nat.le_trans (pm x (by rw [er]; simp [hx])) lz
  refine ⟨_, rfl, rfl, _, _, rfl, rfl, by rw [sep_is]; rfl, by rw [sizeLine_eq]; omega, by rw [sep_is, sizeLine_eq]; omega, fun l hl => ?_⟩
  have e1 : upd H l (.lst ((Txt.split z (Str.ofString "; ")).map V.str)) l = some (.lst ((p :: r).map V.str)) := by rw [upd_same, sep_is, er]
  have s1 : Same H (upd H l (.lst ((Txt.split z (Str.ofString "; ")).map V.str))) := Same.laid hl
  generalize upd H l (.lst ((Txt.split z (Str.ofString "; ")).map V.str)) = H1 at e1 s1 ⊢
  have j0 : atI ((p :: r).map V.str) 0 = some (V.str p) := atI_nat (j := 0) rfl
  refine ⟨_, rfl, l, _, 0, _, rfl, rfl, SqL.of e1, j0, (by show 8 ≤ sizeLine; decide), fun q hq => ?_⟩
  generalize hH : upd H1 q (HO.lst _) = H2
  have s2 : Same H1 H2 := by rw [← hH]; exact Same.laid hq
  have eq2 : H2 q = some (.lst (digs.map V.str)) := by rw [← hH, upd_same]; rfl
  clear hH
  refine ⟨q, digs.map V.str, rfl, .inl (SqL.of eq2), rfl, flat_strs _, _, rfl, ?_⟩
  rw [if_pos rfl, in_digs]
  have e12 := s2 _ _ e1
  have s12 := s1.trans s2
  cases cb : cntB p with
  | false =>
    have dz := due_count er cb
    have := k H2 s12
    rw [dz] at this
    exact iteT this
  | true =>
  obtain ⟨ep, c1, c8⟩ := cnt_dg cb
  have kd := fun (i : Nat) (q : Str) => due_part (i := i) (q := q) er cb
  have ka := due_all er cb
  generalize hN : cntN p = N at ep c1 c8 kd ka
  have ci' : PySem.intText? p = some (N : Int) := by rw [ep]; exact int_dg (by omega)
  refine iteF ⟨_, rfl, l, _, 0, _, rfl, rfl, SqL.of e12, j0, p, (N : Int), rfl, ci', (by rw [ep]; show 1 ≤ 640; decide), _, rfl, _, rfl, (by rw [names_is, sizeLine_eq]; decide), ?_⟩
  rw [names_is]
  have lsl : (Txt.slice ⟨#[48, 49, 50, 51, 52, 53, 54, 55]⟩ none (some (N : Int))).length ≤ 8 := Txt.slice_le _ _ _
  refine ⟨_, rfl, l, _, rfl, .inl (SqL.of e12), 1, _, rfl, ⟨by decide, by decide, by rw [List.length_map]; simp; omega, by rw [List.length_map]; simp; omega⟩, ?_⟩
  have en : ((((p :: r).map V.str).length : Int) - 1).toNat = r.length := by simp
  refine for_range (lo := 1) (n := ((((p :: r).map V.str).length : Int) - 1).toNat) (fun i σ H4 => ∃ (z3 z4 : Option V), σ = [some (.str z), some (.ref l), some (.str (Txt.slice ⟨#[48, 49, 50, 51, 52, 53, 54, 55]⟩ none (some (N : Int)))), z3, z4] ∧ H4 = H2 ∧ ∀ j x, j < i → r[j]? = some x → wsB N x = true) ⟨none, none, rfl, rfl, fun j x hj => by omega⟩ ?_ ?_
  · rintro i σ H4 hi ⟨z3, z4, rfl, rfl, all⟩
    rw [en] at hi
    obtain ⟨x, hx⟩ : ∃ x, r[i]? = some x := ⟨_, List.getElem?_eq_getElem hi⟩
    have lx := lpr x (List.mem_of_getElem? hx)
    have lxz : x.length ≤ sizeLine := by rw [sizeLine_eq]; omega
    have ji : atI ((p :: r).map V.str) (1 + (i : Int)) = some (V.str x) := by
      rw [show (1 : Int) + (i : Int) = ((i + 1 : Nat) : Int) by omega]
      refine atI_nat ?_
      rw [List.map_cons, List.getElem?_cons_succ, List.getElem?_map, hx]
      rfl
    have hl4 := Eo.len_list x
    have stop : wsB N x = false → Q (.int (1 + (i : Int))) H4 := fun wb => by
      have dz := kd i x all hx wb
      have := k H4 s12
      rw [dz] at this
      rw [show (1 : Int) + (i : Int) = (i : Int) + 1 by omega]
      exact this
    refine ⟨_, rfl, _, rfl, l, _, _, _, rfl, rfl, SqL.of e12, ji, ?_⟩
    refine ⟨_, rfl, _, rfl, lxz, rfl, _, rfl, iteB (fun e => ⟨_, rfl, stop (ws4 N x fun z => ?_)⟩) (fun e => ?_)⟩
    · simp [z] at e
    have e4 : x.length = 4 := by
      have := (show ¬ ((!decide (V.int (x.length : Int) = V.int 4)) = true) from by simpa using e)
      simp at this
      omega
    obtain ⟨a, b, c, d, ex⟩ := list4 (hl4.trans e4)
    have exx := str_list ex
    subst exx
    have i0 : atI (⟨#[a, b, c, d]⟩ : Str).cps.toList 0 = some a := rfl
    have i1 : atI (⟨#[a, b, c, d]⟩ : Str).cps.toList 1 = some b := rfl
    have i2 : atI (⟨#[a, b, c, d]⟩ : Str).cps.toList 2 = some c := rfl
    have i3 : atI (⟨#[a, b, c, d]⟩ : Str).cps.toList 3 = some d := rfl
    have wv : wsB N ⟨[a, b, c, d].toArray⟩ = (decide (fig N a) && decide (sgn b) && decide (fig N c) && decide (sgn d)) := rfl
    rw [wv] at stop
    refine ⟨_, rfl, _, _, _, rfl, rfl, lxz, i0, _, rfl, _, _, rfl, rfl, _, rfl, ?_⟩
    rw [in_nam c8 a]
    refine iteB (fun ea => ⟨_, rfl, stop ?_⟩) (fun ea => ?_)
    · have : decide (fig N a) = false := by simpa using ea
      rw [this]; rfl
    have ea' : decide (fig N a) = true := by simpa using ea
    refine ⟨_, rfl, _, _, _, rfl, rfl, lxz, i2, _, rfl, _, _, rfl, rfl, _, rfl, ?_⟩
    rw [in_nam c8 c]
    refine iteB (fun ec => ⟨_, rfl, stop ?_⟩) (fun ec => ?_)
    · have : decide (fig N c) = false := by simpa using ec
      rw [this, Bool.and_false]; rfl
    have ec' : decide (fig N c) = true := by simpa using ec
    refine ⟨_, rfl, _, _, _, rfl, rfl, lxz, i1, _, _, rfl, rfl, _, rfl, ?_⟩
    rw [signs_is]
    change if (!(!(Builtin.Str.occurrences ⟨#[43, 45]⟩ ⟨#[b]⟩ 0 2 1).isEmpty)) = true then _ else _
    rw [in_sgn]
    refine iteB (fun eb => ⟨_, rfl, stop ?_⟩) (fun eb => ?_)
    · have : decide (sgn b) = false := by simpa using eb
      rw [this, Bool.and_false]; rfl
    have eb' : decide (sgn b) = true := by simpa using eb
    refine ⟨_, rfl, _, _, _, rfl, rfl, lxz, i3, _, _, rfl, rfl, _, rfl, ?_⟩
    change if (!(!(Builtin.Str.occurrences ⟨#[43, 45]⟩ ⟨#[d]⟩ 0 2 1).isEmpty)) = true then _ else _
    rw [in_sgn]
    refine iteB (fun ed => ⟨_, rfl, stop ?_⟩) (fun ed => ?_)
    · have : decide (sgn d) = false := by simpa using ed
      rw [this, Bool.and_false]
    have ed' : decide (sgn d) = true := by simpa using ed
    refine ⟨_, _, rfl, rfl, fun j y hj hy => ?_⟩
    by_cases ej : j = i
    · subst ej
      rw [hx] at hy
      cases hy
      rw [wv, ea', eb', ec', ed']
      rfl
    · exact all j y (by omega) hy
  · rintro σ H4 ⟨z3, z4, rfl, rfl, all⟩
    rw [en] at all
    have dz := ka fun j x hx => all j x (List.getElem?_eq_some_iff.mp hx).1 hx
    have lL : (((p :: r).map V.str).length : Int) = (r.length : Int) + 1 := by simp
    refine ⟨_, rfl, l, _, rfl, .inl (SqL.of e12), _, _, rfl, rfl, _, rfl, ?_⟩
    have kk := k H4 s12
    refine iteD (fun big => ⟨_, rfl, l, _, rfl, .inl (SqL.of e12), ?_⟩) (fun small => ?_)
    · rw [dz, if_pos (by omega)] at kk
      rw [lL]
      exact kk
    · rw [dz, if_neg (by omega)] at kk
      exact kk
end
end L2

end

section
set_option autoImplicit false
set_option maxRecDepth 100000
set_option linter.all false
namespace L2
open PySem PySem.Spec PyProof.Rows EoD Eo
theorem at_some {l : List Nat} {i : Int} (h0 : 0 ≤ i) (h1 : i < l.length) : ∃ c, atI l i = some c := by
  obtain ⟨j, rfl⟩ := Int.eq_ofNat_of_zero_le h0
  exact ⟨_, atI_nat (List.getElem?_eq_getElem (by omega))⟩
theorem len_cat (a b : Str) : (a ++ b).length = a.length + b.length := by
  rw [← Eo.len_list, PySem.Str.cps_append, Array.toList_append, List.length_append, Eo.len_list, Eo.len_list]
section
variable {P : Program} {w : World} {K : PySem.W.Frag} {mg : Str → Option Value} {base : Heap} {C BT : Addr}
theorem sc_l7right : FnScope ["_law_text", "_law_due_here"] ["_law_text"] (defScope S_l7right) := ⟨rfl, rfl, rfl, by decide +kernel, rfl, by decide +kernel, by decide +kernel⟩
def sp_l7right : Sp := fun vs H Q _ => ∃ (z : Str), vs = [.str z] ∧ z.length ≤ 1000 ∧ ∀ H', Same H H' → Q (.bl true) H'
theorem ok_l7right (D : Def K mg "_law_right" S_l7right ["_law_text"]) (cd : Cal P w K mg base "_law_due" 1 ["_law_text"] sp_ldue) (cr : Cal P w K mg base "_law_refused" 7 ["_law_text"] (sp_l7ref K)) (crd : CalX P w K mg base "read" 6 ["text"] (sp_readX K C BT)) (cw : Cal P w K mg base "written" 2 ["house"] (sp_written C)) :
    Cal P w K mg base "_law_right" 8 ["_law_text"] sp_l7right := by
  refine D.cal (k := 7) sc_l7right (fun vs H Q E h => by obtain ⟨_, rfl, _⟩ := h; rfl) (fun f cdv A outer s H vs Q E hr h => ?_)
  obtain ⟨z, rfl, lz, k⟩ := h
  have hr1 : Room 1 _ := hr.mono (by decide)
  have hr2 : Room 2 _ := hr.mono (by decide)
  have hr6 : Room 6 _ := hr.mono (by decide)
  refine ⟨_, pss_cons (ps_set (i := 1) sc_l7right.nd rfl (Or.inl rfl) (pe_cal cd hr1 rfl (pa_cons (pv 0) pa_nil)))
    (pss_cons (ps_if (pt_cmpR op_ne (pe_cal cr hr rfl (pa_cons (pv 0) pa_nil)) (pv 1) (nomark _)) (pss_one (ps_ret pe_bl)) pss_nil)
    (pss_one (ps_ret (pe_or (pe_cmpR op_ge (pv 1) pe_int (nomark _)) (pe_one (pe_cmpR op_eq (pe_cal cw hr2 rfl (pa_cons (pe_calX crd hr6 rfl thr_never (pa_cons (pv 0) pa_nil)) pa_nil)) (pv 0) (nomark _))))))), ?_⟩
  refine ⟨_, rfl, z, rfl, lz, fun H1 s1 => ?_⟩
  refine ⟨_, rfl, _, rfl, .inl ⟨z, rfl, lz, fun H2 s2 => ⟨_, rfl, rfl, _, rfl, iteNS rfl ?_⟩⟩⟩
  have s12 := s1.trans s2
  refine ⟨_, rfl, _, _, rfl, rfl, _, rfl, iteD (fun _ => k H2 s12) (fun ng => ?_)⟩
  have dz : due z = -1 := Classical.byContradiction fun h => ng (due_ge h)
  refine ⟨_, rfl, _, rfl, .inl ⟨z, rfl, lz, fun N ws gh ez _ H3 v s3 hh => ⟨v, N, ws, rfl, hh, gh, fun H4 s4 => ⟨_, rfl, rfl, ?_⟩⟩, fun dn => absurd dz dn⟩⟩
  rw [ez, decide_eq_true rfl]
  exact k H4 ((s12.trans s3).trans s4)
abbrev N_other : List Str := ["_law_text", "_law_cell", "_law_k", "_law_at", "_law_sign", "_law_way"]
theorem sc_lother : FnScope N_other ["_law_text", "_law_cell", "_law_k"] (defScope S_lother) := ⟨rfl, rfl, rfl, by decide +kernel, rfl, by decide +kernel, by decide +kernel⟩
def sp_lother : Sp := fun vs H Q _ => ∃ (z : Str) (c kk : Int), vs = [.str z, .int c, .int kk] ∧ z.length ≤ 200 ∧ ∀ H' z', Same H H' → z'.length ≤ 1000 → Q (.str z') H'
theorem signs18 : (Str.ofString "0123456789;+- x" ++ Str.ofString "\t\n:").length = 18 := by decide +kernel
set_option maxHeartbeats 4000000 in
theorem ok_lother (D : Def K mg "_law_other" S_lother ["_law_text", "_law_cell", "_law_k"]) (B : Bare mg) (cd : Cal P w K mg base "_law_draw" 1 ["_law_cell", "_law_k", "_law_many"] sp_draw) : Cal P w K mg base "_law_other" 2 ["_law_text", "_law_cell", "_law_k"] sp_lother := by
  refine D.cal (k := 1) sc_lother (fun vs H Q E h => by obtain ⟨_, _, _, rfl, _⟩ := h; rfl) (fun f cdv A outer s H vs Q E hr h => ?_)
  obtain ⟨z, c, kk, rfl, lz, k⟩ := h
  refine ⟨_, pss_cons (ps_set (i := 3) sc_lother.nd rfl (Or.inl rfl) (pe_cal cd hr rfl (pa_cons (pv 1) (pa_cons (pv 2) (pa_cons (pe_op op_add (pe_callB call_len_str rfl B.len bt_len (pa_cons (pv 0) pa_nil)) pe_int) pa_nil)))))
    (pss_cons (ps_set (i := 4) sc_lother.nd rfl (Or.inl rfl) (pe_op op_add_str pe_str pe_str))
    (pss_cons (ps_set (i := 4) sc_lother.nd rfl (Or.inl rfl) (pe_ix ix_str (pv 4) (pe_cal cd hr rfl (pa_cons (pv 1) (pa_cons (pe_op op_add (pv 2) pe_int) (pa_cons (pe_callB call_len_str rfl B.len bt_len (pa_cons (pv 4) pa_nil)) pa_nil)))) (fun _ _ => rfl)))
    (pss_cons (ps_set (i := 5) sc_lother.nd rfl (Or.inl rfl) (pe_cal cd hr rfl (pa_cons (pv 1) (pa_cons (pe_op op_add (pv 2) pe_int) (pa_cons pe_int pa_nil)))))
    (pss_cons (ps_if (pt_cmpR op_eq (pv 5) pe_int (nomark _)) (pss_one (ps_ret (pe_op op_add_str (pe_op op_add_str (pe_slice sl_str (pv 0) po_none (po_some (pv 3))) (pv 4)) (pe_slice sl_str (pv 0) (po_some (pv 3)) po_none)))) pss_nil)
    (pss_one (ps_ret (pe_op op_add_str (pe_op op_add_str (pe_slice sl_str (pv 0) po_none (po_some (pv 3))) (pe_ix ix_list (pe_lst (pa_cons pe_str (pa_cons (pv 4) pa_nil))) (pe_op op_sub (pv 5) pe_int) (fun _ _ => rfl))) (pe_slice sl_str (pv 0) (po_some (pe_op op_add (pv 3) pe_int)) po_none)))))))), ?_⟩
  have lzz : z.length ≤ sizeLine := by rw [sizeLine_eq]; omega
  refine ⟨_, rfl, _, rfl, _, rfl, z, rfl, lzz, _, _, rfl, rfl, c, kk, _, rfl, by omega, fun H1 at' s1 a0 a1 => ?_⟩
  refine ⟨_, _, rfl, rfl, by rw [← len_cat, signs18, sizeLine_eq]; decide, ?_⟩
  refine ⟨_, rfl, _, rfl, _, rfl, _, _, rfl, rfl, _, rfl, _, rfl, by rw [signs18, sizeLine_eq]; decide, c, _, _, rfl, by rw [signs18]; decide, fun H2 sr s2 r0 r1 => ?_⟩
  obtain ⟨ch, hch⟩ := at_some (l := (Str.ofString "0123456789;+- x" ++ Str.ofString "\t\n:").cps.toList) r0 (by rw [Eo.len_list]; exact r1)
  refine ⟨_, sr, ch, rfl, rfl, by rw [signs18, sizeLine_eq]; decide, hch, ?_⟩
  refine ⟨_, rfl, _, rfl, _, _, rfl, rfl, c, _, 3, rfl, by decide, fun H3 way s3 w0 w3 => ?_⟩
  have s13 := (s1.trans s2).trans s3
  have l1 := Txt.slice_le z none (some at')
  have l2 := Txt.slice_le z (some at') none
  have l3 := Txt.slice_le z (some (at' + 1)) none
  have lc : (⟨#[ch]⟩ : Str).length = 1 := rfl
  refine ⟨_, rfl, rfl, _, rfl, iteD (fun _ => ?_) (fun nw => ?_)⟩
  · refine ⟨_, rfl, _, rfl, _, rfl, _, rfl, lzz, _, rfl, _, _, rfl, rfl, by rw [lc, sizeLine_eq]; omega, _, rfl, _, rfl, _, rfl, _, rfl, lzz, _, _, rfl, rfl, by rw [len_cat, lc, sizeLine_eq]; omega, ?_⟩
    exact k H3 _ s13 (by rw [len_cat, len_cat, lc]; omega)
  · have n0 : way ≠ 0 := fun e => nw (by rw [e])
    refine ⟨_, rfl, _, rfl, _, rfl, _, rfl, lzz, _, rfl, (by show 2 ≤ sizeLine; decide), fun q hq => ?_⟩
    have s4 := s13.laidT (o := .lst [V.str (Str.ofString ""), V.str ⟨#[ch]⟩]) hq
    obtain ⟨v, hv, mv⟩ := atI_in (xs := [V.str (Str.ofString ""), V.str ⟨#[ch]⟩]) (i := way - 1) (by omega) (by show way - 1 < 2; omega)
    obtain ⟨sv, rfl, lv⟩ : ∃ sv, v = V.str sv ∧ sv.length ≤ 1 := by
      simp only [List.mem_cons, List.not_mem_nil, or_false] at mv
      rcases mv with rfl | rfl
      · exact ⟨_, rfl, by decide +kernel⟩
      · exact ⟨_, rfl, Nat.le_refl _⟩
    refine ⟨_, rfl, _, _, rfl, rfl, q, _, _, _, rfl, rfl, SqL.of upd_same, hv, _, _, rfl, rfl, by rw [sizeLine_eq]; omega, ?_⟩
    refine ⟨_, rfl, _, rfl, _, _, rfl, rfl, _, rfl, _, rfl, lzz, _, _, rfl, rfl, by rw [len_cat, sizeLine_eq]; omega, ?_⟩
    exact k _ _ s4 (by rw [len_cat, len_cat]; omega)
abbrev N_law : List Str := ["_law_script", "_law_told_here", "_law_text", "_law_cell", "_law_few", "_law_full", "_law_other_here"]
theorem sc_law : FnScope N_law ["_law_script"] (defScope S_law) := ⟨rfl, rfl, rfl, by decide +kernel, rfl, by decide +kernel, by decide +kernel⟩
structure Calls7 (P : Program) (w : World) (K : PySem.W.Frag) (mg : Str → Option Value) (base : Heap) (C : Addr) : Prop where
  B : Bare mg
  told : Cal P w K mg base "_law_told" 3 ["_law_script", "_law_first"] (sp_told K)
  make : CalMk P w K mg base C "House" 4 ["self", "names", "wishes"] (sp_init C)
  wr : Cal P w K mg base "written" 2 ["house"] (sp_written C)
  cell : Cal P w K mg base "_law_cell_at" 1 ["_law_script", "_law_k"] (sp_cell K)
  other : Cal P w K mg base "_law_other" 2 ["_law_text", "_law_cell", "_law_k"] sp_lother
  right : Cal P w K mg base "_law_right" 8 ["_law_text"] sp_l7right
  ref : Cal P w K mg base "_law_refused" 7 ["_law_text"] (sp_l7ref K)
def few1 : List Str := [Str.ofString "", Str.ofString "0", Str.ofString "9", Str.ofString "8", Str.ofString " 3", Str.ofString "3 ", Str.ofString "3;", Str.ofString "3; ", Str.ofString "3; 0+1-", Str.ofString "3; 0+1-; ", Str.ofString "3;0+1-", Str.ofString "3; 0+3-", Str.ofString "3; 0+1", Str.ofString "3; 0 1-"]
def few2 : List Str := [Str.ofString "3; 0+1-2+", Str.ofString "3; +0-1", Str.ofString "3; 0-0-", Str.ofString "3; 00+1", Str.ofString "3; 0+1-;0+1-", Str.ofString "3; 0+1-; 0+1-", Str.ofString "3; 0+1-; x"]
def few3 : List Str := [Str.ofString "3; 0+1-\n", Str.ofString "3;  0+1-", Str.ofString "3\t; 0+1-", Str.ofString "03; 0+1-", Str.ofString "+3; 0+1-", Str.ofString "1; 0+1-", Str.ofString "1; 0+0-", Str.ofString "3, 0+1-"]
theorem few1_ok : ∀ t ∈ few1, t.length ≤ 1000 := by decide +kernel
theorem few2_ok : ∀ t ∈ few2, t.length ≤ 1000 := by decide +kernel
theorem few3_ok : ∀ t ∈ few3, t.length ≤ 1000 := by decide +kernel
def full : List Str := Str.ofString "2" :: List.replicate 24 (Str.ofString "0+1-")
theorem full_ok : JoinOk (Str.ofString "; ") full = true := by decide +kernel
theorem full_len : (Str.join (Str.ofString "; ") full).length = 145 := by decide +kernel
theorem ends_len : (Str.ofString "; 0+1-").length = 6 ∧ (Str.ofString "; 0+1-; x").length = 9 ∧ (Str.ofString "10; 0+1-").length = 8 := by decide +kernel
theorem full_is : [V.str (Str.ofString "2")] ++ (List.replicate (24 : Int).toNat [V.str (Str.ofString "0+1-")]).flatten = full.map V.str := rfl
abbrev te_l7 : TE := tCall sp_lother [] E0 (tCons (tVar 1) (tCons (tOp (rI0 fun i j => .int (i + j)) (tVar 2) (tOp (rI CMul fun i j => .int (i * j)) (tC (.int 31)) (tVar 0))) (tCons (tVar 0) tNil)))
abbrev te_l7b (K : PySem.W.Frag) : TE := tCall (sp_l7ref K) [] E0 (tCons (tVar 0) tNil)
theorem ps_few {X : Cx} {x : Str} {es : List Expr} {ts : List Str} {pos pos' pl : Pos} (hN : X.N.Nodup) (hi : X.N[4]? = some x) (hx : Loc X.env.scope x) (h : StrsE es ts) (hf : X.fn x = true ∨ X.env.scope.names.lookup x = some .local) :
    PS X (.Assign [.Name x pos'] (.List es pl) pos) (tAsg (tLst (tStrs ts)) (gName 4)) := ps_set hN hi hx (pe_lst (pa_strs h)) rfl hf
set_option maxHeartbeats 4000000 in
theorem ok_law (Z : Calls7 P w K mg base C) {f : Addr} {fd : FuncData} (F : Fun K "law" "law" S_law f fd) : FnOk P w K mg base CX0 9 f fd ["_law_script"] (sp_law K) := by
  refine F.ok (k := 8) sc_law (fun vs H Q E h => by obtain ⟨_, _, rfl, _⟩ := h; rfl) (fun cdv A outer s H vs Q E hr h => ?_)
  obtain ⟨a, ns, rfl, hq, k⟩ := h
  have hr1 : Room 1 _ := hr.mono (by decide)
  have hr2 : Room 2 _ := hr.mono (by decide)
  have hr3 : Room 3 _ := hr.mono (by decide)
  have hr5 : Room 5 _ := hr.mono (by decide)
  have hr7 : Room 7 _ := hr.mono (by decide)
  have hu := hr.units
  have B := Z.B
  have L8 : ∀ n : Nat, n ≤ 20 → n ≤ sizeLine := fun n h => by rw [sizeLine_eq]; omega
  refine ⟨_, (pss_cons (ps_set (i := 1) sc_law.nd rfl (Or.inl rfl) (pe_cal Z.told hr3 rfl (pa_cons (pv 0) (pa_cons pe_int pa_nil))))
    (pss_cons (ps_set (i := 2) sc_law.nd rfl (Or.inr rfl) (pe_cal Z.wr hr2 rfl (pa_cons (pe_mk Z.make hr5 rfl (pa_cons (pe_ix ix_tup (pv 1) pe_int (fun _ _ => rfl)) (pa_cons (pe_ix ix_tup (pv 1) pe_int (fun _ _ => rfl)) pa_nil))) pa_nil)))
    (pss_cons (ps_set (i := 3) sc_law.nd rfl (Or.inr rfl) (pe_cal Z.cell hr1 rfl (pa_cons (pv 0) (pa_cons pe_int pa_nil))))
    (@pss_cons _ _ _ _ _ (@ps_few _ _ _ _ _ _ _ sc_law.nd rfl (Or.inl rfl) (by repeat constructor) (by first | exact .inl rfl | exact .inr rfl | assumption))
    (pss_cons (ps_set (i := 4) sc_law.nd rfl (Or.inl rfl) (pe_op op_cat (pv 4) (pe_lst (pa_strs (by repeat constructor)))))
    (pss_cons (ps_set (i := 4) sc_law.nd rfl (Or.inl rfl) (pe_op op_cat (pv 4) (pe_lst (pa_strs (by repeat constructor)))))
    (pss_cons (ps_set (i := 5) sc_law.nd rfl (Or.inl rfl) (pe_join pe_str (pe_op op_cat (pe_lst (pa_cons pe_str pa_nil)) (pe_op op_rep (pe_lst (pa_cons pe_str pa_nil)) pe_int))))
    (pss_cons (ps_set (i := 4) sc_law.nd rfl (Or.inl rfl) (pe_op op_cat (pv 4) (pe_lst (pa_cons pe_str (pa_cons (pv 5) (pa_cons (pe_op op_add_str (pv 5) pe_str) (pa_cons (pe_op op_add_str (pv 5) pe_str) pa_nil)))))))
    (pss_cons (ps_for PassesOwn.never rfl (pi_list (pe_op op_cat (pe_op op_cat (pv 4) (pe_lst (pa_cons (pv 2) pa_nil))) (pe_comp (tc := tYes) (te := te_l7) rfl ⟨rfl, by decide +kernel, rfl, by decide +kernel, AllFree.all (by repeat (first | exact trivial | refine ⟨?_, ?_⟩ | (intro e; cases e <;> fail) | (intro _; rfl)))⟩ (ys := ["_law_text", "_law_cell"]) (js := [2, 3]) ⟨rfl, rfl, rfl, rfl, rfl, rfl, trivial⟩ (by decide +kernel)
        (pi_range1 rfl B.rng (pa_cons pe_int pa_nil)) (fun _ _ _ _ _ => pifs_nil) (fun _ _ _ _ _ => pe_cal Z.other hr2 rfl (pa_cons (pv 1) (pa_cons (pe_op op_add (pv 2) (pe_op op_mul pe_int (pv 0))) (pa_cons (pv 0) pa_nil))))))) (pg_name (i := 6) sc_law.nd rfl (Or.inl rfl))
      (pss_one (ps_if (pt_not (pt_val (pe_cal Z.right hr rfl (pa_cons (pv 6) pa_nil)))) (pss_one (ps_ret pe_bl)) pss_nil)))
    (pss_one (ps_ret (pe_cmpR (op_eqPs hu) (pe_comp (tc := tYes) (te := te_l7b K) rfl ⟨rfl, by decide +kernel, rfl, by decide +kernel, AllFree.all (by repeat (first | exact trivial | refine ⟨?_, ?_⟩ | (intro e; cases e <;> fail) | (intro _; rfl)))⟩ (ys := []) (js := []) trivial (by decide +kernel)
        (pi_list (pe_lst (pa_cons pe_non (pa_cons pe_int (pa_cons (pe_lst (pa_cons pe_str pa_nil)) (pa_cons pe_bl pa_nil)))))) (fun _ _ _ _ _ => pifs_nil) (fun _ _ _ _ _ => pe_cal Z.ref hr7 rfl (pa_cons (pv 0) pa_nil)))
      (pe_lst (pa_cons pe_int (pa_cons pe_int (pa_cons pe_int (pa_cons pe_int pa_nil))))) (nomark _))))))))))))), ?_⟩
  refine ⟨_, rfl, a, ns, 0, rfl, hq, Int.le_refl _, fun H1 tv N ws s1 ht gh => ?_⟩
  obtain ⟨p, l, ts, rfl, hp, hl, pu⟩ := id ht
  have i0 : atI [V.int (N : Int), V.ref l] 0 = some (V.int N) := rfl
  have i1 : atI [V.int (N : Int), V.ref l] 1 = some (V.ref l) := rfl
  refine ⟨_, rfl, p, _, 0, _, rfl, rfl, SqT.of hp, i0, _, rfl, p, _, 1, _, rfl, rfl, SqT.of hp, i1, fun x dq nq ndq neq => made_house nq ndq neq hl pu gh fun H2 s2 hh => ?_⟩
  refine ⟨_, N, ws, rfl, hh, gh, fun H3 s3 => ?_⟩
  have ct : (cT N ws).length ≤ 200 := cT_len gh.len
  generalize cT N ws = txt at ct ⊢
  have s03 := (s1.trans s2).trans s3
  refine ⟨_, rfl, a, ns, 2, rfl, s03.seq hq, by decide, fun cell => ?_⟩
  refine ⟨L8 14 (by decide), fun q1 hq1 => ?_⟩
  generalize hH4 : upd H3 q1 (HO.lst _) = H4
  have e1 : H4 q1 = some (.lst (few1.map V.str)) := by rw [← hH4, upd_same]; rfl
  clear hH4
  refine ⟨_, rfl, L8 7 (by decide), fun q2 hq2 => ?_⟩
  generalize hH5 : upd H4 q2 (HO.lst _) = H5
  have t2 : Same H4 H5 := by rw [← hH5]; exact Same.laid hq2
  have e2 : H5 q2 = some (.lst (few2.map V.str)) := by rw [← hH5, upd_same]; rfl
  clear hH5
  refine ⟨q1, q2, few1.map V.str, few2.map V.str, rfl, rfl, t2 _ _ e1, e2, by rw [sizeLine_eq]; decide, fun q3 hq3 => ?_⟩
  generalize hH6 : upd H5 q3 (HO.lst _) = H6
  have e3 : H6 q3 = some (.lst ((few1 ++ few2).map V.str)) := by rw [← hH6, upd_same, List.map_append]
  clear hH6
  refine ⟨_, rfl, L8 8 (by decide), fun q4 hq4 => ?_⟩
  generalize hH7 : upd H6 q4 (HO.lst _) = H7
  have t4 : Same H6 H7 := by rw [← hH7]; exact Same.laid hq4
  have e4 : H7 q4 = some (.lst (few3.map V.str)) := by rw [← hH7, upd_same]; rfl
  clear hH7
  refine ⟨q3, q4, _, few3.map V.str, rfl, rfl, t4 _ _ e3, e4, by rw [sizeLine_eq]; decide, fun q5 hq5 => ?_⟩
  generalize hH8 : upd H7 q5 (HO.lst _) = H8
  have e5 : H8 q5 = some (.lst ((few1 ++ few2 ++ few3).map V.str)) := by rw [← hH8, upd_same, List.map_append (l₁ := few1 ++ few2)]
  clear hH8
  have f5 : ∀ t ∈ few1 ++ few2 ++ few3, t.length ≤ 1000 := fun t h => by
    rcases List.mem_append.mp h with h | h
    · rcases List.mem_append.mp h with h | h
      · exact few1_ok t h
      · exact few2_ok t h
    · exact few3_ok t h
  have n5 : (few1 ++ few2 ++ few3).length = 29 := rfl
  generalize few1 ++ few2 ++ few3 = fs at e5 f5 n5
  refine ⟨rfl, L8 1 (by decide), fun q6 hq6 => ?_⟩
  generalize hH9 : upd H8 q6 (HO.lst _) = H9
  have t6 : Same H8 H9 := by rw [← hH9]; exact Same.laid hq6
  have e6 : H9 q6 = some (.lst [V.str (Str.ofString "2")]) := by rw [← hH9, upd_same]
  clear hH9
  refine ⟨L8 1 (by decide), fun q7 hq7 => ?_⟩
  generalize hHa : upd H9 q7 (HO.lst _) = Ha
  have t7 : Same H9 Ha := by rw [← hHa]; exact Same.laid hq7
  have e7 : Ha q7 = some (.lst [V.str (Str.ofString "0+1-")]) := by rw [← hHa, upd_same]
  clear hHa
  refine ⟨q7, 24, [V.str (Str.ofString "0+1-")], rfl, rfl, e7, by decide, by decide, by show 1 * 24 ≤ sizeLine; rw [sizeLine_eq]; decide, fun q8 hq8 => ?_⟩
  generalize hHb : upd Ha q8 (HO.lst _) = Hb
  have t8 : Same Ha Hb := by rw [← hHb]; exact Same.laid hq8
  have e8 : Hb q8 = some (.lst (List.replicate (24 : Int).toNat [V.str (Str.ofString "0+1-")]).flatten) := by rw [← hHb, upd_same]
  clear hHb
  refine ⟨q6, q8, _, _, rfl, rfl, t8 _ _ (t7 _ _ e6), e8, by rw [sizeLine_eq]; decide, fun q9 hq9 => ?_⟩
  generalize hHc : upd Hb q9 (HO.lst _) = Hc
  have t9 : Same Hb Hc := by rw [← hHc]; exact Same.laid hq9
  have e9 : Hc q9 = some (.lst (full.map V.str)) := by rw [← hHc, upd_same, full_is]
  clear hHc
  refine ⟨_, q9, full, rfl, rfl, SqL.of e9, full_ok, ?_⟩
  have e59 := ((t6.trans t7).trans (t8.trans t9)) _ _ e5
  have fl := full_len
  generalize Str.join (Str.ofString "; ") full = ful at fl ⊢
  obtain ⟨n1, n2, n3⟩ := ends_len
  refine ⟨_, rfl, _, rfl, _, rfl, _, _, rfl, rfl, by rw [fl, n1, sizeLine_eq]; decide, _, rfl, _, _, rfl, rfl, by rw [fl, n2, sizeLine_eq]; decide, L8 4 (by decide), fun qa hqa => ?_⟩
  generalize hHd : upd Hc qa (HO.lst _) = Hd
  have ta : Same Hc Hd := by rw [← hHd]; exact Same.laid hqa
  have ea : Hd qa = some (.lst ([Str.ofString "10; 0+1-", ful, ful ++ Str.ofString "; 0+1-", ful ++ Str.ofString "; 0+1-; x"].map V.str)) := by rw [← hHd, upd_same]; rfl
  clear hHd
  refine ⟨q5, qa, _, [Str.ofString "10; 0+1-", ful, ful ++ Str.ofString "; 0+1-", ful ++ Str.ofString "; 0+1-; x"].map V.str, rfl, rfl, ta _ _ e59, ea, by rw [List.length_map, n5, sizeLine_eq]; show 29 + 4 ≤ 16777216; decide, fun qb hqb => ?_⟩
  obtain ⟨gs, eg, fg, ng⟩ : ∃ gs : List Str, fs.map V.str ++ [Str.ofString "10; 0+1-", ful, ful ++ Str.ofString "; 0+1-", ful ++ Str.ofString "; 0+1-; x"].map V.str = gs.map V.str ∧ (∀ t ∈ gs, t.length ≤ 1000) ∧ gs.length = 33 := by
    refine ⟨fs ++ [Str.ofString "10; 0+1-", ful, ful ++ Str.ofString "; 0+1-", ful ++ Str.ofString "; 0+1-; x"], by rw [List.map_append], fun t h => ?_, by simp [n5]⟩
    rcases List.mem_append.mp h with h | h
    · exact f5 t h
    · simp only [List.mem_cons, List.not_mem_nil, or_false] at h
      rcases h with rfl | rfl | rfl | rfl
      · rw [n3]; decide
      · rw [fl]; decide
      · rw [len_cat, fl, n1]; decide
      · rw [len_cat, fl, n2]; decide
  generalize hHe : upd Hd qb (HO.lst _) = He
  have eb : He qb = some (.lst (gs.map V.str)) := by rw [← hHe, upd_same, eg]
  clear hHe
  refine ⟨_, rfl, _, rfl, L8 1 (by decide), fun qc hqc => ?_⟩
  generalize hHf : upd He qc (HO.lst _) = Hf
  have tc : Same He Hf := by rw [← hHf]; exact Same.laid hqc
  have ec : Hf qc = some (.lst [V.str txt]) := by rw [← hHf, upd_same]
  clear hHf
  refine ⟨qb, qc, _, [V.str txt], rfl, rfl, tc _ _ eb, ec, by rw [List.length_map, ng, sizeLine_eq]; show 33 + 1 ≤ 16777216; decide, fun qd hqd => ?_⟩
  generalize hHg : upd Hf qd (HO.lst _) = H9
  have ed : H9 qd = some (.lst ((gs ++ [txt]).map V.str)) := by rw [← hHg, upd_same, List.map_append]; rfl
  clear hHg
  refine ⟨3, rfl, by decide, by decide, fun Dd hD => ?_⟩
  refine comp_range (lo := 0) (n := (3 : Int).toNat) (js := [2, 3]) (tc := tYes) (te := te_l7) (fun j acc HA => Same H9 HA ∧ HA Dd = some (.lst acc) ∧ ∃ us : List Str, acc = us.map V.str ∧ us.length = j ∧ ∀ t ∈ us, t.length ≤ 1000) ⟨Same.laid hD, upd_same, [], rfl, rfl, fun t h => by simp at h⟩ ?_ ?_ ?_
  · rintro j acc HA hj ⟨_, eA, us, rfl, lu, _⟩
    have hj3 : j ≤ 3 := hj
    exact ⟨eA, by rw [List.length_map, sizeLine_eq]; omega⟩
  · rintro j acc HA R' hj ⟨sA, eA, us, rfl, lu, fu⟩ hR
    simp only [tYes, if_true]
    refine ⟨_, rfl, _, rfl, _, rfl, _, _, rfl, rfl, .inl ⟨by decide, by decide⟩, _, _, rfl, rfl, _, rfl, txt, _, _, rfl, ct, fun HB z' sB lz' => ⟨sB _ _ eA, hR _ _ ⟨(sA.trans sB).chg hD, upd_same, us ++ [z'], by rw [List.map_append]; rfl, by simp [lu], fun t h => ?_⟩⟩⟩
    rcases List.mem_append.mp h with h | h
    · exact fu t h
    · have : t = z' := by simpa using h
      rw [this]; exact lz'
  · rintro acc HA ⟨sA, eA, us, rfl, lu, fu⟩
    refine ⟨qd, Dd, _, _, rfl, rfl, sA _ _ ed, eA, by rw [List.length_map, List.length_map, sizeLine_eq]; simp [ng, lu], fun qe hqe => ?_⟩
    generalize hHC : upd HA qe (HO.lst _) = HC
    have ee : HC qe = some (.lst ((gs ++ [txt] ++ us).map V.str)) := by rw [← hHC, upd_same, List.map_append (l₁ := gs ++ [txt])]
    clear hHC
    have fe : ∀ t ∈ gs ++ [txt] ++ us, t.length ≤ 1000 := fun t h => by
      rcases List.mem_append.mp h with h | h
      · rcases List.mem_append.mp h with h | h
        · exact fg t h
        · have : t = txt := by simpa using h
          rw [this]; omega
      · exact fu t h
    generalize gs ++ [txt] ++ us = vs at ee fe ⊢
    refine ⟨qe, rfl, ⟨_, SqL.of ee⟩, ?_⟩
    refine for_list (K := K) (a := qe) (xs := vs.map V.str) (fun i σ HD => Same HC HD ∧ ∃ (z5 z6 : Option V), σ = [some (.ref a), some (.ref p), some (.str txt), some (.int cell), some (.ref qb), z5, z6]) ⟨Same.refl _, _, _, rfl⟩ (fun i σ HD _ ⟨z, _⟩ => SqL.of (z _ _ ee)) ?_ ?_
    · rintro i y σ HD hi ⟨sD, z5, z6, rfl⟩
      obtain ⟨t, ht', rfl⟩ : ∃ t, vs[i]? = some t ∧ V.str t = y := by
        rw [List.getElem?_map] at hi
        exact Option.map_eq_some_iff.mp hi
      exact ⟨_, rfl, t, rfl, fe t (List.mem_of_getElem? ht'), fun HE sE => ⟨true, rfl, iteF ⟨sD.trans sE, _, _, rfl⟩⟩⟩
    · rintro σ HD ⟨sD, z5, z6, rfl⟩
      refine ⟨L8 1 (by decide), fun r1 hr1' => ?_⟩
      generalize hHE : upd HD r1 (HO.lst _) = HE
      have er1 : HE r1 = some (.lst [V.str (Str.ofString "3")]) := by rw [← hHE, upd_same]
      clear hHE
      refine ⟨L8 4 (by decide), fun r2 hr2' => ?_⟩
      generalize hHF : upd HE r2 (HO.lst _) = HF
      have er2 : HF r2 = some (.lst [V.non, V.int 3, V.ref r1, V.bl true]) := by rw [← hHF, upd_same]
      have er12 : HF r1 = some (.lst [V.str (Str.ofString "3")]) := by rw [← hHF]; exact Same.laid hr2' _ _ er1
      clear hHF
      have qr : SqL K HF r2 [V.non, V.int 3, V.ref r1, V.bl true] := SqL.of er2
      refine ⟨r2, rfl, ⟨_, qr⟩, fun D2 hD2 => ?_⟩
      refine comp_list (K := K) (a := r2) (xs := [V.non, V.int 3, V.ref r1, V.bl true]) (js := []) (tc := tYes) (te := te_l7b K) (fun j acc HG => Same HF HG ∧ HG D2 = some (.lst acc) ∧ acc = plV (List.replicate j 0)) ⟨Same.laid hD2, upd_same, rfl⟩ ?_ ?_ ?_
      · rintro j acc HG hj ⟨sG, eG, rfl⟩
        have hj4 : j ≤ 4 := hj
        exact ⟨SqL.of (sG _ _ er2), eG, by rw [plV_len, List.length_replicate, sizeLine_eq]; omega⟩
      · rintro j y acc HG R' hj ⟨sG, eG, rfl⟩ hR
        simp only [tYes, if_true]
        have ty : ∃ t, TyOf K HG y t ∧ PySem.W.kitOne K t (.type "str") = some false := by
          have : y = V.non ∨ y = V.int 3 ∨ y = V.ref r1 ∨ y = V.bl true := by
            have := List.mem_of_getElem? hj
            simpa using this
          rcases this with rfl | rfl | rfl | rfl
          · exact ⟨_, .non, rfl⟩
          · exact ⟨_, .int 3, rfl⟩
          · exact ⟨_, .lst (sG _ _ er12), rfl⟩
          · exact ⟨_, .bl true, rfl⟩
        obtain ⟨t, ty, kt⟩ := ty
        refine ⟨_, rfl, _, rfl, .inr ⟨t, ty, kt, fun HI sI => ⟨sI _ _ eG, hR _ _ ⟨(sG.trans sI).chg hD2, upd_same, ?_⟩⟩⟩⟩
        unfold plV
        rw [List.replicate_succ', List.map_append]
        rfl
      · rintro acc HG ⟨sG, eG, rfl⟩
        refine ⟨L8 4 (by decide), fun r3 hr3' => ⟨List.replicate 4 0, [0, 0, 0, 0], ⟨D2, rfl, SqL.of (Same.laid hr3' _ _ eG)⟩, ⟨r3, rfl, SqL.of upd_same⟩, ?_⟩⟩
        exact k _
end
end L2

end

section
set_option autoImplicit false
set_option maxRecDepth 100000
set_option linter.all false
namespace L2
open PySem PySem.Spec PyProof.Rows EoD Eo
theorem len0 {us : List Value} (h : us.length = 0) : us = [] := List.length_eq_zero_iff.mp h
theorem len1 {us : List Value} (h : us.length = 1) : ∃ a, us = [a] := by
  cases us with
  | nil => cases h
  | cons a r => exact ⟨a, by rw [len0 (Nat.succ.inj h)]⟩
theorem len2 {us : List Value} (h : us.length = 2) : ∃ a b, us = [a, b] := by
  cases us with
  | nil => cases h
  | cons a r => obtain ⟨b, e⟩ := len1 (Nat.succ.inj h); exact ⟨a, b, by rw [e]⟩
theorem len3 {us : List Value} (h : us.length = 3) : ∃ a b c, us = [a, b, c] := by
  cases us with
  | nil => cases h
  | cons a r => obtain ⟨b, c, e⟩ := len2 (Nat.succ.inj h); exact ⟨a, b, c, by rw [e]⟩
theorem def_mk {K : PySem.W.Frag} {mg : Str → Option Value} {h : Heap} {x : Str} {st : Stmt} {ps : List Str} {f : Addr} {oc : Value} {od an : Option Addr} {osl : Array (Option Value)} {kV doc pm cdv ct : Value}
    (hb : ∀ (kV doc pm : Value) (an : Option Addr) (cdv ct : Value) (us : List Value), us.length = ps.length → bindArgs (PySem.W.fnOf x x (defArgs st) (defBody st) (defScope st) .none kV doc pm an cdv ct) ⟨us, []⟩ = pure (ps.zip us))
    (X : K.In h) (G : h.Ns mainGlobals mg) (a : PySem.W.nsIn K mainGlobals x = some (some (.ref f))) (l : K.lookup f = some ⟨oc, od, .func (PySem.W.fnOf x x (defArgs st) (defBody st) (defScope st) .none kV doc pm an cdv ct), osl⟩)
    (c : PySem.W.codeIn K cdv x = true) (k : PySem.W.keepIn K (.ref f) = true) : Def K mg x st ps :=
  ⟨f, _, fun_mk l c k, PySem.W.mg_of X G a, (fun_mk l c k).binds hb⟩
set_option maxHeartbeats 8000000 in
theorem all_mk {l : PySem.W.OpenLaw} {w : World} {K : PySem.W.Frag} {h : Heap} {mg : Str → Option Value} {fa : Addr} (X : K.In h) (G : h.Ns mainGlobals mg) (hfa : mg "law" = some (.ref fa))
    {C : Addr}
    {CW : Addr}
    {CU : Addr}
    {BC : Addr}
    {BH : Addr}
    {BW : Addr}
    {BT : Addr}
    {f_num : Addr} {od_num an_num : Option Addr} {sl_num : Array (Option Value)} {oc_num kV_num dc_num pm_num cd_num ct_num : Value}
    {f_word : Addr} {od_word an_word : Option Addr} {sl_word : Array (Option Value)} {oc_word kV_word dc_word pm_word cd_word ct_word : Value}
    {f_wish : Addr} {od_wish an_wish : Option Addr} {sl_wish : Array (Option Value)} {oc_wish kV_wish dc_wish pm_wish cd_wish ct_wish : Value}
    {f_written : Addr} {od_written an_written : Option Addr} {sl_written : Array (Option Value)} {oc_written kV_written dc_written pm_written cd_written ct_written : Value}
    {f_read : Addr} {od_read an_read : Option Addr} {sl_read : Array (Option Value)} {oc_read kV_read dc_read pm_read cd_read ct_read : Value}
    {f_wrword : Addr} {od_wrword an_wrword : Option Addr} {sl_wrword : Array (Option Value)} {oc_wrword kV_wrword dc_wrword pm_wrword cd_wrword ct_wrword : Value}
    {f_rdword : Addr} {od_rdword an_rdword : Option Addr} {sl_rdword : Array (Option Value)} {oc_rdword kV_rdword dc_rdword pm_rdword cd_rdword ct_rdword : Value}
    {f_iscount : Addr} {od_iscount an_iscount : Option Addr} {sl_iscount : Array (Option Value)} {oc_iscount kV_iscount dc_iscount pm_iscount cd_iscount ct_iscount : Value}
    {f_iswrw : Addr} {od_iswrw an_iswrw : Option Addr} {sl_iswrw : Array (Option Value)} {oc_iswrw kV_iswrw dc_iswrw pm_iswrw cd_iswrw ct_iswrw : Value}
    {f_iswrh : Addr} {od_iswrh an_iswrh : Option Addr} {sl_iswrh : Array (Option Value)} {oc_iswrh kV_iswrh dc_iswrh pm_iswrh cd_iswrh ct_iswrh : Value}
    {f_cell : Addr} {od_cell an_cell : Option Addr} {sl_cell : Array (Option Value)} {oc_cell kV_cell dc_cell pm_cell cd_cell ct_cell : Value}
    {f_draw : Addr} {od_draw an_draw : Option Addr} {sl_draw : Array (Option Value)} {oc_draw kV_draw dc_draw pm_draw cd_draw ct_draw : Value}
    {f_told : Addr} {od_told an_told : Option Addr} {sl_told : Array (Option Value)} {oc_told kV_told dc_told pm_told cd_told ct_told : Value}
    {f_lword : Addr} {od_lword an_lword : Option Addr} {sl_lword : Array (Option Value)} {oc_lword kV_lword dc_lword pm_lword cd_lword ct_lword : Value}
    {f_lnot : Addr} {od_lnot an_lnot : Option Addr} {sl_lnot : Array (Option Value)} {oc_lnot kV_lnot dc_lnot pm_lnot cd_lnot ct_lnot : Value}
    {f_l7ref : Addr} {od_l7ref an_l7ref : Option Addr} {sl_l7ref : Array (Option Value)} {oc_l7ref kV_l7ref dc_l7ref pm_l7ref cd_l7ref ct_l7ref : Value}
    {f_ldue : Addr} {od_ldue an_ldue : Option Addr} {sl_ldue : Array (Option Value)} {oc_ldue kV_ldue dc_ldue pm_ldue cd_ldue ct_ldue : Value}
    {f_l7right : Addr} {od_l7right an_l7right : Option Addr} {sl_l7right : Array (Option Value)} {oc_l7right kV_l7right dc_l7right pm_l7right cd_l7right ct_l7right : Value}
    {f_lother : Addr} {od_lother an_lother : Option Addr} {sl_lother : Array (Option Value)} {oc_lother kV_lother dc_lother pm_lother cd_lother ct_lother : Value}
    {f_init : Addr} {od_init an_init : Option Addr} {sl_init : Array (Option Value)} {oc_init kV_init dc_init pm_init cd_init ct_init : Value}
    {f_wishes : Addr} {od_wishes an_wishes : Option Addr} {sl_wishes : Array (Option Value)} {oc_wishes kV_wishes dc_wishes pm_wishes cd_wishes ct_wishes : Value}
    {f_btinit : Addr} {od_btinit an_btinit : Option Addr} {sl_btinit : Array (Option Value)} {oc_btinit kV_btinit dc_btinit pm_btinit cd_btinit ct_btinit : Value}
    {f_law : Addr} {od_law an_law : Option Addr} {sl_law : Array (Option Value)} {oc_law kV_law dc_law pm_law cd_law ct_law : Value}
    {t8 : Tok}
    {t24 : Tok}
    {tB : Tok}
    {tK : Tok}
    {tM : Tok}
    {tG : Tok}
    (aC : PySem.W.nsIn K mainGlobals "House" = some (some (.ref C)))
    (aCW : PySem.W.nsIn K mainGlobals "WishError" = some (some (.ref CW)))
    (aCU : PySem.W.nsIn K mainGlobals "Unpleased" = some (some (.ref CU)))
    (aBC : PySem.W.nsIn K mainGlobals "BadChoice" = some (some (.ref BC)))
    (aBH : PySem.W.nsIn K mainGlobals "BadHouse" = some (some (.ref BH)))
    (aBW : PySem.W.nsIn K mainGlobals "BadWord" = some (some (.ref BW)))
    (aBT : PySem.W.nsIn K mainGlobals "BadText" = some (some (.ref BT)))
    (a_num : PySem.W.nsIn K mainGlobals "is_number" = some (some (.ref f_num)))
    (l_num : K.lookup f_num = some ⟨oc_num, od_num, .func (PySem.W.fnOf "is_number" "is_number" (defArgs S_num) (defBody S_num) (defScope S_num) .none kV_num dc_num pm_num an_num cd_num ct_num), sl_num⟩)
    (c_num : PySem.W.codeIn K cd_num "is_number" = true)
    (k_num : PySem.W.keepIn K (.ref f_num) = true)
    (a_word : PySem.W.nsIn K mainGlobals "is_word" = some (some (.ref f_word)))
    (l_word : K.lookup f_word = some ⟨oc_word, od_word, .func (PySem.W.fnOf "is_word" "is_word" (defArgs S_word) (defBody S_word) (defScope S_word) .none kV_word dc_word pm_word an_word cd_word ct_word), sl_word⟩)
    (c_word : PySem.W.codeIn K cd_word "is_word" = true)
    (k_word : PySem.W.keepIn K (.ref f_word) = true)
    (a_wish : PySem.W.nsIn K mainGlobals "is_wish" = some (some (.ref f_wish)))
    (l_wish : K.lookup f_wish = some ⟨oc_wish, od_wish, .func (PySem.W.fnOf "is_wish" "is_wish" (defArgs S_wish) (defBody S_wish) (defScope S_wish) .none kV_wish dc_wish pm_wish an_wish cd_wish ct_wish), sl_wish⟩)
    (c_wish : PySem.W.codeIn K cd_wish "is_wish" = true)
    (k_wish : PySem.W.keepIn K (.ref f_wish) = true)
    (a_written : PySem.W.nsIn K mainGlobals "written" = some (some (.ref f_written)))
    (l_written : K.lookup f_written = some ⟨oc_written, od_written, .func (PySem.W.fnOf "written" "written" (defArgs S_written) (defBody S_written) (defScope S_written) .none kV_written dc_written pm_written an_written cd_written ct_written), sl_written⟩)
    (c_written : PySem.W.codeIn K cd_written "written" = true)
    (k_written : PySem.W.keepIn K (.ref f_written) = true)
    (a_read : PySem.W.nsIn K mainGlobals "read" = some (some (.ref f_read)))
    (l_read : K.lookup f_read = some ⟨oc_read, od_read, .func (PySem.W.fnOf "read" "read" (defArgs S_read) (defBody S_read) (defScope S_read) .none kV_read dc_read pm_read an_read cd_read ct_read), sl_read⟩)
    (c_read : PySem.W.codeIn K cd_read "read" = true)
    (k_read : PySem.W.keepIn K (.ref f_read) = true)
    (a_wrword : PySem.W.nsIn K mainGlobals "written_word" = some (some (.ref f_wrword)))
    (l_wrword : K.lookup f_wrword = some ⟨oc_wrword, od_wrword, .func (PySem.W.fnOf "written_word" "written_word" (defArgs S_wrword) (defBody S_wrword) (defScope S_wrword) .none kV_wrword dc_wrword pm_wrword an_wrword cd_wrword ct_wrword), sl_wrword⟩)
    (c_wrword : PySem.W.codeIn K cd_wrword "written_word" = true)
    (k_wrword : PySem.W.keepIn K (.ref f_wrword) = true)
    (a_rdword : PySem.W.nsIn K mainGlobals "read_word" = some (some (.ref f_rdword)))
    (l_rdword : K.lookup f_rdword = some ⟨oc_rdword, od_rdword, .func (PySem.W.fnOf "read_word" "read_word" (defArgs S_rdword) (defBody S_rdword) (defScope S_rdword) .none kV_rdword dc_rdword pm_rdword an_rdword cd_rdword ct_rdword), sl_rdword⟩)
    (c_rdword : PySem.W.codeIn K cd_rdword "read_word" = true)
    (k_rdword : PySem.W.keepIn K (.ref f_rdword) = true)
    (a_iscount : PySem.W.nsIn K mainGlobals "is_count" = some (some (.ref f_iscount)))
    (l_iscount : K.lookup f_iscount = some ⟨oc_iscount, od_iscount, .func (PySem.W.fnOf "is_count" "is_count" (defArgs S_iscount) (defBody S_iscount) (defScope S_iscount) .none kV_iscount dc_iscount pm_iscount an_iscount cd_iscount ct_iscount), sl_iscount⟩)
    (c_iscount : PySem.W.codeIn K cd_iscount "is_count" = true)
    (k_iscount : PySem.W.keepIn K (.ref f_iscount) = true)
    (a_iswrw : PySem.W.nsIn K mainGlobals "is_written_word" = some (some (.ref f_iswrw)))
    (l_iswrw : K.lookup f_iswrw = some ⟨oc_iswrw, od_iswrw, .func (PySem.W.fnOf "is_written_word" "is_written_word" (defArgs S_iswrw) (defBody S_iswrw) (defScope S_iswrw) .none kV_iswrw dc_iswrw pm_iswrw an_iswrw cd_iswrw ct_iswrw), sl_iswrw⟩)
    (c_iswrw : PySem.W.codeIn K cd_iswrw "is_written_word" = true)
    (k_iswrw : PySem.W.keepIn K (.ref f_iswrw) = true)
    (a_iswrh : PySem.W.nsIn K mainGlobals "is_written_wish" = some (some (.ref f_iswrh)))
    (l_iswrh : K.lookup f_iswrh = some ⟨oc_iswrh, od_iswrh, .func (PySem.W.fnOf "is_written_wish" "is_written_wish" (defArgs S_iswrh) (defBody S_iswrh) (defScope S_iswrh) .none kV_iswrh dc_iswrh pm_iswrh an_iswrh cd_iswrh ct_iswrh), sl_iswrh⟩)
    (c_iswrh : PySem.W.codeIn K cd_iswrh "is_written_wish" = true)
    (k_iswrh : PySem.W.keepIn K (.ref f_iswrh) = true)
    (a_cell : PySem.W.nsIn K mainGlobals "_law_cell_at" = some (some (.ref f_cell)))
    (l_cell : K.lookup f_cell = some ⟨oc_cell, od_cell, .func (PySem.W.fnOf "_law_cell_at" "_law_cell_at" (defArgs S_cell) (defBody S_cell) (defScope S_cell) .none kV_cell dc_cell pm_cell an_cell cd_cell ct_cell), sl_cell⟩)
    (c_cell : PySem.W.codeIn K cd_cell "_law_cell_at" = true)
    (k_cell : PySem.W.keepIn K (.ref f_cell) = true)
    (a_draw : PySem.W.nsIn K mainGlobals "_law_draw" = some (some (.ref f_draw)))
    (l_draw : K.lookup f_draw = some ⟨oc_draw, od_draw, .func (PySem.W.fnOf "_law_draw" "_law_draw" (defArgs S_draw) (defBody S_draw) (defScope S_draw) .none kV_draw dc_draw pm_draw an_draw cd_draw ct_draw), sl_draw⟩)
    (c_draw : PySem.W.codeIn K cd_draw "_law_draw" = true)
    (k_draw : PySem.W.keepIn K (.ref f_draw) = true)
    (a_told : PySem.W.nsIn K mainGlobals "_law_told" = some (some (.ref f_told)))
    (l_told : K.lookup f_told = some ⟨oc_told, od_told, .func (PySem.W.fnOf "_law_told" "_law_told" (defArgs S_told) (defBody S_told) (defScope S_told) .none kV_told dc_told pm_told an_told cd_told ct_told), sl_told⟩)
    (c_told : PySem.W.codeIn K cd_told "_law_told" = true)
    (k_told : PySem.W.keepIn K (.ref f_told) = true)
    (a_lword : PySem.W.nsIn K mainGlobals "_law_word" = some (some (.ref f_lword)))
    (l_lword : K.lookup f_lword = some ⟨oc_lword, od_lword, .func (PySem.W.fnOf "_law_word" "_law_word" (defArgs S_lword) (defBody S_lword) (defScope S_lword) .none kV_lword dc_lword pm_lword an_lword cd_lword ct_lword), sl_lword⟩)
    (c_lword : PySem.W.codeIn K cd_lword "_law_word" = true)
    (k_lword : PySem.W.keepIn K (.ref f_lword) = true)
    (a_lnot : PySem.W.nsIn K mainGlobals "_law_not" = some (some (.ref f_lnot)))
    (l_lnot : K.lookup f_lnot = some ⟨oc_lnot, od_lnot, .func (PySem.W.fnOf "_law_not" "_law_not" (defArgs S_lnot) (defBody S_lnot) (defScope S_lnot) .none kV_lnot dc_lnot pm_lnot an_lnot cd_lnot ct_lnot), sl_lnot⟩)
    (c_lnot : PySem.W.codeIn K cd_lnot "_law_not" = true)
    (k_lnot : PySem.W.keepIn K (.ref f_lnot) = true)
    (a_l7ref : PySem.W.nsIn K mainGlobals "_law_refused" = some (some (.ref f_l7ref)))
    (l_l7ref : K.lookup f_l7ref = some ⟨oc_l7ref, od_l7ref, .func (PySem.W.fnOf "_law_refused" "_law_refused" (defArgs S_l7ref) (defBody S_l7ref) (defScope S_l7ref) .none kV_l7ref dc_l7ref pm_l7ref an_l7ref cd_l7ref ct_l7ref), sl_l7ref⟩)
    (c_l7ref : PySem.W.codeIn K cd_l7ref "_law_refused" = true)
    (k_l7ref : PySem.W.keepIn K (.ref f_l7ref) = true)
    (a_ldue : PySem.W.nsIn K mainGlobals "_law_due" = some (some (.ref f_ldue)))
    (l_ldue : K.lookup f_ldue = some ⟨oc_ldue, od_ldue, .func (PySem.W.fnOf "_law_due" "_law_due" (defArgs S_ldue) (defBody S_ldue) (defScope S_ldue) .none kV_ldue dc_ldue pm_ldue an_ldue cd_ldue ct_ldue), sl_ldue⟩)
    (c_ldue : PySem.W.codeIn K cd_ldue "_law_due" = true)
    (k_ldue : PySem.W.keepIn K (.ref f_ldue) = true)
    (a_l7right : PySem.W.nsIn K mainGlobals "_law_right" = some (some (.ref f_l7right)))
    (l_l7right : K.lookup f_l7right = some ⟨oc_l7right, od_l7right, .func (PySem.W.fnOf "_law_right" "_law_right" (defArgs S_l7right) (defBody S_l7right) (defScope S_l7right) .none kV_l7right dc_l7right pm_l7right an_l7right cd_l7right ct_l7right), sl_l7right⟩)
    (c_l7right : PySem.W.codeIn K cd_l7right "_law_right" = true)
    (k_l7right : PySem.W.keepIn K (.ref f_l7right) = true)
    (a_lother : PySem.W.nsIn K mainGlobals "_law_other" = some (some (.ref f_lother)))
    (l_lother : K.lookup f_lother = some ⟨oc_lother, od_lother, .func (PySem.W.fnOf "_law_other" "_law_other" (defArgs S_lother) (defBody S_lother) (defScope S_lother) .none kV_lother dc_lother pm_lother an_lother cd_lother ct_lother), sl_lother⟩)
    (c_lother : PySem.W.codeIn K cd_lother "_law_other" = true)
    (k_lother : PySem.W.keepIn K (.ref f_lother) = true)
    (a_init : PySem.W.findIn K (.ref C) "__init__" = some (some (.ref f_init)))
    (i_init : PySem.W.isFn K (.ref f_init) = true)
    (l_init : K.lookup f_init = some ⟨oc_init, od_init, .func (PySem.W.fnOf "__init__" "House.__init__" (defArgs S_init) (defBody S_init) (defScope S_init) .none kV_init dc_init pm_init an_init cd_init ct_init), sl_init⟩)
    (c_init : PySem.W.codeIn K cd_init "House.__init__" = true)
    (k_init : PySem.W.keepIn K (.ref f_init) = true)
    (a_wishes : PySem.W.findIn K (.ref C) "wishes" = some (some (.ref f_wishes)))
    (i_wishes : PySem.W.isFn K (.ref f_wishes) = true)
    (l_wishes : K.lookup f_wishes = some ⟨oc_wishes, od_wishes, .func (PySem.W.fnOf "wishes" "House.wishes" (defArgs S_wishes) (defBody S_wishes) (defScope S_wishes) .none kV_wishes dc_wishes pm_wishes an_wishes cd_wishes ct_wishes), sl_wishes⟩)
    (c_wishes : PySem.W.codeIn K cd_wishes "House.wishes" = true)
    (k_wishes : PySem.W.keepIn K (.ref f_wishes) = true)
    (a_btinit : PySem.W.findIn K (.ref BT) "__init__" = some (some (.ref f_btinit)))
    (i_btinit : PySem.W.isFn K (.ref f_btinit) = true)
    (l_btinit : K.lookup f_btinit = some ⟨oc_btinit, od_btinit, .func (PySem.W.fnOf "__init__" "BadText.__init__" (defArgs S_btinit) (defBody S_btinit) (defScope S_btinit) .none kV_btinit dc_btinit pm_btinit an_btinit cd_btinit ct_btinit), sl_btinit⟩)
    (c_btinit : PySem.W.codeIn K cd_btinit "BadText.__init__" = true)
    (k_btinit : PySem.W.keepIn K (.ref f_btinit) = true)
    (a_law : PySem.W.nsIn K mainGlobals "law" = some (some (.ref f_law)))
    (l_law : K.lookup f_law = some ⟨oc_law, od_law, .func (PySem.W.fnOf "law" "law" (defArgs S_law) (defBody S_law) (defScope S_law) .none kV_law dc_law pm_law an_law cd_law ct_law), sl_law⟩)
    (c_law : PySem.W.codeIn K cd_law "law" = true)
    (k_law : PySem.W.keepIn K (.ref f_law) = true)
    (pgC : PySem.W.plainGet K C Str.empty = true)
    (hdC : PySem.W.hasDictIn K C = true)
    (poC : PySem.W.plainOver K C = true)
    (saC : PySem.W.findIn K (.ref C) "__setattr__" = some (some (.builtin "object.__setattr__")))
    (mkC : PySem.W.makesIn K C = true)
    (kcC : PySem.W.keepIn K (.ref C) = true)
    (nC_names : PySem.W.findIn K (.ref C) "names" = some none)
    (nC_kept : PySem.W.findIn K (.ref C) "kept" = some none)
    (nBT_place : PySem.W.findIn K (.ref BT) "place" = some none)
    (y_BC : PySem.W.isClsIn K BC = true)
    (x_BC : PySem.W.typeIn K (.ref BC) = some (.type "type"))
    (y_BH : PySem.W.isClsIn K BH = true)
    (x_BH : PySem.W.typeIn K (.ref BH) = some (.type "type"))
    (y_BT : PySem.W.isClsIn K BT = true)
    (x_BT : PySem.W.typeIn K (.ref BT) = some (.type "type"))
    (y_BW : PySem.W.isClsIn K BW = true)
    (x_BW : PySem.W.typeIn K (.ref BW) = some (.type "type"))
    (y_CU : PySem.W.isClsIn K CU = true)
    (x_CU : PySem.W.typeIn K (.ref CU) = some (.type "type"))
    (t_BT_BC : PySem.W.subIn K (.ref BT) (.ref BC) = some false)
    (t_BT_BH : PySem.W.subIn K (.ref BT) (.ref BH) = some false)
    (t_BT_BW : PySem.W.subIn K (.ref BT) (.ref BW) = some false)
    (t_BT_CU : PySem.W.subIn K (.ref BT) (.ref CU) = some false)
    (t_BT_BT : PySem.W.subIn K (.ref BT) (.ref BT) = some true)
    (m8 : PySem.W.nsIn K mainGlobals "MOST_NAMES" = some (some (.int 8 t8)))
    (m24 : PySem.W.nsIn K mainGlobals "MOST_WISHES" = some (some (.int 24 t24)))
    (mB : PySem.W.nsIn K mainGlobals "BETWEEN" = some (some (.str (Str.ofString "; ") tB)))
    (mK : PySem.W.nsIn K mainGlobals "COUNTS" = some (some (.str (Str.ofString "12345678") tK)))
    (mM : PySem.W.nsIn K mainGlobals "NAMES" = some (some (.str (Str.ofString "01234567") tM)))
    (mG : PySem.W.nsIn K mainGlobals "SIGNS" = some (some (.str (Str.ofString "+-") tG)))
    (z_isin : PySem.W.nsIn K mainGlobals "isinstance" = some none)
    (z_len : PySem.W.nsIn K mainGlobals "len" = some none)
    (z_all : PySem.W.nsIn K mainGlobals "all" = some none)
    (z_min : PySem.W.nsIn K mainGlobals "min" = some none)
    (z_srt : PySem.W.nsIn K mainGlobals "sorted" = some none)
    (z_int : PySem.W.nsIn K mainGlobals "int" = some none)
    (z_bool : PySem.W.nsIn K mainGlobals "bool" = some none)
    (z_tup : PySem.W.nsIn K mainGlobals "tuple" = some none)
    (z_lst : PySem.W.nsIn K mainGlobals "list" = some none)
    (z_rev : PySem.W.nsIn K mainGlobals "reversed" = some none)
    (z_rng : PySem.W.nsIn K mainGlobals "range" = some none)
    (z_enu : PySem.W.nsIn K mainGlobals "enumerate" = some none)
    (z_zip : PySem.W.nsIn K mainGlobals "zip" = some none)
    (z_str : PySem.W.nsIn K mainGlobals "str" = some none)
    (z_any : PySem.W.nsIn K mainGlobals "any" = some none)
    (z_ve : PySem.W.nsIn K mainGlobals "ValueError" = some none)
    (hn : PySem.W.specialIn K (.builtin "object.__class__") "__get__" = some (some (.builtin "getset_descriptor.__get__")))
    (htk : PySem.W.takesIn K (.builtin "object.__class__") = some true)
    (ga_BT : PySem.W.findIn K (.ref BT) "__getattribute__" = some (some (.builtin "BaseException.__getattribute__")))
    (gt_BT : PySem.W.findIn K (.ref BT) "__getattr__" = some none)
    (be_BT : PySem.W.mroIn K BT (.type "BaseException") = some true)
    (hd_BT : PySem.W.hasDictIn K BT = true)
    (sa_BT : PySem.W.findIn K (.ref BT) "__setattr__" = some (some (.builtin "object.__setattr__")))
    (cl_BT : PySem.W.findIn K (.ref BT) "__class__" = some (some (.builtin "object.__class__")))
    (kr_veBT : (PySem.W.clsIn K BT).any (fun cd => PySem.W.onlyVE cd.mro) = true)
    (up_BT : PySem.W.mroIn K BT (.ref CW) = some true)
    (kr_xrBT : xclIn K BT (some (.ref f_btinit)) = true)
    (kp_BT : PySem.W.keepIn K (.ref BT) = true)
    (ga_CW : PySem.W.specialIn K (.ref CW) "__getattribute__" = some (some (.builtin "type.__getattribute__")))
    (rd_CW : PySem.W.readsIn K CW (.type "type") = true)
    (fi_CW : PySem.W.findCls K (.ref CW) (.type "type") "__init__" = some (.val (.builtin "ValueError.__init__")))
    (tup_CW : PySem.W.instIn K (.ref CW) (.type "tuple") = some false)
    (be_CW : PySem.W.mroIn K CW (.type "BaseException") = some true)
    (y_CW : PySem.W.isClsIn K CW = true)
    (kr_ve : PySem.W.kitOne K (.ref BT) (.type "ValueError") = some true) :
    ∃ fd : FuncData, (∀ (s : Shared) (v : Value), BindsTo s fd ⟨[v], []⟩ [("_law_script", v)]) ∧ ∀ base : Heap, K.In base → base.Ns mainGlobals mg → FnOk l.prog w K mg base CX0 9 fa fd ["_law_script"] (sp_law K) := by
  have e := hfa.symm.trans (PySem.W.mg_of X G a_law)
  cases e
  have B : Bare mg := ⟨PySem.W.mg_none_of X G z_isin, PySem.W.mg_none_of X G z_len, PySem.W.mg_none_of X G z_all, PySem.W.mg_none_of X G z_min, PySem.W.mg_none_of X G z_srt, PySem.W.mg_none_of X G z_int, PySem.W.mg_none_of X G z_bool, PySem.W.mg_none_of X G z_tup, PySem.W.mg_none_of X G z_lst, PySem.W.mg_none_of X G z_rev, PySem.W.mg_none_of X G z_rng⟩
  have D_num := def_mk (st := S_num) (ps := ["value"]) (fun _ _ _ _ _ _ us hl => by obtain ⟨v0, rfl⟩ := len1 hl; rfl) X G a_num l_num c_num k_num
  have D_word := def_mk (st := S_word) (ps := ["names", "value"]) (fun _ _ _ _ _ _ us hl => by obtain ⟨v0, v1, rfl⟩ := len2 hl; rfl) X G a_word l_word c_word k_word
  have D_wish := def_mk (st := S_wish) (ps := ["names", "value"]) (fun _ _ _ _ _ _ us hl => by obtain ⟨v0, v1, rfl⟩ := len2 hl; rfl) X G a_wish l_wish c_wish k_wish
  have D_written := def_mk (st := S_written) (ps := ["house"]) (fun _ _ _ _ _ _ us hl => by obtain ⟨v0, rfl⟩ := len1 hl; rfl) X G a_written l_written c_written k_written
  have D_read := def_mk (st := S_read) (ps := ["text"]) (fun _ _ _ _ _ _ us hl => by obtain ⟨v0, rfl⟩ := len1 hl; rfl) X G a_read l_read c_read k_read
  have D_wrword := def_mk (st := S_wrword) (ps := ["word"]) (fun _ _ _ _ _ _ us hl => by obtain ⟨v0, rfl⟩ := len1 hl; rfl) X G a_wrword l_wrword c_wrword k_wrword
  have D_rdword := def_mk (st := S_rdword) (ps := ["note"]) (fun _ _ _ _ _ _ us hl => by obtain ⟨v0, rfl⟩ := len1 hl; rfl) X G a_rdword l_rdword c_rdword k_rdword
  have D_iscount := def_mk (st := S_iscount) (ps := ["part"]) (fun _ _ _ _ _ _ us hl => by obtain ⟨v0, rfl⟩ := len1 hl; rfl) X G a_iscount l_iscount c_iscount k_iscount
  have D_iswrw := def_mk (st := S_iswrw) (ps := ["names", "note"]) (fun _ _ _ _ _ _ us hl => by obtain ⟨v0, v1, rfl⟩ := len2 hl; rfl) X G a_iswrw l_iswrw c_iswrw k_iswrw
  have D_iswrh := def_mk (st := S_iswrh) (ps := ["names", "part"]) (fun _ _ _ _ _ _ us hl => by obtain ⟨v0, v1, rfl⟩ := len2 hl; rfl) X G a_iswrh l_iswrh c_iswrh k_iswrh
  have D_cell := def_mk (st := S_cell) (ps := ["_law_script", "_law_k"]) (fun _ _ _ _ _ _ us hl => by obtain ⟨v0, v1, rfl⟩ := len2 hl; rfl) X G a_cell l_cell c_cell k_cell
  have D_draw := def_mk (st := S_draw) (ps := ["_law_cell", "_law_k", "_law_many"]) (fun _ _ _ _ _ _ us hl => by obtain ⟨v0, v1, v2, rfl⟩ := len3 hl; rfl) X G a_draw l_draw c_draw k_draw
  have D_told := def_mk (st := S_told) (ps := ["_law_script", "_law_first"]) (fun _ _ _ _ _ _ us hl => by obtain ⟨v0, v1, rfl⟩ := len2 hl; rfl) X G a_told l_told c_told k_told
  have D_lword := def_mk (st := S_lword) (ps := ["_law_cell", "_law_names"]) (fun _ _ _ _ _ _ us hl => by obtain ⟨v0, v1, rfl⟩ := len2 hl; rfl) X G a_lword l_lword c_lword k_lword
  have D_lnot := def_mk (st := S_lnot) (ps := ["_law_word_here"]) (fun _ _ _ _ _ _ us hl => by obtain ⟨v0, rfl⟩ := len1 hl; rfl) X G a_lnot l_lnot c_lnot k_lnot
  have D_l7ref := def_mk (st := S_l7ref) (ps := ["_law_text"]) (fun _ _ _ _ _ _ us hl => by obtain ⟨v0, rfl⟩ := len1 hl; rfl) X G a_l7ref l_l7ref c_l7ref k_l7ref
  have D_ldue := def_mk (st := S_ldue) (ps := ["_law_text"]) (fun _ _ _ _ _ _ us hl => by obtain ⟨v0, rfl⟩ := len1 hl; rfl) X G a_ldue l_ldue c_ldue k_ldue
  have D_l7right := def_mk (st := S_l7right) (ps := ["_law_text"]) (fun _ _ _ _ _ _ us hl => by obtain ⟨v0, rfl⟩ := len1 hl; rfl) X G a_l7right l_l7right c_l7right k_l7right
  have D_lother := def_mk (st := S_lother) (ps := ["_law_text", "_law_cell", "_law_k"]) (fun _ _ _ _ _ _ us hl => by obtain ⟨v0, v1, v2, rfl⟩ := len3 hl; rfl) X G a_lother l_lother c_lother k_lother
  have F_init := fun_mk (st := S_init) l_init c_init k_init
  have b_init := F_init.binds (ps := ["self", "names", "wishes"]) fun _ _ _ _ _ _ us hl => by obtain ⟨v0, v1, v2, rfl⟩ := len3 hl; rfl
  have m_init : Meth K C "__init__" f_init := ⟨a_init, i_init, k_init⟩
  have F_wishes := fun_mk (st := S_wishes) l_wishes c_wishes k_wishes
  have b_wishes := F_wishes.binds (ps := ["self"]) fun _ _ _ _ _ _ us hl => by obtain ⟨v0, rfl⟩ := len1 hl; rfl
  have m_wishes : Meth K C "wishes" f_wishes := ⟨a_wishes, i_wishes, k_wishes⟩
  have F_btinit := fun_mk (st := S_btinit) l_btinit c_btinit k_btinit
  have b_btinit := F_btinit.binds (ps := ["self", "place"]) fun _ _ _ _ _ _ us hl => by obtain ⟨v0, v1, rfl⟩ := len2 hl; rfl
  have m_btinit : Meth K BT "__init__" f_btinit := ⟨a_btinit, i_btinit, k_btinit⟩
  have F_law := fun_mk (st := S_law) l_law c_law k_law
  refine ⟨PySem.W.fnOf "law" "law" (defArgs S_law) (defBody S_law) (defScope S_law) .none kV_law dc_law pm_law an_law cd_law ct_law, fun s v => .of_eq rfl, fun base _ _ => ?_⟩
  have S : BareS mg := ⟨PySem.W.mg_none_of X G z_str, PySem.W.mg_none_of X G z_enu, ⟨_, PySem.W.mg_of X G mB⟩, ⟨_, PySem.W.mg_of X G mK⟩, ⟨_, PySem.W.mg_of X G mM⟩, ⟨_, PySem.W.mg_of X G mG⟩, ⟨_, PySem.W.mg_of X G m24⟩⟩

  have T : TxtH K C := ⟨⟨pgC, hdC, poC, saC⟩, nC_names, nC_kept⟩
  have cnum := ok_num (P := l.prog) (w := w) (base := base) D_num B
  have cword := ok_word D_word B cnum
  have cwish := ok_wish D_wish B cword
  have cW : CalW l.prog w K mg base C := ⟨_, _, ok_wishes F_wishes B T, m_wishes, b_wishes⟩
  have cmk : CalMk l.prog w K mg base C "House" 4 ["self", "names", "wishes"] (sp_init C) := ⟨_, _, ⟨mkC, a_init, i_init, kcC⟩, ok_init F_init B T ⟨_, PySem.W.mg_of X G m8⟩ ⟨_, PySem.W.mg_of X G m24⟩ cnum cwish, PySem.W.mg_of X G aC, b_init⟩

  have ccell := ok_cell (P := l.prog) (w := w) (base := base) D_cell B
  have cdraw := ok_draw (P := l.prog) (w := w) (base := base) D_draw
  have clword := ok_lword D_lword cdraw
  have clnot := ok_lnot (P := l.prog) (w := w) (base := base) D_lnot
  have ctold := ok_told D_told B ccell cdraw clword clnot

  have cwr := ok_wrword (P := l.prog) (w := w) (base := base) D_wrword S
  have cwritten := ok_written D_written S T cwr cW
  have zT : ExF K mg CW BT f_btinit "BadText" "place" := ⟨PySem.W.mg_of X G aCW, ⟨ga_CW, rd_CW, fi_CW⟩, kr_xrBT, ⟨ga_BT, gt_BT, be_BT, hd_BT, sa_BT, cl_BT, hn, htk, kr_veBT⟩, nBT_place, kp_BT, i_btinit, PySem.W.mg_of X G aBT, up_BT⟩
  have fT := ok_btinit (P := l.prog) (w := w) (base := base) F_btinit zT
  have ccount := ok_iscG (P := l.prog) (w := w) (base := base) D_iscount B S
  have cww := ok_wdG (P := l.prog) (w := w) (base := base) D_iswrw B S
  have cwh := ok_whG D_iswrh cww
  have crd := ok_rdword (P := l.prog) (w := w) (base := base) D_rdword B
  have cread := ok_readX D_read B S zT fT b_btinit ccount cwh crd cmk
  have zB : ExB K mg BT BC BH BW CU := ⟨PySem.W.mg_of X G aBC, PySem.W.mg_of X G aBH, PySem.W.mg_of X G aBW, PySem.W.mg_of X G aCU, kit_f y_BC x_BC t_BT_BT t_BT_BC, kit_f y_BH x_BH t_BT_BT t_BT_BH, kit_f y_BW x_BW t_BT_BT t_BT_BW, kit_f y_CU x_CU t_BT_BT t_BT_CU, kit_t y_BT x_BT t_BT_BT, kr_ve⟩
  have cref := ok_l7ref D_l7ref B (PySem.W.mg_none_of X G z_any) (PySem.W.mg_none_of X G z_ve) zT ⟨tup_CW, be_CW, y_CW⟩ zB cread
  have cdue := ok_ldue (P := l.prog) (w := w) (base := base) D_ldue B
  have cright := ok_l7right D_l7right cdue cref cread cwritten
  have clother := ok_lother D_lother B cdraw
  exact ok_law ⟨B, ctold, cmk, cwritten, ccell, clother, cright, cref⟩ F_law
theorem walk {l : PySem.W.OpenLaw} {q : Program} {loose : List Str} {XP : (Str → Option Value) → Heap → Prop} {YP : World → Heap → Prop} {d : DefRec} {K : Params → PySem.W.Frag} (hn : l.most = some 63) (hdf : d.params.defaults = [])
    (hY : ∀ (w : World) (h : Heap), YP w h → (K w.params).In h)
    (F : ∀ (w : World) (mg : Str → Option Value) (fa : Addr) (h : Heap), (K w.params).In h → h.Ns mainGlobals mg → mg d.name = some (.ref fa) →
      ∃ fd : FuncData, (∀ (s : Shared) (u : Value), BindsTo s fd ⟨[u], []⟩ [("_law_script", u)]) ∧ ∀ base : Heap, (K w.params).In base → base.Ns mainGlobals mg → FnOk l.prog w (K w.params) mg base CX0 9 fa fd ["_law_script"] (sp_law (K w.params))) :
    PySem.W.WalkO q loose XP YP l.row.toRowW d [] (fun f vs => PySem.call f vs) :=
  L2.walk_of (n := 63) (k := 9) (x := "_law_script") (CX := fun _ => CX0) (sp := fun w => sp_law (K w.params)) hn (by decide) hdf ⟨rfl, by decide, by decide⟩ hY F (fun _ _ a ns _ _ hS => ⟨a, ns, rfl, hS, fun _ => rfl⟩) fun _ _ _ _ _ z => z
end L2

end

set_option Elab.async false
def PySem.W.Fast.tw15355057364351127271 : Nat := 0
def PySem.W.Fast.tw10916903784348394758 : Nat := 0
def PySem.W.Fast.tw13615593530944999022 : Nat := 0
def PySem.W.Fast.tw15997454077686850094 : Nat := 0
def PySem.W.Fast.tw1734724234132355606 : Nat := 0
def PySem.W.Fast.tw13719786734672904659 : Nat := 0
def PySem.W.Fast.tw4250183675645649204 : Nat := 0
def PySem.W.Fast.tw12912293765024288852 : Nat := 0
def PySem.W.Fast.tw10578115598365102384 : Nat := 0
def PySem.W.Fast.tw5637824214798125180 : Nat := 0
def PySem.W.Fast.tw16635422523608031409 : Nat := 0
def PySem.W.Fast.tw8707615729743009031 : Nat := 0
def PySem.W.Fast.tw12113732878889079373 : Nat := 0
open PySem PySem.W PyProof.Rows
set_option maxRecDepth 100000 in
set_option maxHeartbeats 0 in
theorem PySem.Challenge.cw_eitheror_k07_texts_misread_holds : PySem.Challenge.rw_eitheror_k07_texts_misread.Holds := by
  w_on; o_law; k_head; (case hw => w_witness2)
  k_fill
  refine L2.walk (l := PySem.Challenge.rw_eitheror_k07_texts_misread) rfl rfl (fun w h Y => PySem.W.kIn_of Y) ?F
  case F =>
    intro w mg fa h KX G hmg
    refine' L2.all_mk KX G hmg ?aC ?aCW ?aCU ?aBC ?aBH ?aBW ?aBT ?a_num ?l_num ?c_num ?k_num ?a_word ?l_word ?c_word ?k_word ?a_wish ?l_wish ?c_wish ?k_wish ?a_written ?l_written ?c_written ?k_written ?a_read ?l_read ?c_read ?k_read ?a_wrword ?l_wrword ?c_wrword ?k_wrword ?a_rdword ?l_rdword ?c_rdword ?k_rdword ?a_iscount ?l_iscount ?c_iscount ?k_iscount ?a_iswrw ?l_iswrw ?c_iswrw ?k_iswrw ?a_iswrh ?l_iswrh ?c_iswrh ?k_iswrh ?a_cell ?l_cell ?c_cell ?k_cell ?a_draw ?l_draw ?c_draw ?k_draw ?a_told ?l_told ?c_told ?k_told ?a_lword ?l_lword ?c_lword ?k_lword ?a_lnot ?l_lnot ?c_lnot ?k_lnot ?a_l7ref ?l_l7ref ?c_l7ref ?k_l7ref ?a_ldue ?l_ldue ?c_ldue ?k_ldue ?a_l7right ?l_l7right ?c_l7right ?k_l7right ?a_lother ?l_lother ?c_lother ?k_lother ?a_init ?i_init ?l_init ?c_init ?k_init ?a_wishes ?i_wishes ?l_wishes ?c_wishes ?k_wishes ?a_btinit ?i_btinit ?l_btinit ?c_btinit ?k_btinit ?a_law ?l_law ?c_law ?k_law ?pgC ?hdC ?poC ?saC ?mkC ?kcC ?nC_names ?nC_kept ?nBT_place ?y_BC ?x_BC ?y_BH ?x_BH ?y_BT ?x_BT ?y_BW ?x_BW ?y_CU ?x_CU ?t_BT_BC ?t_BT_BH ?t_BT_BW ?t_BT_CU ?t_BT_BT ?m8 ?m24 ?mB ?mK ?mM ?mG ?z_isin ?z_len ?z_all ?z_min ?z_srt ?z_int ?z_bool ?z_tup ?z_lst ?z_rev ?z_rng ?z_enu ?z_zip ?z_str ?z_any ?z_ve ?hn ?htk ?ga_BT ?gt_BT ?be_BT ?hd_BT ?sa_BT ?cl_BT ?kr_veBT ?up_BT ?kr_xrBT ?kp_BT ?ga_CW ?rd_CW ?fi_CW ?tup_CW ?be_CW ?y_CW ?kr_ve
    (case aC => k_is); (case aCW => k_is); (case aCU => k_is); (case aBC => k_is); (case aBH => k_is); (case aBW => k_is)
    (case aBT => k_is); (case a_num => k_is); (case l_num => k_is); (case c_num => k_is); (case k_num => k_is); (case a_word => k_is)
    (case l_word => k_is); (case c_word => k_is); (case k_word => k_is); (case a_wish => k_is); (case l_wish => k_is); (case c_wish => k_is)
    (case k_wish => k_is); (case a_written => k_is); (case l_written => k_is); (case c_written => k_is); (case k_written => k_is); (case a_read => k_is)
    (case l_read => k_is); (case c_read => k_is); (case k_read => k_is); (case a_wrword => k_is); (case l_wrword => k_is); (case c_wrword => k_is)
    (case k_wrword => k_is); (case a_rdword => k_is); (case l_rdword => k_is); (case c_rdword => k_is); (case k_rdword => k_is); (case a_iscount => k_is)
    (case l_iscount => k_is); (case c_iscount => k_is); (case k_iscount => k_is); (case a_iswrw => k_is); (case l_iswrw => k_is); (case c_iswrw => k_is)
    (case k_iswrw => k_is); (case a_iswrh => k_is); (case l_iswrh => k_is); (case c_iswrh => k_is); (case k_iswrh => k_is); (case a_cell => k_is)
    (case l_cell => k_is); (case c_cell => k_is); (case k_cell => k_is); (case a_draw => k_is); (case l_draw => k_is); (case c_draw => k_is)
    (case k_draw => k_is); (case a_told => k_is); (case l_told => k_is); (case c_told => k_is); (case k_told => k_is); (case a_lword => k_is)
    (case l_lword => k_is); (case c_lword => k_is); (case k_lword => k_is); (case a_lnot => k_is); (case l_lnot => k_is); (case c_lnot => k_is)
    (case k_lnot => k_is); (case a_l7ref => k_is); (case l_l7ref => k_is); (case c_l7ref => k_is); (case k_l7ref => k_is); (case a_ldue => k_is)
    (case l_ldue => k_is); (case c_ldue => k_is); (case k_ldue => k_is); (case a_l7right => k_is); (case l_l7right => k_is); (case c_l7right => k_is)
    (case k_l7right => k_is); (case a_lother => k_is); (case l_lother => k_is); (case c_lother => k_is); (case k_lother => k_is); (case a_init => k_is)
    (case i_init => k_is); (case l_init => k_is); (case c_init => k_is); (case k_init => k_is); (case a_wishes => k_is); (case i_wishes => k_is)
    (case l_wishes => k_is); (case c_wishes => k_is); (case k_wishes => k_is); (case a_btinit => k_is); (case i_btinit => k_is); (case l_btinit => k_is)
    (case c_btinit => k_is); (case k_btinit => k_is); (case a_law => k_is); (case l_law => k_is); (case c_law => k_is); (case k_law => k_is)
    (case pgC => k_is); (case hdC => k_is); (case poC => k_is); (case saC => k_is); (case mkC => k_is); (case kcC => k_is)
    (case nC_names => k_is); (case nC_kept => k_is); (case nBT_place => k_is); (case y_BC => k_is); (case x_BC => k_is); (case y_BH => k_is)
    (case x_BH => k_is); (case y_BT => k_is); (case x_BT => k_is); (case y_BW => k_is); (case x_BW => k_is); (case y_CU => k_is)
    (case x_CU => k_is); (case t_BT_BC => k_is); (case t_BT_BH => k_is); (case t_BT_BW => k_is); (case t_BT_CU => k_is); (case t_BT_BT => k_is)
    (case m8 => k_is); (case m24 => k_is); (case mB => k_is); (case mK => k_is); (case mM => k_is); (case mG => k_is)
    (case z_isin => k_is); (case z_len => k_is); (case z_all => k_is); (case z_min => k_is); (case z_srt => k_is); (case z_int => k_is)
    (case z_bool => k_is); (case z_tup => k_is); (case z_lst => k_is); (case z_rev => k_is); (case z_rng => k_is); (case z_enu => k_is)
    (case z_zip => k_is); (case z_str => k_is); (case z_any => k_is); (case z_ve => k_is); (case hn => k_is); (case htk => k_is)
    (case ga_BT => k_is); (case gt_BT => k_is); (case be_BT => k_is); (case hd_BT => k_is); (case sa_BT => k_is); (case cl_BT => k_is)
    (case kr_veBT => kernel_rfl); (case up_BT => k_is); (case kr_xrBT => kernel_rfl); (case kp_BT => k_is); (case ga_CW => k_is); (case rd_CW => k_is)
    (case fi_CW => k_is); (case tup_CW => k_is); (case be_CW => k_is); (case y_CW => k_is); (case kr_ve => kernel_rfl)
