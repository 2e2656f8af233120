import PyProof.Rows.All
import Wide.All
import OpenK.AllK
import Wide.FinOn
import Lean
import PyProof.EqAt
import PyProof.EqKinds
import PyProof.TupleCall
import KE.KSortAsk
import PyProof.DictWalks
import PyProof.Dict
import PyProof.DictKind
import PyProof.FactsAll.bool_1
import PyProof.FactsInt
import PyProof.TupleKey
import PyProof.DictRoadsH
import PyProof.Rows.TupDisplay
import KE.KRevIter
import KE.KDictList
import PyProof.EnumMake
import PyProof.WalksEnum
import PyProof.ZipIter
import PySem.SetTable
import PySem.SetOps
import PyProof.SetScanFacts
import PyProof.SetKind
import PyProof.Walks
import PyProof.Rows.SetFrom
import PyProof.FactsAll.set
import PyProof.SetRoads
import KE.BitLaws
import PySem.Challenge.RW_eitheror_k08_refused
set_option Elab.async false
section
set_option autoImplicit false
namespace Eo

abbrev W := Int × Bool
def neg (u : W) : W := (u.1, !u.2)
def InN (N : Nat) (x : W) : Prop := 0 ≤ x.1 ∧ x.1 < (N : Int)
/-- every word of every wish is a word of the house -/
def Good (N : Nat) (ws : List (W × W)) : Prop := ∀ p ∈ ws, InN N p.1 ∧ InN N p.2

def Nx (ws : List (W × W)) (u v : W) : Prop := (neg u, v) ∈ ws ∨ (v, neg u) ∈ ws
instance (ws : List (W × W)) (u v : W) : Decidable (Nx ws u v) := inferInstanceAs (Decidable (_ ∨ _))

inductive Way (ws : List (W × W)) (u : W) : Nat → W → Prop
  | here : Way ws u 0 u
  | step {k : Nat} {v x : W} : Way ws u k v → Nx ws v x → Way ws u (k + 1) x

def Reach (ws : List (W × W)) (u v : W) : Prop := ∃ k, Way ws u k v
def Dist (ws : List (W × W)) (u v : W) (k : Nat) : Prop := Way ws u k v ∧ ∀ j, Way ws u j v → k ≤ j

theorem Nx.inN {N : Nat} {ws : List (W × W)} {u v : W} (g : Good N ws) (h : Nx ws u v) : InN N v := by
  rcases h with h | h
  · exact (g _ h).2
  · exact (g _ h).1
theorem Way.inN {N : Nat} {ws : List (W × W)} {u v : W} {k : Nat} (g : Good N ws) (hu : InN N u) (h : Way ws u k v) : InN N v := by
  cases h with
  | here => exact hu
  | step _ n => exact n.inN g
theorem Dist.uniq {ws : List (W × W)} {u v : W} {j k : Nat} (a : Dist ws u v j) (b : Dist ws u v k) : j = k :=
  Nat.le_antisymm (a.2 k b.1) (b.2 j a.1)
/-- all words of a house, in the order of tuples -/
def allW (N : Nat) : List W := (List.range (2 * N)).map fun k => (((k / 2 : Nat) : Int), k % 2 == 1)
theorem allW_len (N : Nat) : (allW N).length = 2 * N := by simp [allW]
theorem mem_allW {N : Nat} {x : W} : x ∈ allW N ↔ InN N x := by
  obtain ⟨a, b⟩ := x
  unfold allW InN
  simp only [List.mem_map, List.mem_range, Prod.mk.injEq]
  constructor
  · rintro ⟨k, hk, rfl, rfl⟩
    omega
  · rintro ⟨h0, h1⟩
    cases b with
    | false => exact ⟨2 * a.toNat, by omega, by omega, by simp⟩
    | true => exact ⟨2 * a.toNat + 1, by omega, by omega, by simp⟩
theorem nodup_sub {α : Type} [DecidableEq α] : ∀ {l m : List α}, l.Nodup → (∀ x ∈ l, x ∈ m) → l.length ≤ m.length
  | [], _, _, _ => Nat.zero_le _
  | a :: r, m, hn, hs => by
    have hn' := List.nodup_cons.mp hn
    have ha : a ∈ m := hs a (by simp)
    have h := nodup_sub (l := r) (m := m.erase a) hn'.2 fun x hx => by
      have hne : x ≠ a := fun e => hn'.1 (e ▸ hx)
      exact (List.mem_erase_of_ne hne).2 (hs x (List.mem_cons_of_mem _ hx))
    have hl : (m.erase a).length = m.length - 1 := List.length_erase_of_mem ha
    have hp : 0 < m.length := List.length_pos_of_mem ha
    simp only [List.length_cons]
    omega
theorem len_words {N : Nat} {l : List W} (hn : l.Nodup) (h : ∀ x ∈ l, InN N x) : l.length ≤ 2 * N := by
  have := nodup_sub (m := allW N) hn fun x hx => mem_allW.2 (h x hx)
  rwa [allW_len] at this

/-- a shortest way passes as many words as it has steps, and one -/
theorem Dist.list {N : Nat} {ws : List (W × W)} {u : W} (g : Good N ws) (hu : InN N u) : ∀ {k : Nat} {x : W}, Dist ws u x k →
    ∃ l : List W, l.length = k + 1 ∧ l.Nodup ∧ ∀ v ∈ l, InN N v ∧ ∃ i, i ≤ k ∧ Dist ws u v i
  | 0, x, h => ⟨[x], rfl, by simp, fun v hv => by
      have e : v = x := by simpa using hv
      subst e
      exact ⟨h.1.inN g hu, 0, Nat.le_refl _, h⟩⟩
  | k + 1, x, h => by
    obtain ⟨hw, hm⟩ := h
    cases hw with
    | @step k' v x hw n =>
      have hv : Dist ws u v k := ⟨hw, fun j hj => by
        have := hm (j + 1) (.step hj n)
        omega⟩
      obtain ⟨l, h1, h2, h3⟩ := Dist.list g hu hv
      have hx : Dist ws u x (k + 1) := ⟨.step hw n, hm⟩
      refine ⟨x :: l, by simp [h1], List.nodup_cons.mpr ⟨fun hx' => ?_, h2⟩, fun y hy => ?_⟩
      · obtain ⟨_, i, hi, hd⟩ := h3 x hx'
        have := hd.uniq hx
        omega
      · rcases List.mem_cons.mp hy with e | hy
        · subst e
          exact ⟨n.inN g, k + 1, Nat.le_refl _, hx⟩
        · obtain ⟨a, i, hi, hd⟩ := h3 y hy
          exact ⟨a, i, by omega, hd⟩
theorem Dist.lt {N : Nat} {ws : List (W × W)} {u x : W} {k : Nat} (g : Good N ws) (hu : InN N u) (h : Dist ws u x k) : k < 2 * N := by
  obtain ⟨l, h1, h2, h3⟩ := h.list g hu
  have := len_words h2 fun v hv => (h3 v hv).1
  omega

/-- a word that was reached, the one ahead of it, how many steps -/
abbrev T := W × Option W × Nat
structure Core (ws : List (W × W)) (u : W) (G : List T) : Prop where
  nd : (G.map (·.1)).Nodup
  head : G.head? = some (u, none, 0)
  par : ∀ t ∈ G, t = (u, none, 0) ∨ ∃ p q d, (p, q, d) ∈ G ∧ Nx ws p t.1 ∧ t.2.1 = some p ∧ t.2.2 = d + 1
  way : ∀ t ∈ G, Way ws u t.2.2 t.1
  mono : G.Pairwise fun a b => a.2.2 ≤ b.2.2
/-- the words ahead of place i are gone on from -/
def Closed (ws : List (W × W)) (G : List T) (i : Nat) : Prop := ∀ j t, j < i → G[j]? = some t → ∀ x, Nx ws t.1 x → ∃ q d, (x, q, d) ∈ G ∧ d ≤ t.2.2 + 1
structure Bfs (ws : List (W × W)) (u : W) (i : Nat) (G : List T) : Prop extends Core ws u G where
  near : ∀ c, G[i]? = some c → ∀ t ∈ G, t.2.2 ≤ c.2.2 + 1
  done : Closed ws G i
structure BfsIn (ws : List (W × W)) (u : W) (i : Nat) (c : T) (pre : List W) (G : List T) : Prop extends Core ws u G where
  at_ : G[i]? = some c
  near : ∀ t ∈ G, t.2.2 ≤ c.2.2 + 1
  done : Closed ws G i
  part : ∀ x ∈ pre, ∃ q d, (x, q, d) ∈ G ∧ d ≤ c.2.2 + 1

theorem bfs_start (ws : List (W × W)) (u : W) : Bfs ws u 0 [(u, none, 0)] where
  nd := by simp
  head := rfl
  par := fun t ht => .inl (by simpa using ht)
  way := fun t ht => by
    have e : t = (u, none, 0) := by simpa using ht
    subst e
    exact .here
  mono := by simp
  near := fun c hc t ht => by
    have e : t = (u, none, 0) := by simpa using ht
    subst e
    exact Nat.zero_le _
  done := fun j t hj => by omega
theorem Bfs.enter {ws : List (W × W)} {u : W} {i : Nat} {G : List T} {c : T} (b : Bfs ws u i G) (h : G[i]? = some c) : BfsIn ws u i c [] G :=
  { b.toCore with at_ := h, near := b.near c h, done := b.done, part := fun _ h => by simp at h }
theorem BfsIn.old {ws : List (W × W)} {u : W} {i : Nat} {G : List T} {c : T} {pre : List W} {x : W} (b : BfsIn ws u i c pre G) (hx : x ∈ G.map (·.1)) : BfsIn ws u i c (pre ++ [x]) G :=
  { b with
    part := fun y hy => by
      rcases List.mem_append.mp hy with hy | hy
      · exact b.part y hy
      · have e : y = x := by simpa using hy
        subst e
        obtain ⟨t, ht, e⟩ := List.mem_map.mp hx
        subst e
        exact ⟨t.2.1, t.2.2, ht, b.near t ht⟩ }
theorem BfsIn.new {ws : List (W × W)} {u : W} {i : Nat} {G : List T} {c : T} {pre : List W} {x : W} (b : BfsIn ws u i c pre G) (hx : x ∉ G.map (·.1)) (n : Nx ws c.1 x) :
    BfsIn ws u i c (pre ++ [x]) (G ++ [(x, some c.1, c.2.2 + 1)]) where
  nd := by
    rw [List.map_append, List.nodup_append]
    refine ⟨b.nd, by simp, fun a ha y hy => ?_⟩
    have e : y = x := by simpa using hy
    subst e
    exact fun e => hx (e ▸ ha)
  head := by
    rw [List.head?_append, b.head]
    rfl
  par := fun t ht => by
    rcases List.mem_append.mp ht with ht | ht
    · rcases b.par t ht with e | ⟨p, q, d, h1, h2⟩
      · exact .inl e
      · exact .inr ⟨p, q, d, List.mem_append_left _ h1, h2⟩
    · have e : t = (x, some c.1, c.2.2 + 1) := by simpa using ht
      subst e
      exact .inr ⟨c.1, c.2.1, c.2.2, List.mem_append_left _ (List.mem_of_getElem? b.at_), n, rfl, rfl⟩
  way := fun t ht => by
    rcases List.mem_append.mp ht with ht | ht
    · exact b.way t ht
    · have e : t = (x, some c.1, c.2.2 + 1) := by simpa using ht
      subst e
      exact .step (b.way c (List.mem_of_getElem? b.at_)) n
  mono := by
    rw [List.pairwise_append]
    refine ⟨b.mono, by simp, fun a ha y hy => ?_⟩
    have e : y = (x, some c.1, c.2.2 + 1) := by simpa using hy
    subst e
    exact b.near a ha
  at_ := by
    have hi : i < G.length := (List.getElem?_eq_some_iff.mp b.at_).1
    rw [List.getElem?_append_left hi]
    exact b.at_
  near := fun t ht => by
    rcases List.mem_append.mp ht with ht | ht
    · exact b.near t ht
    · have e : t = (x, some c.1, c.2.2 + 1) := by simpa using ht
      subst e
      exact Nat.le_refl _
  done := fun j t hj ht y hy => by
    have hi : i < G.length := (List.getElem?_eq_some_iff.mp b.at_).1
    rw [List.getElem?_append_left (by omega)] at ht
    obtain ⟨q, d, h1, h2⟩ := b.done j t hj ht y hy
    exact ⟨q, d, List.mem_append_left _ h1, h2⟩
  part := fun y hy => by
    rcases List.mem_append.mp hy with hy | hy
    · obtain ⟨q, d, h1, h2⟩ := b.part y hy
      exact ⟨q, d, List.mem_append_left _ h1, h2⟩
    · have e : y = x := by simpa using hy
      subst e
      exact ⟨some c.1, c.2.2 + 1, by simp, Nat.le_refl _⟩
theorem BfsIn.leave {ws : List (W × W)} {u : W} {i : Nat} {G : List T} {c : T} {pre : List W} (b : BfsIn ws u i c pre G) (h : ∀ x, Nx ws c.1 x → x ∈ pre) : Bfs ws u (i + 1) G :=
  { b.toCore with
    near := fun e he t ht => by
      have h1 := b.near t ht
      have hi : i < G.length := (List.getElem?_eq_some_iff.mp b.at_).1
      have hi' : i + 1 < G.length := (List.getElem?_eq_some_iff.mp he).1
      have h2 := (List.pairwise_iff_getElem.mp b.mono) i (i + 1) hi hi' (by omega)
      have e1 : G[i] = c := (List.getElem?_eq_some_iff.mp b.at_).2
      have e2 : G[i + 1] = e := (List.getElem?_eq_some_iff.mp he).2
      rw [e1, e2] at h2
      omega
    done := fun j t hj ht x hx => by
      by_cases hji : j < i
      · exact b.done j t hji ht x hx
      · have e : j = i := by omega
        subst e
        rw [b.at_] at ht
        cases ht
        exact b.part x (h x hx) }
/-- the search is through -/
structure Found (ws : List (W × W)) (u : W) (G : List T) : Prop extends Core ws u G where
  all : ∀ k x, Way ws u k x → ∃ q d, (x, q, d) ∈ G ∧ d ≤ k
theorem Bfs.found {ws : List (W × W)} {u : W} {i : Nat} {G : List T} (b : Bfs ws u i G) (h : G.length ≤ i) : Found ws u G :=
  { b.toCore with
    all := fun k x hw => by
      induction hw with
      | here =>
        cases hG : G with
        | nil => have := b.head; rw [hG] at this; cases this
        | cons t r =>
          have := b.head
          rw [hG] at this
          have e : t = (u, none, 0) := by simpa using this
          subst e
          exact ⟨none, 0, by simp, Nat.le_refl _⟩
      | @step k v x hw n ih =>
        obtain ⟨q, d, h1, h2⟩ := ih
        obtain ⟨j, hj, e⟩ := List.mem_iff_getElem.mp h1
        obtain ⟨q', d', h3, h4⟩ := b.done j (v, q, d) (by omega) (List.getElem?_eq_some_iff.mpr ⟨hj, e⟩) x n
        exact ⟨q', d', h3, by have : d' ≤ d + 1 := h4; omega⟩ }
theorem Core.key {ws : List (W × W)} {u : W} {G : List T} (f : Core ws u G) {x : W} {p q : Option W} {d e : Nat} (h1 : (x, p, d) ∈ G) (h2 : (x, q, e) ∈ G) : p = q ∧ d = e := by
  obtain ⟨i, hi, ei⟩ := List.mem_iff_getElem.mp h1
  obtain ⟨j, hj, ej⟩ := List.mem_iff_getElem.mp h2
  have h := (List.getElem_inj (xs := G.map (·.1)) (h₀ := by simpa using hi) (h₁ := by simpa using hj) f.nd).mp (by simp [ei, ej])
  subst h
  rw [ei] at ej
  cases ej
  exact ⟨rfl, rfl⟩
theorem Found.dist {ws : List (W × W)} {u : W} {G : List T} (f : Found ws u G) {x : W} {p : Option W} {d : Nat} (h : (x, p, d) ∈ G) : Dist ws u x d :=
  ⟨f.way _ h, fun j hj => by
    obtain ⟨q, e, h1, h2⟩ := f.all j x hj
    have := (f.key h h1).2
    omega⟩
theorem Found.mem {ws : List (W × W)} {u : W} {G : List T} (f : Found ws u G) {x : W} : x ∈ G.map (·.1) ↔ Reach ws u x := by
  constructor
  · intro h
    obtain ⟨t, ht, e⟩ := List.mem_map.mp h
    subst e
    exact ⟨_, f.way t ht⟩
  · rintro ⟨k, hk⟩
    obtain ⟨q, d, h, _⟩ := f.all k x hk
    exact List.mem_map.mpr ⟨_, h, rfl⟩
theorem Core.inN {N : Nat} {ws : List (W × W)} {u : W} {G : List T} (f : Core ws u G) (g : Good N ws) (hu : InN N u) : ∀ x ∈ G.map (·.1), InN N x := fun x hx => by
  obtain ⟨t, ht, e⟩ := List.mem_map.mp hx
  subst e
  exact (f.way t ht).inN g hu
theorem Core.len {N : Nat} {ws : List (W × W)} {u : W} {G : List T} (f : Core ws u G) (g : Good N ws) (hu : InN N u) : G.length ≤ 2 * N := by
  have := len_words f.nd (f.inN g hu)
  simpa using this

def Chn (ws : List (W × W)) : List W → Prop
  | [] => True
  | [_] => True
  | a :: b :: r => Nx ws a b ∧ Chn ws (b :: r)
theorem Chn.at {ws : List (W × W)} : ∀ {l : List W} {k : Nat} {a b : W}, Chn ws l → l[k]? = some a → l[k + 1]? = some b → Nx ws a b
  | [], _, _, _, _, h, _ => by simp at h
  | [x], k, _, _, _, _, h => by simp at h
  | x :: y :: r, 0, a, b, c, h1, h2 => by
    simp at h1 h2
    subst h1; subst h2
    exact c.1
  | x :: y :: r, k + 1, a, b, c, h1, h2 => Chn.at (l := y :: r) (k := k) c.2 (by simpa using h1) (by simpa using h2)
/-- what stands in hand while a chain is walked back from x: v the next word (none: all is through), l the words taken -/
def Back (ws : List (W × W)) (u x : W) (G : List T) (n : Nat) (link : Option W) (l : List W) : Prop :=
  match link with
  | some v => ∃ q d, (v, q, d) ∈ G ∧ Chn ws (v :: l.reverse) ∧ l.length + d = n ∧ (v :: l.reverse).getLast? = some x
  | none => Chn ws l.reverse ∧ l.reverse.head? = some u ∧ l.reverse.getLast? = some x ∧ l.length = n + 1
theorem Back.start {ws : List (W × W)} {u x : W} {G : List T} {n : Nat} {q : Option W} (h : (x, q, n) ∈ G) : Back ws u x G n (some x) [] :=
  ⟨q, n, h, trivial, by simp, rfl⟩
theorem Back.turn {ws : List (W × W)} {u x v : W} {G : List T} {n : Nat} {q : Option W} {d : Nat} {l : List W} (f : Core ws u G) (b : Back ws u x G n (some v) l) (h : (v, q, d) ∈ G) :
    Back ws u x G n q (l ++ [v]) ∧ l.length ≤ n := by
  obtain ⟨q', d', h1, h2, h3, h4⟩ := b
  obtain ⟨e1, e2⟩ := f.key h h1
  subst e1; subst e2
  refine ⟨?_, by omega⟩
  rcases f.par _ h with e | ⟨p, q', d', h5, h6, h7, h8⟩
  · cases e
    refine ⟨?_, ?_, ?_, ?_⟩
    · simpa using h2
    · simp
    · simpa using h4
    · simp; omega
  · have e7 : q = some p := h7
    have e8 : d = d' + 1 := h8
    subst e7
    refine ⟨q', d', h5, ?_, ?_, ?_⟩
    · rw [List.reverse_append]
      exact ⟨h6, h2⟩
    · simp; omega
    · rw [List.reverse_append]
      show (p :: v :: l.reverse).getLast? = some x
      rw [List.getLast?_cons_cons]
      exact h4

/-- what must be said next, in the order of the wishes -/
def said (ws : List (W × W)) (u : W) : List W := ws.flatMap fun p => (if p.1 = neg u then [p.2] else []) ++ (if p.2 = neg u then [p.1] else [])
theorem mem_said {ws : List (W × W)} {u x : W} : x ∈ said ws u ↔ Nx ws u x := by
  unfold said Nx
  simp only [List.mem_flatMap, List.mem_append]
  constructor
  · rintro ⟨⟨a, b⟩, hp, h | h⟩
    · by_cases e : a = neg u
      · rw [if_pos e] at h
        have : x = b := by simpa using h
        subst this; subst e
        exact .inl hp
      · rw [if_neg e] at h; simp at h
    · by_cases e : b = neg u
      · rw [if_pos e] at h
        have : x = a := by simpa using h
        subst this; subst e
        exact .inr hp
      · rw [if_neg e] at h; simp at h
  · rintro (h | h)
    · exact ⟨_, h, .inl (by simp)⟩
    · exact ⟨_, h, .inr (by simp)⟩
end Eo

end

section
set_option autoImplicit false
set_option maxRecDepth 100000
namespace EoS
open PySem.W PyProof.Rows

section
variable {n : Nat} {key : Nat → Int}
end
end EoS

end

section
set_option autoImplicit false
set_option maxRecDepth 100000
set_option linter.all false
namespace EoH
open PySem PySem.Spec PyProof.Rows
def HdN (A : Around) (h : Heap) : Prop := A.handled = none ∨ ∃ (e C : Addr) (oe : Obj) (vs : Array Value), A.handled = some (.ref e) ∧ h.get? e = some oe ∧ oe.cls = .ref C ∧ oe.data = .fields vs ∧ vs[2]? = some Value.none
theorem entry_unchain : entryFor table "proto.unchain" = some Builtin.«proto.unchain» := entryFor_of_tree (by kernel_rfl)
section
variable {prog : Program} {w : World} {A : Around} {E : Value → Shared → Prop} {s : Shared}
theorem unchain_ok {x e : Addr} {oe : Obj} {vs : Array Value} {Q : Value → Shared → Prop} (he : s.heap.get? e = some oe) (hd : oe.data = .fields vs) (h2 : vs[2]? = some Value.none) (k : Q .none s) :
    wpAny (model prog w) A (runValue (.builtin "proto.unchain" ⟨[.ref x, .ref e, .ref e, .bool false], []⟩)) Q E s := by
  refine wpAny_runValue (codeAny_builtin entry_unchain ?_)
  show wpAny _ _ (field (.ref e) 2 >>= _) _ _ s
  refine wpAny_bind (wpAny_field he hd h2 ?_)
  rw [if_pos (show (Value.none == Value.none) = true from rfl)]
  first
    | exact wpAny_pure k
    | (wp_walk; exact k)
theorem raise_hd {α : Type} {x : Addr} {ox : Obj} {vx : Array Value} {Q : α → Shared → Prop} (hq : HdN A s.heap) (hx : s.heap.get? x = some ox) (dx : ox.data = .fields vx) (zx : 2 < vx.size) (hne : ∀ e, A.handled = some (.ref e) → e ≠ x)
    (k : ∀ h', (∀ b o, b ≠ x → s.heap.get? b = some o → h'.get? b = some o) → (∃ o', h'.get? x = some o' ∧ o'.cls = ox.cls) → E (.ref x) { s with heap := h' }) : wpAny (model prog w) A (raiseNew (.ref x) : Sem α) Q E s := by
  rcases hq with hh | ⟨e, C, oe, vs, hh, he, _, hd, h2⟩
  · exact wpAny_raiseNew_none hh (k s.heap (fun _ _ _ e => e) ⟨ox, hx, rfl⟩)
  · have ne : e ≠ x := hne e hh
    unfold raiseNew
    refine wpAny_bind (wpAny_handled ?_)
    rw [hh]
    have nb : (Value.ref e != Value.ref x) = true := by simp [ne]
    change wpAny (model prog w) A (if (Value.ref e != Value.ref x) = true then _ else _) Q E s
    rw [if_pos nb]
    refine wpAny_bind (wpAny_holding (unchain_ok he hd h2 (wpAny_bind ?_)))
    exact wpAny_setField (M := model prog w) (A := A) (E := E) (i := 2) (x := .ref e) (Q := fun _ s' => wpAny (model prog w) A (throw (Value.ref x) : Sem α) Q E s') hx dx zx (wpAny_throw (k _ (fun b o hb q => (Heap.get?_update_other _ _ (Ne.symm hb)).trans q) ⟨_, Heap.get?_update_self _ hx (Obj.isFreed_of_fields (Obj.data_mapFields dx _)), Obj.cls_mapFields _ _⟩))
theorem HdN.keep {h h' : Heap} (q : HdN A h) (k : ∀ b o, h.get? b = some o → h'.get? b = some o) : HdN A h' := by
  rcases q with q | ⟨e, C, oe, vs, a, b, c⟩
  · exact .inl q
  · exact .inr ⟨e, C, oe, vs, a, k _ _ b, c⟩
theorem HdN.lt {h : Heap} (q : HdN A h) {e : Addr} (he : A.handled = some (.ref e)) : e < h.objs.size := by
  rcases q with q | ⟨e', C, oe, vs, a, b, c⟩
  · rw [q] at he; cases he
  · rw [a] at he; cases he
    exact Heap.lt_size b
theorem HdN.but {h h' : Heap} {it : Addr} {oi : Obj} {T : String} (q : HdN A h) (hi : h.get? it = some oi) (ci : oi.cls = .type T) (k : ∀ b o, b ≠ it → h.get? b = some o → h'.get? b = some o) : HdN A h' := by
  rcases q with q | ⟨e, C, oe, vs, a, b, c, d⟩
  · exact .inl q
  · refine .inr ⟨e, C, oe, vs, a, k _ _ (fun z => ?_) b, c, d⟩
    rw [z, hi] at b
    cases b
    rw [ci] at c
    cases c
/-- a StopIteration is made and raised -/
theorem stop_hd {α : Type} {Q : α → Shared → Prop} (hq : HdN A s.heap) (k : ∀ h' x, (∀ b o, s.heap.get? b = some o → h'.get? b = some o) → (∃ o, h'.get? x = some o ∧ o.cls = .type "StopIteration") → E (.ref x) { s with heap := h' }) :
    wpAny (model prog w) A (newExc (.type "StopIteration") [] >>= fun e => (raiseNew e : Sem α)) Q E s := by
  refine wpAny_bind ?_
  simp only [newExc, newTuple]
  refine wpAny_bind (wpAny_newObj_type (wpAny_bind (m := firstArgMember _ _) (wpAny_of_eq (a := Value.none) (by first | rfl | (simp only [firstArgMember]; rfl)) (wpAny_newObj_type ?_ (by size_fits)))) (by size_fits))
  have ltx : ∀ b, b < s.heap.objs.size → b ≠ (s.heap.push { cls := Value.type "tuple", data := Data.seq ([] : List Value).toArray }).objs.size := fun b hb z => by
    rw [z, Heap.size_push] at hb
    exact absurd hb (Nat.not_lt.mpr (Nat.le_succ _))
  refine raise_hd (hq.keep fun b o e => Heap.get?_push_of_some _ (Heap.get?_push_of_some _ e)) (Heap.get?_push_size _ rfl) rfl (by rw [Array.size_append]; exact Nat.lt_of_lt_of_le (by decide : 2 < 6) (Nat.le_add_right _ _)) (fun e he => ltx e (hq.lt he)) fun h' kk ⟨o', e', c'⟩ => ?_
  exact k h' _ (fun b o e => kk b o (ltx b (Heap.lt_size e)) (Heap.get?_push_of_some _ (Heap.get?_push_of_some _ e))) ⟨o', e', c'⟩
/-- the end of a walk over a list -/
theorem list_end {it l : Addr} {i : Nat} {items : Array Value} {Q : Option Value → Shared → Prop} (hq : HdN A s.heap) (hit : s.heap.IsListIter it l i) (hl : s.heap.IsList l items) (hx : items[i]? = none)
    (k : ∀ h', Heap.ExtBut it s.heap h' → Q none { s with heap := h' }) : wpAny (model prog w) A (pyNext (.ref it)) Q E s := by
  obtain ⟨oi, hoi, ci, di⟩ := id hit
  obtain ⟨ol, hol, _, nl, dl⟩ := hl
  unfold pyNext
  refine wpAny_bind (wpAny_attempt (wpAny_callSpecial?_slot (name := Str.ofString "__next__") hit.typeIs slot_listiter_next (wpAny_call_entry slot_listiter_next hit.typeIs entry_listiter_next ?_ (args_listiter_next _))))
  change wpAny (model prog w) A.in1 (field (.ref it) 0 >>= _) _ _ s
  refine wpAny_bind (wpAny_field hoi di (x := .ref l) rfl ?_)
  change wpAny (model prog w) A.in1 (if (Value.ref l == Value.none) = true then _ else _) _ _ s
  rw [if_neg (show ¬ ((Value.ref l == Value.none) = true) from Bool.false_ne_true)]
  change wpAny (model prog w) A.in1 (field (.ref it) 1 >>= _) _ _ s
  refine wpAny_bind (wpAny_field hoi di (x := .int i 0) rfl ?_)
  change wpAny (model prog w) A.in1 (seqItems? (.ref l) >>= _) _ _ s
  refine wpAny_bind (wpAny_seqItems hol dl ?_)
  simp only [Int.toNat_natCast, hx]
  refine wpAny_bind (wpAny_rule (wpAny_bind (wpAny_setField hoi di (by simp) ?_)))
  have kp : ∀ b o, b ≠ it → s.heap.get? b = some o → (s.heap.update it (Obj.mapFields (·.setIfInBounds 0 Value.none))).get? b = some o := fun b o nb e => (Heap.get?_update_other _ _ (Ne.symm nb)).trans e
  refine stop_hd (s := { s with heap := s.heap.update it (Obj.mapFields (·.setIfInBounds 0 Value.none)) }) (hq.but hoi ci kp) fun h' x kk ts => ?_
  exact wpAny_bind (wpAny_isInstance (T := "StopIteration") (b := true) ts isSubtype_stop (wpAny_pure (k _ fun b o nb e => kk b o (kp b o nb e))))
theorem range_end {it : Addr} {x left step : Int} {Q : Option Value → Shared → Prop} (hq : HdN A s.heap) (hit : IsRangeIter s.heap it x left step) (hl : left ≤ 0)
    (k : ∀ h', Heap.ExtBut it s.heap h' → Q none { s with heap := h' }) : wpAny (model prog w) A (pyNext (.ref it)) Q E s := by
  have ty : s.TypeIs (.ref it) "range_iterator" := ⟨_, hit, rfl⟩
  unfold pyNext
  refine wpAny_bind (wpAny_attempt (wpAny_callSpecial?_slot (name := Str.ofString "__next__") ty F.slot_range_iterator_next (wpAny_call_entry F.slot_range_iterator_next ty F.entry_range_iterator_next ?_ (F.args_range_iterator_next_1 _))))
  change wpAny (model prog w) A.in1 (field (.ref it) 0 >>= _) _ _ s
  refine wpAny_bind (wpAny_field hit rfl (x := rawInt x) rfl ?_); change wpAny (model prog w) A.in1 (field (.ref it) 1 >>= _) _ _ s
  refine wpAny_bind (wpAny_field hit rfl (x := rawInt left) rfl ?_); change wpAny (model prog w) A.in1 (field (.ref it) 2 >>= _) _ _ s
  refine wpAny_bind (wpAny_field hit rfl (x := rawInt step) rfl ?_); change wpAny (model prog w) A.in1 (if left ≤ 0 then _ else _) _ _ s
  rw [if_pos hl]
  refine wpAny_bind (wpAny_rule (wpAny_bind (stop_hd (A := A.in1) hq fun h' y kk ts => ?_)))
  exact wpAny_bind (wpAny_isInstance (T := "StopIteration") (b := true) ts isSubtype_stop (wpAny_pure (k _ fun b o _ e => kk b o e)))
theorem range_item (it : Addr) (lo : Int) (n i : Nat) (s : Shared) (Q : Option Value → Shared → Prop) (E : Value → Shared → Prop) (hi : i < n) (st : IsRangeIter s.heap it (lo + (i : Nat) * 1) ((n : Int) - (i : Nat)) 1)
    (k : ∀ v h' tk, (∃ t, v = Value.int (lo + i * 1) t) → IsRangeIter h' it (lo + ((i + 1 : Nat) : Int) * 1) ((n : Int) - ((i + 1 : Nat) : Int)) 1 → (∀ b o, b ∉ [it] → s.heap.get? b = some o → h'.get? b = some o) → Q (some v) { s with heap := h', toks := tk }) : wpAny (model prog w) A (pyNext (.ref it)) Q E s := by
  refine wpAny_pyNext_range_item st (by omega) fun h' st' sb => k _ h' _ ⟨_, rfl⟩ ?_ fun b o hb e => sb.extBut b o (fun z => hb (by simp [z])) e
  have e1 : lo + ((i + 1 : Nat) : Int) * 1 = lo + (i : Int) * 1 + 1 := by omega
  have e2 : (n : Int) - ((i + 1 : Nat) : Int) = (n : Int) - (i : Int) - 1 := by omega
  rw [e1, e2]
  exact st'
/-- a list's walk, the handled exception in sight -/
theorem walk_list {e C : Addr} {oe : Obj} {vs : Array Value} (hh : A.handled = some (.ref e)) (cc : oe.cls = .ref C) (cd : oe.data = .fields vs) (c2 : vs[2]? = some Value.none) (I ax : Addr) (hne : ax ≠ I) (hie : e ≠ I) (items : Array Value) :
    Walks prog w A I [I, ax, e] [I] items.size (fun i v => items[i]? = some v) (fun i h => (h.IsListIter I ax i ∧ h.IsList ax items) ∧ h.get? e = some oe) where
  sub := fun b hb => by simp at hb; simp [hb]
  frame := fun _ _ _ st hk => ⟨⟨st.1.1.at fun o q => hk I (by simp) o q, st.1.2.at fun o q => hk ax (by simp) o q⟩, hk e (by simp) _ st.2⟩
  item := fun i s Q E hi st hQ => by
    refine wpAny_pyNext_list_item st.1.1 st.1.2 (x := items[i]) (by simp [hi]) fun h' it' sb => ?_
    exact hQ _ h' s.toks (by simp [hi]) ⟨⟨it', st.1.2.extBut sb.extBut hne⟩, sb.extBut e _ hie st.2⟩ fun b o hb q => sb.extBut b o (fun z => hb (by simp [z])) q
  done := fun s Q E st hQ => list_end (.inr ⟨e, C, oe, vs, hh, st.2, cc, cd, c2⟩) st.1.1 st.1.2 (by simp) fun h' eb => hQ h' s.toks fun b o hb q => eb b o (fun z => hb (by simp [z])) q
  self := fun _ _ _ _ st hQ => wpAny_pyIter_listiter st.1.1 hQ
end
section
variable {prog : Program} {w : World} {A : Around} {E : Value → Shared → Prop} {s : Shared} {h₀ : Heap} {L l : Addr} {m : Str → Option Value} {news : List (Addr × Obj)} {vs : List Value}
theorem all_bools {bs : List Bool} {Q : Value → Shared → Prop} (F : Fr h₀ L s.heap m) (N : News h₀ L s.heap news) (hq : HdN A s.heap) (hl : s.heap.IsList l vs.toArray) (hb : LSm.BoolsAre vs bs)
    (k : ∀ h' tk, Fr h₀ L h' m → News h₀ L h' news → Q (.bool (bs.all id)) { s with heap := h', toks := tk }) : wpAny (model prog w) A (call (.builtin "all") [.ref l]) Q E s := by
  rcases hq with hh | ⟨e, C, oe, es, hh, he, cc, cd, c2⟩
  · exact LSm.all_bools F N hh hl hb k
  · have lt : l < s.heap.objs.size := let ⟨_, q, _⟩ := hl; Heap.lt_size q
    have lte := Heap.lt_size he
    refine call_all_walk (wpAny_pyIter_list hl ?_)
    refine ⟨s.heap.objs.size, [s.heap.objs.size, l, e], [s.heap.objs.size], vs.toArray.size, _, _, fun i => (bs[i]?).getD true, rfl, walk_list (A := A.in1) hh cc cd c2 _ l (Nat.ne_of_lt lt) (Nat.ne_of_lt lte) vs.toArray, ⟨⟨⟨_, Heap.get?_push_size _ rfl, rfl, rfl⟩, hl.push _⟩, Heap.get?_push_of_some _ he⟩, fun i v s' Q' E' hP hQ => ?_, fun h' tk hk => ?_⟩
    · obtain ⟨b, q, rfl⟩ := hb.get i v (by simpa using hP)
      simp only [q, Option.getD_some] at hQ
      exact wpAny_truthy_bool hQ
    · have q : ((List.range vs.toArray.size).all fun i => (bs[i]?).getD true) = bs.all id := by rw [List.size_toArray, hb.length]; exact LSm.range_all bs
      rw [q]
      exact k h' tk (F.keeps (LSm.kept_iter hk)) (N.grown (LSm.kept_iter hk))
end
end EoH

end

section
set_option Elab.async false
set_option linter.all false
set_option maxRecDepth 100000
/-! THE HAND LAYER, for ints, bools, texts, own classes, LISTS and tuples (index, slices, in, append, pop ..), calls, loops. Paste it whole ahead of your own text; what your proof does not reach may be deleted. -/
namespace L2
open PySem PySem.Spec PyProof.Rows

/-- a key: an int or a str -/
abbrev Key := Sum Int Str
def keyIs : Key → Value → Bool
  | .inl k, v => Value.isInt k v
  | .inr x, v => Value.isStrOf x v
def keyH (w : World) : Key → Int
  | .inl k => hashInt k
  | .inr x => hashStr w x
theorem keyIs_shape : ∀ {k : Key} {v : Value}, keyIs k v = true → (∃ i t, k = Sum.inl i ∧ v = Value.int i t) ∨ (∃ x t, k = Sum.inr x ∧ v = Value.str x t)
  | .inl i, v, h => by
    obtain ⟨t, e⟩ := Value.isInt_shape (k := i) (v := v) h
    exact .inl ⟨i, t, rfl, e⟩
  | .inr x, v, h => by
    obtain ⟨t, e⟩ := Value.isStrOf_shape (x := x) (v := v) h
    exact .inr ⟨x, t, rfl, e⟩
theorem key_ll (a b : Int) : decide ((Sum.inl a : Key) = Sum.inl b) = (a == b) := by
  by_cases e : a = b
  · subst e; simp
  · have h : ¬ (Sum.inl a : Key) = Sum.inl b := fun q => e (Sum.inl.inj q)
    rw [decide_eq_false h]
    exact (beq_eq_false_iff_ne.mpr e).symm
theorem key_rr (a b : Str) : decide ((Sum.inr a : Key) = Sum.inr b) = decide (a = b) := by
  by_cases e : a = b
  · subst e; simp
  · have h : ¬ (Sum.inr a : Key) = Sum.inr b := fun q => e (Sum.inr.inj q)
    rw [decide_eq_false h, decide_eq_false e]
theorem key_lr (a : Int) (b : Str) : decide ((Sum.inl a : Key) = Sum.inr b) = false := decide_eq_false (fun q => nomatch q)
theorem key_rl (a : Str) (b : Int) : decide ((Sum.inr a : Key) = Sum.inl b) = false := decide_eq_false (fun q => nomatch q)

def mixKind (prog : Program) (w : World) : PySem.KeyKind prog w Key where
  is := keyIs
  hash := keyH w
  inj := fun v a b ha hb => by
    rcases keyIs_shape ha with ⟨i, t, rfl, rfl⟩ | ⟨x, t, rfl, rfl⟩
    · rcases keyIs_shape hb with ⟨j, u, rfl, e⟩ | ⟨y, u, rfl, e⟩
      · injection e with e1 _; rw [e1]
      · exact nomatch e
    · rcases keyIs_shape hb with ⟨j, u, rfl, e⟩ | ⟨y, u, rfl, e⟩
      · exact nomatch e
      · injection e with e1 _; rw [e1]
  byValue := fun k v h => by
    rcases keyIs_shape h with ⟨i, t, rfl, rfl⟩ | ⟨x, t, rfl, rfl⟩ <;> rfl
  pyHash := fun hv h => by
    rcases keyIs_shape hv with ⟨i, t, rfl, rfl⟩ | ⟨x, t, rfl, rfl⟩
    · exact wpAny_pyHash_int h
    · exact wpAny_pyHash_str h
  eqBool := fun hu hv h => by
    rcases keyIs_shape hu with ⟨i, t, rfl, rfl⟩ | ⟨x, t, rfl, rfl⟩
    · rcases keyIs_shape hv with ⟨j, u, rfl, rfl⟩ | ⟨y, u, rfl, rfl⟩
      · rw [key_ll] at h; exact wpAny_eqBool_int h
      · rw [key_lr] at h; exact SeqAt.EqAt.int_str i t y u _ _ _ _ h
    · rcases keyIs_shape hv with ⟨j, u, rfl, rfl⟩ | ⟨y, u, rfl, rfl⟩
      · rw [key_rl] at h; exact SeqAt.EqAt.str_int x t j u _ _ _ _ h
      · rw [key_rr] at h; exact wpAny_eqBool_str h
  «strs» := fun k x t v h => by
    rcases keyIs_shape h with ⟨i, u, rfl, e⟩ | ⟨y, u, rfl, e⟩
    · exact nomatch e
    · injection e with e1 _
      subst e1
      cases v <;> rfl

end L2

namespace L2
open PySem PySem.Spec PyProof.Rows

/-- a value, without the heap -/
inductive V where
  | non | bl (b : Bool) | int (i : Int) | str (x : Str) | byt (b : Array UInt8) | flt (b : UInt64) | ref (a : Addr) | ty (n : String)
  deriving DecidableEq

def RelV : V → Value → Prop
  | .non, u => u = Value.none
  | .bl b, u => u = Value.bool b
  | .int i, u => ∃ t, u = Value.int i t
  | .str x, u => ∃ t, u = Value.str x t
  | .byt b, u => ∃ t, u = Value.bytes b t
  | .flt b, u => ∃ t, u = Value.float b t
  | .ref a, u => u = Value.ref a
  | .ty n, u => u = Value.type n

abbrev Vals : List V → List Value → Prop := Paired RelV
theorem Vals.length {xs : List V} {us : List Value} (r : Vals xs us) : xs.length = us.length := Paired.length r
theorem Vals.get : ∀ {xs : List V} {us : List Value} {i : Nat} {x : V}, Vals xs us → xs[i]? = some x → ∃ u, us[i]? = some u ∧ RelV x u
  | _, _, _, _, .nil, e => by simp at e
  | _, _, 0, _, .cons r _, e => by simp at e; subst e; exact ⟨_, rfl, r⟩
  | _, _, i + 1, x, .cons _ t, e => by
    obtain ⟨u, h1, h2⟩ := Vals.get (i := i) (x := x) t (by simpa using e)
    exact ⟨u, by simpa using h1, h2⟩
theorem Vals.append : ∀ {xs ys : List V} {us ws : List Value}, Vals xs us → Vals ys ws → Vals (xs ++ ys) (us ++ ws)
  | _, _, _, _, .nil, s => s
  | _, _, _, _, .cons r t, s => .cons r (Vals.append t s)
def RelO : Option V → Option Value → Prop
  | some v, some u => RelV v u
  | none, none => True
  | _, _ => False
def KV {κ : Type} : List (κ × V) → List (κ × Value) → Prop := Paired fun (p : κ × V) (q : κ × Value) => p.1 = q.1 ∧ RelV p.2 q.2

/-- a key of a dict (00_mix): an int or a text -/
def kV : Key → V
  | .inl i => .int i
  | .inr x => .str x

/-- what stands at a tracked address -/
inductive HO where
  /-- a list -/
  | lst (xs : List V)
  /-- a tuple (never changes) -/
  | tup (xs : List V)
  /-- a dict whose keys are ints and texts; one whose keys are tuples of ints and texts (the empty one is both) -/
  | dK (kvs : List (Key × V)) | dT (kvs : List (List Key × V))
  /-- a set of ints: its members, its size -/
  | set (S : Int → Bool) (n : Nat)
  /-- an instance of the class at C, its dict at dx, its attributes -/
  | ins (C dx : Addr) (fs : List (Str × V))
  /-- the dict of the instance at x -/
  | own (x : Addr)
  /-- the dict of an exception -/
  | xd (fs : List (Str × V))
  /-- a bound method, f of x -/
  | met (f x : Addr)
  /-- a range object lo, lo + 1, .. below hi -/
  | rng (lo hi : Int)
  /-- a thing that is known to the object (the script; a dict while a loop walks it): read, never written while it is so -/
  | frz (o : Obj) (u : HO)
  /-- a code object's table -/
  | tbl (ps : Array Value)
  /-- any other thing, by what is true of its one object (a def of one's own: SetO a S n := HO.ext fun h => ..) -/
  | ext (φ : Heap → Prop)

abbrev Hp := Addr → Option HO
def upd (H : Hp) (a : Addr) (o : HO) : Hp := fun b => if b = a then some o else H b
theorem upd_same {H : Hp} {a : Addr} {o : HO} : upd H a o a = some o := by unfold upd; rw [if_pos rfl]
theorem upd_ne {H : Hp} {a b : Addr} {o : HO} (h : b ≠ a) : upd H a o b = H b := by unfold upd; rw [if_neg h]
theorem upd_upd {H : Hp} {a : Addr} {o u : HO} : upd (upd H a o) a u = upd H a u := by
  funext b; unfold upd; split <;> rfl
/-- two objects of different content stand apart -/
theorem ne_of {H : Hp} {a b : Addr} {o u : HO} (h : H a = some o) (h' : H b = some u) (d : o ≠ u) : a ≠ b := by
  intro e; subst e; rw [h] at h'; exact d (Option.some.inj h')
theorem ne_of_none {H : Hp} {a b : Addr} {o : HO} (h : H a = some o) (h' : H b = none) : a ≠ b := by
  intro e; subst e; rw [h] at h'; cases h'

section
variable (P : Program) (w : World)
def ObjOk (H : Hp) (h : Heap) (a : Addr) : HO → Prop
  | .lst xs => xs.length ≤ sizeLine ∧ ∃ (its : List Value) (n : Nat), Vals xs its ∧ h.get? a = some { cls := .type "list", data := .seq its.toArray n }
  | .tup xs => xs.length ≤ sizeLine ∧ ∃ its : List Value, Vals xs its ∧ IsTup h a its.toArray
  | .dK kvs => kvs.length ≤ sizeLine ∧ (a == sysModules) = false ∧ ∃ vs, KV kvs vs ∧ h.DictOf (mixKind P w) a vs
  | .dT kvs => kvs.length ≤ sizeLine ∧ (a == sysModules) = false ∧ ∃ xs : List (List Key × Addr × Value),
      Paired (fun (p : List Key × V) (q : List Key × Addr × Value) => p.1 = q.1 ∧ H q.2.1 = some (.tup (p.1.map kV)) ∧ RelV p.2 q.2.2) kvs xs ∧
      ∃ o es ep, h.get? a = some o ∧ o.ExactDict ∧ o.data = .dict es ep ∧ es.toList = xs.map (entryOfKey (tupleKind (mixKind P w))) ∧ (xs.map (·.1)).Nodup
  | .set S n => h.SetOf (intKind P w) a S n
  | .ins C dx fs => H dx = some (.own a) ∧ fs.length ≤ 1000 ∧ dx ≠ a ∧ h.get? a = some (PySem.W.instObj C dx) ∧
      ∃ mA, h.Ns1 dx mA ∧ (∀ f, RelO (fs.lookup f) (mA f)) ∧ PySem.Within mA (fs.map (·.1))
  | .own _ => ∃ o, h.get? a = some o
  | .xd fs => ∃ mA, h.Ns1 a mA ∧ ∀ f, RelO (fs.lookup f) (mA f)
  | .rng lo hi => ∃ t u v, h.get? a = some { cls := .type "range", data := .fields #[.int lo t, .int hi u, .int 1 v] }
  | .frz o u => h.get? a = some o ∧ ObjOk H h a u
  | .tbl ps => h.get? a = some { cls := .none, data := .fields ps }
  | .met f x => h.get? a = some (PySem.W.methodObj (.ref f) (.ref x))
  | .ext φ => φ h ∧ (∃ o, h.get? a = some o) ∧ ∀ h1 h2 : Heap, φ h1 → (∀ o, h1.get? a = some o → h2.get? a = some o) → φ h2
/-- the abstract heap is held -/
def HOk (H : Hp) (h : Heap) : Prop := ∀ a o, H a = some o → ObjOk P w H h a o
end

section
variable {P : Program} {w : World} {H H' : Hp} {h h' : Heap} {a : Addr} {o : HO}
theorem ObjOk.lt (x : ObjOk P w H h a o) : a < h.objs.size := by
  cases o with
  | lst xs => obtain ⟨_, _, _, _, e⟩ := x; exact Heap.lt_size e
  | tup xs => obtain ⟨_, _, _, p⟩ := x; exact p.lt
  | dK kvs => obtain ⟨_, _, _, _, o, _, _, e, _⟩ := x; exact Heap.lt_size e
  | dT kvs => obtain ⟨_, _, _, _, o, _, _, e, _⟩ := x; exact Heap.lt_size e
  | set S n => obtain ⟨o, _, _, _, e, _⟩ := x; exact Heap.lt_size e
  | ins C dx fs => obtain ⟨_, _, _, e, _⟩ := x; exact Heap.lt_size e
  | own y => obtain ⟨_, e⟩ := x; exact Heap.lt_size e
  | xd fs => obtain ⟨_, ⟨_, _, _, e, _⟩, _⟩ := x; exact Heap.lt_size e
  | rng lo hi => obtain ⟨_, _, _, e⟩ := x; exact Heap.lt_size e
  | frz ob u => obtain ⟨e, _⟩ := x; exact Heap.lt_size e
  | tbl ps => exact Heap.lt_size (show h.get? a = some _ from x)
  | met f y => exact Heap.lt_size (show h.get? a = some _ from x)
  | ext φ => obtain ⟨_, ⟨_, e⟩, _⟩ := x; exact Heap.lt_size e
theorem Paired.mapP {α β : Type} {F G : α → β → Prop} : ∀ {l₁ : List α} {l₂ : List β}, Paired F l₁ l₂ → (∀ a b, F a b → G a b) → Paired G l₁ l₂
  | _, _, .nil, _ => .nil
  | _, _, .cons r t, f => .cons (f _ _ r) (Paired.mapP t f)
/-- what an object's description leans on: its own object, its own dict, the tuples -/
theorem ObjOk.stay (x : ObjOk P w H h a o) (k : ∀ b u, (b = a ∨ H b = some (.own a)) → h.get? b = some u → h'.get? b = some u)
    (ho : ∀ b, H b = some (.own a) → H' b = some (.own a)) (ht : ∀ b xs, H b = some (.tup xs) → H' b = some (.tup xs)) : ObjOk P w H' h' a o := by
  induction o with
  | lst xs => obtain ⟨z, its, n, r, e⟩ := x; exact ⟨z, its, n, r, k _ _ (.inl rfl) e⟩
  | tup xs => obtain ⟨z, its, r, ob, e, c⟩ := x; exact ⟨z, its, r, ob, k _ _ (.inl rfl) e, c⟩
  | dK kvs => obtain ⟨z, y, vs, r, ob, es, ep, e, c⟩ := x; exact ⟨z, y, vs, r, ob, es, ep, k _ _ (.inl rfl) e, c⟩
  | dT kvs =>
    obtain ⟨z, y, xs, r, ob, es, ep, e, c⟩ := x
    exact ⟨z, y, xs, Paired.mapP r fun p q z => ⟨z.1, ht _ _ z.2.1, z.2.2⟩, ob, es, ep, k _ _ (.inl rfl) e, c⟩
  | set S n => obtain ⟨ob, es, ep, t, e, c⟩ := x; exact ⟨ob, es, ep, t, k _ _ (.inl rfl) e, c⟩
  | ins C dx fs =>
    obtain ⟨d, z, ne, e, mA, ⟨od, es, ep, e2, c⟩, r⟩ := x
    exact ⟨ho _ d, z, ne, k _ _ (.inl rfl) e, mA, ⟨od, es, ep, k _ _ (.inr d) e2, c⟩, r⟩
  | own y => obtain ⟨ob, e⟩ := x; exact ⟨ob, k _ _ (.inl rfl) e⟩
  | xd fs => obtain ⟨mA, ⟨od, es, ep, e, c⟩, r⟩ := x; exact ⟨mA, ⟨od, es, ep, k _ _ (.inl rfl) e, c⟩, r⟩
  | rng lo hi => obtain ⟨t, u, v, e⟩ := x; exact ⟨t, u, v, k _ _ (.inl rfl) e⟩
  | frz ob u ih => obtain ⟨e, q⟩ := x; exact ⟨k _ _ (.inl rfl) e, ih q⟩
  | tbl ps =>
    have e : h.get? a = some { cls := .none, data := .fields ps } := x
    show h'.get? a = some { cls := .none, data := .fields ps }
    exact k a _ (.inl rfl) e
  | met f y =>
    have e : h.get? a = some (PySem.W.methodObj (.ref f) (.ref y)) := x
    show h'.get? a = some (PySem.W.methodObj (.ref f) (.ref y))
    exact k a _ (.inl rfl) e
  | ext φ => obtain ⟨p, ⟨o, e⟩, st⟩ := x; exact ⟨st _ _ p fun o q => k _ _ (.inl rfl) q, ⟨o, k _ _ (.inl rfl) e⟩, st⟩
theorem HOk.lt (x : HOk P w H h) (e : H a = some o) : a < h.objs.size := (x a o e).lt
theorem HOk.fresh (x : HOk P w H h) (e : h.objs.size ≤ a) : H a = none := by
  cases q : H a with
  | none => rfl
  | some u => exact absurd (Nat.lt_of_lt_of_le (x.lt q) e) (Nat.lt_irrefl _)
/-- every object of the heap is kept -/
theorem HOk.kept (x : HOk P w H h) (k : ∀ b u, h.get? b = some u → h'.get? b = some u) : HOk P w H h' := fun a o e =>
  (x a o e).stay (fun b u _ q => k b u q) (fun _ q => q) fun _ _ q => q
/-- a new object is laid and tracked -/
theorem HOk.laid (x : HOk P w H h) (k : ∀ b u, h.get? b = some u → h'.get? b = some u) (hp : h.objs.size ≤ a) (new : ObjOk P w (upd H a o) h' a o) : HOk P w (upd H a o) h' := fun b u e => by
  have hn := x.fresh hp
  by_cases hb : b = a
  · subst hb; rw [upd_same] at e; cases e; exact new
  · rw [upd_ne hb] at e
    exact (x b u e).stay (fun c v _ q => k c v q) (fun c q => by rw [upd_ne (ne_of_none q hn)]; exact q) fun c xs q => by rw [upd_ne (ne_of_none q hn)]; exact q
end

/-- what may be read as u: it is u, or a known u -/
def Rd (H : Hp) (a : Addr) (u : HO) : Prop := H a = some u ∨ ∃ o, H a = some (.frz o u)
theorem Rd.ok {P : Program} {w : World} {H : Hp} {h : Heap} {a : Addr} {u : HO} (r : Rd H a u) (x : HOk P w H h) : ObjOk P w H h a u := by
  rcases r with r | ⟨o, r⟩
  · exact x a u r
  · obtain ⟨_, q⟩ := x a _ r
    exact q
/-- what may be written -/
def Mut : Option HO → Prop
  | some (.lst _) => True
  | some (.dK _) => True
  | some (.dT _) => True
  | some (.set _ _) => True
  | some (.ins _ _ _) => True
  | some (.ext _) => True
  | _ => False
section
variable {P : Program} {w : World} {H : Hp} {h h' : Heap} {x e : Addr} {o' : HO}
/-- the object at e is changed: x itself, or the dict of the instance x -/
theorem HOk.write (ok : HOk P w H h) (mu : Mut (H x)) (he : e = x ∨ H e = some (.own x)) (k : ∀ b u, b ≠ e → h.get? b = some u → h'.get? b = some u) (heo : ∃ u, h'.get? e = some u)
    (new : ObjOk P w (upd H x o') h' x o') : HOk P w (upd H x o') h' := fun b u q => by
  have nown : ∀ c y, H c = some (.own y) → c ≠ x := fun c y r z => by subst z; rw [r] at mu; exact mu
  have ntup : ∀ c xs, H c = some (.tup xs) → c ≠ x := fun c xs r z => by subst z; rw [r] at mu; exact mu
  by_cases hb : b = x
  · subst hb; rw [upd_same] at q; cases q; exact new
  · rw [upd_ne hb] at q
    by_cases hbe : b = e
    · have q' : H b = some (.own x) := by
        rcases he with z | z
        · exact absurd (hbe.trans z) hb
        · rw [hbe]; exact z
      rw [q] at q'; cases q'
      obtain ⟨v, hv⟩ := heo
      exact ⟨v, by rw [hbe]; exact hv⟩
    · refine (ok b u q).stay (fun c v hc r => k c v ?_ r) (fun c r => by rw [upd_ne (nown c b r)]; exact r) fun c xs r => by rw [upd_ne (ntup c xs r)]; exact r
      rcases hc with rfl | hc
      · exact hbe
      · rintro rfl
        rcases he with z | z
        · exact nown c b hc z
        · rw [hc] at z; cases z; exact hb rfl
end

/-! ### kept unless tracked; of the frames at fs (the callers') the slots may change (an exception that passes writes there); of the records at ex (iterators) nothing is said -/
structure Un (fs ex : List Addr) (H H' : Hp) (h h' : Heap) : Prop where
  keep : ∀ b o, h.get? b = some o → H b = none → b ∉ fs → b ∉ ex → h'.get? b = some o
  slot : ∀ b o, h.get? b = some o → H b = none → b ∈ fs → b ∉ ex → ∃ sl, h'.get? b = some { o with slots := sl }
  free : ∀ b o, h.get? b = some o → H b = none → b ∉ ex → H' b = none
  there : ∀ b o, h.get? b = some o → b ∉ ex → ∃ o', h'.get? b = some o'
  tups : ∀ b xs, H b = some (.tup xs) → H' b = some (.tup xs)
  frzs : ∀ b o u, H b = some (.frz o u) → H' b = some (.frz o u)
  tbls : ∀ b ps, H b = some (.tbl ps) → ∃ more, H' b = some (.tbl (ps ++ more))
section
variable {fs fs' ex ex' : List Addr} {H H1 H2 : Hp} {h h1 h2 h' : Heap} {a x e : Addr} {o : HO}
theorem Un.any (u : Un fs ex H H1 h h1) {b : Addr} {ob : Obj} (q : h.get? b = some ob) (n : H b = none) (hx : b ∉ ex) : ∃ sl, h1.get? b = some { ob with slots := sl } := by
  by_cases hb : b ∈ fs
  · exact u.slot b ob q n hb hx
  · exact ⟨ob.slots, u.keep b ob q n hb hx⟩
theorem Un.kept (k : ∀ b u, h.get? b = some u → h'.get? b = some u) : Un fs ex H H h h' :=
  ⟨fun b ob q _ _ _ => k b ob q, fun b ob q _ _ _ => ⟨ob.slots, k b ob q⟩, fun _ _ _ n _ => n, fun b ob q _ => ⟨ob, k b ob q⟩, fun _ _ q => q, fun _ _ _ q => q, fun _ ps q => ⟨#[], by rw [q]; simp⟩⟩
theorem Un.refl : Un fs ex H H h h := Un.kept fun _ _ q => q
theorem Un.laid (k : ∀ b u, h.get? b = some u → h'.get? b = some u) (hp : h.objs.size ≤ a) (hn : H a = none) : Un fs ex H (upd H a o) h h' where
  keep := fun b u q _ _ _ => k b u q
  slot := fun b u q _ _ _ => ⟨u.slots, k b u q⟩
  free := fun b u q n _ => by rw [upd_ne (Nat.ne_of_lt (Nat.lt_of_lt_of_le (Heap.lt_size q) hp))]; exact n
  there := fun b u q _ => ⟨u, k b u q⟩
  tups := fun b xs q => by rw [upd_ne (ne_of_none q hn)]; exact q
  frzs := fun b u xs q => by rw [upd_ne (ne_of_none q hn)]; exact q
  tbls := fun b ps q => ⟨#[], by rw [upd_ne (ne_of_none q hn), q]; simp⟩
theorem Un.write (mu : Mut (H x)) (he : e = x ∨ H e = some (.own x)) (k : ∀ b u, b ≠ e → h.get? b = some u → h'.get? b = some u) (heo : ∃ u, h'.get? e = some u) : Un fs ex H (upd H x o) h h' := by
  have hx : ∀ b, H b = none → b ≠ x := fun b n z => by subst z; rw [n] at mu; exact mu
  have hb : ∀ b, H b = none → b ≠ e := fun b n z => by
    subst z
    rcases he with r | r
    · exact hx b n r
    · rw [n] at r; cases r
  have hm : ∀ b u, H b = some u → ¬ Mut (some u) → b ≠ x := fun b u q nm z => by subst z; rw [q] at mu; exact nm mu
  refine ⟨fun b u q n _ _ => k b u (hb b n) q, fun b u q n _ _ => ⟨u.slots, k b u (hb b n) q⟩, fun b u q n _ => by rw [upd_ne (hx b n)]; exact n, fun b u q _ => ?_,
    fun b xs q => by rw [upd_ne (hm b _ q fun z => z)]; exact q, fun b u xs q => by rw [upd_ne (hm b _ q fun z => z)]; exact q, fun b ps q => ⟨#[], by rw [upd_ne (hm b _ q fun z => z), q]; simp⟩⟩
  by_cases hbe : b = e
  · subst hbe; exact heo
  · exact ⟨u, k b u hbe q⟩
end

/-! ### the heap without what is tracked -/
def trk (h : Heap) (H : Hp) : List Addr := (List.range h.objs.size).filter fun a => (H a).isSome
def hidT (h : Heap) (H : Hp) : Heap := PySem.W.hideAll h (trk h H)
theorem hidT_size (h : Heap) (H : Hp) : (hidT h H).objs.size = h.objs.size := PySem.W.hideAll_size _ _
theorem hidT_get {h : Heap} {H : Hp} {b : Addr} {o : Obj} (e : h.get? b = some o) (n : H b = none) : (hidT h H).get? b = some o :=
  PySem.W.hideAll_get _ e fun hm => by
    have q : (H b).isSome = true := (List.mem_filter.mp hm).2
    rw [n] at q; simp at q
theorem of_hidT {h : Heap} {H : Hp} {b : Addr} {o : Obj} (e : (hidT h H).get? b = some o) : h.get? b = some o ∧ H b = none := by
  have e' : h.get? b = some o := PySem.W.of_hideAll (trk h H) e
  refine ⟨e', ?_⟩
  cases q : H b with
  | none => rfl
  | some x =>
    have hm : b ∈ trk h H := List.mem_filter.mpr ⟨List.mem_range.mpr (Heap.lt_size e'), by simp [q]⟩
    have z : (hidT h H).get? b = none := PySem.W.hideAll_none (trk h H) hm
    rw [z] at e; cases e

/-! ### OpenK's ledger, filled with every new object but one -/
def allNews (g h : Heap) (L : Addr) : List (Addr × Obj) := (List.range h.objs.size).filterMap fun a => if a = L ∨ (g.get? a).isSome = true then none else (h.get? a).map fun o => (a, o)
theorem mem_allNews {g h : Heap} {L a : Addr} {o : Obj} (h1 : a ≠ L) (h2 : g.get? a = none) (h3 : h.get? a = some o) : (a, o) ∈ allNews g h L :=
  List.mem_filterMap.mpr ⟨a, List.mem_range.mpr (Heap.lt_size h3), by simp [h1, h2, h3]⟩
theorem of_mem_allNews {g h : Heap} {L : Addr} {p : Addr × Obj} (hp : p ∈ allNews g h L) : p.1 ≠ L ∧ g.get? p.1 = none ∧ h.get? p.1 = some p.2 := by
  obtain ⟨b, _, e⟩ := List.mem_filterMap.mp hp
  split at e
  · cases e
  · rename_i hn
    cases q : h.get? b with
    | none => rw [q] at e; simp at e
    | some u =>
      rw [q] at e
      simp only [Option.map_some, Option.some.injEq] at e
      subst e
      refine ⟨fun z => hn (.inl z), ?_, q⟩
      show g.get? b = none
      cases r : g.get? b with
      | none => rfl
      | some v => exact (hn (.inr (by simp [r]))).elim
theorem news_all {g h : Heap} {L : Addr} : News g L h (allNews g h L) := fun p hp => let ⟨a, b, c⟩ := of_mem_allNews hp; ⟨c, a, b⟩
end L2

namespace L2
open PySem PySem.Spec PyProof.Rows

/-- the module's facts, over the base: the heap at the law's entry without what is tracked there -/
structure Mod (K : PySem.W.Frag) (mg : Str → Option Value) (base : Heap) : Prop where
  kin : K.In base
  glob : base.Ns mainGlobals mg
  blt : ∃ mb, base.Ns builtinsNs mb ∧ ∀ x : Str, x ≠ "__name__" → mb x = bootBuiltins x
  nolimit : base.NoLimit

/-- the context: a def's body (or a comprehension's block) running. base: fixed through the whole law; s₀, H₀: the entry; outer: the frames whose slots others may change (a def's callers); stack: all frames that run;
   ex: iterators that were made ahead of the entry and are walked here (a comprehension's); fn: the names whose cells were made at the entry (a def: all; a comprehension's block: its own); calm: not within an except suite; pn: pins that every state bears; xe: what is wanted of an exception that leaves the code -/
structure Cx where
  prog : Program
  w : World
  K : PySem.W.Frag
  mg : Str → Option Value
  base : Heap
  A : Around
  N : List Str
  s₀ : Shared
  H₀ : Hp
  env : Env
  outer : List Env
  stack : List Env
  ex : List Addr
  fn : Str → Bool
  calm : Bool
  pn : List (Addr × Obj)
  xe : Value → Shared → Prop
/-- the callers' frames -/
def frs (l : List Env) : List Addr := l.filterMap (·.frame)
abbrev Cx.fs (X : Cx) : List Addr := frs X.outer
/-- an exception that is handled just now: it stands where it stood, and has none behind it -/
def HdX (A : Around) (h : Heap) (H : Hp) (fs ex : List Addr) (pn : List (Addr × Obj)) : Prop := A.handled = none ∨ ∃ (e C : Addr) (oe : Obj) (vs : Array Value), A.handled = some (.ref e) ∧ oe.cls = .ref C ∧ oe.data = .fields vs ∧ vs[2]? = some Value.none ∧ ((e, oe) ∈ pn ∨ (h.get? e = some oe ∧ H e = none ∧ e ∉ fs ∧ e ∉ ex))

def Vis (sc : Scope) (x : Str) : Prop := sc.names.lookup x = some .local ∨ sc.names.lookup x = some .cell ∨ sc.names.lookup x = some .free
def Loc (sc : Scope) (x : Str) : Prop := sc.names.lookup x = some .local ∨ sc.names.lookup x = some .cell
def Look (env : Env) (h : Heap) (m : Str → Option Value) (x : Str) (u : Value) : Prop :=
  (env.kindOf x = some .local ∧ m x = some u) ∨ ((env.kindOf x = some .cell ∨ env.kindOf x = some .free) ∧ ∃ c, env.cells.lookup x = some c ∧ h.IsCell c (some u))

structure Cx.Ok (X : Cx) : Prop where
  mod : Mod X.K X.mg X.base
  kind : X.env.scope.kind = .function
  glob : X.env.globals = mainGlobals
  blt : X.env.builtins = builtinsNs
  above : X.s₀.heap.objs.size ≤ X.env.locals
  inj : ∀ x y c, X.env.cells.lookup x = some c → X.env.cells.lookup y = some c → x = y
  has : ∀ x, (X.env.kindOf x = some .cell ∨ X.env.kindOf x = some .free) → ∃ c, X.env.cells.lookup x = some c
  cab : ∀ x c, X.fn x = true → X.env.cells.lookup x = some c → X.s₀.heap.objs.size ≤ c
  hd : X.calm = true → X.A.handled = none
  frames : X.A.frames = some X.stack
  stk : X.stack = X.outer ∨ (X.stack = X.env :: X.outer ∧ X.env.frame = some X.env.locals)
  exf : ∀ b ∈ X.ex, b ≠ X.env.locals ∧ ∀ x c, X.env.cells.lookup x = some c → c ≠ b
  bs : ∀ b o, X.base.get? b = some o → X.s₀.heap.get? b = some o ∧ X.H₀ b = none
  bsz : X.base.objs.size ≤ X.s₀.heap.objs.size
  noex : ∀ b o, X.base.get? b = some o → b ∉ X.ex
  exfs : ∀ b ∈ X.ex, b ∉ X.fs
  funs : X.s₀.heap.FunFrames X.base X.outer
  frf : ∀ b ∈ X.fs, X.H₀ b = none
  hdl : HdX X.A X.s₀.heap X.H₀ X.fs X.ex X.pn

structure Inv (X : Cx) (pins : List (Addr × Obj)) (σ : List (Option V)) (H : Hp) (s : Shared) : Prop where
  ok : X.Ok
  os : s.os = X.s₀.os
  bare : AllBare s.gens
  base : Un X.fs X.ex X.H₀ H X.s₀.heap s.heap
  loc : ∃ m, s.heap.Ns X.env.locals m ∧ ∀ (i : Nat) (x : Str) (v : V), X.N[i]? = some x → σ[i]? = some (some v) → Vis X.env.scope x → ∃ u, RelV v u ∧ Look X.env s.heap m x u
  cell : ∀ x c, X.env.cells.lookup x = some c → ∃ v, s.heap.IsCell c v
  free : H X.env.locals = none
  freeC : ∀ x c, X.env.cells.lookup x = some c → H c = none
  pin : ∀ p ∈ X.pn ++ pins, s.heap.get? p.1 = some p.2 ∧ H p.1 = none ∧ p.1 ≠ X.env.locals ∧ p.1 ∉ X.fs ∧ ∀ v, p.2.data ≠ .cell v
  hok : HOk X.prog X.w H s.heap
  len : σ.length = X.N.length

section
variable {X : Cx} {pins : List (Addr × Obj)} {σ : List (Option V)} {H H' : Hp} {s : Shared} {h' : Heap}

theorem Cx.Ok.nofr (ok : X.Ok) {b : Addr} {o : Obj} (e : X.base.get? b = some o) : b ∉ X.fs := fun hb => by
  have := (ok.funs.mem hb).1
  rw [e] at this; cases this
theorem Inv.bs (I : Inv X pins σ H s) : ∀ b o, X.base.get? b = some o → s.heap.get? b = some o ∧ H b = none := fun b o e =>
  ⟨I.base.keep b o (I.ok.bs b o e).1 (I.ok.bs b o e).2 (I.ok.nofr e) (I.ok.noex b o e), I.base.free b o (I.ok.bs b o e).1 (I.ok.bs b o e).2 (I.ok.noex b o e)⟩
theorem Inv.bk (I : Inv X pins σ H s) : ∀ b o, X.base.get? b = some o → s.heap.get? b = some o := fun b o e => (I.bs b o e).1
theorem Inv.mod (I : Inv X pins σ H s) : Mod X.K X.mg X.base := I.ok.mod
theorem Inv.kIn (I : Inv X pins σ H s) : X.K.In s.heap := I.ok.mod.kin.keeps I.bk
/-- the frame over the base: for OpenK's rules (K.In X.base is I.mod.kin) -/
theorem Inv.fr (I : Inv X pins σ H s) : ∃ m, Fr X.base X.env.locals s.heap m :=
  let ⟨m, hn, _⟩ := I.loc
  ⟨m, hn, I.bk, Nat.le_trans I.ok.bsz I.ok.above⟩
theorem Inv.lt (I : Inv X pins σ H s) : X.env.locals < s.heap.objs.size := let ⟨_, hn, _⟩ := I.loc; hn.lt
theorem Inv.sz (I : Inv X pins σ H s) : X.s₀.heap.objs.size ≤ s.heap.objs.size := Nat.le_trans I.ok.above (Nat.le_of_lt I.lt)
theorem Inv.nofs (I : Inv X pins σ H s) {a : Addr} (h : s.heap.objs.size ≤ a) : a ∉ X.fs := fun hb => by
  obtain ⟨_, o, ho, _⟩ := I.ok.funs.mem hb
  exact absurd (Nat.lt_of_lt_of_le (Heap.lt_size ho) (Nat.le_trans I.sz h)) (Nat.lt_irrefl _)
theorem Inv.cne (I : Inv X pins σ H s) : ∀ x c, X.env.cells.lookup x = some c → c ≠ X.env.locals := fun x c e z => by
  obtain ⟨v, o, ho, hd⟩ := I.cell x c e
  obtain ⟨m, ⟨o', es, ep, ho', hd', _⟩, _⟩ := I.loc
  rw [z, ho'] at ho; cases ho; rw [hd'] at hd; cases hd
theorem Inv.funs (I : Inv X pins σ H s) : s.heap.FunFrames X.base X.outer := by
  have all : ∀ (l : List Env), (∀ b ∈ frs l, b ∈ X.fs) → X.s₀.heap.FunFrames X.base l → s.heap.FunFrames X.base l := by
    intro l
    induction l with
    | nil => intro _ _; trivial
    | cons env r ih =>
      intro hs hl
      obtain ⟨hk, ⟨L, o, hf, hn, ho, hd⟩, hr⟩ := hl
      have hL : L ∈ X.fs := hs L (by unfold frs; rw [List.filterMap_cons, hf]; exact List.mem_cons_self)
      obtain ⟨sl, e⟩ := I.base.slot L o ho (I.ok.frf L hL) hL fun z => I.ok.exfs L z hL
      exact ⟨hk, ⟨L, _, hf, hn, e, hd⟩, ih (fun b hb => hs b (by unfold frs; rw [List.filterMap_cons, hf]; exact List.mem_cons_of_mem _ hb)) hr⟩
  exact all X.outer (fun _ hb => hb) I.ok.funs

/-- the frames that run, for a call -/
theorem Inv.stack (I : Inv X pins σ H s) : s.heap.FunFrames X.base X.stack := by
  rcases I.ok.stk with e | ⟨e, hf⟩
  · rw [e]; exact I.funs
  · rw [e]
    obtain ⟨m, hn, _⟩ := I.loc
    refine .cons (by rw [I.ok.kind]; decide) hf hn ?_ I.funs
    exact Heap.get?_none_of_le (Nat.le_trans I.ok.bsz I.ok.above)
theorem Inv.stkSub (I : Inv X pins σ H s) : ∀ b ∈ frs X.stack, b ∈ X.env.locals :: X.fs := fun b hb => by
  rcases I.ok.stk with e | ⟨e, hf⟩
  · rw [e] at hb; exact List.mem_cons_of_mem _ hb
  · rw [e] at hb
    unfold frs at hb
    rw [List.filterMap_cons, hf] at hb
    exact hb
theorem Inv.stkFree (I : Inv X pins σ H s) : ∀ b ∈ frs X.stack, H b = none := fun b hb => by
  rcases List.mem_cons.mp (I.stkSub b hb) with e | hb
  · rw [e]; exact I.free
  · obtain ⟨_, o, ho, _⟩ := I.ok.funs.mem hb
    exact I.base.free b o ho (I.ok.frf b hb) fun z => I.ok.exfs b z hb

theorem Inv.hde (I : Inv X pins σ H s) : HdX X.A s.heap H (frs X.stack) [] [] := by
  rcases I.ok.hdl with q | ⟨e, C, oe, vs, q1, q2, q3, q4, q5 | ⟨q5, q6, q7, q8⟩⟩
  · exact .inl q
  · obtain ⟨p1, p2, p3, p4, _⟩ := I.pin (e, oe) (List.mem_append_left _ q5)
    exact .inr ⟨e, C, oe, vs, q1, q2, q3, q4, .inr ⟨p1, p2, fun z => (List.mem_cons.mp (I.stkSub e z)).elim p3 p4, fun z => nomatch z⟩⟩
  · exact .inr ⟨e, C, oe, vs, q1, q2, q3, q4, .inr ⟨I.base.keep e oe q5 q6 q7 q8, I.base.free e oe q5 q6 q8, fun z => (List.mem_cons.mp (I.stkSub e z)).elim (Nat.ne_of_lt (Nat.lt_of_lt_of_le (Heap.lt_size q5) I.ok.above)) q7, fun z => nomatch z⟩⟩
theorem Inv.hdn (I : Inv X pins σ H s) : EoH.HdN X.A s.heap := by
  rcases I.hde with q | ⟨e, C, oe, vs, q1, q2, q3, q4, q5 | q5⟩
  · exact .inl q
  · exact nomatch q5
  · exact .inr ⟨e, C, oe, vs, q1, q5.1, q2, q3, q4⟩

/-- THE STEP: the untracked objects but the frame and the records at ch are kept (the callers' frames up to slots), the frame's map is kept, the new abstract heap is held -/
theorem Inv.step {g' : Array GenState} {t' : Nat} {d' : Drawn} {ch : List Addr} (I : Inv X pins σ H s)
    (hch : ∀ b ∈ ch, (b ∈ X.ex ∨ X.s₀.heap.get? b = none) ∧ b ≠ X.env.locals ∧ (∀ x c, X.env.cells.lookup x = some c → c ≠ b) ∧ ∀ p ∈ X.pn ++ pins, p.1 ≠ b)
    (keep : ∀ b o, b ≠ X.env.locals → b ∉ X.fs → b ∉ ch → s.heap.get? b = some o → H b = none → h'.get? b = some o)
    (slot : ∀ b o, b ≠ X.env.locals → b ∈ X.fs → b ∉ ch → s.heap.get? b = some o → H b = none → ∃ sl, h'.get? b = some { o with slots := sl }) (free : ∀ b o, b ∉ ch → s.heap.get? b = some o → H b = none → H' b = none)
    (there : ∀ b o, b ∉ ch → s.heap.get? b = some o → ∃ o', h'.get? b = some o')
    (tups : ∀ b xs, H b = some (.tup xs) → H' b = some (.tup xs)) (frzs : ∀ b o u, H b = some (.frz o u) → H' b = some (.frz o u)) (tbls : ∀ b ps, H b = some (.tbl ps) → ∃ more, H' b = some (.tbl (ps ++ more)))
    (ns : ∀ m, s.heap.Ns X.env.locals m → h'.Ns X.env.locals m) (hok : HOk X.prog X.w H' h') (hg : AllBare g') :
    Inv X pins σ H' { s with heap := h', gens := g', drawn := d', toks := t' } := by
  have neL : ∀ b o, X.s₀.heap.get? b = some o → b ≠ X.env.locals := fun b o e => Nat.ne_of_lt (Nat.lt_of_lt_of_le (Heap.lt_size e) I.ok.above)
  have neC : ∀ b o, X.s₀.heap.get? b = some o → b ∉ X.ex → b ∉ ch := fun b o e hx hb => by
    rcases (hch b hb).1 with z | z
    · exact hx z
    · rw [z] at e; cases e
  have cellK : ∀ x c, X.env.cells.lookup x = some c → ∀ v, s.heap.IsCell c v → h'.IsCell c v := fun x c e v ⟨o, ho, hd⟩ => by
    have nch : c ∉ ch := fun z => (hch c z).2.2.1 x c e rfl
    by_cases hc : c ∈ X.fs
    · obtain ⟨sl, q⟩ := slot c o (I.cne x c e) hc nch ho (I.freeC x c e)
      exact ⟨_, q, hd⟩
    · exact ⟨o, keep c o (I.cne x c e) hc nch ho (I.freeC x c e), hd⟩
  refine ⟨I.ok, I.os, hg, ⟨fun b o e n hb hx => ?_, fun b o e n hb hx => ?_, fun b o e n hx => ?_, fun b o e hx => ?_, fun b xs e => tups b xs (I.base.tups b xs e), fun b o xs e => frzs b o xs (I.base.frzs b o xs e), fun b ps e => ?_⟩, ?_, fun x c e => ?_, ?_, fun x c e => ?_, fun p hp => ?_, hok, I.len⟩
  · exact keep b o (neL b o e) hb (neC b o e hx) (I.base.keep b o e n hb hx) (I.base.free b o e n hx)
  · obtain ⟨sl, e1⟩ := I.base.slot b o e n hb hx
    obtain ⟨sl', e2⟩ := slot b _ (neL b o e) hb (neC b o e hx) e1 (I.base.free b o e n hx)
    exact ⟨sl', e2⟩
  · obtain ⟨o', e1⟩ := I.base.there b o e hx
    exact free b o' (neC b o e hx) e1 (I.base.free b o e n hx)
  · obtain ⟨o', e1⟩ := I.base.there b o e hx
    exact there b o' (neC b o e hx) e1
  · obtain ⟨m1, e1⟩ := I.base.tbls b ps e
    obtain ⟨m2, e2⟩ := tbls b _ e1
    exact ⟨m1 ++ m2, by rw [e2, Array.append_assoc]⟩
  · obtain ⟨m, hn, hl⟩ := I.loc
    refine ⟨m, ns m hn, fun i x v e1 e2 e3 => ?_⟩
    obtain ⟨u, r, l⟩ := hl i x v e1 e2 e3
    refine ⟨u, r, ?_⟩
    rcases l with l | ⟨k, c, e, z⟩
    · exact .inl l
    · exact .inr ⟨k, c, e, cellK x c e _ z⟩
  · obtain ⟨v, z⟩ := I.cell x c e
    exact ⟨v, cellK x c e v z⟩
  · obtain ⟨m, ⟨o, _, _, ho, _⟩, _⟩ := I.loc
    exact free _ o (fun z => (hch _ z).2.1 rfl) ho I.free
  · obtain ⟨v, o, ho, hd⟩ := I.cell x c e
    exact free c o (fun z => (hch c z).2.2.1 x c e rfl) ho (I.freeC x c e)
  · obtain ⟨e, n, ne, nf, d⟩ := I.pin p hp
    have nch : p.1 ∉ ch := fun z => (hch p.1 z).2.2.2 p hp rfl
    exact ⟨keep p.1 p.2 ne nf nch e n, free p.1 p.2 nch e n, ne, nf, d⟩
/-- .. where the frame's own object is kept too -/
theorem Inv.un {t' : Nat} (I : Inv X pins σ H s) (u : Un X.fs [] H H' s.heap h') (hok : HOk X.prog X.w H' h') : Inv X pins σ H' { s with heap := h', toks := t' } := by
  obtain ⟨m, ⟨o, es, ep, ho, r⟩, _⟩ := id I.loc
  obtain ⟨sl, hL⟩ := u.any ho I.free (by simp)
  exact I.step (g' := s.gens) (d' := s.drawn) (ch := []) (fun _ z => nomatch z) (fun b o _ hb _ e n => u.keep b o e n hb (by simp)) (fun b o _ hb _ e n => u.slot b o e n hb (by simp)) (fun b o _ e n => u.free b o e n (by simp)) (fun b o _ e => u.there b o e (by simp)) u.tups u.frzs u.tbls (fun m' hm => by
    obtain ⟨o', es', ep', ho', r'⟩ := hm
    rw [ho] at ho'; cases ho'
    exact ⟨_, es', ep', hL, r'⟩) hok I.bare
/-- behind a call (or a comprehension's block): the slots of this frame may have changed too, the records at ch may have turned -/
theorem Inv.call {g' : Array GenState} {t' : Nat} {d' : Drawn} {ch : List Addr} (I : Inv X pins σ H s) (u : Un (frs X.stack) ch H H' s.heap h') (hok : HOk X.prog X.w H' h') (hg : AllBare g')
    (hch : ∀ b ∈ ch, (b ∈ X.ex ∨ X.s₀.heap.get? b = none) ∧ b ≠ X.env.locals ∧ (∀ x c, X.env.cells.lookup x = some c → c ≠ b) ∧ ∀ p ∈ X.pn ++ pins, p.1 ≠ b) :
    Inv X pins σ H' { s with heap := h', gens := g', drawn := d', toks := t' } := by
  obtain ⟨m, ⟨o, es, ep, ho, r⟩, _⟩ := id I.loc
  obtain ⟨sl, hL⟩ := u.any ho I.free fun z => (hch _ z).2.1 rfl
  exact I.step (ch := ch) hch (fun b o hL hb hc e n => u.keep b o e n (fun z => (List.mem_cons.mp (I.stkSub b z)).elim hL hb) hc) (fun b o _ _ hc e n => u.any e n hc) (fun b o hc e n => u.free b o e n hc) (fun b o hc e => u.there b o e hc) u.tups u.frzs u.tbls (fun m' hm => by
    obtain ⟨o', es', ep', ho', r'⟩ := hm
    rw [ho] at ho'; cases ho'
    exact ⟨_, es', ep', hL, r'⟩) hok hg
/-- an untracked record of ours (an iterator) has turned -/
theorem Inv.turned {t' : Nat} {it : Addr} (I : Inv X pins σ H s) (k : ∀ b o, b ≠ it → s.heap.get? b = some o → h'.get? b = some o) (hn : H it = none) (hL : it ≠ X.env.locals)
    (h1 : it ∈ X.ex ∨ X.s₀.heap.get? it = none) (h2 : ∀ x c, X.env.cells.lookup x = some c → c ≠ it) (h3 : ∀ p ∈ X.pn ++ pins, p.1 ≠ it) : Inv X pins σ H { s with heap := h', toks := t' } := by
  have nit : ∀ b u, H b = some u → b ≠ it := fun b u e z => by rw [z, hn] at e; cases e
  refine I.step (g' := s.gens) (d' := s.drawn) (ch := [it]) (fun b hb => ?_) (fun b o _ _ hc e _ => k b o (fun z => hc (by simp [z])) e) (fun b o _ _ hc e _ => ⟨o.slots, k b o (fun z => hc (by simp [z])) e⟩) (fun _ _ _ _ n => n)
    (fun b o hc e => ⟨o, k b o (fun z => hc (by simp [z])) e⟩) (fun _ _ e => e) (fun _ _ _ e => e) (fun b ps e => ⟨#[], by rw [e]; simp⟩) (fun m hm => ?_) (fun b u e => ?_) I.bare
  · have e : b = it := by simpa using hb
    subst e
    exact ⟨h1, hL, h2, h3⟩
  · obtain ⟨o, es, ep, ho, r⟩ := hm
    exact ⟨o, es, ep, k _ o (Ne.symm hL) ho, r⟩
  · refine (I.hok b u e).stay (fun c v hc q => k c v ?_ q) (fun _ q => q) fun _ _ q => q
    rcases hc with z | z
    · rw [z]; exact nit b u e
    · exact nit c _ z
theorem Inv.tok (I : Inv X pins σ H s) (t : Nat) : Inv X pins σ H { s with toks := t } := I.un (h' := s.heap) (t' := t) Un.refl I.hok
/-- all objects kept -/
theorem Inv.kept {t' : Nat} (I : Inv X pins σ H s) (k : ∀ b u, s.heap.get? b = some u → h'.get? b = some u) : Inv X pins σ H { s with heap := h', toks := t' } := I.un (Un.kept k) (I.hok.kept k)
/-- a new object laid and tracked -/
theorem Inv.laid {a : Addr} {o : HO} {t' : Nat} (I : Inv X pins σ H s) (k : ∀ b u, s.heap.get? b = some u → h'.get? b = some u) (hp : s.heap.objs.size ≤ a) (new : ObjOk X.prog X.w (upd H a o) h' a o) :
    Inv X pins σ (upd H a o) { s with heap := h', toks := t' } := I.un (Un.laid k hp (I.hok.fresh hp)) (I.hok.laid k hp new)
/-- an object written -/
theorem Inv.write {x e : Addr} {o : HO} {t' : Nat} (I : Inv X pins σ H s) (mu : Mut (H x)) (he : e = x ∨ H e = some (.own x)) (k : ∀ b u, b ≠ e → s.heap.get? b = some u → h'.get? b = some u) (heo : ∃ u, h'.get? e = some u)
    (new : ObjOk X.prog X.w (upd H x o) h' x o) : Inv X pins σ (upd H x o) { s with heap := h', toks := t' } := I.un (Un.write mu he k heo) (I.hok.write mu he k heo new)
theorem Inv.pins_of {pins' : List (Addr × Obj)} (I : Inv X pins σ H s) (h : ∀ p ∈ pins', s.heap.get? p.1 = some p.2 ∧ H p.1 = none ∧ p.1 ≠ X.env.locals ∧ p.1 ∉ X.fs ∧ ∀ v, p.2.data ≠ .cell v) : Inv X pins' σ H s :=
  ⟨I.ok, I.os, I.bare, I.base, I.loc, I.cell, I.free, I.freeC, fun p hp => (List.mem_append.mp hp).elim (fun z => I.pin p (List.mem_append_left _ z)) (h p), I.hok, I.len⟩

theorem nodup_ix {N : List Str} (hN : N.Nodup) {i j : Nat} {x : Str} (a : N[i]? = some x) (b : N[j]? = some x) : i = j := by
  obtain ⟨h1, e1⟩ := List.getElem?_eq_some_iff.mp a
  obtain ⟨h2, e2⟩ := List.getElem?_eq_some_iff.mp b
  exact (List.getElem_inj hN).mp (e1.trans e2.symm)

/-- a name is stored; what changed -/
theorem store_ok2 {M : Model} {A : Around} {E : Value → Shared → Prop} {i : Nat} {x : Str} {v : V} {u : Value} {Q : Unit → Shared → Prop} (I : Inv X pins σ H s) (hN : X.N.Nodup) (hi : X.N[i]? = some x) (hx : Loc X.env.scope x) (r : RelV v u)
    (h : ∀ s', Inv X pins (σ.set i (some v)) H s' → (∃ a, Heap.SameBut a s.heap s'.heap ∧ (a = X.env.locals ∨ X.env.cells.lookup x = some a)) → Q () s') (hf : X.fn x = true ∨ X.env.scope.names.lookup x = some .local := by first | exact .inl rfl | exact .inr rfl | assumption) : wpAny M A (storeName X.env x u) Q E s := by
  obtain ⟨m, hn, hl⟩ := id I.loc
  have hcls : (X.env.scope.kind == .class || (X.env.scope.kind == .module && X.env.locals != X.env.globals)) = false := by rw [I.ok.kind]; rfl
  have hiσ : i < σ.length := by rw [I.len]; exact (List.getElem?_eq_some_iff.mp hi).1
  have cne := I.cne
  have tracked : ∀ {a : Addr} {h' : Heap}, (∃ o, s.heap.get? a = some o ∧ H a = none) → Heap.SameBut a s.heap h' → HOk X.prog X.w H h' := fun {a h'} ha hs b ob e => by
    obtain ⟨_, _, hfree⟩ := ha
    refine (I.hok b ob e).stay (fun c w' hc q => (hs.2 c ?_).trans q) (fun _ q => q) fun _ _ q => q
    rintro rfl
    rcases hc with rfl | hc
    · rw [hfree] at e; cases e
    · rw [hfree] at hc; cases hc
  rcases hx with hk | hk
  · refine wpAny_storeName_local hk hn (fun h' hn' hs => ?_) hcls
    obtain ⟨oL, _, _, hoL, _⟩ := id hn
    refine h _ ⟨I.ok, I.os, I.bare, ⟨fun b o e n hb hx => ?_, fun b o e n hb hx => ?_, I.base.free, fun b o e hx => ?_, I.base.tups, I.base.frzs, I.base.tbls⟩, ⟨_, hn', fun j y v' e1 e2 e3 => ?_⟩, fun y c e => ?_, I.free, I.freeC, fun p hp => ?_, tracked ⟨oL, hoL, I.free⟩ hs, by simpa using I.len⟩ ⟨_, hs, .inl rfl⟩
    · exact (hs.2 b (Nat.ne_of_lt (Nat.lt_of_lt_of_le (Heap.lt_size e) I.ok.above))).trans (I.base.keep b o e n hb hx)
    · obtain ⟨sl, e1⟩ := I.base.slot b o e n hb hx
      exact ⟨sl, (hs.2 b (Nat.ne_of_lt (Nat.lt_of_lt_of_le (Heap.lt_size e) I.ok.above))).trans e1⟩
    · obtain ⟨o', e1⟩ := I.base.there b o e hx
      exact ⟨o', (hs.2 b (Nat.ne_of_lt (Nat.lt_of_lt_of_le (Heap.lt_size e) I.ok.above))).trans e1⟩
    · by_cases hj : j = i
      · subst hj
        rw [hi] at e1; cases e1
        rw [List.getElem?_set_self hiσ] at e2
        cases e2
        exact ⟨u, r, .inl ⟨hk, by simp⟩⟩
      · rw [List.getElem?_set_ne (Ne.symm hj)] at e2
        obtain ⟨u', r', q⟩ := hl j y v' e1 e2 e3
        refine ⟨u', r', ?_⟩
        rcases q with ⟨k, e⟩ | ⟨k, c, e, z⟩
        · refine .inl ⟨k, ?_⟩
          have : y ≠ x := fun e => hj (nodup_ix hN e1 (e ▸ hi))
          simp [this, e]
        · exact .inr ⟨k, c, e, z.sameBut hs (cne y c e)⟩
    · obtain ⟨w', z⟩ := I.cell y c e
      exact ⟨w', z.sameBut hs (cne y c e)⟩
    · obtain ⟨e, n, ne, nf, d⟩ := I.pin p hp
      exact ⟨(hs.2 p.1 ne).trans e, n, ne, nf, d⟩
  · have hfn : X.fn x = true := by
      rcases hf with z | z
      · exact z
      · rw [z] at hk; cases hk
    obtain ⟨c, hc⟩ := I.ok.has x (.inl hk)
    obtain ⟨w', z⟩ := I.cell x c hc
    refine wpAny_storeName_cell I.ok.kind hk hc z (fun h' hc' hs => ?_)
    obtain ⟨oc, hoc, hocd⟩ := id z
    refine h { s with heap := h' } ⟨I.ok, I.os, I.bare, ⟨fun b o e n hb hx => ?_, fun b o e n hb hx => ?_, I.base.free, fun b o e hx => ?_, I.base.tups, I.base.frzs, I.base.tbls⟩, ⟨m, hn.sameBut hs (Ne.symm (cne x c hc)), fun j y v' e1 e2 e3 => ?_⟩, fun y c' e => ?_, I.free, I.freeC, fun p hp => ?_, tracked ⟨oc, hoc, I.freeC x c hc⟩ hs, by simpa using I.len⟩ ⟨c, hs, .inr hc⟩
    · exact (hs.2 b (Nat.ne_of_lt (Nat.lt_of_lt_of_le (Heap.lt_size e) (I.ok.cab x c hfn hc)))).trans (I.base.keep b o e n hb hx)
    · obtain ⟨sl, e1⟩ := I.base.slot b o e n hb hx
      exact ⟨sl, (hs.2 b (Nat.ne_of_lt (Nat.lt_of_lt_of_le (Heap.lt_size e) (I.ok.cab x c hfn hc)))).trans e1⟩
    · obtain ⟨o', e1⟩ := I.base.there b o e hx
      exact ⟨o', (hs.2 b (Nat.ne_of_lt (Nat.lt_of_lt_of_le (Heap.lt_size e) (I.ok.cab x c hfn hc)))).trans e1⟩
    · by_cases hj : j = i
      · subst hj
        rw [hi] at e1; cases e1
        rw [List.getElem?_set_self hiσ] at e2
        cases e2
        exact ⟨u, r, .inr ⟨.inl hk, c, hc, hc'⟩⟩
      · rw [List.getElem?_set_ne (Ne.symm hj)] at e2
        obtain ⟨u', r', q⟩ := hl j y v' e1 e2 e3
        refine ⟨u', r', ?_⟩
        rcases q with q | ⟨k, c', e, z'⟩
        · exact .inl q
        · refine .inr ⟨k, c', e, z'.sameBut hs ?_⟩
          rintro rfl
          exact hj (nodup_ix hN e1 (I.ok.inj _ _ _ e hc ▸ hi))
    · by_cases hcc : c' = c
      · subst hcc; exact ⟨_, hc'⟩
      · obtain ⟨w2, z2⟩ := I.cell y c' e
        exact ⟨w2, z2.sameBut hs hcc⟩
    · obtain ⟨e, n, ne, nf, d⟩ := I.pin p hp
      refine ⟨(hs.2 p.1 ?_).trans e, n, ne, nf, d⟩
      intro q
      rw [q, hoc] at e
      have q' : oc = p.2 := Option.some.inj e
      exact d w' (by rw [← q']; exact hocd)
theorem store_ok {M : Model} {A : Around} {E : Value → Shared → Prop} {i : Nat} {x : Str} {v : V} {u : Value} {Q : Unit → Shared → Prop} (I : Inv X pins σ H s) (hN : X.N.Nodup) (hi : X.N[i]? = some x) (hx : Loc X.env.scope x) (r : RelV v u)
    (h : ∀ s', Inv X pins (σ.set i (some v)) H s' → Q () s') (hf : X.fn x = true ∨ X.env.scope.names.lookup x = some .local := by first | exact .inl rfl | exact .inr rfl | assumption) : wpAny M A (storeName X.env x u) Q E s :=
  store_ok2 I hN hi hx r (fun s' I' _ => h s' I') hf
/-- behind a call or a block, the state as it is -/
theorem Inv.call' {s' : Shared} {ch : List Addr} (I : Inv X pins σ H s) (ho : s'.os = s.os) (u : Un (frs X.stack) ch H H' s.heap s'.heap) (hok : HOk X.prog X.w H' s'.heap) (hg : AllBare s'.gens)
    (hch : ∀ b ∈ ch, (b ∈ X.ex ∨ X.s₀.heap.get? b = none) ∧ b ≠ X.env.locals ∧ (∀ x c, X.env.cells.lookup x = some c → c ≠ b) ∧ ∀ p ∈ X.pn ++ pins, p.1 ≠ b) : Inv X pins σ H' s' := by
  obtain ⟨h', g', d', t', o'⟩ := s'
  have e : o' = s.os := ho
  subst e
  exact I.call (g' := g') (t' := t') (d' := d') u hok hg hch
end

inductive XVar (σ : List (Option V)) (i : Nat) (H : Hp) (Q : V → Hp → Prop) : Prop
  | mk (v : V) (e : σ[i]? = some (some v)) (q : Q v H)
inductive XB (x : V) (R : Bool → Prop) : Prop
  | mk (c : Bool) (e : x = .bl c) (q : R c)
inductive XI (x : V) (R : Int → Prop) : Prop
  | mk (i : Int) (e : x = .int i) (q : R i)
inductive XII (x y : V) (R : Int → Int → Prop) : Prop
  | mk (i j : Int) (ex : x = .int i) (ey : y = .int j) (q : R i j)
inductive XIC (C : Int → Int → Prop) (x y : V) (R : Int → Int → Prop) : Prop
  | mk (i j : Int) (ex : x = .int i) (ey : y = .int j) (c : C i j) (q : R i j)

/-! ### the judgements -/
/-- an exception: its class, its own dict's address (where it has one), the abstract heap behind it -/
abbrev XK := Value → Option Addr → Hp → Prop
abbrev St := List (Option V)
abbrev VK := V → Hp → Prop
/-- an expression's reading; a test's; an argument list's -/
abbrev TE := St → Hp → VK → Prop
abbrev TT := St → Hp → (Bool → Hp → Prop) → Prop
abbrev TA := St → Hp → (List V → Hp → Prop) → Prop
/-- what is wanted behind a statement -/
structure Ends where
  nx : St → Hp → Prop
  rt : VK
  bk : St → Hp → Prop := fun _ _ => False
  ct : St → Hp → Prop := fun _ _ => False
abbrev TS := Ends → St → Hp → Prop

def EP (X : Cx) (pins : List (Addr × Obj)) (σ : St) (Q : VK) (u : Value) (s' : Shared) : Prop := ∃ v H', Inv X pins σ H' s' ∧ RelV v u ∧ Q v H'
def TP (X : Cx) (pins : List (Addr × Obj)) (σ : St) (Q : Bool → Hp → Prop) (b : Bool) (s' : Shared) : Prop := ∃ H', Inv X pins σ H' s' ∧ Q b H'
def AP (X : Cx) (pins : List (Addr × Obj)) (σ : St) (Q : List V → Hp → Prop) (us : List Value) (s' : Shared) : Prop := ∃ vs H', Inv X pins σ H' s' ∧ Vals vs us ∧ Q vs H'
def SP (X : Cx) (pins : List (Addr × Obj)) (D : Ends) (f : Flow) (s' : Shared) : Prop :=
  match f with
  | .next => ∃ σ' H', Inv X pins σ' H' s' ∧ D.nx σ' H'
  | .brk => ∃ σ' H', Inv X pins σ' H' s' ∧ D.bk σ' H'
  | .cont => ∃ σ' H', Inv X pins σ' H' s' ∧ D.ct σ' H'
  | .ret u => ∃ v σ' H', Inv X pins σ' H' s' ∧ RelV v u ∧ D.rt v H'

def PE (X : Cx) (e : Expr) (t : TE) : Prop :=
  ∀ (pins : List (Addr × Obj)) (s : Shared) (σ : St) (H : Hp) (Q : VK), Inv X pins σ H s → t σ H Q → wpAny (model X.prog X.w) X.A (eval e X.env) (EP X pins σ Q) X.xe s
def PT (X : Cx) (e : Expr) (t : TT) : Prop :=
  ∀ (pins : List (Addr × Obj)) (s : Shared) (σ : St) (H : Hp) (Q : Bool → Hp → Prop), Inv X pins σ H s → t σ H Q → wpAny (model X.prog X.w) X.A (isTrue e X.env (eval e X.env)) (TP X pins σ Q) X.xe s
/-- a test whatever its 'whole' is (and, or) -/
def PW (X : Cx) (e : Expr) (t : TT) : Prop :=
  ∀ (whole : Sem Value) (pins : List (Addr × Obj)) (s : Shared) (σ : St) (H : Hp) (Q : Bool → Hp → Prop), Inv X pins σ H s → t σ H Q → wpAny (model X.prog X.w) X.A (isTrue e X.env whole) (TP X pins σ Q) X.xe s
theorem PW.pt {X : Cx} {e : Expr} {t : TT} (h : PW X e t) : PT X e t := h _
/-- an argument list (no star), from the left -/
def PA (X : Cx) (es : List Expr) (t : TA) : Prop :=
  ∀ (pos : Pos) (pins : List (Addr × Obj)) (s : Shared) (σ : St) (H : Hp) (Q : List V → Hp → Prop), Inv X pins σ H s → t σ H Q → wpAny (model X.prog X.w) X.A (spliced (backTo pos (starEach es X.env))) (AP X pins σ Q) X.xe s
def PS (X : Cx) (st : Stmt) (t : TS) : Prop :=
  ∀ (pins : List (Addr × Obj)) (s : Shared) (σ : St) (H : Hp) (D : Ends), Inv X pins σ H s → t D σ H → wpAny (model X.prog X.w) X.A (exec st X.env) (SP X pins D) X.xe s
def PSs (X : Cx) (st : List Stmt) (t : TS) : Prop :=
  ∀ (pins : List (Addr × Obj)) (s : Shared) (σ : St) (H : Hp) (D : Ends), Inv X pins σ H s → t D σ H → wpAny (model X.prog X.w) X.A (execs st X.env) (SP X pins D) X.xe s
/-- weaken the end -/
theorem thn {α : Type} {t : Sem α} {Q Q' : α → Shared → Prop} {M : Model} {A : Around} {E : Value → Shared → Prop} {s : Shared} (h : wpAny M A t Q E s) (hQ : ∀ a s, Q a s → Q' a s) : wpAny M A t Q' E s := wpAny_mono h hQ fun _ _ x => x
end L2

namespace L2
open PySem PySem.Spec PyProof.Rows
section
variable {X : Cx}

/-! ### names and constants -/
def tVar (i : Nat) : TE := fun σ H Q => XVar σ i H Q
def tC (v : V) : TE := fun _ H Q => Q v H
theorem pe_var {i : Nat} {x : Str} {pos : Pos} (hN : X.N[i]? = some x) (hv : Vis X.env.scope x) (hd : (x == ("__debug__" : Str)) = false := by decide) (hcd : (x == ("__classdict__" : Str)) = false := by decide) : PE X (.Name x pos) (tVar i) := by
  intro pins s σ H Q I h
  obtain ⟨v, e, h⟩ := h
  obtain ⟨m, hn, hl⟩ := I.loc
  obtain ⟨u, r, l⟩ := hl i x v hN e hv
  have fin : EP X pins σ Q u s := ⟨v, H, I, r, h⟩
  rcases l with ⟨hk, hm⟩ | ⟨hk, c, hc, hcell⟩
  · exact wpAny_Name (wpAny_loadName_local I.ok.kind hk hn hm fin) hd
  · rcases hk with hk | hk
    · exact wpAny_Name (wpAny_loadName_cell I.ok.kind hk hc hcell fin) hd
    · exact wpAny_Name (wpAny_loadName_free I.ok.kind hk hc hcell fin hcd) hd
theorem pe_int {i j pos} : PE X (.Constant (.int i) j pos) (tC (.int i)) := fun _ _ _ H _ I h => wpAny_Constant_int ⟨.int i, H, I.tok _, ⟨_, rfl⟩, h⟩
theorem pe_bl {b j pos} : PE X (.Constant (.bool b) j pos) (tC (.bl b)) := fun _ _ _ H _ I h => Constant_bool ⟨.bl b, H, I, rfl, h⟩
theorem pe_non {j pos} : PE X (.Constant .none j pos) (tC .non) := fun _ _ _ H _ I h => Constant_none ⟨.non, H, I, rfl, h⟩
theorem pe_str {x j pos} : PE X (.Constant (.str x) j pos) (tC (.str x)) := fun _ _ _ H _ I h => Calls.Constant_str ⟨.str x, H, I.tok _, ⟨_, rfl⟩, h⟩

/-- a global name of the def -/
def Gl (X : Cx) (x : Str) : Prop := X.env.kindOf x = some .globalImplicit
theorem ld_glob {E : Value → Shared → Prop} {pins : List (Addr × Obj)} {s : Shared} {σ : St} {H : Hp} {x : Str} {u : Value} {pos : Pos} {Q : Value → Shared → Prop} (I : Inv X pins σ H s) (hg : Gl X x) (hm : X.mg x = some u) (h : Q u s)
    (hd : (x == ("__debug__" : Str)) = false := by decide) : wpAny (model X.prog X.w) X.A (eval (.Name x pos) X.env) Q E s :=
  Calls.Name_function_global I.ok.kind hg (Calls.loadGlobal_global (by rw [I.ok.glob]; exact I.mod.glob.keeps I.bk) hm h) hd
theorem ld_blt {E : Value → Shared → Prop} {pins : List (Addr × Obj)} {s : Shared} {σ : St} {H : Hp} {x : Str} {u : Value} {pos : Pos} {Q : Value → Shared → Prop} (I : Inv X pins σ H s) (hg : Gl X x) (hm : X.mg x = none) (hv : bootBuiltins x = some u) (h : Q u s)
    (hn : x ≠ "__name__" := by decide) (hd : (x == ("__debug__" : Str)) = false := by decide) : wpAny (model X.prog X.w) X.A (eval (.Name x pos) X.env) Q E s := by
  obtain ⟨mb, h1, h2⟩ := I.mod.blt
  exact Calls.Name_function_global I.ok.kind hg (Calls.loadGlobal_builtin (by rw [I.ok.glob]; exact I.mod.glob.keeps I.bk) hm (by rw [I.ok.blt]; exact h1.keeps I.bk) ((h2 x hn).trans hv) h) hd
/-- a module's constant, a class, a function, as a value -/
theorem pe_glob {x : Str} {v : V} {u : Value} {pos : Pos} (hg : Gl X x) (hm : X.mg x = some u) (r : RelV v u) (hd : (x == ("__debug__" : Str)) = false := by decide) : PE X (.Name x pos) (tC v) :=
  fun _ _ _ H _ I h => ld_glob I hg hm ⟨v, H, I, r, h⟩ hd
theorem pe_bltn {x : Str} {v : V} {u : Value} {pos : Pos} (hg : Gl X x) (hm : X.mg x = none) (hv : bootBuiltins x = some u) (r : RelV v u) (hn : x ≠ "__name__" := by decide) (hd : (x == ("__debug__" : Str)) = false := by decide) : PE X (.Name x pos) (tC v) :=
  fun _ _ _ H _ I h => ld_blt I hg hm hv ⟨v, H, I, r, h⟩ hn hd

/-! ### arithmetic -/
variable {a b : Expr} {ta tb : TE} {pos : Pos}
/-! ### comparisons -/
def PC (X : Cx) (op : CmpOp) (a b : Expr) (t : TE) : Prop :=
  ∀ (pins : List (Addr × Obj)) (s : Shared) (σ : St) (H : Hp) (Q : VK), Inv X pins σ H s → t σ H Q →
    wpAny (model X.prog X.w) X.A (eval a X.env) (fun v s₁ => wpAny (model X.prog X.w) X.A (eval b X.env) (fun u s₂ => wpAny (model X.prog X.w) X.A (compareOp op v u) (EP X pins σ Q) X.xe s₂) X.xe s₁) X.xe s
theorem nobehind (b : Expr) {op : CmpOp} (h : op ≠ .In) (h2 : op ≠ .NotIn) : behindInMarks op b = false := by
  have e1 : (op == CmpOp.In) = false := by cases op <;> first | rfl | exact absurd rfl h
  have e2 : (op == CmpOp.NotIn) = false := by cases op <;> first | rfl | exact absurd rfl h2
  cases b <;> simp [behindInMarks, e1, e2]
def tNotN (ta : TE) : TE := fun σ H Q => ta σ H fun x H1 => Q (.bl (!decide (x = .non))) H1
theorem RelV.none_iff {x : V} {v : Value} (r : RelV x v) : (v == Value.none) = decide (x = .non) := by
  cases x with
  | non => cases r; rfl
  | bl _ => cases r; rfl
  | int _ => obtain ⟨t, rfl⟩ := r; rfl
  | str _ => obtain ⟨t, rfl⟩ := r; rfl
  | byt _ => obtain ⟨t, rfl⟩ := r; rfl
  | flt _ => obtain ⟨t, rfl⟩ := r; rfl
  | ref _ => cases r; rfl
  | ty _ => cases r; rfl
theorem pc_notN {j pos'} (ha : PE X a ta) : PC X .IsNot a (.Constant .none j pos') (tNotN ta) := by
  intro pins s σ H Q I h
  refine thn (ha pins s σ H _ I h) fun v s1 ⟨x, H1, I1, r1, q1⟩ => ?_
  exact Constant_none (isnot_none_gen ⟨.bl _, H1, I1, by rw [r1.none_iff]; rfl, q1⟩)
/-- a comparison as a value, as a test -/
def tB (t : TE) : TT := fun σ H Q => t σ H fun x H1 => XB x fun c => Q c H1
theorem pt_cmp {op : CmpOp} {t : TE} (h : PC X op a b t) (h1 : behindInMarks op b = false := by first | exact nobehind _ (by decide) (by decide) | rfl) : PT X (.Compare a [op] [b] pos) (tB t) := by
  intro pins s σ H Q I hw
  refine wpAny_isTrue_Compare1 (thn (h pins s σ H _ I hw) fun v s1 h1 => thn h1 fun u s2 h2 => thn h2 fun c s3 ⟨x, H1, I1, r1, q1⟩ => ?_) h1
  obtain ⟨d, rfl, q⟩ := q1
  cases r1
  exact wpAny_truthy_bool ⟨H1, I1, q⟩
/-- an expression whose value is a bool, as a test -/
theorem pt_val {e : Expr} {t : TE} (h : PE X e t) (he : ∀ whole, isTrue e X.env whole = (do let v ← whole; standAt e.pos; holding [v] (truthy v)) := by intro _; rfl) : PT X e (tB t) := by
  intro pins s σ H Q I hw
  refine isTrue_plain (thn (h pins s σ H _ I hw) fun v s1 ⟨x, H1, I1, r1, q1⟩ => ?_) (he _)
  obtain ⟨d, rfl, q⟩ := q1
  cases r1
  exact wpAny_truthy_bool ⟨H1, I1, q⟩

/-! ### and, or, not -/
variable {tA tB' : TT} {rest : List Expr}
def tAnd (t u : TT) : TT := fun σ H Q => t σ H fun c H1 => if c = true then u σ H1 Q else Q false H1
def tOr (t u : TT) : TT := fun σ H Q => t σ H fun c H1 => if c = true then Q true H1 else u σ H1 Q
def tNot (t : TT) : TT := fun σ H Q => t σ H fun c H1 => Q (!c) H1
theorem pw_and1 (ha : PT X a tA) : PW X (.BoolOp .And [a] pos) tA := by
  intro wh pins s σ H Q I h
  refine isTrue_and (thn (ha pins s σ H Q I h) fun c s1 e => ?_)
  cases c with
  | true => exact isTrue_and_nil e
  | false => exact e
theorem pw_or1 (ha : PT X a tA) : PW X (.BoolOp .Or [a] pos) tA := by
  intro wh pins s σ H Q I h
  refine isTrue_or (thn (ha pins s σ H Q I h) fun c s1 e => ?_)
  cases c with
  | false => exact isTrue_or_nil e
  | true => exact e
theorem pw_and (ha : PT X a tA) (hb : PW X (.BoolOp .And (b :: rest) pos) tB') : PW X (.BoolOp .And (a :: b :: rest) pos) (tAnd tA tB') := by
  intro wh pins s σ H Q I h
  refine isTrue_and (thn (ha pins s σ H _ I h) fun c s1 ⟨H1, I1, q1⟩ => ?_)
  cases c with
  | true => exact hb wh pins s1 σ H1 Q I1 q1
  | false => exact ⟨H1, I1, q1⟩
theorem pw_or (ha : PT X a tA) (hb : PW X (.BoolOp .Or (b :: rest) pos) tB') : PW X (.BoolOp .Or (a :: b :: rest) pos) (tOr tA tB') := by
  intro wh pins s σ H Q I h
  refine isTrue_or (thn (ha pins s σ H _ I h) fun c s1 ⟨H1, I1, q1⟩ => ?_)
  cases c with
  | true => exact ⟨H1, I1, q1⟩
  | false => exact hb wh pins s1 σ H1 Q I1 q1
theorem pt_not (ha : PT X a tA) : PT X (.UnaryOp .Not a pos) (tNot tA) := by
  intro pins s σ H Q I h
  exact isTrue_not (ha pins s σ H (fun c H1 => Q (!c) H1) I h)
/-- .. as values (bools) -/
def tAndV (ta tb : TE) : TE := fun σ H Q => ta σ H fun x H1 => XB x fun c => if c = true then tb σ H1 Q else Q (.bl false) H1
def tOrV (ta tb : TE) : TE := fun σ H Q => ta σ H fun x H1 => XB x fun c => if c = true then Q (.bl true) H1 else tb σ H1 Q
def tNotV (ta : TE) : TE := fun σ H Q => ta σ H fun x H1 => XB x fun c => Q (.bl (!c)) H1
theorem pe_one {op} {t : TE} (h : PE X a t) : PE X (.BoolOp op [a] pos) t := fun pins s σ H Q I hw => BoolOp_one (h pins s σ H Q I hw)
theorem pe_and (ha : PE X a ta) (hb : PE X (.BoolOp .And (b :: rest) pos) tb) : PE X (.BoolOp .And (a :: b :: rest) pos) (tAndV ta tb) := by
  intro pins s σ H Q I h
  refine BoolOp_and (thn (ha pins s σ H _ I h) fun v s1 ⟨x, H1, I1, r1, q1⟩ => ?_)
  obtain ⟨c, rfl, q1⟩ := q1
  cases r1
  refine wpAny_truthy_bool ?_
  cases c with
  | true => exact hb pins s1 σ H1 Q I1 q1
  | false => exact ⟨.bl false, H1, I1, rfl, q1⟩
theorem pe_or (ha : PE X a ta) (hb : PE X (.BoolOp .Or (b :: rest) pos) tb) : PE X (.BoolOp .Or (a :: b :: rest) pos) (tOrV ta tb) := by
  intro pins s σ H Q I h
  refine BoolOp_or (thn (ha pins s σ H _ I h) fun v s1 ⟨x, H1, I1, r1, q1⟩ => ?_)
  obtain ⟨c, rfl, q1⟩ := q1
  cases r1
  refine wpAny_truthy_bool ?_
  cases c with
  | false => exact hb pins s1 σ H1 Q I1 q1
  | true => exact ⟨.bl true, H1, I1, rfl, q1⟩
theorem pe_not (ha : PE X a ta) : PE X (.UnaryOp .Not a pos) (tNotV ta) := by
  intro pins s σ H Q I h
  refine UnaryOp_ (thn (ha pins s σ H _ I h) fun v s1 ⟨x, H1, I1, r1, q1⟩ => ?_)
  obtain ⟨c, rfl, q1⟩ := q1
  cases r1
  exact not_of (wpAny_truthy_bool ⟨.bl (!c), H1, I1, rfl, q1⟩)
end
end L2

namespace L2
open PySem PySem.Spec PyProof.Rows

/-! ### a list, a tuple that is read: tracked, frozen, or an object of the module -/
def SqL (K : PySem.W.Frag) (H : Hp) (a : Addr) (xs : List V) : Prop :=
  Rd H a (.lst xs) ∨
    ∃ (o : Obj) (its : Array Value) (n : Nat), K.lookup a = some o ∧ o.cls = .type "list" ∧ o.dict = none ∧ o.data = .seq its n ∧ its.size ≤ sizeLine ∧ Vals xs its.toList
def SqT (K : PySem.W.Frag) (H : Hp) (a : Addr) (xs : List V) : Prop :=
  Rd H a (.tup xs) ∨
    ∃ (o : Obj) (its : Array Value) (n : Nat), K.lookup a = some o ∧ o.cls = .type "tuple" ∧ o.data = .seq its n ∧ its.size ≤ sizeLine ∧ Vals xs its.toList
def absV : Value → Option V
  | .none => some .non
  | .bool b => some (.bl b)
  | .int i _ => some (.int i)
  | .str x _ => some (.str x)
  | .bytes b _ => some (.byt b)
  | .float b _ => some (.flt b)
  | .ref a => some (.ref a)
  | .type n => some (.ty n)
  | _ => none
theorem RelV.abs {x : V} {u : Value} (r : RelV x u) : absV u = some x := by
  cases x with
  | non => cases r; rfl
  | bl _ => cases r; rfl
  | int _ => obtain ⟨t, rfl⟩ := r; rfl
  | str _ => obtain ⟨t, rfl⟩ := r; rfl
  | byt _ => obtain ⟨t, rfl⟩ := r; rfl
  | flt _ => obtain ⟨t, rfl⟩ := r; rfl
  | ref _ => cases r; rfl
  | ty _ => cases r; rfl
theorem RelV.inj {x y : V} {u : Value} (r : RelV x u) (q : RelV y u) : x = y := Option.some.inj (r.abs.symm.trans q.abs)
theorem Vals.inj : ∀ {xs ys : List V} {us : List Value}, Vals xs us → Vals ys us → xs = ys
  | _, _, _, .nil, .nil => rfl
  | _, _, _, .cons r t, .cons r' t' => by rw [r.inj r', Vals.inj t t']
section
variable {X : Cx} {pins : List (Addr × Obj)} {σ : St} {H : Hp} {s : Shared} {a : Addr} {xs ys : List V}
theorem SqL.of {K : PySem.W.Frag} (h : H a = some (.lst xs)) : SqL K H a xs := .inl (.inl h)
theorem SqT.of {K : PySem.W.Frag} (h : H a = some (.tup xs)) : SqT K H a xs := .inl (.inl h)
theorem Inv.list (I : Inv X pins σ H s) (h : SqL X.K H a xs) : ∃ its : List Value, Vals xs its ∧ PlainL s.heap a its.toArray ∧ xs.length ≤ sizeLine := by
  rcases h with h | ⟨o, its, n, hk, hc, hd, hs, hz, r⟩
  · obtain ⟨z, its, n, r, e⟩ := h.ok I.hok
    exact ⟨its, r, ⟨_, n, e, rfl, rfl, rfl⟩, z⟩
  · refine ⟨its.toList, r, ⟨o, n, I.kIn a o hk, hc, hd, by simpa using hs⟩, ?_⟩
    have e := r.length
    simp only [Array.length_toList] at e
    omega
theorem Inv.tuple (I : Inv X pins σ H s) (h : SqT X.K H a xs) : ∃ its : List Value, Vals xs its ∧ IsTup s.heap a its.toArray ∧ xs.length ≤ sizeLine := by
  rcases h with h | ⟨o, its, n, hk, hc, hs, hz, r⟩
  · obtain ⟨z, its, r, p⟩ := h.ok I.hok
    exact ⟨its, r, p, z⟩
  · refine ⟨its.toList, r, ⟨o, I.kIn a o hk, hc, n, by simpa using hs⟩, ?_⟩
    have e := r.length
    simp only [Array.length_toList] at e
    omega
theorem Inv.list_inj (I : Inv X pins σ H s) (h : SqL X.K H a xs) (h' : SqL X.K H a ys) : xs = ys := by
  obtain ⟨its, r, ⟨o, n, e, _, _, d⟩, _⟩ := I.list h
  obtain ⟨its', r', ⟨o', n', e', _, _, d'⟩, _⟩ := I.list h'
  rw [e] at e'; cases e'
  rw [d] at d'
  injection d' with d1 _
  have : its = its' := by simpa using congrArg Array.toList d1
  subst this
  exact r.inj r'
end

/-! ### another wish about exceptions -/
abbrev Cx.wish (X : Cx) (E : Value → Shared → Prop) : Cx := { X with xe := E }
/-- no exception leaves -/
abbrev Cx.nox (X : Cx) : Cx := X.wish fun _ _ => False
theorem Cx.Ok.wish {X : Cx} (ok : X.Ok) (E : Value → Shared → Prop) : (X.wish E).Ok :=
  ⟨ok.mod, ok.kind, ok.glob, ok.blt, ok.above, ok.inj, ok.has, ok.cab, ok.hd, ok.frames, ok.stk, ok.exf, ok.bs, ok.bsz, ok.noex, ok.exfs, ok.funs, ok.frf, ok.hdl⟩
theorem Cx.Ok.unwish {X : Cx} {E : Value → Shared → Prop} (ok : (X.wish E).Ok) : X.Ok :=
  ⟨ok.mod, ok.kind, ok.glob, ok.blt, ok.above, ok.inj, ok.has, ok.cab, ok.hd, ok.frames, ok.stk, ok.exf, ok.bs, ok.bsz, ok.noex, ok.exfs, ok.funs, ok.frf, ok.hdl⟩
section
variable {X : Cx} {pins : List (Addr × Obj)} {σ : St} {H : Hp} {s : Shared} {E : Value → Shared → Prop}
theorem Inv.wish (I : Inv X pins σ H s) (E : Value → Shared → Prop) : Inv (X.wish E) pins σ H s := ⟨I.ok.wish E, I.os, I.bare, I.base, I.loc, I.cell, I.free, I.freeC, I.pin, I.hok, I.len⟩
theorem Inv.unwish (I : Inv (X.wish E) pins σ H s) : Inv X pins σ H s := ⟨I.ok.unwish, I.os, I.bare, I.base, I.loc, I.cell, I.free, I.freeC, I.pin, I.hok, I.len⟩
theorem SP.unwish {D : Ends} {f : Flow} {s' : Shared} (h : SP (X.wish E) pins D f s') : SP X pins D f s' := by
  cases f with
  | next => obtain ⟨σ', H', I, q⟩ := h; exact ⟨σ', H', I.unwish, q⟩
  | brk => obtain ⟨σ', H', I, q⟩ := h; exact ⟨σ', H', I.unwish, q⟩
  | cont => obtain ⟨σ', H', I, q⟩ := h; exact ⟨σ', H', I.unwish, q⟩
  | ret u => obtain ⟨v, σ', H', I, r, q⟩ := h; exact ⟨v, σ', H', I.unwish, r, q⟩
theorem PE.nox {e : Expr} {t : TE} (h : PE X.nox e t) : PE X e t := fun pins s σ H Q I hw =>
  wpAny_mono (h pins s σ H Q (I.wish _) hw) (fun _ _ ⟨v, H', I', r, q⟩ => ⟨v, H', I'.unwish, r, q⟩) fun _ _ z => False.elim z
theorem PSs.nox {st : List Stmt} {t : TS} (h : PSs X.nox st t) : PSs X st t := fun pins s σ H D I hw =>
  wpAny_mono (h pins s σ H D (I.wish _) hw) (fun _ _ q => q.unwish) fun _ _ z => False.elim z
end

/-! ### blocks and small statements -/
section
variable {X : Cx} {st : Stmt} {rest : List Stmt} {t u : TS} {e : Expr} {te : TE} {pos : Pos}
def tNext : TS := fun D σ H => D.nx σ H
def tSeq (t u : TS) : TS := fun D σ H => t { D with nx := u D } σ H
theorem pss_nil : PSs X [] tNext := fun _ _ σ H _ I h => wpAny_execs_nil ⟨σ, H, I, h⟩
theorem pss_cons (h1 : PS X st t) (h2 : PSs X rest u) : PSs X (st :: rest) (tSeq t u) := by
  intro pins s σ H D I h
  refine wpAny_execs_cons (thn (h1 pins s σ H { D with nx := u D } I h) fun f s1 q => ?_)
  cases f with
  | next =>
    obtain ⟨σ', H', I', q⟩ := q
    exact h2 pins s1 σ' H' D I' q
  | ret v => exact q
  | brk => exact q
  | cont => exact q
theorem pss_one (h1 : PS X st t) : PSs X [st] t := by
  intro pins s σ H D I h
  refine wpAny_execs_cons (thn (h1 pins s σ H D I h) fun f s1 q => ?_)
  cases f with
  | next => exact wpAny_execs_nil q
  | ret v => exact q
  | brk => exact q
  | cont => exact q
/-- in a def's body nothing is shown -/
theorem Inv.quiet {pins : List (Addr × Obj)} {σ : St} {H : Hp} {s : Shared} (I : Inv X pins σ H s) : interactive X.env = false := by simp [interactive, I.ok.kind]
/-- an expression whose value is dropped -/
def tDrop (te : TE) : TS := fun D σ H => te σ H fun _ H1 => D.nx σ H1
theorem ps_expr (he : PE X e te) (hs : swapsWith e none pos.line X.env = pure false := by rfl) : PS X (.Expr e pos) (tDrop te) := by
  intro pins s σ H D I h
  exact wpAny_Expr_any (thn (he pins s σ H _ I h) fun v s1 ⟨x, H1, I1, r1, q1⟩ => ⟨σ, H1, I1, q1⟩) I.quiet hs
def tRet (te : TE) : TS := fun D σ H => te σ H D.rt
theorem ps_ret (he : PE X e te) : PS X (.Return (some e) pos) (tRet te) := by
  intro pins s σ H D I h
  exact wpAny_Return_some (thn (he pins s σ H _ I h) fun v s1 ⟨x, H1, I1, r1, q1⟩ => ⟨x, σ, H1, I1, r1, q1⟩)
def tIfS (c : TT) (t u : TS) : TS := fun D σ H => c σ H fun b H1 => if b = true then t D σ H1 else u D σ H1
theorem ps_if {c : Expr} {a b : List Stmt} {tc : TT} (hc : PT X c tc) (ha : PSs X a t) (hb : PSs X b u) : PS X (.If c a b pos) (tIfS tc t u) := by
  intro pins s σ H D I h
  refine wpAny_If (thn (hc pins s σ H _ I h) fun d s1 ⟨H1, I1, q1⟩ => ?_)
  cases d with
  | true => exact ha pins s1 σ H1 D I1 q1
  | false => exact hb pins s1 σ H1 D I1 q1
/-- code that the proof never comes to -/
def tNever : TS := fun _ _ _ => False
theorem pss_never {sts : List Stmt} : PSs X sts tNever := fun _ _ _ _ _ _ h => h.elim
end

/-! ### targets -/
abbrev TG := V → St → Hp → (St → Hp → Prop) → Prop
abbrev TGs := List V → St → Hp → (St → Hp → Prop) → Prop
def PG (X : Cx) (target : Expr) (t : TG) : Prop :=
  ∀ (pins : List (Addr × Obj)) (s : Shared) (σ : St) (H : Hp) (v : V) (u : Value) (Q : St → Hp → Prop), Inv X pins σ H s → RelV v u → t v σ H Q →
    wpAny (model X.prog X.w) X.A (assign target X.env u) (fun _ s' => ∃ σ' H', Inv X pins σ' H' s' ∧ Q σ' H') X.xe s
/-- several targets, one after another -/
def PGs (X : Cx) (ts : List Expr) (t : TGs) : Prop :=
  ∀ (pins : List (Addr × Obj)) (s : Shared) (σ : St) (H : Hp) (vs : List V) (us : List Value) (Q : St → Hp → Prop), Inv X pins σ H s → Vals vs us → t vs σ H Q →
    wpAny (model X.prog X.w) X.A (assignInOrder ((assignEach ts X.env).map (·.2)) us) (fun _ s' => ∃ σ' H', Inv X pins σ' H' s' ∧ Q σ' H') X.xe s
section
variable {X : Cx} {pos : Pos}
def gName (i : Nat) : TG := fun v σ H Q => Q (σ.set i (some v)) H
theorem pg_name {i : Nat} {x : Str} (hN : X.N.Nodup) (hi : X.N[i]? = some x) (hx : Loc X.env.scope x) (hf : X.fn x = true ∨ X.env.scope.names.lookup x = some .local := by first | exact .inl rfl | exact .inr rfl | assumption) : PG X (.Name x pos) (gName i) := by
  intro pins s σ H v u Q I r h
  exact wpAny_assign_Name (store_ok I hN hi hx r (fun s' I' => ⟨_, H, I', h⟩) hf)
def gNil : TGs := fun vs σ H Q => vs = [] ∧ Q σ H
def gCons (t : TG) (u : TGs) : TGs := fun vs σ H Q => ∃ v r, vs = v :: r ∧ t v σ H fun σ' H' => u r σ' H' Q
theorem pgs_nil : PGs X [] gNil := by
  intro pins s σ H vs us Q I r h
  obtain ⟨e, h⟩ := h
  subst e
  cases r
  exact assignInOrder_nil ⟨σ, H, I, h⟩
theorem pgs_cons {e : Expr} {es : List Expr} {t : TG} {u : TGs} (h1 : PG X e t) (h2 : PGs X es u)
    (hs : (assignEach (e :: es) X.env).map (·.2) = assign e X.env :: (assignEach es X.env).map (·.2) := by rfl) : PGs X (e :: es) (gCons t u) := by
  intro pins s σ H vs us Q I r h
  obtain ⟨v, vr, e1, h⟩ := h
  subst e1
  cases r with
  | cons r rr =>
    rw [hs]
    refine assignInOrder_cons (thn (h1 pins s σ H _ _ _ I r h) fun _ s1 ⟨σ1, H1, I1, q1⟩ => ?_)
    exact h2 pins s1 σ1 H1 _ _ Q I1 rr q1
/-- (a, b, ..) = a tuple of that length -/
def gTup (K : PySem.W.Frag) (n : Nat) (t : TGs) : TG := fun v σ H Q => ∃ a xs, v = .ref a ∧ SqT K H a xs ∧ xs.length = n ∧ t xs σ H Q
theorem pg_tup {es : List Expr} {k : Nat} {t : TGs} {n : Nat} (hc : X.calm = true) (h : PGs X es t)
    (hn : (assignEach es X.env).length = n := by rfl) (hst : (assignEach es X.env).findIdx? (·.1) = none := by rfl) : PG X (.Tuple es k pos) (gTup X.K n t) := by
  intro pins s σ H v u Q I r hw
  obtain ⟨a, xs, e1, hq, hl, hw⟩ := hw
  subst e1
  cases r
  obtain ⟨its, rv, ht, hz⟩ := I.tuple hq
  refine assign_Tuple_tuple (I.ok.hd hc) ht (by simp [hn, ← hl, rv.length]) hst fun h' hx => ?_
  have I1 : Inv X pins σ H { s with heap := h' } := I.kept (t' := s.toks) fun b o e => hx b o (Nat.ne_of_lt (Heap.lt_size e)) e
  exact h pins _ σ H xs _ Q I1 (by simpa using rv) hw
/-- target = value -/
def tAsg (te : TE) (g : TG) : TS := fun D σ H => te σ H fun x H1 => g x σ H1 D.nx
/-- name = value -/
theorem ps_set {i : Nat} {x : Str} {e : Expr} {te : TE} {pos' : Pos} (hN : X.N.Nodup) (hi : X.N[i]? = some x) (hx : Loc X.env.scope x) (he : PE X e te) (hs : swapsWith e (some (.Name x pos')) pos.line X.env = pure false := by rfl) (hf : X.fn x = true ∨ X.env.scope.names.lookup x = some .local := by first | exact .inl rfl | exact .inr rfl | assumption) :
    PS X (.Assign [.Name x pos'] e pos) (tAsg te (gName i)) := by
  intro pins s σ H D I h
  refine wpAny_Assign_Name (thn (he pins s σ H _ I h) fun v s1 ⟨y, H1, I1, r1, q1⟩ => ?_) hs
  exact store_ok I1 hN hi hx r1 (fun s2 I2 => ⟨_, H1, I2, q1⟩) hf
end

/-! ### while -/
section
variable {X : Cx} {pos : Pos}
/-- the invariant W with its measure -/
def tWhile (c : TT) (tb : TS) : TS := fun D σ H => ∃ W : Nat → St → Hp → Prop, (∃ m, W m σ H) ∧ ∀ m σ H, W m σ H →
  c σ H fun b H1 => if b = true then ∃ N : St → Hp → Prop, (∀ σ' H', N σ' H' → ∃ m', m' < m ∧ W m' σ' H') ∧ tb { D with nx := N, ct := N, bk := D.nx } σ H1 else D.nx σ H1
theorem ps_while {c : Expr} {body : List Stmt} {tc : TT} {tb : TS} (hp : PassesOwn (model X.prog X.w) X.A X.env X.xe) (hc : PT X c tc) (hb : PSs X body tb) : PS X (.While c body [] pos) (tWhile tc tb) := by
  intro pins s σ H D I h
  obtain ⟨W, ⟨m0, w0⟩, turn⟩ := h
  refine wpAny_While (codeAny_whileLoop (fun n s' => ∃ σ' H', Inv X pins σ' H' s' ∧ W n σ' H') ?_ m0 ⟨σ, H, I, w0⟩)
  rintro n s1 ⟨σ1, H1, I1, w1⟩
  refine wpAny_passesOwn hp (thn (hc pins s1 σ1 H1 _ I1 (turn n σ1 H1 w1)) fun b s2 ⟨H2, I2, q2⟩ => ?_)
  cases b with
  | true =>
    obtain ⟨N, hN, q2⟩ := q2
    rw [if_pos rfl]
    refine wpAny_passesOwn hp (thn (hb pins s2 σ1 H2 _ I2 q2) fun f s3 q3 => ?_)
    cases f with
    | next =>
      obtain ⟨σ3, H3, I3, n3⟩ := q3
      obtain ⟨m', hm, w3⟩ := hN σ3 H3 n3
      exact ⟨m', hm, σ3, H3, I3, w3⟩
    | cont =>
      obtain ⟨σ3, H3, I3, n3⟩ := q3
      obtain ⟨m', hm, w3⟩ := hN σ3 H3 n3
      exact ⟨m', hm, σ3, H3, I3, w3⟩
    | brk => exact q3
    | ret v => exact q3
  | false =>
    rw [if_neg Bool.false_ne_true]
    exact wpAny_execs_nil ⟨σ1, H2, I2, q2⟩
end

/-! ### what a loop or a comprehension walks -/
/-- at turn i: it yields x (the heap may grow), or it stops -/
structure It where
  go : Nat → Hp → Prop
  yld : Nat → Hp → V → Hp → Prop
  stop : Nat → Hp → Prop
/-- the iterator's own objects may turn: they are not the frame's, not pinned, younger than the entry (or a comprehension's own) -/
def FpOk (X : Cx) (pins : List (Addr × Obj)) (H : Hp) (b : Addr) : Prop :=
  H b = none ∧ b ≠ X.env.locals ∧ b ∉ X.fs ∧ (b ∈ X.ex ∨ X.s₀.heap.get? b = none) ∧ (∀ x c, X.env.cells.lookup x = some c → c ≠ b) ∧ ∀ p ∈ X.pn ++ pins, p.1 ≠ b
theorem Inv.fpOk {X : Cx} {pins : List (Addr × Obj)} {σ : St} {H H' : Hp} {s : Shared} {b : Addr} (I : Inv X pins σ H s) (hb : s.heap.objs.size ≤ b) (hn : H' b = none) : FpOk X pins H' b := by
  refine ⟨hn, Nat.ne_of_gt (Nat.lt_of_lt_of_le I.lt hb), I.nofs hb, .inr (Heap.get?_none_of_le (Nat.le_trans I.sz hb)), fun x c e z => ?_, fun p hp z => ?_⟩
  · obtain ⟨v, q⟩ := I.cell x c e
    exact absurd (Nat.lt_of_lt_of_le q.lt (by rw [z]; exact hb)) (Nat.lt_irrefl _)
  · exact absurd (Nat.lt_of_lt_of_le (Heap.lt_size (I.pin p hp).1) (by rw [z]; exact hb)) (Nat.lt_irrefl _)
/-- .. of an address where nothing stood -/
theorem Inv.fpNew {X : Cx} {pins : List (Addr × Obj)} {σ : St} {H H' : Hp} {s : Shared} {b : Addr} (I : Inv X pins σ H s) (hb : s.heap.get? b = none) (hn : H' b = none) : FpOk X pins H' b := by
  refine ⟨hn, fun z => ?_, fun z => ?_, ?_, fun x c e z => ?_, fun p hp z => ?_⟩
  · obtain ⟨m, ⟨o, _, _, ho, _⟩, _⟩ := I.loc
    rw [← z, hb] at ho; cases ho
  · obtain ⟨_, o, ho, _⟩ := I.funs.mem z
    rw [hb] at ho; cases ho
  · by_cases hx : b ∈ X.ex
    · exact .inl hx
    · refine .inr ?_
      cases q : X.s₀.heap.get? b with
      | none => rfl
      | some o =>
        obtain ⟨o', ho⟩ := I.base.there b o q hx
        rw [hb] at ho; cases ho
  · obtain ⟨v, o, ho, _⟩ := I.cell x c e
    rw [z, hb] at ho; cases ho
  · have := (I.pin p hp).1
    rw [z, hb] at this; cases this
structure Turn (P : Program) (w : World) (K : PySem.W.Frag) (tg : Expr) (J : It) (fp : List Addr) (it : Addr) (tn : Nat → Heap → Prop) : Prop where
  mem : it ∈ fp
  obj : ∀ i h, tn i h → ∀ b ∈ fp, ∃ o, h.get? b = some o ∧ ∀ v, o.data ≠ .cell v
  keep : ∀ i h h', tn i h → (∀ b ∈ fp, ∀ o, h.get? b = some o → h'.get? b = some o) → tn i h'
  item : ∀ (X : Cx), X.prog = P → X.w = w → X.K = K → (0 : Nat) = 0 → ∀ (i : Nat) (pins : List (Addr × Obj)) (s : Shared) (σ : St) (H : Hp) (E : Value → Shared → Prop), Inv X pins σ H s → (∀ b ∈ fp, FpOk X pins H b) → tn i s.heap → J.go i H →
    wpAny (model P w) X.A (pyNext (.ref it)) (fun r s1 => ∃ u, r = some u ∧
      wpAny (model P w) X.A (letOwnedTupleGo tg (.ref it) u) (fun _ s2 => ∃ x H', Inv X pins σ H' s2 ∧ RelV x u ∧ J.yld i H x H' ∧ tn (i + 1) s2.heap ∧ ∀ b ∈ fp, H' b = none) E s1) E s
  done : ∀ (X : Cx), X.prog = P → X.w = w → X.K = K → (0 : Nat) = 0 → ∀ (i : Nat) (pins : List (Addr × Obj)) (s : Shared) (σ : St) (H : Hp) (E : Value → Shared → Prop), Inv X pins σ H s → (∀ b ∈ fp, FpOk X pins H b) → tn i s.heap → J.stop i H →
    wpAny (model P w) X.A (pyNext (.ref it)) (fun r s1 => r = none ∧ Inv X pins σ H s1) E s
  self : ∀ (A : Around) (i : Nat) (s : Shared) (Q : Value → Shared → Prop) (E : Value → Shared → Prop), tn i s.heap → Q (.ref it) s → wpAny (model P w) A (pyIter (.ref it)) Q E s
abbrev TI := St → Hp → (It → Hp → Prop) → Prop
/-- an iterator has come -/
def PIE (X : Cx) (pins : List (Addr × Obj)) (σ : St) (tg : Expr) (R : It → Hp → Prop) (itv : Value) (s2 : Shared) : Prop :=
  ∃ (it : Addr) (fp : List Addr) (tn : Nat → Heap → Prop) (J : It) (H' : Hp), itv = .ref it ∧ Inv X pins σ H' s2 ∧ Turn X.prog X.w X.K tg J fp it tn ∧ tn 0 s2.heap ∧ (∀ b ∈ fp, FpOk X pins H' b) ∧ R J H'
def PI (X : Cx) (tg iter : Expr) (wi : TI) : Prop :=
  ∀ (pins : List (Addr × Obj)) (s : Shared) (σ : St) (H : Hp) (R : It → Hp → Prop), Inv X pins σ H s → wi σ H R →
    wpAny (model X.prog X.w) X.A (eval iter X.env) (fun v s1 => wpAny (model X.prog X.w) X.A (pyIter v) (PIE X pins σ tg R) X.xe s1) X.xe s

/-- the step ahead of the store is nothing for an iterator that keeps no tuple -/
theorem go_of {M : Model} {A : Around} {E : Value → Shared → Prop} {s : Shared} {tg : Expr} {it : Addr} {u : Value} {o : Obj} {n : String} {vs : Array Value} {Q : Unit → Shared → Prop} (ho : s.heap.get? it = some o) (hc : o.cls = .type n) (hd : o.data = .fields vs)
    (hn : ["enumerate", "zip", "dict_itemiterator", "dict_reverseitemiterator", "odict_iterator", "itertools.zip_longest", "itertools.pairwise"].contains n = false) (hQ : Q () s) : wpAny M A (letOwnedTupleGo tg (.ref it) u) Q E s := by
  unfold letOwnedTupleGo
  cases tg <;> first
    | exact wpAny_pure hQ
    | (cases u <;> first
        | exact wpAny_pure hQ
        | (refine wpAny_bind (wpAny_load ho ?_)
           rw [hc, hd]
           show wpAny M A (if (["enumerate", "zip", "dict_itemiterator", "dict_reverseitemiterator", "odict_iterator", "itertools.zip_longest", "itertools.pairwise"].contains n && vs[0]? == some (rawInt _)) = true then _ else _) Q E s
           rw [if_neg (by intro h; rw [hn, Bool.false_and] at h; cases h)]
           exact wpAny_pure hQ))

/-- the list at a, as it stands at each turn (a loop may append to it) -/
def Itl (K : PySem.W.Frag) (a : Addr) : It :=
  ⟨fun i H => ∃ xs x, SqL K H a xs ∧ xs[i]? = some x, fun i H x H' => H' = H ∧ ∀ xs, SqL K H a xs → xs[i]? = some x, fun i H => ∃ xs, SqL K H a xs ∧ xs.length ≤ i⟩
/-- lo, lo + 1, .. (n of them) -/
def Itr (lo : Int) (n : Nat) : It := ⟨fun i _ => i < n, fun i H x H' => H' = H ∧ x = .int (lo + i), fun i _ => n ≤ i⟩
theorem turn_list {P : Program} {w : World} {K : PySem.W.Frag} {tg : Expr} (a it : Addr) : Turn P w K tg (Itl K a) [it] it (fun i h => h.IsListIter it a i) where
  mem := by simp
  obj := fun i h st b hb => by
    have e : b = it := by simpa using hb
    subst e
    obtain ⟨o, e, c, d⟩ := st
    exact ⟨o, e, fun v z => by rw [d] at z; cases z⟩
  keep := fun i h h' st k => st.at fun o e => k it (by simp) o e
  item := by
    intro X hP hw hK hc i pins s σ H E I hf st hg
    subst hP hw hK
    obtain ⟨xs, x, hq, hx⟩ := hg
    obtain ⟨its, rv, p, hz⟩ := I.list hq
    obtain ⟨u, hu, ru⟩ := rv.get hx
    obtain ⟨f0, f1, f2, f3, f4, f5⟩ := hf it (by simp)
    refine wpAny_pyNext_list_item st p.isList (x := u) (by simpa using hu) fun h' st' sb => ?_
    have I1 : Inv X pins σ H { s with heap := h' } := I.turned (t' := s.toks) (fun b o hb e => (sb.2 b hb).trans e) f0 f1 f3 f4 f5
    obtain ⟨o, e, c, d⟩ := id st'
    exact ⟨u, rfl, go_of (s := { s with heap := h' }) e c d (by decide) ⟨x, H, I1, ru, ⟨rfl, fun ys hy => by rw [I.list_inj hy hq]; exact hx⟩, st', fun b hb => (hf b hb).1⟩⟩
  done := by
    intro X hP hw hK hc i pins s σ H E I hf st hg
    subst hP hw hK
    obtain ⟨xs, hq, hx⟩ := hg
    obtain ⟨its, rv, p, hz⟩ := I.list hq
    obtain ⟨f0, f1, f2, f3, f4, f5⟩ := hf it (by simp)
    have hl := rv.length
    exact EoH.list_end I.hdn st p.isList (by simp; omega) fun h' eb => ⟨rfl, I.turned (t' := s.toks) (fun b o hb e => eb b o hb e) f0 f1 f3 f4 f5⟩
  self := fun _ _ _ _ _ st h => wpAny_pyIter_listiter st h
theorem turn_range {P : Program} {w : World} {K : PySem.W.Frag} {tg : Expr} (it : Addr) (lo : Int) (n : Nat) : Turn P w K tg (Itr lo n) [it] it (fun i h => IsRangeIter h it (lo + (i : Nat) * 1) ((n : Int) - (i : Nat)) 1) where
  mem := by simp
  obj := fun i h st b hb => by
    have e : b = it := by simpa using hb
    subst e
    exact ⟨_, st, fun v z => by
      have z' : Data.fields _ = Data.cell v := z
      cases z'⟩
  keep := fun i h h' st k => k it (by simp) _ st
  item := by
    intro X hP hw hK hc i pins s σ H E I hf st hg
    subst hP hw hK
    obtain ⟨f0, f1, f2, f3, f4, f5⟩ := hf it (by simp)
    refine EoH.range_item (prog := X.prog) (w := X.w) (A := X.A) it lo n i s _ _ hg st fun v h' tk hv st' kk => ?_
    obtain ⟨t, rfl⟩ := hv
    have I1 : Inv X pins σ H { s with heap := h', toks := tk } := I.turned (fun b o hb e => kk b o (by simpa using hb) e) f0 f1 f3 f4 f5
    refine ⟨_, rfl, go_of (s := { s with heap := h', toks := tk }) (n := "range_iterator") st' rfl rfl (by decide) ⟨.int (lo + i), H, I1, ⟨t, ?_⟩, ⟨rfl, rfl⟩, st', fun b hb => (hf b hb).1⟩⟩
    rw [Int.mul_one]
  done := by
    intro X hP hw hK hc i pins s σ H E I hf st hg
    subst hP hw hK
    obtain ⟨f0, f1, f2, f3, f4, f5⟩ := hf it (by simp)
    exact EoH.range_end I.hdn st (by have : n ≤ i := hg; omega) fun h' eb => ⟨rfl, I.turned (t' := s.toks) (fun b o hb e => eb b o hb e) f0 f1 f3 f4 f5⟩
  self := fun _ _ _ _ _ st h => wpAny_pyIter_rangeiter st h
end L2

namespace L2
open PySem PySem.Spec PyProof.Rows
section
variable {X : Cx} {tg : Expr}
inductive XItL (K : PySem.W.Frag) (x : V) (H : Hp) (R : It → Hp → Prop) : Prop
  | mk (a : Addr) (e : x = .ref a) (s : ∃ xs, SqL K H a xs) (q : R (Itl K a) H)
def iList (K : PySem.W.Frag) (tl : TE) : TI := fun σ H R => tl σ H fun x H1 => XItL K x H1 R
theorem pi_list {l : Expr} {tl : TE} (hl : PE X l tl) : PI X tg l (iList X.K tl) := by
  intro pins s σ H R I h
  refine thn (hl pins s σ H _ I h) fun v s1 ⟨x, H1, I1, r1, q1⟩ => ?_
  obtain ⟨a, e, ⟨xs, hq⟩, q⟩ := q1
  subst e
  cases r1
  obtain ⟨its, rv, p, hz⟩ := I1.list hq
  refine wpAny_pyIter_list p.isList ?_
  refine ⟨s1.heap.objs.size, [s1.heap.objs.size], _, _, H1, rfl, I1.kept (t' := s1.toks) fun b o e => Heap.get?_push_of_some _ e, turn_list a _, ⟨_, Heap.get?_push_size _ rfl, rfl, rfl⟩, fun b hb => ?_, q⟩
  have e : b = s1.heap.objs.size := by simpa using hb
  subst e
  exact I1.fpOk (Nat.le_refl _) (I1.hok.fresh (Nat.le_refl _))
/-- a range object just made, walked -/
theorem range_it {pins : List (Addr × Obj)} {σ : St} {H : Hp} {s : Shared} {R : It → Hp → Prop} {E : Value → Shared → Prop} {lo hi : Int} {t u v : Tok} {tk : Nat} (I : Inv X pins σ H s) (h1 : -(2 ^ 62) ≤ lo) (h2 : lo < 2 ^ 62) (h3 : -(2 ^ 62) ≤ hi) (h4 : hi < 2 ^ 62)
    (q : R (Itr lo (hi - lo).toNat) H) : wpAny (model X.prog X.w) X.A (pyIter (.ref s.heap.objs.size)) (PIE X pins σ tg R) E { s with heap := s.heap.push { cls := .type "range", data := .fields #[.int lo t, .int hi u, .int 1 v] }, toks := tk } := by
  refine wpAny_pyIter_range (IsRange.new ..) (small_one h1 h2 h3 h4) ?_
  have I1 : Inv X pins σ H { s with heap := s.heap.push { cls := .type "range", data := .fields #[.int lo t, .int hi u, .int 1 v] }, toks := tk } := I.kept fun b o e => Heap.get?_push_of_some _ e
  refine ⟨(s.heap.push { cls := .type "range", data := .fields #[.int lo t, .int hi u, .int 1 v] }).objs.size, [(s.heap.push { cls := .type "range", data := .fields #[.int lo t, .int hi u, .int 1 v] }).objs.size], _, _, H, rfl,
    I1.kept (t' := tk) fun b o e => Heap.get?_push_of_some _ e, turn_range _ lo (hi - lo).toNat, ?_, fun b hb => ?_, q⟩
  · have e1 : lo + ((0 : Nat) : Int) * 1 = lo := by simp
    have e2 : (((hi - lo).toNat : Nat) : Int) - ((0 : Nat) : Int) = Builtin.Range.rangeSize lo hi 1 := by rw [rangeSize_one]; split <;> omega
    show IsRangeIter _ _ (lo + ((0 : Nat) : Int) * 1) ((((hi - lo).toNat : Nat) : Int) - ((0 : Nat) : Int)) 1
    rw [e1, e2]
    exact Heap.get?_push_size _ rfl
  · have e : b = (s.heap.push { cls := .type "range", data := .fields #[.int lo t, .int hi u, .int 1 v] }).objs.size := by simpa using hb
    subst e
    exact I1.fpOk (Nat.le_refl _) (I1.hok.fresh (Nat.le_refl _))
inductive XRn1 (vs : List V) (H : Hp) (R : It → Hp → Prop) : Prop
  | mk (j : Int) (e : vs = [.int j]) (lo : -(2 ^ 62) ≤ j) (hi : j < 2 ^ 62) (q : R (Itr 0 j.toNat) H)
def iRng1 (ta : TA) : TI := fun σ H R => ta σ H fun vs H1 => XRn1 vs H1 R
theorem pi_range1 {a : Expr} {ta : TA} {p pos : Pos} (hg : Gl X "range") (hm : X.mg "range" = none) (ha : PA X [a] ta) (hs : starEach [a] X.env = [(false, eval a X.env)] := by rfl) : PI X tg (.Call (.Name "range" p) [a] [] pos) (iRng1 ta) := by
  intro pins s σ H R I h
  refine Call_ (ld_blt I hg hm boot_range (PyProof.Rows.callWith_type1 (thn (ha pos pins s σ H _ I h) fun us s1 ⟨vs, H1, I1, r1, q1⟩ => ?_) hs rfl))
  obtain ⟨j, e, q1, q2, q⟩ := q1
  subst e
  cases r1 with
  | cons r rr =>
    cases rr
    obtain ⟨t, rfl⟩ := r
    exact call_range_1 (range_it I1 (by omega) (by omega) q1 q2 (by simpa using q))
/-! ### for -/
/-- W: the invariant by the turn and a measure; N: what the body is to reach -/
def tFor (wi : TI) (g : TG) (tb : TS) : TS := fun D σ H => wi σ H fun J H1 => ∃ W : Nat → Nat → St → Hp → Prop, (∃ m, W 0 m σ H1) ∧ ∀ i m σ H, W i m σ H →
  (J.stop i H ∧ D.nx σ H) ∨ (J.go i H ∧ ∃ N : St → Hp → Prop, (∀ σ' H', N σ' H' → ∃ m', m' < m ∧ W (i + 1) m' σ' H') ∧ ∀ x H', J.yld i H x H' → g x σ H' fun σ2 H2 => tb { D with nx := N, ct := N, bk := D.nx } σ2 H2)
/-- the records at fp as they stand -/
def pinsAt (fp : List Addr) (h : Heap) : List (Addr × Obj) := fp.filterMap fun b => (h.get? b).map fun o => (b, o)
theorem mem_pinsAt {fp : List Addr} {h : Heap} {b : Addr} {o : Obj} (hb : b ∈ fp) (e : h.get? b = some o) : (b, o) ∈ pinsAt fp h := List.mem_filterMap.mpr ⟨b, hb, by rw [e]; rfl⟩
theorem of_pinsAt {fp : List Addr} {h : Heap} {p : Addr × Obj} (hp : p ∈ pinsAt fp h) : p.1 ∈ fp ∧ h.get? p.1 = some p.2 := by
  obtain ⟨b, hb, e⟩ := List.mem_filterMap.mp hp
  cases q : h.get? b with
  | none => rw [q] at e; cases e
  | some o =>
    rw [q] at e
    have e' : (b, o) = p := Option.some.inj e
    subst e'
    exact ⟨hb, q⟩
theorem Inv.pinned {pins : List (Addr × Obj)} {σ : St} {H : Hp} {s : Shared} {fp : List Addr} (I : Inv X pins σ H s) (hf : ∀ b ∈ fp, FpOk X pins H b) (ho : ∀ b ∈ fp, ∃ o, s.heap.get? b = some o ∧ ∀ v, o.data ≠ .cell v) : Inv X (pins ++ pinsAt fp s.heap) σ H s :=
  I.pins_of fun p hp => (List.mem_append.mp hp).elim (fun z => I.pin p (List.mem_append_right _ z)) fun z => by
    obtain ⟨hb, e⟩ := of_pinsAt z
    obtain ⟨f0, f1, f2, _⟩ := hf p.1 hb
    obtain ⟨o, e', d⟩ := ho p.1 hb
    rw [e] at e'; cases e'
    exact ⟨e, f0, f1, f2, d⟩
theorem Inv.unpinned {pins pl : List (Addr × Obj)} {σ : St} {H : Hp} {s : Shared} (I : Inv X (pins ++ pl) σ H s) : Inv X pins σ H s := I.pins_of fun p hp => I.pin p (List.mem_append_right _ (List.mem_append_left _ hp))
theorem ps_for {iter : Expr} {body : List Stmt} {wi : TI} {g : TG} {tb : TS} {pos : Pos} (hp : PassesOwn (model X.prog X.w) X.A X.env X.xe) (hc : (0 : Nat) = 0) (hi : PI X tg iter wi) (hg : PG X tg g) (hb : PSs X body tb)
    (hs : ∀ x, foldedSetIterable iter X.env x = pure x := by intro _; rfl) : PS X (.For tg iter body [] pos) (tFor wi g tb) := by
  intro pins s σ H D I h
  refine wpAny_For (thn (hi pins s σ H _ I h) fun v s1 h1 => thn h1 fun itv s2 h2 => ?_) hs
  obtain ⟨it, fp, tn, J, H2, e, I2, T, st2, f2, W, ⟨m0, w0⟩, turn⟩ := h2
  subst e
  -- what stays true of the iterator's objects through the loop
  have stat : ∀ {H' : Hp}, (∀ b ∈ fp, H' b = none) → ∀ b ∈ fp, FpOk X pins H' b := fun hn b hb => ⟨hn b hb, (f2 b hb).2⟩
  refine codeAny_forLoop_any (fun n s' => ∃ i σ' H', Inv X pins σ' H' s' ∧ tn i s'.heap ∧ (∀ b ∈ fp, H' b = none) ∧ W i n σ' H') ?_ m0 ⟨0, σ, H2, I2, st2, fun b hb => (f2 b hb).1, w0⟩
  rintro n s3 ⟨i, σ3, H3, I3, st3, fr3, w3⟩
  rcases turn i n σ3 H3 w3 with ⟨stop, qn⟩ | ⟨go, N, hN, step⟩
  · refine wpAny_passesOwn hp (thn (T.done X rfl rfl rfl hc i pins s3 σ3 H3 X.xe I3 (stat fr3) st3 stop) fun r s4 ⟨hr, I4⟩ => ?_)
    subst hr
    exact wpAny_execs_nil ⟨σ3, H3, I4, qn⟩
  · refine wpAny_passesOwn hp (thn (T.item X rfl rfl rfl hc i pins s3 σ3 H3 X.xe I3 (stat fr3) st3 go) fun r s4 ⟨u, hr, h4⟩ => ?_)
    subst hr
    refine wpAny_passesOwn hp (thn h4 fun _ s5 ⟨x, H5, I5, r5, y5, st5, fr5⟩ => ?_)
    have I5' := I5.pinned (stat fr5) (T.obj _ _ st5)
    refine wpAny_passesOwn hp (thn (hg _ s5 σ3 H5 x u _ I5' r5 (step x H5 y5)) fun _ s6 ⟨σ6, H6, I6, q6⟩ => ?_)
    refine wpAny_passesOwn hp (thn (hb _ s6 σ6 H6 _ I6 q6) fun f s7 q7 => ?_)
    have again : ∀ {σ7 : St} {H7 : Hp}, Inv X (pins ++ pinsAt fp s5.heap) σ7 H7 s7 → N σ7 H7 → ∃ m, m < n ∧ ∃ i σ' H', Inv X pins σ' H' s7 ∧ tn i s7.heap ∧ (∀ b ∈ fp, H' b = none) ∧ W i m σ' H' := fun {σ7 H7} I7 n7 => by
      obtain ⟨m', hm, w7⟩ := hN σ7 H7 n7
      refine ⟨m', hm, i + 1, σ7, H7, I7.unpinned, T.keep _ _ _ st5 fun b hb o e => (I7.pin (b, o) (List.mem_append_right _ (List.mem_append_right _ (mem_pinsAt hb e)))).1, fun b hb => ?_, w7⟩
      obtain ⟨o, e, d⟩ := T.obj _ _ st5 b hb
      exact (I7.pin (b, o) (List.mem_append_right _ (List.mem_append_right _ (mem_pinsAt hb e)))).2.1
    cases f with
    | next => obtain ⟨σ7, H7, I7, n7⟩ := q7; exact again I7 n7
    | cont => obtain ⟨σ7, H7, I7, n7⟩ := q7; exact again I7 n7
    | brk => obtain ⟨σ7, H7, I7, q7⟩ := q7; exact ⟨σ7, H7, I7.unpinned, q7⟩
    | ret v => obtain ⟨x7, σ7, H7, I7, r7, q7⟩ := q7; exact ⟨x7, σ7, H7, I7.unpinned, r7, q7⟩
end

/-! ### the forms one uses -/
/-- over a list that the body leaves as it is -/
theorem for_list {K : PySem.W.Frag} {a : Addr} {xs : List V} {g : TG} {tb : TS} {D : Ends} {σ : St} {H : Hp} (Pv : Nat → St → Hp → Prop) (h0 : Pv 0 σ H) (hl : ∀ i σ H, i ≤ xs.length → Pv i σ H → SqL K H a xs)
    (hs : ∀ i x σ H, xs[i]? = some x → Pv i σ H → g x σ H fun σ2 H2 => tb { D with nx := Pv (i + 1), ct := Pv (i + 1), bk := D.nx } σ2 H2) (hd : ∀ σ H, Pv xs.length σ H → D.nx σ H) :
    ∃ W : Nat → Nat → St → Hp → Prop, (∃ m, W 0 m σ H) ∧ ∀ i m σ H, W i m σ H →
      ((Itl K a).stop i H ∧ D.nx σ H) ∨ ((Itl K a).go i H ∧ ∃ N : St → Hp → Prop, (∀ σ' H', N σ' H' → ∃ m', m' < m ∧ W (i + 1) m' σ' H') ∧ ∀ x H', (Itl K a).yld i H x H' → g x σ H' fun σ2 H2 => tb { D with nx := N, ct := N, bk := D.nx } σ2 H2) := by
  refine ⟨fun i m σ H => m = xs.length - i ∧ i ≤ xs.length ∧ Pv i σ H, ⟨xs.length, by simp, Nat.zero_le _, h0⟩, ?_⟩
  rintro i m σ H ⟨rfl, hi, p⟩
  have q := hl i σ H hi p
  by_cases hlt : i < xs.length
  · refine .inr ⟨⟨xs, xs[i], q, by simp [hlt]⟩, Pv (i + 1), fun σ' H' p' => ⟨xs.length - (i + 1), by omega, rfl, hlt, p'⟩, fun x H' y => ?_⟩
    obtain ⟨e, y⟩ := y
    subst e
    exact hs i x σ _ (y xs q) p
  · have e : i = xs.length := by omega
    subst e
    exact .inl ⟨⟨xs, q, Nat.le_refl _⟩, hd σ H p⟩
theorem for_range {lo : Int} {n : Nat} {g : TG} {tb : TS} {D : Ends} {σ : St} {H : Hp} (Pv : Nat → St → Hp → Prop) (h0 : Pv 0 σ H)
    (hs : ∀ i σ H, i < n → Pv i σ H → g (.int (lo + i)) σ H fun σ2 H2 => tb { D with nx := Pv (i + 1), ct := Pv (i + 1), bk := D.nx } σ2 H2) (hd : ∀ σ H, Pv n σ H → D.nx σ H) :
    ∃ W : Nat → Nat → St → Hp → Prop, (∃ m, W 0 m σ H) ∧ ∀ i m σ H, W i m σ H →
      ((Itr lo n).stop i H ∧ D.nx σ H) ∨ ((Itr lo n).go i H ∧ ∃ N : St → Hp → Prop, (∀ σ' H', N σ' H' → ∃ m', m' < m ∧ W (i + 1) m' σ' H') ∧ ∀ x H', (Itr lo n).yld i H x H' → g x σ H' fun σ2 H2 => tb { D with nx := N, ct := N, bk := D.nx } σ2 H2) := by
  refine ⟨fun i m σ H => m = n - i ∧ i ≤ n ∧ Pv i σ H, ⟨n, by simp, Nat.zero_le _, h0⟩, ?_⟩
  rintro i m σ H ⟨rfl, hi, p⟩
  by_cases hlt : i < n
  · refine .inr ⟨hlt, Pv (i + 1), fun σ' H' p' => ⟨n - (i + 1), by omega, rfl, hlt, p'⟩, fun x H' y => ?_⟩
    obtain ⟨e, y⟩ := y
    subst e y
    exact hs i σ _ hlt p
  · have e : i = n := by omega
    subst e
    exact .inl ⟨Nat.le_refl _, hd σ H p⟩
end L2

namespace L2
open PySem PySem.Spec PyProof.Rows

abbrev R2 := V → V → Hp → VK → Prop
/-- a two-place operation on values: f is binaryOp op, inplaceOp op or compareOp op -/
def OpR (X : Cx) (f : Value → Value → Sem Value) (r : R2) : Prop :=
  ∀ (pins : List (Addr × Obj)) (s : Shared) (σ : St) (H : Hp) (x y : V) (v u : Value) (Q : VK), Inv X pins σ H s → RelV x v → RelV y u → r x y H Q →
    wpAny (model X.prog X.w) X.A (f v u) (EP X pins σ Q) X.xe s
/-- a one-place operation -/
def UnR (X : Cx) (f : Value → Sem Value) (r : V → Hp → VK → Prop) : Prop :=
  ∀ (pins : List (Addr × Obj)) (s : Shared) (σ : St) (H : Hp) (x : V) (v : Value) (Q : VK), Inv X pins σ H s → RelV x v → r x H Q →
    wpAny (model X.prog X.w) X.A (f v) (EP X pins σ Q) X.xe s
/-- a call of a value that is known (a builtin, a type) with values -/
def CallR (X : Cx) (f : Value) (r : List V → Hp → VK → Prop) : Prop :=
  ∀ (pins : List (Addr × Obj)) (s : Shared) (σ : St) (H : Hp) (xs : List V) (us : List Value) (Q : VK), Inv X pins σ H s → Vals xs us → r xs H Q →
    wpAny (model X.prog X.w) X.A (call f us) (EP X pins σ Q) X.xe s
/-- a value's truth -/
def TruR (X : Cx) (r : V → Hp → (Bool → Hp → Prop) → Prop) : Prop :=
  ∀ (pins : List (Addr × Obj)) (s : Shared) (σ : St) (H : Hp) (x : V) (v : Value) (Q : Bool → Hp → Prop), Inv X pins σ H s → RelV x v → r x H Q →
    wpAny (model X.prog X.w) X.A (truthy v) (TP X pins σ Q) X.xe s

def tOp (r : R2) (ta tb : TE) : TE := fun σ H Q => ta σ H fun x H1 => tb σ H1 fun y H2 => r x y H2 Q
def tUn (r : V → Hp → VK → Prop) (ta : TE) : TE := fun σ H Q => ta σ H fun x H1 => r x H1 Q
/-- ints in, under C, and a value out -/
def rI (C : Int → Int → Prop) (g : Int → Int → V) : R2 := fun x y H Q => XIC C x y fun i j => Q (g i j) H
def rI0 (g : Int → Int → V) : R2 := fun x y H Q => XII x y fun i j => Q (g i j) H
def rU (g : Int → V) : V → Hp → VK → Prop := fun x H Q => XI x fun i => Q (g i) H

section
variable {X : Cx} {a b c : Expr} {ta tb tc : TE} {pos : Pos}

theorem binT (ha : PE X a ta) (hb : PE X b tb) {pins : List (Addr × Obj)} {s : Shared} {σ : St} {H : Hp} {R : V → V → Hp → Prop} (I : Inv X pins σ H s)
    (h : ta σ H fun x H1 => tb σ H1 fun y H2 => R x y H2) {Q : Value → Shared → Prop} {f : Value → Value → Sem Value}
    (hf : ∀ v u s2 x y H2, Inv X pins σ H2 s2 → RelV x v → RelV y u → R x y H2 → wpAny (model X.prog X.w) X.A (f v u) Q X.xe s2) :
    wpAny (model X.prog X.w) X.A (eval a X.env) (fun v s₁ => wpAny (model X.prog X.w) X.A (eval b X.env) (fun u s₂ => wpAny (model X.prog X.w) X.A (f v u) Q X.xe s₂) X.xe s₁) X.xe s := by
  refine thn (ha pins s σ H _ I h) fun v s1 ⟨x, H1, I1, r1, q1⟩ => ?_
  refine thn (hb pins s1 σ H1 _ I1 q1) fun u s2 ⟨y, H2, I2, r2, q2⟩ => ?_
  exact hf v u s2 x y H2 I2 r1 r2 q2

theorem pe_op {op : Operator} {r : R2} (ho : OpR X (binaryOp op) r) (ha : PE X a ta) (hb : PE X b tb) : PE X (.BinOp a op b pos) (tOp r ta tb) := by
  intro pins s σ H Q I h
  exact wpAny_BinOp (binT ha hb I h fun v u s2 x y H2 I2 rx ry q => ho pins s2 σ H2 x y v u Q I2 rx ry q)
theorem pe_un {op : UnaryOp} {r : V → Hp → VK → Prop} (ho : UnR X (unaryOp op) r) (ha : PE X a ta) : PE X (.UnaryOp op a pos) (tUn r ta) := by
  intro pins s σ H Q I h
  exact UnaryOp_ (thn (ha pins s σ H _ I h) fun v s1 ⟨x, H1, I1, r1, q1⟩ => ho pins s1 σ H1 x v Q I1 r1 q1)
/-! ### ints -/
theorem opI {f : Value → Value → Sem Value} {C : Int → Int → Prop} {g : Int → Int → Int}
    (rule : ∀ (i j : Int) (t u : Tok) (s : Shared) (Q : Value → Shared → Prop) (E : Value → Shared → Prop), C i j → Q (.int (g i j) s.toks) { s with toks := s.toks + 1 } → wpAny (model X.prog X.w) X.A (f (.int i t) (.int j u)) Q E s) :
    OpR X f (rI C fun i j => .int (g i j)) := by
  intro pins s σ H x y v u Q I rx ry h
  obtain ⟨i, j, rfl, rfl, hc, q⟩ := h
  obtain ⟨t, rfl⟩ := rx
  obtain ⟨t', rfl⟩ := ry
  exact rule i j t t' s _ _ hc ⟨.int (g i j), H, I.tok _, ⟨_, rfl⟩, q⟩
theorem opI0 {f : Value → Value → Sem Value} {g : Int → Int → Int}
    (rule : ∀ (i j : Int) (t u : Tok) (s : Shared) (Q : Value → Shared → Prop) (E : Value → Shared → Prop), Q (.int (g i j) s.toks) { s with toks := s.toks + 1 } → wpAny (model X.prog X.w) X.A (f (.int i t) (.int j u)) Q E s) :
    OpR X f (rI0 fun i j => .int (g i j)) := by
  intro pins s σ H x y v u Q I rx ry h
  obtain ⟨i, j, rfl, rfl, q⟩ := h
  obtain ⟨t, rfl⟩ := rx
  obtain ⟨t', rfl⟩ := ry
  exact rule i j t t' s _ _ ⟨.int (g i j), H, I.tok _, ⟨_, rfl⟩, q⟩
theorem opB0 {f : Value → Value → Sem Value} {g : Int → Int → Bool}
    (rule : ∀ (i j : Int) (t u : Tok) (s : Shared) (Q : Value → Shared → Prop) (E : Value → Shared → Prop), Q (.bool (g i j)) s → wpAny (model X.prog X.w) X.A (f (.int i t) (.int j u)) Q E s) :
    OpR X f (rI0 fun i j => .bl (g i j)) := by
  intro pins s σ H x y v u Q I rx ry h
  obtain ⟨i, j, rfl, rfl, q⟩ := h
  obtain ⟨t, rfl⟩ := rx
  obtain ⟨t', rfl⟩ := ry
  exact rule i j t t' s _ _ ⟨.bl (g i j), H, I, rfl, q⟩

theorem op_add : OpR X (binaryOp .Add) (rI0 fun i j => .int (i + j)) := opI0 fun _ _ _ _ _ _ _ q => add_int q
theorem op_sub : OpR X (binaryOp .Sub) (rI0 fun i j => .int (i - j)) := opI0 fun _ _ _ _ _ _ _ q => sub_int q
/-- % by a positive divisor of any size -/
theorem op_mod : OpR X (binaryOp .Mod) (rI (fun _ j => 0 < j) fun i j => .int (i % j)) := opI fun i j _ _ _ _ _ hc q => by
  have h1 : (0 : Int) < j := hc
  exact mod_int' (by omega) (by rw [Int.fmod_eq_emod_of_nonneg i (by omega)]; exact q)
theorem unI {f : Value → Sem Value} {g : Int → Int}
    (rule : ∀ (i : Int) (t : Tok) (s : Shared) (Q : Value → Shared → Prop) (E : Value → Shared → Prop), Q (.int (g i) s.toks) { s with toks := s.toks + 1 } → wpAny (model X.prog X.w) X.A (f (.int i t)) Q E s) :
    UnR X f (rU fun i => .int (g i)) := by
  intro pins s σ H x v Q I rx h
  obtain ⟨i, rfl, q⟩ := h
  obtain ⟨t, rfl⟩ := rx
  exact rule i t s _ _ ⟨.int (g i), H, I.tok _, ⟨_, rfl⟩, q⟩
theorem un_neg : UnR X (unaryOp .USub) (rU fun i => .int (-i)) := unI fun _ _ _ _ _ q => neg_int q
/-! ### bools among ints: n += (a < b) -/
end

/-! ### comparisons -/
/-- the scalars that == tells apart as data does -/
def scal : V → V → Bool
  | .non, .non => true | .non, .int _ => true | .int _, .non => true | .non, .bl _ => true | .bl _, .non => true | .non, .str _ => true | .str _, .non => true
  | .int _, .int _ => true | .bl _, .bl _ => true | .str _, .str _ => true | .byt _, .byt _ => true
  | .int _, .str _ => true | .str _, .int _ => true | .bl _, .str _ => true | .str _, .bl _ => true
  | _, _ => false
def rEq : R2 := fun x y H Q => scal x y = true ∧ Q (.bl (decide (x = y))) H
def rNe : R2 := fun x y H Q => scal x y = true ∧ Q (.bl (!decide (x = y))) H

theorem dec_int {i j : Int} : decide (V.int i = V.int j) = (i == j) := by
  rw [Bool.eq_iff_iff]
  simp
theorem dec_bl {i j : Bool} : decide (V.bl i = V.bl j) = (i == j) := by
  rw [Bool.eq_iff_iff]
  simp
theorem dec_str {i j : Str} : decide (V.str i = V.str j) = (i == j) := by
  rw [Bool.eq_iff_iff]
  simp
theorem dec_byt {i j : Array UInt8} : decide (V.byt i = V.byt j) = (i.toList == j.toList) := by
  rw [Bool.eq_iff_iff]
  cases i
  cases j
  simp

section
variable {X : Cx} {a b c : Expr} {ta tb tc : TE} {pos : Pos}
theorem fin_bl {pins : List (Addr × Obj)} {σ : St} {H : Hp} {s : Shared} {Q : VK} {k k' : Bool} (I : Inv X pins σ H s) (q : Q (.bl k) H) (e : k = k') : EP X pins σ Q (.bool k') s := by
  subst e
  exact ⟨.bl k, H, I, rfl, q⟩
theorem op_eq : OpR X (compareOp .Eq) rEq := by
  intro pins s σ H x y v u Q I rx ry h
  obtain ⟨hs, q⟩ := h
  cases x with
  | non =>
    cases rx
    cases y with
    | non => cases ry; exact PySem.EqNone.eq_none_none (fin_bl I q (by simp))
    | bl j => cases ry; exact PySem.EqNone.eq_none_bool (fin_bl I q (by simp))
    | int j => obtain ⟨t', rfl⟩ := ry; exact PySem.EqNone.eq_none_int (fin_bl I q (by simp))
    | str j => obtain ⟨t', rfl⟩ := ry; exact PySem.EqNone.eq_none_str (fin_bl I q (by simp))
    | _ => exact absurd (show false = true from hs) Bool.false_ne_true
  | bl i =>
    cases rx
    cases y with
    | non => cases ry; exact PySem.EqNone.eq_bool_none (fin_bl I q (by simp))
    | bl j => cases ry; exact eq_bool (fin_bl I q dec_bl)
    | str j => obtain ⟨t', rfl⟩ := ry; exact PySem.EqMixed.eq_bool_str (fin_bl I q (by simp))
    | _ => exact absurd (show false = true from hs) Bool.false_ne_true
  | int i =>
    obtain ⟨t, rfl⟩ := rx
    cases y with
    | non => cases ry; exact PySem.EqNone.eq_int_none (fin_bl I q (by simp))
    | int j => obtain ⟨t', rfl⟩ := ry; exact eq_int (fin_bl I q dec_int)
    | str j => obtain ⟨t', rfl⟩ := ry; exact PySem.EqMixed.eq_int_str (fin_bl I q (by simp))
    | _ => exact absurd (show false = true from hs) Bool.false_ne_true
  | str i =>
    obtain ⟨t, rfl⟩ := rx
    cases y with
    | non => cases ry; exact PySem.EqNone.eq_str_none (fin_bl I q (by simp))
    | bl j => cases ry; exact PySem.EqMixed.eq_str_bool (fin_bl I q (by simp))
    | int j => obtain ⟨t', rfl⟩ := ry; exact PySem.EqMixed.eq_str_int (fin_bl I q (by simp))
    | str j => obtain ⟨t', rfl⟩ := ry; exact eq_str (fin_bl I q dec_str)
    | _ => exact absurd (show false = true from hs) Bool.false_ne_true
  | byt i =>
    obtain ⟨t, rfl⟩ := rx
    cases y with
    | byt j => obtain ⟨t', rfl⟩ := ry; exact PySem.W.eq_bytes (fin_bl I q dec_byt)
    | _ => exact absurd (show false = true from hs) Bool.false_ne_true
  | _ => cases y <;> exact absurd (show false = true from hs) Bool.false_ne_true
theorem op_ne : OpR X (compareOp .NotEq) rNe := by
  intro pins s σ H x y v u Q I rx ry h
  obtain ⟨hs, q⟩ := h
  cases x with
  | non =>
    cases rx
    cases y with
    | non => cases ry; exact PySem.EqNone.ne_none_none (fin_bl I q (by simp))
    | bl j => cases ry; exact PySem.EqNone.ne_none_bool (fin_bl I q (by simp))
    | int j => obtain ⟨t', rfl⟩ := ry; exact PySem.EqNone.ne_none_int (fin_bl I q (by simp))
    | str j => obtain ⟨t', rfl⟩ := ry; exact PySem.EqNone.ne_none_str (fin_bl I q (by simp))
    | _ => exact absurd (show false = true from hs) Bool.false_ne_true
  | bl i =>
    cases rx
    cases y with
    | non => cases ry; exact PySem.EqNone.ne_bool_none (fin_bl I q (by simp))
    | bl j => cases ry; exact ne_bool (fin_bl I q (congrArg not dec_bl))
    | str j => obtain ⟨t', rfl⟩ := ry; exact PySem.EqMixed.ne_bool_str (fin_bl I q (by simp))
    | _ => exact absurd (show false = true from hs) Bool.false_ne_true
  | int i =>
    obtain ⟨t, rfl⟩ := rx
    cases y with
    | non => cases ry; exact PySem.EqNone.ne_int_none (fin_bl I q (by simp))
    | int j => obtain ⟨t', rfl⟩ := ry; exact ne_int (fin_bl I q (congrArg not dec_int))
    | str j => obtain ⟨t', rfl⟩ := ry; exact PySem.EqMixed.ne_int_str (fin_bl I q (by simp))
    | _ => exact absurd (show false = true from hs) Bool.false_ne_true
  | str i =>
    obtain ⟨t, rfl⟩ := rx
    cases y with
    | non => cases ry; exact PySem.EqNone.ne_str_none (fin_bl I q (by simp))
    | bl j => cases ry; exact PySem.EqMixed.ne_str_bool (fin_bl I q (by simp))
    | int j => obtain ⟨t', rfl⟩ := ry; exact PySem.EqMixed.ne_str_int (fin_bl I q (by simp))
    | str j => obtain ⟨t', rfl⟩ := ry; exact ne_str (fin_bl I q (congrArg not dec_str))
    | _ => exact absurd (show false = true from hs) Bool.false_ne_true
  | byt i =>
    obtain ⟨t, rfl⟩ := rx
    cases y with
    | byt j => obtain ⟨t', rfl⟩ := ry; exact PySem.W.ne_bytes (fin_bl I q (congrArg not dec_byt))
    | _ => exact absurd (show false = true from hs) Bool.false_ne_true
  | _ => cases y <;> exact absurd (show false = true from hs) Bool.false_ne_true

theorem op_lt : OpR X (compareOp .Lt) (rI0 fun i j => .bl (decide (i < j))) := opB0 fun _ _ _ _ _ _ _ q => lt_int q
theorem op_le : OpR X (compareOp .LtE) (rI0 fun i j => .bl (decide (i ≤ j))) := opB0 fun _ _ _ _ _ _ _ q => le_int q
theorem op_gt : OpR X (compareOp .Gt) (rI0 fun i j => .bl (decide (j < i))) := opB0 fun _ _ _ _ _ _ _ q => gt_int q
theorem nomark (b : Expr) {op : CmpOp} (h : op ≠ .In := by decide) (h2 : op ≠ .NotIn := by decide) : behindInMarks op b = false := by
  have e1 : (op == CmpOp.In) = false := by cases op <;> first | rfl | exact absurd rfl h
  have e2 : (op == CmpOp.NotIn) = false := by cases op <;> first | rfl | exact absurd rfl h2
  cases b <;> simp [behindInMarks, e1, e2]
/-- a comparison as a value; hm: nomark b, or (for in, not in) by with_unfolding_all rfl -/
theorem pe_cmpR {op : CmpOp} {r : R2} (ho : OpR X (compareOp op) r) (ha : PE X a ta) (hb : PE X b tb) (hm : behindInMarks op b = false) : PE X (.Compare a [op] [b] pos) (tOp r ta tb) := by
  intro pins s σ H Q I h
  exact wpAny_Compare1 (binT ha hb I h fun v u s2 x y H2 I2 rx ry q => ho pins s2 σ H2 x y v u Q I2 rx ry q) hm
/-- a reading of a value as a test -/
def tTest (t : TE) : TT := fun σ H Q => t σ H fun x H' => XB x fun k => Q k H'
theorem pt_cmpR {op : CmpOp} {r : R2} (ho : OpR X (compareOp op) r) (ha : PE X a ta) (hb : PE X b tb) (hm : behindInMarks op b = false) : PT X (.Compare a [op] [b] pos) (tTest (tOp r ta tb)) := by
  intro pins s σ H Q I h
  refine wpAny_isTrue_Compare1 (thn (ha pins s σ H _ I h) fun v s1 ⟨x, H1, I1, r1, q1⟩ => thn (hb pins s1 σ H1 _ I1 q1) fun u s2 ⟨y, H2, I2, r2, q2⟩ =>
    thn (ho pins s2 σ H2 x y v u _ I2 r1 r2 q2) fun c s3 ⟨z, H3, I3, r3, k, e, q3⟩ => ?_) hm
  subst e
  cases r3
  exact wpAny_truthy_bool ⟨H3, I3, q3⟩
/-- a op1 b op2 c -/
def tChain (r r' : R2) (ta tb tc : TE) : TE := fun σ H Q => ta σ H fun x H1 => tb σ H1 fun y H2 => r x y H2 fun z H3 => XB z fun k =>
  (if k = true then tc σ H3 fun w' H4 => r' y w' H4 Q else Q (.bl false) H3)
theorem pe_chain {op op' : CmpOp} {r r' : R2} (ho : OpR X (compareOp op) r) (ho' : OpR X (compareOp op') r') (ha : PE X a ta) (hb : PE X b tb) (hc : PE X c tc)
    (hm : lastMarks [op, op'] [b, c] = false := by with_unfolding_all rfl) : PE X (.Compare a [op, op'] [b, c] pos) (tChain r r' ta tb tc) := by
  intro pins s σ H Q I h
  refine Compare_chain (thn (ha pins s σ H _ I h) fun v s1 ⟨x, H1, I1, r1, q1⟩ => chain_link (thn (hb pins s1 σ H1 _ I1 q1) fun u s2 ⟨y, H2, I2, r2, q2⟩ =>
    thn (ho pins s2 σ H2 x y v u _ I2 r1 r2 q2) fun d s3 ⟨z, H3, I3, r3, k, e, q3⟩ => ?_)) hm
  subst e
  cases r3
  refine wpAny_truthy_bool ?_
  cases k with
  | false => exact ite_ff ⟨.bl false, H3, I3, rfl, q3⟩
  | true => exact ite_tt (chain_last (thn (hc pins s3 σ H3 _ I3 q3) fun w' s4 ⟨z', H4, I4, r4, q4⟩ => ho' pins s4 σ H4 y z' u w' Q I4 r2 r4 q4))
theorem pt_chain {op op' : CmpOp} {r r' : R2} (ho : OpR X (compareOp op) r) (ho' : OpR X (compareOp op') r') (ha : PE X a ta) (hb : PE X b tb) (hc : PE X c tc)
    (hm : lastMarks [op, op'] [b, c] = false := by with_unfolding_all rfl) : PT X (.Compare a [op, op'] [b, c] pos) (tTest (tChain r r' ta tb tc)) := by
  intro pins s σ H Q I h
  refine isTrue_chain (thn (ha pins s σ H _ I h) fun v s1 ⟨x, H1, I1, r1, q1⟩ => test_link (thn (hb pins s1 σ H1 _ I1 q1) fun u s2 ⟨y, H2, I2, r2, q2⟩ =>
    thn (ho pins s2 σ H2 x y v u _ I2 r1 r2 q2) fun d s3 ⟨z, H3, I3, r3, k, e, q3⟩ => ?_)) hm
  subst e
  cases r3
  refine wpAny_truthy_bool ?_
  cases k with
  | false =>
    obtain ⟨k', e', q'⟩ := q3
    cases e'
    exact ite_ff ⟨H3, I3, q'⟩
  | true =>
    refine ite_tt (test_last (thn (hc pins s3 σ H3 _ I3 q3) fun w' s4 ⟨z', H4, I4, r4, q4⟩ => thn (ho' pins s4 σ H4 y z' u w' _ I4 r2 r4 q4) fun d' s5 ⟨z2, H5, I5, r5, k2, e2, q5⟩ => ?_))
    subst e2
    cases r5
    exact wpAny_truthy_bool ⟨H5, I5, q5⟩

/-! ### truth -/
/-- a value's truth by the abstract heap -/
def TruV (K : PySem.W.Frag) (x : V) (H : Hp) (k : Bool) : Prop :=
  match x with
  | .non => k = false
  | .bl b => k = b
  | .int i => k = (i != 0)
  | .str y => y.length ≤ sizeLine ∧ k = ((y.length : Int) != 0)
  | .byt y => y.size ≤ sizeLine ∧ k = ((y.size : Int) != 0)
  | .ref p => (∃ xs, SqL K H p xs ∧ k = !xs.isEmpty) ∨ (∃ xs, SqT K H p xs ∧ k = !xs.isEmpty) ∨ ∃ kvs, H p = some (.dK kvs) ∧ k = !kvs.isEmpty
  | _ => False
theorem isEmpty_kv {κ : Type} {kvs : List (κ × V)} {vs : List (κ × Value)} (r : KV kvs vs) : (!vs.isEmpty) = !kvs.isEmpty := by
  cases r <;> rfl
theorem isEmpty_of {xs : List V} {its : List Value} (r : Vals xs its) : (!its.toArray.isEmpty) = !xs.isEmpty := by
  cases r <;> simp
theorem line63 : (sizeLine : Nat) < 2 ^ 63 := by rw [sizeLine_eq]; decide
theorem tru_ok : TruR X (fun x H Q => ∃ k, TruV X.K x H k ∧ Q k H) := by
  intro pins s σ H x v Q I rx h
  obtain ⟨k, e, q⟩ := h
  have hl := line63
  have hs : sizeLine = 16777216 := sizeLine_eq
  cases x with
  | non =>
    cases rx
    have e' : k = false := e
    subst e'
    exact truthy_none ⟨H, I, q⟩
  | bl b =>
    cases rx
    have e' : k = b := e
    subst e'
    exact wpAny_truthy_bool ⟨H, I, q⟩
  | int i =>
    obtain ⟨t, rfl⟩ := rx
    have e' : k = (i != 0) := e
    subst e'
    exact PySem.P.truthy_int ⟨H, I, q⟩
  | str y =>
    obtain ⟨t, rfl⟩ := rx
    obtain ⟨hy, e'⟩ : y.length ≤ sizeLine ∧ k = ((y.length : Int) != 0) := e
    subst e'
    exact PySem.P.truthy_str (by omega) ⟨H, I.tok _, q⟩
  | byt y =>
    obtain ⟨t, rfl⟩ := rx
    obtain ⟨hy, e'⟩ : y.size ≤ sizeLine ∧ k = ((y.size : Int) != 0) := e
    subst e'
    exact PySem.W.truthy_bytes (by omega) ⟨H, I.tok _, q⟩
  | ref p =>
    cases rx
    have e' : (∃ xs, SqL X.K H p xs ∧ k = !xs.isEmpty) ∨ (∃ xs, SqT X.K H p xs ∧ k = !xs.isEmpty) ∨ ∃ kvs, H p = some (.dK kvs) ∧ k = !kvs.isEmpty := e
    rcases e' with ⟨xs, hx, e'⟩ | ⟨xs, hx, e'⟩ | ⟨kvs, hx, e'⟩
    · subst e'
      obtain ⟨its, r, pl, hz⟩ := I.list hx
      have hlen := r.length
      exact wpAny_truthy_list pl.isList (by simp only [List.size_toArray]; omega) ⟨H, I.tok _, by rw [isEmpty_of r]; exact q⟩
    · subst e'
      obtain ⟨its, r, pl, hz⟩ := I.tuple hx
      have hlen := r.length
      exact truthy_tuple pl (by simp only [List.size_toArray]; omega) ⟨H, I.tok _, by rw [isEmpty_of r]; exact q⟩
    · subst e'
      obtain ⟨hz, hS, vs, r, m⟩ : kvs.length ≤ sizeLine ∧ (p == sysModules) = false ∧ ∃ vs, KV kvs vs ∧ s.heap.DictOf (mixKind X.prog X.w) p vs := I.hok p _ hx
      have hlen : kvs.length = vs.length := Paired.length r
      exact wpAny_truthy_dict hS m (by omega) ⟨H, I.tok _, by rw [isEmpty_kv r]; exact q⟩
  | _ => exact (show False from e).elim
/-- any expression whose test is its value's truth (a name, a call, a subscript, a field ..: he by fun _ => rfl) -/
theorem pt_truth (ha : PE X a ta) (he : ∀ whole, isTrue a X.env whole = (do let v ← whole; standAt a.pos; holding [v] (truthy v))) :
    PT X a (fun σ H Q => ta σ H fun x H' => ∃ k, TruV X.K x H' k ∧ Q k H') := by
  intro pins s σ H Q I h
  exact isTrue_plain (thn (ha pins s σ H _ I h) fun v s1 ⟨x, H1, I1, r1, q1⟩ => tru_ok pins s1 σ H1 x v Q I1 r1 q1) (he _)

/-! ### strs and bytes -/
/-! ### scalar builtins, by CallR -/
theorem vals1 {x : V} {us : List Value} (r : Vals [x] us) : ∃ u, us = [u] ∧ RelV x u := by
  cases r with
  | cons r1 r2 => cases r2; exact ⟨_, rfl, r1⟩
theorem vals2 {x y : V} {us : List Value} (r : Vals [x, y] us) : ∃ u w', us = [u, w'] ∧ RelV x u ∧ RelV y w' := by
  cases r with
  | cons r1 r2 =>
    cases r2 with
    | cons r3 r4 => cases r4; exact ⟨_, _, rfl, r1, r3⟩
end
end L2

namespace L2
open PySem PySem.Spec PyProof.Rows

/-! ### an instance, its attributes a map -/
structure ObjM (h : Heap) (x dx C : Addr) (mA : Str → Option Value) : Prop where
  obj : h.get? x = some (PySem.W.instObj C dx)
  ns : h.Ns1 dx mA
  ne : dx ≠ x

theorem lookIn_ns {h : Heap} {dx : Addr} {mA : Str → Option Value} (n : h.Ns1 dx mA) : ∃ od, h.get? dx = some od ∧ ∀ name, PySem.W.lookIn name od = some (mA name) := by
  obtain ⟨o, es, ep, ho, hd, hk, _, hm⟩ := n
  refine ⟨o, ho, fun name => ?_⟩
  have e := hm name
  unfold nsFind findBy at e
  rw [← Array.find?_toList] at e
  unfold PySem.W.lookIn
  rw [hd]
  dsimp only
  split
  · rename_i y q
    rw [q] at e
    exact congrArg some e
  · rename_i q
    rw [q] at e
    have a : es.toList.any (·.refKey) = false := by
      rw [List.any_eq_false]
      intro y hy
      obtain ⟨z, t, hkey⟩ := hk y (Array.mem_toList_iff.mp hy)
      simp [DictEntry.refKey, hkey]
    have a' : ¬ es.toList.any (·.refKey) = true := by rw [a]; exact Bool.false_ne_true
    rw [if_neg a']
    exact congrArg some e

theorem ObjM.look {h : Heap} {x dx C : Addr} {mA : Str → Option Value} (I : ObjM h x dx C mA) : ∃ od, PySem.W.InstAt h x (PySem.W.instObj C dx) C (some od) ∧ ∀ name, PySem.W.lookIn name od = some (mA name) :=
  let ⟨od, ho, hl⟩ := lookIn_ns I.ns
  ⟨od, ⟨I.obj, rfl, rfl, ho⟩, hl⟩

section
variable {prog : Program} {w : World} {A : Around} {E : Value → Shared → Prop} {s : Shared} {K : PySem.W.Frag} {x dx C f : Addr} {mA : Str → Option Value} {name : Str} {v : Value}

theorem get_map {expr : Bool} {Q : Value → Shared → Prop} (X : K.In s.heap) (I : ObjM s.heap x dx C mA) (hg : PySem.W.plainGet K C name = true) (hh : PySem.W.hasDictIn K C = true)
    (ha : PySem.W.findIn K (.ref C) name = some none) (hv : mA name = some v) (hv' : PySem.W.handedIn v = true) (h : Q v { s with toks := s.toks + 1 }) :
    wpAny (model prog w) A (getAttr (.ref x) name expr) Q E s := by
  obtain ⟨od, J, hl⟩ := I.look
  exact PySem.W.get_value X J (PySem.W.plainGet_of hg).1 (PySem.W.findObj_own hh ha rfl (by rw [hl, hv])) hv' h

theorem get_meth {pl : Sem Bool} {Q : Value × List Value → Shared → Prop} (X : K.In s.heap) (I : ObjM s.heap x dx C mA) (hg : PySem.W.plainGet K C name = true)
    (hf : PySem.W.findIn K (.ref C) name = some (some (.ref f))) (ht : PySem.W.isFn K (.ref f) = true) (hv : mA name = none) (h : Q (.ref f, [.ref x]) s) :
    wpAny (model prog w) A (getMethod (.ref x) name pl) Q E s := by
  obtain ⟨od, J, hl⟩ := I.look
  exact PySem.W.method_fn X J (PySem.W.plainGet_of hg).1 (PySem.W.plainGet_of hg).2 hf (beq_iff_eq.mp ht) (by show (PySem.W.lookIn name od).map (·.isSome) = some false; rw [hl, hv]; rfl) h

theorem set_map {ns : List Str} {Q : Unit → Shared → Prop} (X : K.In s.heap) (I : ObjM s.heap x dx C mA)
    (hs : PySem.W.findIn K (.ref C) "__setattr__" = some (some (.builtin "object.__setattr__"))) (hp : PySem.W.plainOver K C = true) (ht : PySem.W.takerIn K C name = some none) (hh : PySem.W.hasDictIn K C = true)
    (hw : PySem.Within mA ns) (hsz : ns.length ≤ sizeLine)
    (h : ∀ h', ObjM h' x dx C (fun y => if y = name then some v else mA y) → Heap.SameBut dx s.heap h' → Q () { s with heap := h', toks := s.toks + 2 }) :
    wpAny (model prog w) A (setAttr (.ref x) name v) Q E s := by
  obtain ⟨od, J, hl⟩ := I.look
  refine PySem.W.set_plain X J hs (PySem.W.osa_open (s := { s with toks := s.toks + 1 }) (r := none) X J hp ht fun b => ?_)
  obtain ⟨cd, hc, hd'⟩ := PySem.W.any_some hh
  have hx : s.heap.get? x = some ⟨.ref C, some dx, .plain, #[]⟩ := I.obj
  refine wpAny_bind (wpAny_pure (wpAny_bind (wpAny_bind (wpAny_loadPart hx (wpAny_bind (PySem.W.Looks.here (s := { s with toks := s.toks + 1 }) (PySem.W.looks_clsIn X hc) ?_))))))
  rw [hd']
  refine wpAny_pure (a := some dx) (wpAny_bind (wpAny_pure (wpAny_bind ?_)))
  refine wpAny_nsSet1 (s := { s with toks := s.toks + 1 }) I.ns fun h' hn2 hs2 => ?_
  obtain ⟨oD, esD, epD, hoD, hdD, hcD⟩ := hn2.count (PySem.Within.cons name v hw)
  refine wpAny_bind (wpAny_lookBehind hoD (by rw [hdD]; exact pastItsLine_dict (Nat.le_trans hcD (by rw [List.length_cons]; omega))) ?_)
  exact wpAny_pure (h _ ⟨(hs2.2 _ (Ne.symm I.ne)).trans I.obj, hn2, I.ne⟩ hs2)

/-- C(..): the dict at the heap's end, the instance behind it; then its __init__ -/
theorem make_map {R : Result → Shared → Prop} {vs : List Value} {kw : List (Str × Value)} (X : K.In s.heap) (hm : PySem.W.makesIn K C = true)
    (hi : PySem.W.findIn K (.ref C) "__init__" = some (some (.ref f))) (hf : PySem.W.typeIn K (.ref f) = some (.type "function"))
    (h : codeAny (model prog w) (A.under (.builtin "type.__call__" ⟨.ref C :: vs, kw⟩)) (.call (.ref f) ⟨.ref (s.heap.objs.size + 1) :: vs, kw⟩) (PySem.W.InitBack (s.heap.objs.size + 1) R)
      { s with heap := (s.heap.push PySem.W.emptyDict).push (PySem.W.instObj C s.heap.objs.size) }) :
    codeAny (model prog w) A (.call (.ref C) ⟨vs, kw⟩) R s := by
  obtain ⟨hh, g, d, t, os⟩ := s
  exact PySem.W.make_core (PySem.W.makes_of X hm) (PySem.W.looks_findIn X hi) (fun self => PySem.W.bind_fn X self hf) (.inl rfl) h
end

/-! ### the attributes as a list of pairs -/
def putF (f : Str) (v : V) : List (Str × V) → List (Str × V)
  | [] => [(f, v)]
  | (g, x) :: r => if g = f then (g, v) :: r else (g, x) :: putF f v r
theorem lookup_putF (f g : Str) (v : V) : ∀ fs : List (Str × V), (putF f v fs).lookup g = if g = f then some v else fs.lookup g
  | [] => by
    show List.lookup g [(f, v)] = _
    by_cases h : g = f
    · have hb : (g == f) = true := beq_iff_eq.mpr h
      simp only [List.lookup, hb, if_pos h]
    · have hb : (g == f) = false := beq_eq_false_iff_ne.mpr h
      simp only [List.lookup, hb, if_neg h]
  | (k, x) :: r => by
    have ih := lookup_putF f g v r
    rw [show putF f v ((k, x) :: r) = (if k = f then (k, v) :: r else (k, x) :: putF f v r) from rfl]
    by_cases hk : k = f
    · rw [if_pos hk]
      by_cases h : g = k
      · have hb : (g == k) = true := beq_iff_eq.mpr h
        simp only [List.lookup, hb, if_pos (h.trans hk)]
      · have hb : (g == k) = false := beq_eq_false_iff_ne.mpr h
        simp only [List.lookup, hb, if_neg (fun e : g = f => h (e.trans hk.symm))]
    · rw [if_neg hk]
      by_cases h : g = k
      · have hb : (g == k) = true := beq_iff_eq.mpr h
        simp only [List.lookup, hb, if_neg (fun e : g = f => hk (h.symm.trans e))]
      · have hb : (g == k) = false := beq_eq_false_iff_ne.mpr h
        simp only [List.lookup, hb]
        exact ih
theorem keys_putF (f : Str) (v : V) : ∀ fs : List (Str × V), f ∈ (putF f v fs).map (·.1) ∧ ∀ g, g ∈ fs.map (·.1) → g ∈ (putF f v fs).map (·.1)
  | [] => ⟨by simp [putF], fun g h => by simp at h⟩
  | (k, x) :: r => by
    obtain ⟨i1, i2⟩ := keys_putF f v r
    rw [show putF f v ((k, x) :: r) = (if k = f then (k, v) :: r else (k, x) :: putF f v r) from rfl]
    by_cases hk : k = f
    · rw [if_pos hk]
      subst hk
      exact ⟨by simp, fun g h => by simpa using h⟩
    · rw [if_neg hk]
      refine ⟨?_, fun g h => ?_⟩
      · rw [List.map_cons]
        exact List.mem_cons_of_mem _ i1
      · rw [List.map_cons] at h ⊢
        rcases List.mem_cons.mp h with e | e
        · exact List.mem_cons.mpr (.inl e)
        · exact List.mem_cons_of_mem _ (i2 g e)
theorem length_putF (f : Str) (v : V) : ∀ fs : List (Str × V), (putF f v fs).length ≤ fs.length + 1
  | [] => by simp [putF]
  | (k, x) :: r => by
    have ih := length_putF f v r
    rw [show putF f v ((k, x) :: r) = (if k = f then (k, v) :: r else (k, x) :: putF f v r) from rfl]
    by_cases hk : k = f
    · rw [if_pos hk, List.length_cons, List.length_cons]; omega
    · rw [if_neg hk, List.length_cons, List.length_cons]; omega

theorem RelO.some_of {v : V} {o : Option Value} (r : RelO (some v) o) : ∃ u, o = some u ∧ RelV v u := by
  cases o with
  | none => exact (show False from r).elim
  | some u => exact ⟨u, rfl, r⟩
theorem RelO.none_of {o : Option Value} (r : RelO none o) : o = none := by
  cases o with
  | none => rfl
  | some u => exact (show False from r).elim
theorem handed_of {v : V} {u : Value} (r : RelV v u) : PySem.W.handedIn u = true := by
  cases v with
  | non => cases (show u = Value.none from r); rfl
  | bl b => cases (show u = Value.bool b from r); rfl
  | int i => obtain ⟨t, e⟩ := (show ∃ t, u = Value.int i t from r); cases e; rfl
  | str x => obtain ⟨t, e⟩ := (show ∃ t, u = Value.str x t from r); cases e; rfl
  | byt b => obtain ⟨t, e⟩ := (show ∃ t, u = Value.bytes b t from r); cases e; rfl
  | flt b => obtain ⟨t, e⟩ := (show ∃ t, u = Value.float b t from r); cases e; rfl
  | ref a => cases (show u = Value.ref a from r); rfl
  | ty n => cases (show u = Value.type n from r); rfl

section
variable {P : Program} {w : World} {H H' : Hp} {h h' : Heap} {a C dx : Addr} {fs fs' : List (Str × V)}
theorem ins_get (hok : HOk P w H h) (e : H a = some (.ins C dx fs)) : ∃ mA, ObjM h a dx C mA ∧ (∀ f, RelO (fs.lookup f) (mA f)) ∧ PySem.Within mA (fs.map (·.1)) ∧ fs.length ≤ 1000 ∧ H dx = some (.own a) := by
  obtain ⟨d, z, ne, ob, mA, n, r, q⟩ := (show ObjOk P w H h a (.ins C dx fs) from hok a _ e)
  exact ⟨mA, ⟨ob, n, ne⟩, r, q, z, d⟩
end

/-! ### what of the text a class must have -/
structure Cls (K : PySem.W.Frag) (C : Addr) : Prop where
  pg : PySem.W.plainGet K C Str.empty = true
  hd : PySem.W.hasDictIn K C = true
  po : PySem.W.plainOver K C = true
  sa : PySem.W.findIn K (.ref C) "__setattr__" = some (some (.builtin "object.__setattr__"))
theorem Cls.get {K : PySem.W.Frag} {C : Addr} (c : Cls K C) (f : Str) : PySem.W.plainGet K C f = true := c.pg
/-- no class of it has the name -/
def NoAttr (K : PySem.W.Frag) (C : Addr) (f : Str) : Prop := PySem.W.findIn K (.ref C) f = some none
theorem NoAttr.taker {K : PySem.W.Frag} {C : Addr} {f : Str} (n : NoAttr K C f) : PySem.W.takerIn K C f = some none := by
  unfold PySem.W.takerIn
  rw [show PySem.W.findIn K (.ref C) f = some none from n]
  rfl
/-- a method: a plain def of the class or of one above it -/
structure Meth (K : PySem.W.Frag) (C : Addr) (m : Str) (f : Addr) : Prop where
  at_ : PySem.W.findIn K (.ref C) m = some (some (.ref f))
  fn : PySem.W.isFn K (.ref f) = true
  kp : PySem.W.keepIn K (.ref f) = true

section
variable {X : Cx} {pins : List (Addr × Obj)} {σ : St} {H : Hp} {s : Shared} {a C dx : Addr} {fs : List (Str × V)} {f : Str} {v : V} {A : Around} {E : Value → Shared → Prop}

theorem getattr_ok {b : Bool} {Q : Value → Shared → Prop} (I : Inv X pins σ H s) (e : H a = some (.ins C dx fs)) (c : Cls X.K C) (n : NoAttr X.K C f) (l : fs.lookup f = some v)
    (h : ∀ u s', Inv X pins σ H s' → RelV v u → Q u s') : wpAny (model X.prog X.w) A (getAttr (.ref a) f b) Q E s := by
  obtain ⟨mA, O, r, _, _, _⟩ := ins_get I.hok e
  obtain ⟨u, hu, ru⟩ := RelO.some_of (v := v) (o := mA f) (by rw [← l]; exact r f)
  exact get_map I.kIn O (c.get f) c.hd n hu (handed_of ru) (h u _ (I.tok _) ru)

theorem getmeth_ok {m : Str} {g : Addr} {pl : Sem Bool} {Q : Value × List Value → Shared → Prop} (I : Inv X pins σ H s) (e : H a = some (.ins C dx fs)) (c : Cls X.K C) (k : Meth X.K C m g) (l : fs.lookup m = none)
    (h : Q (.ref g, [.ref a]) s) : wpAny (model X.prog X.w) A (getMethod (.ref a) m pl) Q E s := by
  obtain ⟨mA, O, r, _, _, _⟩ := ins_get I.hok e
  have hn : mA m = none := RelO.none_of (by rw [← l]; exact r m)
  exact get_meth I.kIn O (c.get m) k.at_ k.fn hn h

theorem setattr_ok {y : V} {u : Value} {Q : Unit → Shared → Prop} (I : Inv X pins σ H s) (e : H a = some (.ins C dx fs)) (c : Cls X.K C) (n : NoAttr X.K C f) (hl : fs.length < 1000) (ry : RelV y u)
    (h : ∀ s', Inv X pins σ (upd H a (.ins C dx (putF f y fs))) s' → Q () s') : wpAny (model X.prog X.w) A (setAttr (.ref a) f u) Q E s := by
  obtain ⟨mA, O, r, wi, _, ho⟩ := ins_get I.hok e
  have hz : (fs.map (·.1)).length ≤ sizeLine := by rw [List.length_map, sizeLine_eq]; omega
  refine set_map I.kIn O c.sa c.po n.taker c.hd wi hz fun h' O' sb => h _ ?_
  have hd : ∃ o, h'.get? dx = some o := let ⟨o, _, _, e', _⟩ := O'.ns; ⟨o, e'⟩
  refine I.write (x := a) (e := dx) (by rw [e]; exact True.intro) (.inr ho) (fun b q hb z => (sb.2 b hb).trans z) hd ?_
  refine ⟨by rw [upd_ne O.ne]; exact ho, ?_, O.ne, O'.obj, _, O'.ns, fun g => ?_, fun g hg => ?_⟩
  · have := length_putF f y fs; omega
  · show RelO ((putF f y fs).lookup g) (if g = f then some u else mA g)
    rw [lookup_putF]
    by_cases q : g = f
    · rw [if_pos q, if_pos q]; exact ry
    · rw [if_neg q, if_neg q]; exact r g
  · by_cases q : g = f
    · rw [q]; exact (keys_putF f y fs).1
    · refine (keys_putF f y fs).2 g (wi g fun z => hg ?_)
      show (if g = f then some u else mA g) = none
      rw [if_neg q]; exact z

/-- a new instance, tracked, without attributes -/
theorem Inv.made (I : Inv X pins σ H s) : Inv X pins σ (upd (upd H s.heap.objs.size (.own (s.heap.objs.size + 1))) (s.heap.objs.size + 1) (.ins C s.heap.objs.size []))
    { s with heap := (s.heap.push PySem.W.emptyDict).push (PySem.W.instObj C s.heap.objs.size) } := by
  have e1 : (s.heap.push PySem.W.emptyDict).get? s.heap.objs.size = some PySem.W.emptyDict := Heap.get?_push_size s.heap rfl
  have e2 : ((s.heap.push PySem.W.emptyDict).push (PySem.W.instObj C s.heap.objs.size)).get? (s.heap.objs.size + 1) = some (PySem.W.instObj C s.heap.objs.size) := by
    have := Heap.get?_push_size (s.heap.push PySem.W.emptyDict) (o := PySem.W.instObj C s.heap.objs.size) rfl
    rwa [Heap.size_push] at this
  have e3 : (s.heap.push PySem.W.emptyDict).Ns s.heap.objs.size (fun _ => none) := ⟨PySem.W.emptyDict, #[], _, e1, rfl, (fun e he => absurd he (by simp)), fun _ => rfl⟩
  have I1 := I.laid (a := s.heap.objs.size) (o := .own (s.heap.objs.size + 1)) (h' := s.heap.push PySem.W.emptyDict) (t' := s.toks) (fun b u q => Heap.get?_push_of_some _ q) (Nat.le_refl _) ⟨_, e1⟩
  refine I1.laid (a := s.heap.objs.size + 1) (o := .ins C s.heap.objs.size []) (t' := s.toks) (fun b u q => Heap.get?_push_of_some _ q) (Nat.le_of_eq (Heap.size_push _ _)) ?_
  have ne : s.heap.objs.size ≠ s.heap.objs.size + 1 := Nat.ne_of_lt (Nat.lt_succ_self _)
  refine ⟨by rw [upd_ne ne, upd_same], Nat.zero_le _, ne, e2, fun _ => none, (Heap.Ns1.of_empty e3).at fun o q => Heap.get?_push_of_some _ q, fun _ => True.intro, fun y hy => absurd rfl hy⟩

/-- e.f where nothing but the object is asked: through attributeBase (super) and the last hold -/
theorem attr_of {prog : Program} {w : World} {env : Env} {e : Expr} {f : Str} {pos : Pos} {s : Shared} {Q : Value → Shared → Prop} (hb : attributeBase e f env (eval e env) = eval e env)
    (h : wpAny (model prog w) A (eval e env) (fun o s₁ => wpAny (model prog w) A (getAttr o f true) Q E s₁) E s) : wpAny (model prog w) A (eval (.Attribute e f pos) env) Q E s :=
  Attribute_any_ h (by rw [arm_eval_Attribute, hb])
end

/-! ### readings and rules -/
/-- e.f, an attribute of the instance -/
inductive XFld (K : PySem.W.Frag) (f : Str) (x : V) (H : Hp) (Q : VK) : Prop
  | mk (a C dx : Addr) (fs : List (Str × V)) (v : V) (e : x = .ref a) (h : H a = some (.ins C dx fs)) (c : Cls K C) (n : NoAttr K C f) (l : fs.lookup f = some v) (q : Q v H)
def tFld (K : PySem.W.Frag) (ta : TE) (f : Str) : TE := fun σ H Q => ta σ H fun x H1 => XFld K f x H1 Q
/-- e.f = value -/
inductive XSet (K : PySem.W.Frag) (f : Str) (x y : V) (H : Hp) (R : Hp → Prop) : Prop
  | mk (a C dx : Addr) (fs : List (Str × V)) (e : x = .ref a) (h : H a = some (.ins C dx fs)) (c : Cls K C) (n : NoAttr K C f) (l : fs.length < 1000) (q : R (upd H a (.ins C dx (putF f y fs))))
def sFld (K : PySem.W.Frag) (ta tv : TE) (f : Str) : TS := fun D σ H => tv σ H fun y H1 => ta σ H1 fun x H2 => XSet K f x y H2 (D.nx σ)
section
variable {X : Cx} {o e value : Expr} {f : Str} {pos pos' tpos : Pos} {ta tv : TE}
theorem pe_fld (he : PE X e ta) (hb : attributeBase e f X.env (eval e X.env) = eval e X.env) : PE X (.Attribute e f pos) (tFld X.K ta f) := by
  intro pins s σ H Q I h
  refine attr_of hb (thn (he pins s σ H _ I h) fun u s1 ⟨x, H1, I1, rx, a, C, dx, fs, v, ex, ea, c, n, l, q⟩ => ?_)
  subst ex
  obtain rfl : u = Value.ref a := rx
  exact getattr_ok I1 ea c n l fun u' s2 I2 ru => ⟨v, H1, I2, ru, q⟩
theorem ps_fld (ha : PE X o ta) (hv : PE X value tv) (hs : swapsWith value (some (.Attribute o f pos')) pos.line X.env = pure false) : PS X (.Assign [.Attribute o f pos'] value pos) (sFld X.K ta tv f) := by
  intro pins s σ H D I h
  refine plainObj_wpAny_Assign_Attribute (thn (hv pins s σ H _ I h) fun u s1 ⟨y, H1, I1, ry, q⟩ => thn (ha pins s1 σ H1 _ I1 q) fun ov s2 ⟨x, H2, I2, rx, a, C, dx, fs, ex, ea, c, n, l, q2⟩ => ?_) hs
  subst ex
  obtain rfl : ov = Value.ref a := rx
  exact setattr_ok I2 ea c n l ry fun s3 I3 => ⟨σ, _, I3, q2⟩
end

/-! ### isinstance -/
section
variable {X : Cx} {pins : List (Addr × Obj)} {σ : St} {H : Hp} {s : Shared} {A : Around} {E : Value → Shared → Prop} {Q : Value → Shared → Prop} {c : Value} {b : Bool}
/-- the type of a value, as the fragment's deciders take it; for an instance its class -/
inductive TyOf (K : PySem.W.Frag) (H : Hp) : V → Value → Prop where
  | non : TyOf K H .non (.type "NoneType")
  | bl (x : Bool) : TyOf K H (.bl x) (.type "bool")
  | int (i : Int) : TyOf K H (.int i) (.type "int")
  | str (x : Str) : TyOf K H (.str x) (.type "str")
  | flt (x : UInt64) : TyOf K H (.flt x) (.type "float")
  | lst {a : Addr} {xs : List V} (e : H a = some (.lst xs)) : TyOf K H (.ref a) (.type "list")
  | frz {a : Addr} {o : Obj} {xs : List V} (e : H a = some (.frz o (.lst xs))) : TyOf K H (.ref a) (.type "list")
  | tup {a : Addr} {xs : List V} (e : H a = some (.tup xs)) : TyOf K H (.ref a) (.type "tuple")
  | dK {a : Addr} {kvs : List (Key × V)} (e : H a = some (.dK kvs)) : TyOf K H (.ref a) (.type "dict")
  | dT {a : Addr} {kvs : List (List Key × V)} (e : H a = some (.dT kvs)) : TyOf K H (.ref a) (.type "dict")
  | ins {a C dx : Addr} {fs : List (Str × V)} (e : H a = some (.ins C dx fs)) (cl : Cls K C) (ha : PySem.W.findIn K (.ref C) "__class__" = some (some (.builtin "object.__class__")))
      (hn : PySem.W.specialIn K (.builtin "object.__class__") "__get__" = some (some (.builtin "getset_descriptor.__get__"))) (htk : PySem.W.takesIn K (.builtin "object.__class__") = some true)
      (hm : PySem.W.mroIn K C (.type "object") = some true) : TyOf K H (.ref a) (.ref C)
/-- isinstance(x, c) for one class c, a built-in or an own one: kitOne's answer -/
theorem isinst_ok {x : V} {u t : Value} (I : Inv X pins σ H s) (rx : RelV x u) (ty : TyOf X.K H x t) (e : PySem.W.kitOne X.K t c = some b) (h : ∀ tk, Q (.bool b) { s with toks := tk }) :
    wpAny (model X.prog X.w) A (call (.builtin "isinstance") [u, c]) Q E s := by
  cases ty with
  | non => cases (show u = Value.none from rx); exact PySem.W.kia_one PySem.W.kitx_none I.kIn True.intro e (fun z => nomatch z) h
  | bl y => cases (show u = Value.bool y from rx); exact PySem.W.kia_one PySem.W.kitx_bool I.kIn True.intro e (fun z => nomatch z) h
  | int i => obtain ⟨t, q⟩ := (show ∃ t, u = Value.int i t from rx); cases q; exact PySem.W.kia_one PySem.W.kitx_int I.kIn True.intro e (fun z => nomatch z) h
  | str y => obtain ⟨t, q⟩ := (show ∃ t, u = Value.str y t from rx); cases q; exact PySem.W.kia_one PySem.W.kitx_str I.kIn True.intro e (fun z => nomatch z) h
  | flt y => obtain ⟨t, q⟩ := (show ∃ t, u = Value.float y t from rx); cases q; exact PySem.W.kia_one PySem.W.kitx_float I.kIn True.intro e (fun z => nomatch z) h
  | @lst a xs ea =>
    cases (show u = Value.ref a from rx)
    obtain ⟨_, _, n, _, h1⟩ := (show ObjOk X.prog X.w H s.heap a (.lst xs) from I.hok a _ ea)
    exact PySem.W.kia_one PySem.W.kitx_list I.kIn ⟨_, h1, rfl⟩ e (fun z => nomatch z) h
  | @frz a ob xs ea =>
    cases (show u = Value.ref a from rx)
    obtain ⟨_, _, _, n, _, h1⟩ := (show ObjOk X.prog X.w H s.heap a (.frz ob (.lst xs)) from I.hok a _ ea)
    exact PySem.W.kia_one PySem.W.kitx_list I.kIn ⟨_, h1, rfl⟩ e (fun z => nomatch z) h
  | @tup a xs ea =>
    cases (show u = Value.ref a from rx)
    obtain ⟨_, _, _, p⟩ := (show ObjOk X.prog X.w H s.heap a (.tup xs) from I.hok a _ ea)
    obtain ⟨o, h1, h2, _⟩ := p
    exact PySem.W.kia_one PySem.W.kitx_tuple I.kIn ⟨o, h1, h2⟩ e (fun z => nomatch z) h
  | @dK a kvs ea =>
    cases (show u = Value.ref a from rx)
    obtain ⟨_, _, vs, _, p⟩ := (show ObjOk X.prog X.w H s.heap a (.dK kvs) from I.hok a _ ea)
    obtain ⟨o, es, ep, h1, h2, _⟩ := p
    exact PySem.W.kia_one PySem.W.kitx_dict I.kIn ⟨o, h1, h2.1⟩ e (fun z => nomatch z) h
  | @dT a kvs ea =>
    cases (show u = Value.ref a from rx)
    obtain ⟨_, _, xs, _, o, es, ep, h1, h2, _⟩ := (show ObjOk X.prog X.w H s.heap a (.dT kvs) from I.hok a _ ea)
    exact PySem.W.kia_one PySem.W.kitx_dict I.kIn ⟨o, h1, h2.1⟩ e (fun z => nomatch z) h
  | @ins a C dx fs ea cl ha hn htk hm =>
    cases (show u = Value.ref a from rx)
    obtain ⟨mA, O, _⟩ := ins_get I.hok ea
    obtain ⟨od, J, _⟩ := O.look
    exact PySem.W.kia_one (PySem.W.kitx_own (cl.get _) cl.hd ha hn htk hm) I.kIn J e (fun z => nomatch z) h
end
end L2

namespace L2
open PySem PySem.Spec PyProof.Rows

/-! ### room -/
structure Room (k : Nat) (A : Around) : Prop where
  hd : A.handled = none
  dp : A.depth + 3 * k + 5 < recursionLimit
  un : A.units + 16 * k + 200 < cLine
theorem Room.mono {j k : Nat} {A : Around} (r : Room k A) (h : j ≤ k) : Room j A := ⟨r.hd, by have := r.dp; omega, by have := r.un; omega⟩
theorem Room.deeper {k : Nat} {A : Around} (r : Room (k + 1) A) (env : Env) : Room k (A.deeper env) :=
  ⟨r.hd, by have := r.dp; show A.depth + 1 + 3 * k + 5 < _; omega, by have := r.un; show A.units + 3 + 16 * k + 200 < _; omega⟩
theorem make_depth {A : Around} {C : Addr} {us : List Value} {kw : List (Str × Value)} : (A.under (.builtin "type.__call__" ⟨.ref C :: us, kw⟩)).depth = A.depth + 1 := by
  first | rfl | simp [Around.under, Code.weight, Code.isCreation, Code.isGuard, Code.isCaller, Code.frames, Code.isFrame, guardIds]
theorem make_units {A : Around} {C : Addr} {us : List Value} {kw : List (Str × Value)} : (A.under (.builtin "type.__call__" ⟨.ref C :: us, kw⟩)).units = A.units + 1 := by
  first | rfl | simp [Around.under, Code.cUnits, Code.frames, Code.isFrame]
theorem Room.make {k : Nat} {A : Around} (r : Room (k + 1) A) (C : Addr) (us : List Value) (kw : List (Str × Value)) : Room k (A.under (.builtin "type.__call__" ⟨.ref C :: us, kw⟩)) :=
  ⟨r.hd, by have := r.dp; rw [make_depth]; omega, by have := r.un; rw [make_units]; omega⟩
theorem Room.depth {k : Nat} {A : Around} (r : Room k A) : A.depth < recursionLimit := by have := r.dp; omega
theorem Room.units {k : Nat} {A : Around} (r : Room k A) : A.units + 64 < cLine := by have := r.un; omega
theorem Room.units0 {k : Nat} {A : Around} (r : Room k A) : A.units < cLine := by have := r.un; omega

/-! ### argument lists and displays -/
def tNil : TA := fun _ H Q => Q [] H
def tCons (ta : TE) (tr : TA) : TA := fun σ H Q => ta σ H fun x H1 => tr σ H1 fun xs H2 => Q (x :: xs) H2
section
variable {X : Cx} {e : Expr} {es : List Expr} {te : TE} {t : TA} {pos : Pos}
theorem pa_nil : PA X [] tNil := fun _ _ _ _ H Q I h => Calls.spliced_nil ⟨[], H, I, .nil, h⟩
theorem pa_cons (ha : PE X e te) (hr : PA X es t) (hs : starEach (e :: es) X.env = (false, eval e X.env) :: starEach es X.env := by rfl) : PA X (e :: es) (tCons te t) := by
  intro pos pins s σ H Q I h
  rw [hs]
  show wpAny _ _ (spliced ((false, eval e X.env) :: backTo pos (starEach es X.env))) _ _ s
  refine Calls.spliced_cons (thn (ha pins s σ H _ I h) fun u s1 ⟨x, H1, I1, r1, q1⟩ => ?_)
  exact thn (hr pos pins s1 σ H1 _ I1 q1) fun us s2 ⟨xs, H2, I2, r2, q2⟩ => ⟨x :: xs, H2, I2, .cons r1 r2, q2⟩

/-- a tuple, a list of written items -/
def tTup (t : TA) : TE := fun σ H Q => t σ H fun xs H1 => xs.length ≤ sizeLine ∧ ∀ p, H1 p = none → Q (.ref p) (upd H1 p (.tup xs))
def tLst (t : TA) : TE := fun σ H Q => t σ H fun xs H1 => xs.length ≤ sizeLine ∧ ∀ p, H1 p = none → Q (.ref p) (upd H1 p (.lst xs))
theorem pe_tup {x1} (h : PA X es t) : PE X (.Tuple es x1 pos) (tTup t) := by
  intro pins s σ H Q I hq
  refine wpAny_Tuple_spliced (thn (h pos pins s σ H _ I hq) fun us s1 ⟨xs, H1, I1, r, z, q⟩ => ⟨by rw [← r.length]; exact z, ?_⟩)
  have hf : H1 s1.heap.objs.size = none := I1.hok.fresh (Nat.le_refl _)
  refine ⟨.ref s1.heap.objs.size, upd H1 s1.heap.objs.size (.tup xs), I1.laid (t' := s1.toks) (fun b u e => Heap.get?_push_of_some _ e) (Nat.le_refl _) ?_, rfl, q _ hf⟩
  exact ⟨z, us, r, ⟨_, Heap.get?_push_size _ rfl, rfl, _, rfl⟩⟩
theorem pe_lst (h : PA X es t) : PE X (.List es pos) (tLst t) := by
  intro pins s σ H Q I hq
  refine wpAny_List_spliced (thn (h pos pins s σ H _ I hq) fun us s1 ⟨xs, H1, I1, r, z, q⟩ => ⟨by rw [← r.length]; exact z, ?_⟩)
  have hf : H1 s1.heap.objs.size = none := I1.hok.fresh (Nat.le_refl _)
  refine ⟨.ref s1.heap.objs.size, upd H1 s1.heap.objs.size (.lst xs), I1.laid (t' := s1.toks) (fun b u e => Heap.get?_push_of_some _ e) (Nat.le_refl _) ?_, rfl, q _ hf⟩
  exact ⟨z, us, 0, r, Heap.get?_push_size _ rfl⟩
end

/-! ### what a def promises -/
/-- a def's promise: the bound arguments in the parameters' order, the heap, the wanted end, the wanted exception -/
abbrev Sp := List V → Hp → VK → XK → Prop
/-- how an exception lies behind a call (file 08 gives it): the callers' frames, abstract heap and state ahead of the call, the wish, the exception, the state -/
abbrev CXT := List Env → Hp → Shared → XK → Value → Shared → Prop

/-- the state at a call -/
structure Env0 (P : Program) (w : World) (K : PySem.W.Frag) (mg : Str → Option Value) (base : Heap) (A : Around) (outer : List Env) (s : Shared) (H : Hp) : Prop where
  frames : A.frames = some outer
  mod : Mod K mg base
  bs : ∀ b o, base.get? b = some o → s.heap.get? b = some o ∧ H b = none
  bsz : base.objs.size ≤ s.heap.objs.size
  funs : s.heap.FunFrames base outer
  frf : ∀ b ∈ frs outer, H b = none
  hok : HOk P w H s.heap
  bare : AllBare s.gens
/-- a call's end -/
def CE (outer : List Env) (P : Program) (w : World) (H : Hp) (s : Shared) (Q : VK) (u : Value) (s' : Shared) : Prop :=
  ∃ v H', s'.os = s.os ∧ AllBare s'.gens ∧ Un (frs outer) [] H H' s.heap s'.heap ∧ HOk P w H' s'.heap ∧ RelV v u ∧ Q v H'
def CR (CX : CXT) (outer : List Env) (P : Program) (w : World) (H : Hp) (s : Shared) (Q : VK) (E : XK) (r : Result) (s' : Shared) : Prop :=
  match r with
  | .ok (.ret u) => CE outer P w H s Q u s'
  | .ok _ => False
  | .error e => CX outer H s E e s'
structure FnOk (P : Program) (w : World) (K : PySem.W.Frag) (mg : Str → Option Value) (base : Heap) (CX : CXT) (k : Nat) (f : Addr) (fd : FuncData) (ps : List Str) (sp : Sp) : Prop where
  len : ∀ vs H Q E, sp vs H Q E → vs.length = ps.length
  run : ∀ (A : Around) (outer : List Env) (s : Shared) (H : Hp) (args : Args) (us : List Value) (vs : List V) (Q : VK) (E : XK), Room k A → Env0 P w K mg base A outer s H → BindsTo s fd args (ps.zip us) → Vals vs us → sp vs H Q E →
    codeAny (model P w) A (.call (.ref f) args) (CR CX outer P w H s Q E) s
theorem Env0.make {P : Program} {w : World} {K : PySem.W.Frag} {mg : Str → Option Value} {base : Heap} {A : Around} {outer : List Env} {s : Shared} {H : Hp} (e : Env0 P w K mg base A outer s H) (C : Addr) (us : List Value) (kw : List (Str × Value)) :
    Env0 P w K mg base (A.under (.builtin "type.__call__" ⟨.ref C :: us, kw⟩)) outer s H := ⟨by first | exact e.frames | (simpa [Around.under, Code.envs, Code.isFrame, pushEnvs] using e.frames), e.mod, e.bs, e.bsz, e.funs, e.frf, e.hok, e.bare⟩
section
variable {X : Cx} {pins : List (Addr × Obj)} {σ : St} {H : Hp} {s s' : Shared}
/-- from a body: what a callee wants -/
theorem Inv.env0 (I : Inv X pins σ H s) : Env0 X.prog X.w X.K X.mg X.base X.A X.stack s H :=
  ⟨I.ok.frames, I.ok.mod, I.bs, Nat.le_trans I.ok.bsz I.sz, I.stack, I.stkFree, I.hok, I.bare⟩
/-- behind a call -/
theorem Inv.after {Q : VK} {u : Value} (I : Inv X pins σ H s) (h : CE X.stack X.prog X.w H s Q u s') : EP X pins σ Q u s' := by
  obtain ⟨v, H', os, bare, un, hok, r, q⟩ := h
  obtain ⟨hh, g, d, t, os'⟩ := s'
  obtain rfl : os' = s.os := os
  exact ⟨v, H', I.call (h' := hh) (g' := g) (d' := d) (t' := t) (ch := []) un hok bare (fun b z => absurd z (by simp)), r, q⟩
end

/-! ### calls -/
/-- f(..): the written arguments, then the defaults dvs; E: what is wanted of an exception -/
def tCall (sp : Sp) (dvs : List V) (E : XK) (t : TA) : TE := fun σ H Q => t σ H fun vs H1 => sp (vs ++ dvs) H1 Q E
inductive XMeth (C : Addr) (m : Str) (x : V) (H : Hp) (R : Prop) : Prop
  | mk (a dx : Addr) (fs : List (Str × V)) (e : x = .ref a) (h : H a = some (.ins C dx fs)) (l : fs.lookup m = none) (q : R)
/-- o.m(..) of an instance of the class at C -/
def tMeth (C : Addr) (m : Str) (sp : Sp) (dvs : List V) (E : XK) (ta : TE) (t : TA) : TE := fun σ H Q => ta σ H fun x H1 => XMeth C m x H1 (t σ H1 fun vs H2 => sp (x :: (vs ++ dvs)) H2 Q E)
/-- C(..): a new instance and its dict, then __init__ -/
def tMake (C : Addr) (sp : Sp) (dvs : List V) (E : XK) (t : TA) : TE := fun σ H Q => t σ H fun vs H1 => ∀ x dx, H1 x = none → H1 dx = none → dx ≠ x →
  sp (.ref x :: (vs ++ dvs)) (upd (upd H1 dx (.own x)) x (.ins C dx [])) (fun v H2 => v = .non ∧ Q (.ref x) H2) E

/-- how the parameters are bound: us the positional arguments, kw the keywords' values by name, ds the defaults that fill up -/
def Binds (K : PySem.W.Frag) (fd : FuncData) (ps : List Str) (ds : List Value) : Prop :=
  ∀ (s : Shared) (us : List Value), K.In s.heap → (us ++ ds).length = ps.length → BindsTo s fd ⟨us, []⟩ (ps.zip (us ++ ds))
/-- every parameter is given -/
theorem Binds.all {K : PySem.W.Frag} {fd : FuncData} {ps : List Str} (h : ∀ us : List Value, us.length = ps.length → bindArgs fd ⟨us, []⟩ = pure (ps.zip us)) : Binds K fd ps [] := fun s us _ hl => by
  rw [List.append_nil] at hl ⊢
  exact .of_eq (h us hl)

/-- an exception of a callee reaches what this body wants of exceptions -/
def Passes (CX : CXT) (X : Cx) (E : XK) : Prop := ∀ (pins : List (Addr × Obj)) (σ : St) (H : Hp) (s : Shared) (e : Value) (s' : Shared), Inv X pins σ H s → CX X.stack H s E e s' → X.xe e s'

section
variable {X : Cx} {CX : CXT} {k : Nat} {f C : Addr} {fd : FuncData} {ps : List Str} {sp : Sp} {dvs : List V} {ds : List Value} {E : XK} {x m : Str} {p pos apos : Pos} {e o : Expr} {es : List Expr} {ta : TE} {t : TA}

/-- the callee runs -/
theorem run_fn {pins : List (Addr × Obj)} {σ : St} {H : Hp} {s : Shared} {Q : VK} {us : List Value} {vs : List V} (F : FnOk X.prog X.w X.K X.mg X.base CX k f fd ps sp) (hr : Room k X.A) (hb : Binds X.K fd ps ds) (hd : Vals dvs ds) (hx : Passes CX X E)
    (I : Inv X pins σ H s) (r : Vals vs us) (h : sp (vs ++ dvs) H Q E) : wpAny (model X.prog X.w) X.A (call (.ref f) us) (EP X pins σ Q) X.xe s := by
  have r2 : Vals (vs ++ dvs) (us ++ ds) := r.append hd
  have hl : (us ++ ds).length = ps.length := by rw [← r2.length]; exact F.len _ _ _ _ h
  refine wpAny_call (codeAny_mono (F.run X.A X.stack s H ⟨us, []⟩ (us ++ ds) (vs ++ dvs) Q E hr I.env0 (hb s us I.kIn hl) r2 h) fun r s' hq => ?_)
  cases r with
  | error e => exact hx pins σ H s e s' I hq
  | ok fl =>
    cases fl with
    | ret u => exact I.after hq
    | next => exact False.elim hq
    | brk => exact False.elim hq
    | cont => exact False.elim hq

theorem pe_call (F : FnOk X.prog X.w X.K X.mg X.base CX k f fd ps sp) (hr : Room k X.A) (hg : Gl X x) (hm : X.mg x = some (.ref f)) (hk : PySem.W.keepIn X.K (.ref f) = true) (hb : Binds X.K fd ps ds) (hd : Vals dvs ds) (hx : Passes CX X E)
    (ha : PA X (e :: es) t) (hdb : (x == ("__debug__" : Str)) = false := by decide) (he : starEach (e :: es) X.env = (false, eval e X.env) :: starEach es X.env := by rfl) (hpl : (backTo pos (starEach es X.env)).any (·.1) = false := by rfl) :
    PE X (.Call (.Name x p) (e :: es) [] pos) (tCall sp dvs E t) := by
  intro pins s σ H Q I h
  refine wpAny_Call_Name_kw (ld_glob I hg hm ?_ hdb)
  refine PySem.W.callWith_K (h₀ := X.base) I.ok.mod.kin hk (thn (ha pos pins s σ H _ I h) fun us s1 ⟨vs, H1, I1, r, q⟩ => ⟨I1.kIn, ?_⟩) he hpl
  exact run_fn F hr hb hd hx I1 r q
/-- o.m() -/
theorem pe_meth0 {pl : Sem Bool} (he : PE X o ta) (c : Cls X.K C) (hm : Meth X.K C m f) (F : FnOk X.prog X.w X.K X.mg X.base CX k f fd ps sp) (hr : Room k X.A) (hb : Binds X.K fd ps ds) (hd : Vals dvs ds) (hx : Passes CX X E)
    (ht : eval (.Call (.Attribute o m apos) [] [] pos) X.env = (do
      let ov ← eval o X.env
      standAt apos.atName
      let (f, first) ← holding [ov] (getMethod ov m pl)
      callWith pos f first (backTo pos (starEach [] X.env)) (backToKw pos (keywordEach [] X.env))) := by rfl) :
    PE X (.Call (.Attribute o m apos) [] [] pos) (tMeth C m sp dvs E ta tNil) := by
  intro pins s σ H Q I h
  refine PySem.W.methodCall_KW (pl := pl) (thn (he pins s σ H _ I h) fun u s1 ⟨x, H1, I1, rx, a, dx, fs, ex, ea, l, q⟩ => ?_) ht
  subst ex
  obtain rfl : u = Value.ref a := rx
  refine getmeth_ok I1 ea c hm l ?_
  exact PySem.W.callWith_K0 (first := [.ref a]) I1.kIn hm.kp (run_fn (us := [.ref a]) (vs := [.ref a]) F hr hb hd hx I1 (.cons rfl .nil) q)

/-- what a class must have to be made -/
structure Mk (K : PySem.W.Frag) (C f : Addr) : Prop where
  makes : PySem.W.makesIn K C = true
  init : PySem.W.findIn K (.ref C) "__init__" = some (some (.ref f))
  fn : PySem.W.isFn K (.ref f) = true
  kp : PySem.W.keepIn K (.ref C) = true

theorem run_make {pins : List (Addr × Obj)} {σ : St} {H : Hp} {s : Shared} {Q : VK} {us : List Value} {vs : List V} (M : Mk X.K C f) (F : FnOk X.prog X.w X.K X.mg X.base CX k f fd ps sp) (hr : Room (k + 1) X.A) (hb : Binds X.K fd ps ds) (hd : Vals dvs ds)
    (hx : Passes CX X E) (I : Inv X pins σ H s) (r : Vals vs us)
    (h : ∀ x dx, H x = none → H dx = none → dx ≠ x → sp (.ref x :: (vs ++ dvs)) (upd (upd H dx (.own x)) x (.ins C dx [])) (fun v H2 => v = .non ∧ Q (.ref x) H2) E) :
    wpAny (model X.prog X.w) X.A (call (.ref C) us) (EP X pins σ Q) X.xe s := by
  have hq := h (s.heap.objs.size + 1) s.heap.objs.size (I.hok.fresh (Nat.le_succ _)) (I.hok.fresh (Nat.le_refl _)) (Nat.ne_of_lt (Nat.lt_succ_self _))
  have I2 := Inv.made (C := C) I
  have r2 : Vals (V.ref (s.heap.objs.size + 1) :: (vs ++ dvs)) (Value.ref (s.heap.objs.size + 1) :: (us ++ ds)) := .cons rfl (r.append hd)
  have hl : (Value.ref (s.heap.objs.size + 1) :: us ++ ds).length = ps.length := by
    have e := r2.length
    rw [F.len _ _ _ _ hq] at e
    exact e.symm
  refine wpAny_call (make_map (f := f) I.kIn M.makes M.init (beq_iff_eq.mp M.fn) (codeAny_mono (F.run _ X.stack _ _ ⟨Value.ref (s.heap.objs.size + 1) :: us, []⟩ (Value.ref (s.heap.objs.size + 1) :: (us ++ ds)) _ _ E (hr.make C us [])
    (I2.env0.make C us []) (hb _ (Value.ref (s.heap.objs.size + 1) :: us) I2.kIn hl) r2 hq) fun r s' hq' => ?_))
  cases r with
  | error e => exact hx pins σ _ _ e s' I2 hq'
  | ok fl =>
    cases fl with
    | ret u =>
      obtain ⟨v, H', I3, rv, ev, q3⟩ := I2.after hq'
      subst ev
      exact ⟨rv, ⟨V.ref (s.heap.objs.size + 1), H', I3, rfl, q3⟩⟩
    | next => exact False.elim hq'
    | brk => exact False.elim hq'
    | cont => exact False.elim hq'
theorem pe_make (M : Mk X.K C f) (F : FnOk X.prog X.w X.K X.mg X.base CX k f fd ps sp) (hr : Room (k + 1) X.A) (hg : Gl X x) (hm : X.mg x = some (.ref C)) (hb : Binds X.K fd ps ds) (hd : Vals dvs ds) (hx : Passes CX X E)
    (ha : PA X (e :: es) t) (hdb : (x == ("__debug__" : Str)) = false := by decide) (he : starEach (e :: es) X.env = (false, eval e X.env) :: starEach es X.env := by rfl) (hpl : (backTo pos (starEach es X.env)).any (·.1) = false := by rfl) :
    PE X (.Call (.Name x p) (e :: es) [] pos) (tMake C sp dvs E t) := by
  intro pins s σ H Q I h
  refine wpAny_Call_Name_kw (ld_glob I hg hm ?_ hdb)
  refine PySem.W.callWith_K (h₀ := X.base) I.ok.mod.kin M.kp (thn (ha pos pins s σ H _ I h) fun us s1 ⟨vs, H1, I1, r, q⟩ => ⟨I1.kIn, ?_⟩) he hpl
  exact run_make M F hr hb hd hx I1 r q
end

/-! ### keywords -/
section
variable {X : Cx} {CX : CXT} {k : Nat} {f C : Addr} {fd : FuncData} {ps ks : List Str} {sp : Sp} {E : XK} {x m : Str} {p pos apos kpos : Pos} {e o : Expr} {es : List Expr} {kws : List Keyword} {te ta : TE} {t tk : TA} {nm : Option Str}
variable {g : List Value → List Value → List Value} {gV : List V → List V → List V}
end

/-! ### a def's body keeps its promise -/
/-- names: the parameters first -/
structure FnScope (N P : List Str) (sc : Scope) : Prop where
  kind : sc.kind = .function
  co : sc.isCoroutine = false
  gen : sc.isGenerator = false
  nd : N.Nodup
  pre : N.take P.length = P
  par : ∀ x ∈ P, sc.names.lookup x = some .local ∨ sc.names.lookup x = some .cell
  nofree : ∀ y ∈ sc.names, y.2 ≠ .free

theorem bindL_out {kindOf : Str → Option NameKind} {x : Str} : ∀ {binds : List (Str × Value)} {m : Str → Option Value}, (∀ v, (x, v) ∉ binds) → bindL kindOf binds m x = m x
  | [], _, _ => rfl
  | (n, v) :: r, m, h => by
    unfold bindL
    rw [bindL_out fun w hw => h w (List.mem_cons_of_mem _ hw)]
    split
    · have : x ≠ n := by rintro rfl; exact h v List.mem_cons_self
      simp [this]
    · rfl
theorem bindC_out {kindOf : Str → Option NameKind} {x : Str} : ∀ {binds : List (Str × Value)} {m : Str → Option Value}, (∀ v, (x, v) ∉ binds) → bindC kindOf binds m x = m x
  | [], _, _ => rfl
  | (n, v) :: r, m, h => by
    unfold bindC
    rw [bindC_out fun w hw => h w (List.mem_cons_of_mem _ hw)]
    split
    · rfl
    · have : x ≠ n := by rintro rfl; exact h v List.mem_cons_self
      simp [this]
theorem bindL_get {kindOf : Str → Option NameKind} {x : Str} {v : Value} : ∀ {P : List Str} {vs : List Value} {i : Nat} {m : Str → Option Value}, P.Nodup → P[i]? = some x → vs[i]? = some v → kindOf x = some .local →
    bindL kindOf (P.zip vs) m x = some v
  | [], _, _, _, _, h, _, _ => by simp at h
  | _ :: _, [], _, _, _, _, h, _ => by simp at h
  | p :: P, w :: vs, 0, m, nd, h1, h2, hk => by
    simp at h1 h2; subst h1; subst h2
    show bindL kindOf ((p, w) :: P.zip vs) m p = _
    unfold bindL
    rw [bindL_out fun v hv => (List.nodup_cons.mp nd).1 (List.of_mem_zip hv).1, if_pos hk]
    simp
  | p :: P, w :: vs, i + 1, m, nd, h1, h2, hk => by
    show bindL kindOf ((p, w) :: P.zip vs) m x = _
    unfold bindL
    exact bindL_get (i := i) (List.nodup_cons.mp nd).2 (by simpa using h1) (by simpa using h2) hk
theorem bindC_get {kindOf : Str → Option NameKind} {x : Str} {v : Value} : ∀ {P : List Str} {vs : List Value} {i : Nat} {m : Str → Option Value}, P.Nodup → P[i]? = some x → vs[i]? = some v → kindOf x ≠ some .local →
    bindC kindOf (P.zip vs) m x = some v
  | [], _, _, _, _, h, _, _ => by simp at h
  | _ :: _, [], _, _, _, _, h, _ => by simp at h
  | p :: P, w :: vs, 0, m, nd, h1, h2, hk => by
    simp at h1 h2; subst h1; subst h2
    show bindC kindOf ((p, w) :: P.zip vs) m p = _
    unfold bindC
    rw [bindC_out fun v hv => (List.nodup_cons.mp nd).1 (List.of_mem_zip hv).1, if_neg hk]
    simp
  | p :: P, w :: vs, i + 1, m, nd, h1, h2, hk => by
    show bindC kindOf ((p, w) :: P.zip vs) m x = _
    unfold bindC
    exact bindC_get (i := i) (List.nodup_cons.mp nd).2 (by simpa using h1) (by simpa using h2) hk

/-- the names' values at the entry -/
def start (N : List Str) (vs : List V) : St := vs.map some ++ List.replicate (N.length - vs.length) none

/-- the context of a def's body, at its entry; an exception leaves the frame, then lies as CX says -/
def cxOf (CX : CXT) (P : Program) (w : World) (K : PySem.W.Frag) (mg : Str → Option Value) (base : Heap) (N : List Str) (qual : Str) (scope : Scope) (f : Addr) (cd : Value) (A : Around) (outer : List Env) (s : Shared) (H : Hp) (E : XK) : Cx where
  prog := P
  w := w
  K := K
  mg := mg
  base := base
  A := A.deeper (envOfC qual scope s.heap.objs.size f cd)
  N := N
  s₀ := s
  H₀ := H
  env := envOfC qual scope s.heap.objs.size f cd
  outer := outer
  stack := envOfC qual scope s.heap.objs.size f cd :: outer
  ex := []
  calm := true
  fn := fun _ => true
  pn := []
  xe := fun e s' => wpAny (model P w) (A.deeper (envOfC qual scope s.heap.objs.size f cd)) (leaving (envOfC qual scope s.heap.objs.size f cd) e) (fun _ s'' => CX outer H s E e s'') (fun e' s'' => CX outer H s E e' s'') s'

theorem cell_has {sc : Scope} {n : Nat} {x : Str} (h : sc.names.lookup x = some .cell) : ∃ c, (cellsFrom n sc.names []).lookup x = some c := by
  have q := PySem.W.cellsFrom_some sc.names n [] (.inl h)
  exact Option.isSome_iff_exists.mp q

theorem inv_start {CX : CXT} {P : Program} {w : World} {K : PySem.W.Frag} {mg : Str → Option Value} {base : Heap} {N ps : List Str} {qual : Str} {scope : Scope} {f : Addr} {cd : Value} {A : Around} {outer : List Env} {s s1 : Shared} {H : Hp} {E : XK} {us : List Value} {vs : List V}
    {c : Bool} (S : FnScope N ps scope) (hd : c = true → A.handled = none) (hdl : HdX A s.heap H (frs outer) [] []) (e0 : Env0 P w K mg base A outer s H) (hl : vs.length = ps.length) (r : Vals vs us)
    (x : InCallC s s.heap.objs.size (bindL (envOfC qual scope s.heap.objs.size f cd).kindOf (ps.zip us) fun _ => none) (cellsFrom (s.heap.objs.size + 1) scope.names []) (bindC (envOfC qual scope s.heap.objs.size f cd).kindOf (ps.zip us) fun _ => none) s1) :
    Inv { cxOf CX P w K mg base N qual scope f cd A outer s H E with calm := c } [] (start N vs) H s1 := by
  have hpl : ps.length ≤ N.length := by have := congrArg List.length S.pre; rw [List.length_take] at this; omega
  obtain ⟨h1, tk, rfl, hk⟩ := x.done
  have noA : ∀ b : Addr, b ∉ (cxOf CX P w K mg base N qual scope f cd A outer s H E).ex := fun b z => absurd (show b ∈ ([] : List Addr) from z) (by simp)
  refine ⟨⟨e0.mod, S.kind, rfl, rfl, Nat.le_refl _, fun y z c h1 h2 => ?_, fun y hy => ?_, fun y c _ h => ?_, hd, Around.frames_deeper e0.frames, .inr ⟨rfl, rfl⟩, fun b z => absurd z (noA b), e0.bs, e0.bsz, fun b _ _ => noA b, fun b z => absurd z (noA b), e0.funs, e0.frf, hdl⟩,
    rfl, e0.bare, Un.kept hk, ⟨_, x.toInCall.ns, fun i y v h1 h2 h3 => ?_⟩, fun y c h => ⟨_, x.cell y c h⟩, e0.hok.fresh (Nat.le_refl _), fun y c h => ?_, fun p hp => absurd (show p ∈ ([] : List (Addr × Obj)) from hp) (by simp), e0.hok.kept hk, ?_⟩
  · exact name_of_addr x.apart (PySem.mem_of_lookup h1) (PySem.mem_of_lookup h2)
  · have hy : scope.names.lookup y = some .cell ∨ scope.names.lookup y = some .free := hy
    rcases hy with hy | hy
    · exact cell_has hy
    · exact absurd rfl (S.nofree _ (PySem.mem_of_lookup hy))
  · exact Nat.le_of_lt (x.above y c (PySem.mem_of_lookup h))
  · have hi : i < vs.length := by
      unfold start at h2
      by_cases hi : i < vs.length
      · exact hi
      · rw [List.getElem?_append_right (by simpa using hi)] at h2
        rw [List.getElem?_replicate] at h2
        split at h2 <;> cases h2
    have ha : vs[i]? = some v := by
      unfold start at h2
      rw [List.getElem?_append_left (by simpa using hi), List.getElem?_map] at h2
      cases e : vs[i]? with
      | none => rw [e] at h2; cases h2
      | some a => rw [e] at h2; cases h2; rfl
    obtain ⟨u, hu, rv⟩ := r.get ha
    have hp : ps[i]? = some y := by
      rw [← S.pre, List.getElem?_take_of_lt (by omega)]; exact h1
    have ndP : ps.Nodup := by rw [← S.pre]; exact S.nd.sublist (List.take_sublist _ _)
    refine ⟨u, rv, ?_⟩
    rcases S.par y (List.mem_of_getElem? hp) with k | k
    · exact .inl ⟨k, bindL_get ndP hp hu k⟩
    · obtain ⟨c, e⟩ := cell_has (n := s.heap.objs.size + 1) k
      refine .inr ⟨.inl k, c, e, ?_⟩
      have q := x.cell y c e
      rw [bindC_get ndP hp hu (by show scope.names.lookup y ≠ _; rw [k]; decide)] at q
      exact q
  · exact e0.hok.fresh (Nat.le_of_lt (x.above y c (PySem.mem_of_lookup h)))
  · unfold start
    show _ = N.length
    rw [List.length_append, List.length_map, List.length_replicate]
    omega

/-- THE RULE: a def (or a method) of the text, by its body. The body's reading t is chosen for each entry; it is run at the parameters' values -/
theorem fn_of {CX : CXT} {P : Program} {w : World} {K : PySem.W.Frag} {mg : Str → Option Value} {base : Heap} {k : Nat} {f : Addr} {name qual : Str} {params : Arguments} {body : List Stmt} {scope : Scope} {dV kV doc pm cdv ct oc : Value} {an od : Option Addr}
    {osl : Array (Option Value)} {N ps : List Str} {sp : Sp} (lk : K.lookup f = some ⟨oc, od, .func (PySem.W.fnOf name qual params body scope dV kV doc pm an cdv ct), osl⟩) (hcd : PySem.W.codeIn K cdv qual = true) (S : FnScope N ps scope)
    (len : ∀ vs H Q E, sp vs H Q E → vs.length = ps.length)
    (hbody : ∀ (A : Around) (outer : List Env) (s : Shared) (H : Hp) (vs : List V) (Q : VK) (E : XK), Room k (A.deeper (envOfC qual scope s.heap.objs.size f cdv)) → sp vs H Q E →
      ∃ t, PSs (cxOf CX P w K mg base N qual scope f cdv A outer s H E) body t ∧ t { nx := fun _ H' => Q .non H', rt := Q } (start N vs) H) :
    FnOk P w K mg base CX (k + 1) f (PySem.W.fnOf name qual params body scope dV kV doc pm an cdv ct) ps sp := by
  refine ⟨len, fun A outer s H args us vs Q E hr e0 hb r hsp => ?_⟩
  have hl := len _ _ _ _ hsp
  have KX : K.In s.heap := e0.mod.kin.keeps fun b o e => (e0.bs b o e).1
  have lim : s.heap.NoLimit := e0.mod.nolimit.keeps fun b o e => (e0.bs b o e).1
  have hkind : ∀ y ∈ ps.zip us, scope.names.lookup y.1 = some .local ∨ (scope.names.lookup y.1 = some .cell ∧ ((cellsFrom (s.heap.objs.size + 1) scope.names []).lookup y.1).isSome = true) := fun ⟨n, v⟩ hy => by
    rcases S.par n (List.of_mem_zip hy).1 with q | q
    · exact .inl q
    · exact .inr ⟨q, PySem.W.cellsFrom_some _ _ _ (.inl q)⟩
  refine codeAny_call_function hr.depth (KX _ _ lk) rfl S.co S.gen rfl (PySem.W.codeRec_of KX hcd) (hb _ _ _ _ ?_)
  refine wpAny_newFunctionEnv_cells S.kind hkind fun env he s1 x => ?_
  subst he
  refine ⟨lim.keeps x.toInCall.keep, codeAny_func ?_⟩
  obtain ⟨t, ht, hq⟩ := hbody A outer s H vs Q E (hr.deeper _) hsp
  have I : Inv (cxOf CX P w K mg base N qual scope f cdv A outer s H E) [] (start N vs) H s1 := inv_start (c := true) S (fun _ => hr.hd) (.inl hr.hd) e0 hl r x
  refine wpAny_mono (ht [] s1 (start N vs) H _ I hq) (fun fl s' hs => ?_) fun e s' hs => hs
  have fin : ∀ {σ' : St} {H' : Hp} {v : V} {u : Value}, Inv (cxOf CX P w K mg base N qual scope f cdv A outer s H E) [] σ' H' s' → RelV v u → Q v H' → CE outer P w H s Q u s' :=
    fun {σ' H' v u} J rv q => ⟨v, H', J.os, J.bare, J.base, J.hok, rv, q⟩
  cases fl with
  | ret u =>
    obtain ⟨v, σ', H', J, rv, q⟩ := hs
    exact fin J rv q
  | next =>
    obtain ⟨σ', H', J, q⟩ := hs
    exact fin (v := V.non) (u := Value.none) J rfl q
  | brk =>
    obtain ⟨_, _, _, q⟩ := hs
    exact False.elim q
  | cont =>
    obtain ⟨_, _, _, q⟩ := hs
    exact False.elim q
end L2

namespace L2
open PySem PySem.Spec PyProof.Rows
section
variable {X : Cx} {x : Str} {p pos : Pos} {e : Expr} {es : List Expr} {t : TA} {id T : String} {r : List V → Hp → VK → Prop}

def tCB (r : List V → Hp → VK → Prop) (t : TA) : TE := fun σ H Q => t σ H fun vs H1 => r vs H1 Q
/-- f(e, ..), f a built-in function -/
theorem pe_callB (hc : CallR X (.builtin id) r) (hg : Gl X x) (hm : X.mg x = none) (hv : bootBuiltins x = some (.builtin id)) (ha : PA X (e :: es) t) (hn : x ≠ "__name__" := by decide) (hdb : (x == ("__debug__" : Str)) = false := by decide)
    (he : starEach (e :: es) X.env = (false, eval e X.env) :: starEach es X.env := by rfl) (hpl : (backTo pos (starEach es X.env)).any (·.1) = false := by rfl) : PE X (.Call (.Name x p) (e :: es) [] pos) (tCB r t) := by
  intro pins s σ H Q I h
  refine wpAny_Call_Name_kw (ld_blt I hg hm hv ?_ hn hdb)
  exact PyProof.Rows.callWith_builtin1 (thn (ha pos pins s σ H _ I h) fun us s1 ⟨vs, H1, I1, r1, q1⟩ => hc pins s1 σ H1 vs us Q I1 r1 q1) he hpl
/-- T(e, ..), T a built-in type -/
theorem pe_callTy (hc : CallR X (.type T) r) (hg : Gl X x) (hm : X.mg x = none) (hv : bootBuiltins x = some (.type T)) (ha : PA X (e :: es) t) (hn : x ≠ "__name__" := by decide) (hdb : (x == ("__debug__" : Str)) = false := by decide)
    (he : starEach (e :: es) X.env = (false, eval e X.env) :: starEach es X.env := by rfl) (hpl : (backTo pos (starEach es X.env)).any (·.1) = false := by rfl) : PE X (.Call (.Name x p) (e :: es) [] pos) (tCB r t) := by
  intro pins s σ H Q I h
  refine wpAny_Call_Name_kw (ld_blt I hg hm hv ?_ hn hdb)
  exact PyProof.Rows.callWith_type1 (thn (ha pos pins s σ H _ I h) fun us s1 ⟨vs, H1, I1, r1, q1⟩ => hc pins s1 σ H1 vs us Q I1 r1 q1) he hpl
end
end L2

namespace HT
open PySem PyProof.Rows

section
open PySem.SeqAt
open PySem.AutoSeq1 (wpAny_loadPart')
open PySem.MeetsSeq PySem.MeetsSeq2 PySem.MeetsSeq3

end

section
variable {prog : Program} {w : World} {A : Around} {E : Value → Shared → Prop} {s : Shared}

/-! ### t[a:b], not the whole -/
end
end HT

namespace L2
open PySem PySem.Spec PyProof.Rows

/-! ### the parts of a slice -/
section
variable {X : Cx} {e : Expr} {te : TE} {lo hi : Option Expr} {tl th : TO} {pos p2 : Pos}

/-! ### t < u, t + u -/
end
end L2

namespace L2
open PySem PySem.Spec PyProof.Rows

/-! ### places -/
/-- the place that an index of any sign means -/
def ixN (n : Nat) (i : Int) : Option Nat := if 0 ≤ i then (if i < n then some i.toNat else none) else if -(n : Int) ≤ i then some (i + n).toNat else none
def atI {α : Type} (xs : List α) (i : Int) : Option α := (ixN xs.length i).bind fun j => xs[j]?
theorem ixN_seq {n : Nat} {i : Int} {j : Nat} (h : ixN n i = some j) : seqIndex? i n = some j ∧ j < n ∧ -(n : Int) ≤ i ∧ i < n := by
  unfold ixN at h
  by_cases h0 : 0 ≤ i
  · rw [if_pos h0] at h
    by_cases h1 : i < n
    · rw [if_pos h1] at h
      have e : i.toNat = j := Option.some.inj h
      exact ⟨by rw [seqIndex_of h0 h1, e], by omega, by omega, h1⟩
    · rw [if_neg h1] at h; cases h
  · rw [if_neg h0] at h
    by_cases h1 : -(n : Int) ≤ i
    · rw [if_pos h1] at h
      have e : (i + n).toNat = j := Option.some.inj h
      exact ⟨by rw [seqIndex_neg (by omega) h1, e], by omega, h1, by omega⟩
    · rw [if_neg h1] at h; cases h
theorem atI_get {α : Type} {xs : List α} {i : Int} {v : α} (h : atI xs i = some v) : ∃ j, seqIndex? i xs.length = some j ∧ xs[j]? = some v ∧ j < xs.length ∧ -(xs.length : Int) ≤ i ∧ i < xs.length := by
  unfold atI at h
  cases e : ixN xs.length i with
  | none => rw [e] at h; cases h
  | some j =>
    rw [e] at h
    obtain ⟨h1, h2, h3, h4⟩ := ixN_seq e
    exact ⟨j, h1, h, h2, h3, h4⟩
theorem atI_nat {α : Type} {xs : List α} {j : Nat} {v : α} (h : xs[j]? = some v) : atI xs (j : Int) = some v := by
  have hj : j < xs.length := (List.getElem?_eq_some_iff.mp h).1
  have e : ixN xs.length (j : Int) = some j := by
    unfold ixN
    rw [if_pos (by omega), if_pos (by omega)]; simp
  unfold atI; rw [e]; exact h
/-! ### what may be subscripted -/
/-- what stands as an index of a plain subscript -/
def PlainIx (b : Expr) : Prop := ∀ o i, subscripted b false o i = operate [o, i] (getItem o i)
/-- a subscript by values -/
def IxR (X : Cx) (r : R2) : Prop :=
  ∀ (value slice : Expr) (pins : List (Addr × Obj)) (s : Shared) (σ : St) (H : Hp) (x y : V) (v u : Value) (Q : VK), Inv X pins σ H s → RelV x v → RelV y u → r x y H Q →
    subscripted slice false v u = operate [v, u] (getItem v u) → wpAny (model X.prog X.w) X.A (subscriptTail value slice v u) (EP X pins σ Q) X.xe s
/-- a call of a builtin's method by values: the receiver, the arguments -/
def MtR (X : Cx) (id : String) (r : V → List V → Hp → VK → Prop) : Prop :=
  ∀ (pins : List (Addr × Obj)) (s : Shared) (σ : St) (H : Hp) (x : V) (xs : List V) (v : Value) (us : List Value) (Q : VK), Inv X pins σ H s → RelV x v → Vals xs us → r x xs H Q →
    wpAny (model X.prog X.w) X.A (call (.builtin id) (v :: us)) (EP X pins σ Q) X.xe s
section
variable {X : Cx} {a b : Expr} {ta tb : TE} {pos : Pos}
/-- a[b] -/
theorem pe_ix {r : R2} (hr : IxR X r) (ha : PE X a ta) (hb : PE X b tb) (hs : PlainIx b) : PE X (.Subscript a b pos) (tOp r ta tb) := by
  intro pins s σ H Q I h
  exact Subscript_ (binT ha hb I h fun v u s2 x y H2 I2 rx ry q => hr a b pins s2 σ H2 x y v u Q I2 rx ry q (hs _ _))

inductive XIxL (K : PySem.W.Frag) (x y : V) (H : Hp) (Q : VK) : Prop
  | mk (p : Addr) (xs : List V) (i : Int) (v : V) (ex : x = .ref p) (ey : y = .int i) (s : SqL K H p xs) (a : atI xs i = some v) (q : Q v H)
def rIxL (K : PySem.W.Frag) : R2 := fun x y H Q => XIxL K x y H Q
inductive XIxT (K : PySem.W.Frag) (x y : V) (H : Hp) (Q : VK) : Prop
  | mk (p : Addr) (xs : List V) (i : Int) (v : V) (ex : x = .ref p) (ey : y = .int i) (s : SqT K H p xs) (a : atI xs i = some v) (q : Q v H)
def rIxT (K : PySem.W.Frag) : R2 := fun x y H Q => XIxT K x y H Q
theorem ix_list : IxR X (rIxL X.K) := by
  intro value slice pins s σ H x y v u Q I rx ry h hs
  obtain ⟨p, xs, i, z, rfl, rfl, hq, he, q⟩ := h
  cases rx
  obtain ⟨t, rfl⟩ := ry
  obtain ⟨its, r, pl, hz⟩ := I.list hq
  obtain ⟨j, h1, h2, h3, h4, h5⟩ := atI_get he
  obtain ⟨w, ew, rw'⟩ := r.get h2
  have hl := r.length
  have hn := line63
  have fin : EP X pins σ Q w s := ⟨z, H, I, rw', q⟩
  by_cases h0 : 0 ≤ i
  · have hj : i.toNat = j := by
      rw [seqIndex_of h0 h5] at h1
      exact Option.some.inj h1
    exact item_listR pl.isList h0 (by omega) (by rw [hj]; simpa using ew) fin hs
  · have hj : (i + (its.toArray.size : Int)).toNat = j := by
      rw [seqIndex_neg (by omega) h4] at h1
      rw [List.size_toArray, ← hl]
      exact Option.some.inj h1
    exact subscriptTail_builtinR (x := w) pl.isList.typeIs slot_list_getitem.lookup
      (wpAny_getItem_list_neg (Q := fun r s' => r = w ∧ EP X pins σ Q r s') pl.isList (by omega) (by rw [List.size_toArray] <;> omega) (by omega) (by rw [hj]; simpa using ew) ⟨rfl, fin⟩) hs
theorem ix_tup : IxR X (rIxT X.K) := by
  intro value slice pins s σ H x y v u Q I rx ry h hs
  obtain ⟨p, xs, i, z, rfl, rfl, hq, he, q⟩ := h
  cases rx
  obtain ⟨t, rfl⟩ := ry
  obtain ⟨its, r, pl, hz⟩ := I.tuple hq
  obtain ⟨j, h1, h2, h3, h4, h5⟩ := atI_get he
  obtain ⟨w, ew, rw'⟩ := r.get h2
  have hl := r.length
  have hn := line63
  have fin : EP X pins σ Q w s := ⟨z, H, I, rw', q⟩
  exact subscriptTail_builtinR (x := w) pl.typeIs slot_tuple_getitem.lookup
    (getItem_tuple (j := j) (Q := fun r s' => r = w ∧ EP X pins σ Q r s') pl (by omega) (by omega) (by rw [List.size_toArray, ← hl]; exact h1) (by simpa using ew) ⟨rfl, fin⟩) hs
/-! ### xs[i] = v, any sign -/
/-! ### slices -/
/-! ### in, not in: flat items -/
/-! ### len, list(x), tuple(x) of any list or tuple that is read -/
inductive XLen (K : PySem.W.Frag) (xs : List V) (H : Hp) (Q : VK) : Prop
  | mk (p : Addr) (ys : List V) (e : xs = [.ref p]) (s : SqL K H p ys ∨ SqT K H p ys) (q : Q (.int ys.length) H)
theorem call_len_seq : CallR X (.builtin "len") (fun xs H Q => XLen X.K xs H Q) := by
  intro pins s σ H xs us Q I r h
  obtain ⟨p, ys, rfl, hq, q⟩ := h
  obtain ⟨u, rfl, rx⟩ := vals1 r
  cases rx
  have hn := line63
  rcases hq with hq | hq
  · obtain ⟨its, r', pl, hz⟩ := I.list hq
    have hlen := r'.length
    exact Calls.call_len_list pl.isList (by simp only [List.size_toArray] <;> omega) ⟨.int ys.length, H, I.tok _, ⟨s.toks + 1, by rw [List.size_toArray, hlen]⟩, q⟩
  · obtain ⟨its, r', pl, hz⟩ := I.tuple hq
    have hlen := r'.length
    exact len_tuple pl (by simp only [List.size_toArray] <;> omega) ⟨.int ys.length, H, I.tok _, ⟨s.toks + 1, by rw [List.size_toArray, hlen]⟩, q⟩
inductive XList (K : PySem.W.Frag) (xs : List V) (H : Hp) (Q : VK) : Prop
  | mk (p : Addr) (ys : List V) (e : xs = [.ref p]) (s : SqL K H p ys ∨ SqT K H p ys) (q : ∀ l, H l = none → Q (.ref l) (upd H l (.lst ys)))
theorem call_list_of : CallR X (.type "list") (fun xs H Q => XList X.K xs H Q) := by
  intro pins s σ H xs us Q I r h
  obtain ⟨p, ys, rfl, hq, q⟩ := h
  obtain ⟨u, rfl, rx⟩ := vals1 r
  cases rx
  have fin : ∀ (its : List Value), Vals ys its → ys.length ≤ sizeLine → ∀ (h' : Heap) (c' : Nat), (∀ b o', s.heap.get? b = some o' → h'.get? b = some o') →
      h'.get? s.heap.objs.size = some { cls := .type "list", dict := none, data := .seq its.toArray c', slots := #[] } → EP X pins σ Q (.ref s.heap.objs.size) { s with heap := h' } := fun its r' hz h' c' kp e =>
    ⟨.ref s.heap.objs.size, _, I.laid (t' := s.toks) kp (Nat.le_refl _) (show ObjOk X.prog X.w _ h' _ (.lst ys) from ⟨hz, its, c', r', e⟩), rfl, q _ (I.hok.fresh (Nat.le_refl _))⟩
  rcases hq with hq | hq
  · obtain ⟨its, r', pl, hz⟩ := I.list hq
    have hlen := r'.length
    obtain ⟨o, ho, hc, n, hd⟩ := pl.isList
    exact call_list_seq p (.inl rfl) ho hc hd (fun h' c' kp e => fin its r' hz h' c' kp e) (by simp only [List.size_toArray] <;> omega)
  · obtain ⟨its, r', pl, hz⟩ := I.tuple hq
    have hlen := r'.length
    obtain ⟨o, ho, hc, n, hd⟩ := pl
    exact call_list_seq p (.inr rfl) ho hc hd (fun h' c' kp e => fin its r' hz h' c' kp e) (by simp only [List.size_toArray] <;> omega)
theorem call_tuple_of : CallR X (.type "tuple") (fun xs H Q => ∃ p ys, xs = [.ref p] ∧ ((SqL X.K H p ys ∧ ∀ l, H l = none → Q (.ref l) (upd H l (.tup ys))) ∨ (SqT X.K H p ys ∧ Q (.ref p) H))) := by
  intro pins s σ H xs us Q I r h
  obtain ⟨p, ys, rfl, h⟩ := h
  obtain ⟨u, rfl, rx⟩ := vals1 r
  cases rx
  rcases h with ⟨hq, q⟩ | ⟨hq, q⟩
  · obtain ⟨its, r', pl, hz⟩ := I.list hq
    have hlen := r'.length
    refine call_tuple_list pl.isList (fun h' kp => ?_) (by simp only [List.size_toArray] <;> omega)
    have I1 : Inv X pins σ H { s with heap := h' } := I.kept (t' := s.toks) kp
    have I2 : Inv X pins σ (upd H h'.objs.size (.tup ys)) { s with heap := h'.push { cls := .type "tuple", data := .seq its.toArray } } :=
      I1.laid (t' := s.toks) (fun b o e => Heap.get?_push_of_some _ e) (Nat.le_refl _) (show ObjOk X.prog X.w _ _ _ (.tup ys) from ⟨hz, its, r', IsTup.new _ _⟩)
    exact ⟨.ref h'.objs.size, _, I2, rfl, q _ (I1.hok.fresh (Nat.le_refl _))⟩
  · obtain ⟨its, r', pl, hz⟩ := I.tuple hq
    exact call_tuple_same pl ⟨.ref p, H, I, rfl, q⟩

/-! ### the call of a builtin's method: o.m(..) -/
/-- the value is of that builtin type -/
def tyV (K : PySem.W.Frag) (T : String) (x : V) (H : Hp) : Prop := match x with
  | .str _ => T = "str"
  | .int _ => T = "int"
  | .ref p => (T = "list" ∧ ∃ xs, SqL K H p xs) ∨ (T = "tuple" ∧ ∃ o, K.lookup p = some o ∧ o.cls = .type "tuple" ∧ o.dict = none) ∨
      (T = "dict" ∧ ((∃ kvs, H p = some (.dK kvs)) ∨ ∃ kvs, H p = some (.dT kvs))) ∨ (T = "set" ∧ ∃ S n, H p = some (.set S n))
  | _ => False
theorem tyV_is {pins : List (Addr × Obj)} {σ : St} {H : Hp} {s : Shared} {T : String} {x : V} {v : Value} (I : Inv X pins σ H s) (r : RelV x v) (ty : tyV X.K T x H) :
    s.TypeIs v T ∧ ∀ a, v = .ref a → ∃ ob, s.heap.get? a = some ob ∧ ob.dict = none := by
  cases x with
  | str z =>
    obtain ⟨t, rfl⟩ := r
    cases (show T = "str" from ty)
    exact ⟨typeIs_str s z t, fun _ e => nomatch e⟩
  | int i =>
    obtain ⟨t, rfl⟩ := r
    cases (show T = "int" from ty)
    exact ⟨typeIs_int s i t, fun _ e => nomatch e⟩
  | ref p =>
    cases r
    rcases ty with ⟨rfl, xs, hq⟩ | ⟨rfl, o, hk, hc, hd⟩ | ⟨rfl, hk⟩ | ⟨rfl, S, n, hk⟩
    · obtain ⟨its, _, pl, _⟩ := I.list hq
      refine ⟨pl.isList.typeIs, fun a e => ?_⟩
      cases e
      obtain ⟨o, n, e, c, hd, _⟩ := pl
      exact ⟨o, e, hd⟩
    · refine ⟨⟨o, I.kIn p o hk, hc⟩, fun a e => ?_⟩
      cases e
      exact ⟨o, I.kIn _ o hk, hd⟩
    · have z : ∃ o, s.heap.get? p = some o ∧ o.ExactDict := by
        rcases hk with ⟨kvs, hk⟩ | ⟨kvs, hk⟩
        · obtain ⟨_, _, _, _, o, _, _, e, ex, _⟩ := I.hok p _ hk
          exact ⟨o, e, ex⟩
        · obtain ⟨_, _, _, _, o, _, _, e, ex, _⟩ := I.hok p _ hk
          exact ⟨o, e, ex⟩
      obtain ⟨o, e, ex⟩ := z
      refine ⟨⟨o, e, ex.1⟩, fun a e2 => ?_⟩
      cases e2
      exact ⟨o, e, ex.2.1⟩
    · obtain ⟨o, _, _, _, e, ex, _⟩ := I.hok p _ hk
      refine ⟨⟨o, e, ex.1⟩, fun a e2 => ?_⟩
      cases e2
      exact ⟨o, e, ex.2.1⟩
  | _ => exact False.elim ty
def tBM (K : PySem.W.Frag) (T : String) (r : V → List V → Hp → VK → Prop) (to : TE) (t : TA) : TE := fun σ H Q => to σ H fun x H1 => tyV K T x H1 ∧ t σ H1 fun xs H2 => r x xs H2 Q
variable {o e : Expr} {es : List Expr} {to : TE} {t : TA} {name : Str} {apos cpos : Pos} {T id : String} {r : V → List V → Hp → VK → Prop}
theorem pe_bm (pa : PlainAttrs T) (slot : Slot T name id) (hty : typeOf (.builtin id) = pure (.type "method_descriptor")) (hm : MtR X id r) (ho : PE X o to) (ha : PA X (e :: es) t)
    (hbase : attributeBase o name X.env (eval o X.env) = eval o X.env := by rfl)
    (hfew : ((backTo cpos (starEach (e :: es) X.env)).all (fun x => !x.1) && (backToKw cpos (keywordEach [] X.env)).all (fun x => x.1.isSome)
      && decide ((e :: es).length + ([] : List Keyword).length + (if ([] : List Keyword).isEmpty then 0 else 1) < 30)) = true := by rfl)
    (hline : (apos.endLine == cpos.line) = true := by rfl) (hs : starEach (e :: es) X.env = (false, eval e X.env) :: starEach es X.env := by rfl) (hplain : (backTo cpos (starEach es X.env)).any (·.1) = false := by rfl) :
    PE X (.Call (.Attribute o name apos) (e :: es) [] cpos) (tBM X.K T r to t) := by
  intro pins s σ H Q I h
  refine wpAny_Call_method_late hbase hfew hline rfl (thn (ho pins s σ H _ I h) fun v s1 ⟨x, H1, I1, r1, ty, q1⟩ => ?_)
  obtain ⟨h1, h2⟩ := tyV_is I1 r1 ty
  refine ⟨T, id, pa, slot, hty, h1, h2, ?_⟩
  have hA := ha cpos pins s1 σ H1 _ I1 q1
  rw [hs] at hA ⊢
  refine Calls.callWith_builtin (by show (false || (backTo cpos (starEach es X.env)).any (·.1)) = false; rw [hplain] <;> rfl) (Calls.evalArgs_plain ?_)
  exact thn hA fun us s2 ⟨vs, H2, I2, r2, q2⟩ => hm pins s2 σ H2 x vs v us Q I2 r1 r2 q2
/- xs.append(e), list.index on a module's tuple .. are MtR facts of 06m -/
end
end L2

namespace L2
open PySem PySem.Spec PyProof.Rows

def MtM (X : Cx) (id : String) (r : V → List V → Hp → VK → Prop) : Prop :=
  ∀ (pins : List (Addr × Obj)) (s : Shared) (σ : St) (H : Hp) (x : V) (xs : List V) (v : Value) (us : List Value) (Q : VK), Inv X pins σ H s → RelV x v → Vals xs us → r x xs H Q →
    wpAny (model X.prog X.w) X.A (call (.builtin id) (v :: us)) (EP X pins σ Q) X.xe s

/-! ### lists of values -/
theorem Vals.one : ∀ {x : V} {us : List Value}, Vals [x] us → ∃ u, us = [u] ∧ RelV x u
  | _, _, .cons r .nil => ⟨_, rfl, r⟩
theorem Vals.reverse {xs : List V} {us : List Value} (h : Vals xs us) : Vals xs.reverse us.reverse := by
  induction h with
  | nil => exact .nil
  | cons r t ih => rw [List.reverse_cons, List.reverse_cons]; exact Vals.append ih (.cons r .nil)
theorem Vals.rep {xs : List V} {us : List Value} (h : Vals xs us) : ∀ k : Nat, Vals (List.replicate k xs).flatten (List.replicate k us).flatten
  | 0 => .nil
  | k + 1 => by
    rw [List.replicate_succ, List.replicate_succ, List.flatten_cons, List.flatten_cons]
    exact Vals.append h (Vals.rep h k)
theorem foldl_rep (its : List Value) : ∀ (k : Nat) (acc : List Value),
    List.foldl (fun x1 x2 => x1 ++ x2) acc.toArray (List.replicate k its.toArray) = (acc ++ (List.replicate k its).flatten).toArray
  | 0, acc => by simp
  | k + 1, acc => by
    have e : acc.toArray ++ its.toArray = (acc ++ its).toArray := by simp
    have e2 : (acc ++ its) ++ (List.replicate k its).flatten = acc ++ (List.replicate (k + 1) its).flatten := by
      rw [List.replicate_succ, List.flatten_cons, List.append_assoc]
    rw [← e2, ← foldl_rep its k (acc ++ its), ← e, List.replicate_succ, List.foldl_cons]

section
variable {X : Cx} {pins : List (Addr × Obj)} {σ : St} {H : Hp} {s : Shared} {l b : Addr} {xs ys zs : List V}

/-! ### the two steps: a tracked list is rewritten, a new list is laid -/
theorem Inv.lset {its its' : List Value} {n : Nat} {f : Array Value → Array Value} {t' : Nat} (I : Inv X pins σ H s) (hH : H l = some (.lst xs))
    (e : s.heap.get? l = some { cls := .type "list", data := .seq its.toArray n }) (hf : f its.toArray = its'.toArray) (hv : Vals ys its') (hz : ys.length ≤ sizeLine) :
    Inv X pins σ (upd H l (.lst ys)) { s with heap := s.heap.update l (Obj.mapSeq f), toks := t' } := by
  have q := PySem.IsL.update e f
  rw [hf] at q
  refine I.write (x := l) (e := l) (by rw [hH]; exact trivial) (.inl rfl) (fun b' u hb hu => (Heap.get?_update_other s.heap (Obj.mapSeq f) (Ne.symm hb)).trans hu) ⟨_, q⟩ ?_
  exact ⟨hz, its', _, hv, q⟩
theorem Inv.lnew {its : List Value} {t' : Nat} (I : Inv X pins σ H s) (hv : Vals ys its) (hz : ys.length ≤ sizeLine) :
    Inv X pins σ (upd H s.heap.objs.size (.lst ys)) { s with heap := s.heap.push { cls := .type "list", data := .seq its.toArray }, toks := t' } :=
  I.laid (fun _ _ q => Heap.get?_push_of_some _ q) (Nat.le_refl _) ⟨hz, its, 0, hv, Heap.get?_push_size _ rfl⟩
theorem Inv.fresh (I : Inv X pins σ H s) : H s.heap.objs.size = none := I.hok.fresh (Nat.le_refl _)
theorem Inv.lstM (I : Inv X pins σ H s) (hH : H l = some (.lst xs)) : xs.length ≤ sizeLine ∧ ∃ (its : List Value) (n : Nat), Vals xs its ∧ xs.length = its.length ∧ s.heap.get? l = some { cls := .type "list", data := .seq its.toArray n } := by
  obtain ⟨z, its, n, r, e⟩ := I.hok l _ hH
  exact ⟨z, its, n, r, r.length, e⟩

theorem notLongL {n : Nat} (h : n ≤ sizeLine) : Builtin.List.listTooLong n = false := by
  unfold Builtin.List.listTooLong
  exact decide_eq_false (by omega)
end

section
variable {X : Cx}

/-! ### methods -/
inductive XApp (x : V) (vs : List V) (H : Hp) (Q : VK) : Prop
  | mk (l : Addr) (xs : List V) (y : V) (ex : x = .ref l) (ev : vs = [y]) (h : H l = some (.lst xs)) (z : xs.length < sizeLine) (q : Q .non (upd H l (.lst (xs ++ [y]))))
def rAppend : V → List V → Hp → VK → Prop := fun x vs H Q => XApp x vs H Q
theorem mt_append : MtM X "list.append" rAppend := by
  intro pins s σ H x vs v us Q I rx rv h
  obtain ⟨l, xs, y, rfl, rfl, hH, hz, q⟩ := h
  cases rx
  obtain ⟨u, rfl, ru⟩ := rv.one
  obtain ⟨z, its, n, r, hl, e⟩ := I.lstM hH
  refine call_meets F.slot_list_append ⟨_, e, rfl⟩ F.entry_list_append (F.args_list_append_2 _ _) (PySem.list_append l its.toArray n u (by rw [List.size_toArray]; omega)) ⟨e, ?_⟩
  refine ⟨.non, _, I.lset (its' := its ++ [u]) hH e (by simp) (r.append (.cons ru .nil)) ?_, rfl, q⟩
  rw [List.length_append, List.length_singleton]
  omega

/-! ### list + list, list += list, list * int -/
inductive XCat (x y : V) (H : Hp) (Q : VK) : Prop
  | mk (l b : Addr) (xs zs : List V) (ex : x = .ref l) (ey : y = .ref b) (h : H l = some (.lst xs)) (h2 : H b = some (.lst zs)) (z : xs.length + zs.length ≤ sizeLine) (q : ∀ p, H p = none → Q (.ref p) (upd H p (.lst (xs ++ zs))))
def rCat : R2 := fun x y H Q => XCat x y H Q
theorem op_cat : OpR X (binaryOp .Add) rCat := by
  intro pins s σ H x y v u Q I rx ry h
  obtain ⟨l, b, xs, zs, rfl, rfl, hH, hB, hz, q⟩ := h
  cases rx
  cases ry
  obtain ⟨z, its, n, r, hl, e⟩ := I.lstM hH
  obtain ⟨z2, its2, n2, r2, hl2, e2⟩ := I.lstM hB
  refine PySem.P.add_list e e2 ?_ (by rw [List.size_toArray, List.size_toArray]; omega)
  have ea : its.toArray ++ its2.toArray = (its ++ its2).toArray := by simp
  rw [ea]
  exact ⟨.ref _, _, I.lnew (t' := s.toks) (r.append r2) (by rw [List.length_append]; omega), rfl, q _ I.fresh⟩
/-- a list times an int (a negative one is nothing) -/
def rRep : R2 := fun x y H Q => ∃ l k xs, x = .ref l ∧ y = .int k ∧ H l = some (.lst xs) ∧ -(2 ^ 63) ≤ k ∧ k < 2 ^ 63 ∧ xs.length * k.toNat ≤ sizeLine ∧
  ∀ p, H p = none → Q (.ref p) (upd H p (.lst (List.replicate k.toNat xs).flatten))
theorem len_rep {α : Type} (xs : List α) (k : Nat) : (List.replicate k xs).flatten.length = k * xs.length := by
  induction k with
  | zero => simp
  | succ k ih => rw [List.replicate_succ, List.flatten_cons, List.length_append, ih, Nat.succ_mul, Nat.add_comm]
theorem op_rep : OpR X (binaryOp .Mult) rRep := by
  intro pins s σ H x y v u Q I rx ry h
  obtain ⟨l, k, xs, rfl, rfl, hH, h1, h2, hz, q⟩ := h
  cases rx
  obtain ⟨t, rfl⟩ := ry
  obtain ⟨z, its, n, r, hl, e⟩ := I.lstM hH
  have hlen : its.toArray.size * k.toNat ≤ sizeLine := by rw [List.size_toArray, ← hl]; exact hz
  have hcap : ¬ its.toArray.size * k.toNat > (2 ^ 63 - 1) / 8 := by
    have : (sizeLine : Nat) ≤ (2 ^ 63 - 1) / 8 := by decide
    omega
  have hfit : ¬ (!Builtin.List.listFitsIndex k) = true := by
    rw [fitsIndex_both h1 h2]
    exact Bool.false_ne_true
  have hlong : ¬ Builtin.List.listTooLong (its.toArray.size * k.toNat) = true := by
    rw [notLongL hlen]
    exact Bool.false_ne_true
  have hnew : List.foldl (fun x1 x2 => x1 ++ x2) #[] (List.replicate (if its.toArray.isEmpty = true then 0 else k.toNat) its.toArray) = (List.replicate k.toNat its).flatten.toArray := by
    have f0 : ∀ m : Nat, List.foldl (fun x1 x2 => x1 ++ x2) #[] (List.replicate m its.toArray) = (List.replicate m its).flatten.toArray := fun m => by
      have := foldl_rep its m []
      rw [List.nil_append] at this
      exact this
    rw [f0]
    cases its with
    | nil => simp
    | cons a r' => rw [if_neg (by simp)]
  refine wpAny_binaryOp_repeat_ref (T := "list") (U := "int") (by decide) ⟨_, e, rfl⟩ (fun s' => typeIs_int s' k t) noFill_list_mul F.fills_int_mul F.slot_int_rmul repeat_list F.slot_int_index.lookup
    (call_meets F.slot_int_rmul (typeIs_int s k t) F.entry_int_rmul (F.args_int_rmul_2 _ _) (int___rmul___int_list k t l its.toArray n)
      ⟨e, rfl, ⟨_, e, rfl⟩, call_meets F.slot_list_mul ⟨_, e, rfl⟩ F.entry_list_mul (F.args_list_mul_2 _ _) (AutoListH.list___mul___list_int_3 l its.toArray n k t hfit hcap hlong) ⟨e, ?_⟩⟩)
  rw [hnew]
  exact ⟨.ref _, _, I.lnew (t' := s.toks) (r.rep k.toNat) (by rw [len_rep, Nat.mul_comm]; exact hz), rfl, q _ I.fresh⟩

/-! ### del xs[i] -/
end

/-! ### xs[a:b] = ys -/
section
variable {prog : Program} {w : World} {A : Around} {E : Value → Shared → Prop} {s : Shared}
end

section
variable {X : Cx}
end
end L2

namespace L2
open PySem PySem.Spec PyProof.Rows

/-! ### lists of pairs as tables -/
section
variable {κ : Type} [DecidableEq κ]
def valV (kvs : List (κ × V)) (k : κ) : Option V := (kvs.find? fun kv => decide (kv.1 = k)).map (·.2)
theorem valV_pos {p : κ × V} {r : List (κ × V)} {k : κ} (e : p.1 = k) : valV (p :: r) k = some p.2 := by simp [valV, List.find?_cons, e]
theorem valV_neg {p : κ × V} {r : List (κ × V)} {k : κ} (e : ¬ p.1 = k) : valV (p :: r) k = valV r k := by simp [valV, List.find?_cons, e]
theorem valV_any (k : κ) : ∀ kvs : List (κ × V), (kvs.any fun kv => decide (kv.1 = k)) = (valV kvs k).isSome
  | [] => rfl
  | p :: r => by
    rw [List.any_cons]
    by_cases e : p.1 = k
    · simp only [valV_pos e, decide_eq_true e, Bool.true_or, Option.isSome_some]
    · rw [valV_neg e, decide_eq_false e, Bool.false_or]; exact valV_any k r
theorem RelO.isSome_eq {o : Option V} {u : Option Value} (r : RelO o u) : o.isSome = u.isSome := by
  cases o with
  | none => cases u with
    | none => rfl
    | some _ => exact (show False from r).elim
  | some _ => cases u with
    | none => exact (show False from r).elim
    | some _ => rfl
end

/-! ### a tracked dict, its keys ints and texts or tuples of these -/
section
variable {P : Program} {w : World} {H : Hp} {h : Heap} {a : Addr}
end

section
variable {X : Cx} {pins : List (Addr × Obj)} {σ : St} {H : Hp} {s : Shared} {a : Addr} {y v : V} {u r : Value} {o : Option V} {A : Around} {E : Value → Shared → Prop}

theorem Inv.big (I : Inv X pins σ H s) : sysModules < s.heap.objs.size := by
  have h : mainGlobals < s.heap.objs.size := (I.mod.glob.keeps I.bk).lt
  exact Nat.lt_trans (by decide) h

/-- a dict's object is replaced -/
theorem d_write {h' : Heap} {t' : Nat} {ob : HO} (I : Inv X pins σ H s) (mu : Mut (H a)) (hs : Heap.SameBut a s.heap h') (he : ∃ q, h'.get? a = some q) (new : ObjOk X.prog X.w (upd H a ob) h' a ob) :
    Inv X pins σ (upd H a ob) { s with heap := h', toks := t' } :=
  I.write (x := a) (e := a) mu (.inl rfl) (fun b q hb z => (hs.2 b hb).trans z) he new
end

section
variable {X : Cx} {pins : List (Addr × Obj)} {σ : St} {H : Hp} {s : Shared} {a : Addr} {kvs : List (Key × V)} {k : Key} {u : Value} {A : Around} {E : Value → Shared → Prop}
end

/-! ### readings and rules -/
/-- the element of a subscription, not a slice -/
def NoSl (i : Expr) : Prop := ∀ ov iv, subscripted i false ov iv = operate [ov, iv] (getItem ov iv)
theorem subD_of {prog : Program} {w : World} {A : Around} {E : Value → Shared → Prop} {s : Shared} {env : Env} {value slice : Expr} {pos : Pos} {T id : String} {Q : Value → Shared → Prop}
    (hl : typeLookup (.type T) "__getitem__" = pure (some (.builtin id))) (hs : NoSl slice)
    (h : wpAny (model prog w) A (eval value env) (fun o s₁ => wpAny (model prog w) A (eval slice env) (fun i s₂ => s₂.TypeIs o T ∧ wpAny (model prog w) A (getItem o i) Q E s₂) E s₁) E s) :
    wpAny (model prog w) A (eval (.Subscript value slice pos) env) Q E s := by
  refine Subscript_ (wpAny_mono h (fun o s₁ h₁ => wpAny_mono h₁ (fun i s₂ h₂ => ?_) fun _ _ x => x) fun _ _ x => x)
  obtain ⟨hT, h₂⟩ := h₂
  unfold subscriptTail
  refine wpAny_bind ?_
  rw [getitemInPython_of_ne hT.not_modules]
  refine wpAny_bind (wpAny_specialOf hT hl ?_)
  have fin : wpAny (model prog w) A (subscripted slice false o i) (fun r s₃ => wpAny (model prog w) A (letTemporaryGo value o r >>= fun _ => pure r) Q E s₃) E s₂ := by
    rw [hs o i]
    exact wpAny_operating (wpAny_mono h₂ (fun r s₃ h₃ => wpAny_bind (wpAny_letTemporaryGo (wpAny_pure h₃))) fun _ _ x => x)
  first
    | exact wpAny_pure (wpAny_bind fin)
    | exact wpAny_bind (wpAny_pure (wpAny_bind fin))
    | exact wpAny_bind fin

section
variable {X : Cx} {o i e value : Expr} {pos pos' tpos : Pos} {td ty tv : TE}
end

/-! ### displays -/
theorem dk_empty {P : Program} {w : World} {H : Hp} (h : Heap) (hb : sysModules < h.objs.size) : ObjOk P w H (h.push { cls := .type "dict", data := .dict #[] }) h.objs.size (.dK []) :=
  ⟨Nat.zero_le _, beq_eq_false_iff_ne.mpr (Ne.symm (Nat.ne_of_lt hb)), [], .nil, Heap.DictOf.new h⟩
/-- {}, to be a dict of the kind that is wanted -/
def tDNewK : TE := fun _ H Q => ∀ p, H p = none → Q (.ref p) (upd H p (.dK []))
section
variable {X : Cx} {pos : Pos}
theorem pe_dnewK : PE X (.Dict [] [] pos) tDNewK := fun pins s σ H Q I h =>
  wpAny_Dict_empty ⟨.ref s.heap.objs.size, _, I.laid (a := s.heap.objs.size) (o := .dK []) (t' := s.toks) (fun _ _ q => Heap.get?_push_of_some _ q) (Nat.le_refl _) (dk_empty s.heap I.big), rfl, h _ (I.hok.fresh (Nat.le_refl _))⟩
end

/-! ### methods -/
section
variable {X : Cx} {pins : List (Addr × Obj)} {σ : St} {H : Hp} {s : Shared} {a : Addr} {y d : V} {u r : Value} {o : Option V} {A : Around} {E : Value → Shared → Prop}
end

section
variable {X : Cx} {o e f : Expr} {apos cpos : Pos} {td ty tx : TE}
end

/-! ### dict(d): a copy -/
section
variable {X : Cx} {pins : List (Addr × Obj)} {σ : St} {H : Hp} {s : Shared} {a : Addr} {kvs : List (Key × V)} {A : Around} {E : Value → Shared → Prop}
end

section
variable {X : Cx} {pins : List (Addr × Obj)} {σ : St} {H : Hp} {s : Shared} {a : Addr} {y : V} {u : Value} {A : Around} {E : Value → Shared → Prop}
end
end L2

namespace Att
open PySem PySem.W PySem.Calls PyProof.Rows

/-! ### the script -/
theorem ints_of_wellAll {P : Params} {h : Heap} : ∀ (ns : List Int) (vs : List Value), WellAll P h vs (ns.map WData.int) → IntsAre vs ns := by
  intro ns
  induction ns with
  | nil =>
    intro vs w
    rw [List.map_nil] at w
    cases w
    exact .nil
  | cons n ns ih =>
    intro vs w
    rw [List.map_cons] at w
    cases w with
    | cons a b =>
      cases a
      exact .cons _ _ (ih _ b)

theorem script_of {l : OpenLaw} {n : Nat} (hn : l.most = some n) {P : Params} {h : Heap} {args : List WData} {vals : List Value}
    (hpre : l.row.toRowW.claim.pre args = true) (hwl : WellAll P h vals args) :
    ∃ a vs ns, vals = [Value.ref a] ∧ args = [WData.list (ns.map WData.int)] ∧ h.get? a = some { cls := .type "list", data := .seq vs.toArray } ∧ IntsAre vs ns ∧ ns.length ≤ n := by
  have hsh : WShape.hasAll [] args [.list .int] = true := (pre_splitW hpre).1
  have hc : l.pre.holds [] { args := args } = true := (pre_splitW hpre).2
  obtain ⟨d, r, rfl, h1, h2⟩ := hasAllW_cons hsh
  obtain rfl := hasAllW_nil h2
  obtain ⟨xs, rfl, h3⟩ := hasW_list h1
  obtain ⟨ns, rfl⟩ := items_int h3
  have hlen : ns.length ≤ n := by
    unfold OpenLaw.pre at hc
    have h4 : (WTm.not (.lt (.lit (.int (n : Int))) (.len (.arg 0)))).holds [] { args := [.list (ns.map .int)] } = true := by
      have h4 := (holds_andW hc).1
      rw [hn] at h4
      exact h4
    have h5 := condW_of h4 (w_not (w_lt w_lit (w_len_list (w_arg rfl))))
    rw [List.length_map] at h5
    refine Nat.le_of_not_lt fun q => ?_
    have q' : (n : Int) < ((ns.length : Nat) : Int) := by omega
    first
      | (rw [decide_eq_true q'] at h5; exact absurd h5 (by decide))
      | (simp at h5; omega)
  cases hwl with
  | cons w1 w2 =>
    cases w2
    cases w1 with
    | list ho hall => exact ⟨_, _, ns, rfl, rfl, ho, ints_of_wellAll ns _ hall, hlen⟩

theorem post_true (l : OpenLaw) (args : List WData) : l.row.toRowW.claim.post args (.bool true) args = true :=
  postW_of (r := l.row.toRowW) (X := (true == true))
    (show WShape.has [] (.bool true) .bool = true by first | rfl | decide | simp [WShape.has, WShape.arms, WShape.armsAll])
    (show (WTm.eq .res (.lit (.bool true))).value [] { args := args, res := some (.bool true), after := args } = some (.bool (true == true)) from w_eq_bool (w_res rfl) w_lit) rfl

/-! ### the attachment: holds_open's last premise (the goal 'hc' behind k_head) from a wpAny of the law's body -/
/-- the same from a codeAny of the CALL (for a layer whose function contracts speak of calls) -/
theorem attach_call {l : OpenLaw} {n : Nat} {q : Program} {loose : List Str} {XP : (Str → Option Value) → Heap → Prop} {YP : World → Heap → Prop} {d : DefRec}
    (hn : l.most = some n) (hdf : d.params.defaults = [])
    (call : ∀ (w : World) (s₀ s₁ : Shared) (mg mb : Str → Option Value) (fa : Addr) (o : Obj) (pm cd doc : Value) (a : Addr) (vs : List Value) (ns : List Int),
      Ground q loose [] XP w s₀ mg mb s₁.heap → YP w s₁.heap →
      s₁.heap.get? fa = some o → o.data = .func (docDef d.name d.params d.body d.scope pm cd doc) → s₁.heap.CodeRec cd d.name → mg d.name = some (.ref fa) →
      s₁.heap.get? a = some { cls := .type "list", data := .seq vs.toArray } → IntsAre vs ns → ns.length ≤ n → s₁.gens = #[] →
      codeAny (model l.prog w) callerA (.call (.ref fa) ⟨[.ref a], []⟩) (fun r s' => r = .ok (.ret (.bool true)) ∧ OldK s₁.heap s'.heap ∧ s'.os = s₁.os ∧ AllBare s'.gens) s₁) :
    WalkO q loose XP YP l.row.toRowW d [] (fun f vs => PySem.call f vs) := by
  intro w s₀ s₁ mg mb G Y fa o pm cd doc dV kV ho hd hcd hD hmg hg args vals as hpre hlay hrd hwl hlo
  obtain rfl : dV = .none := Dflts.none hD hdf
  obtain rfl : kV = .none := Dflts.noKw hD
  obtain ⟨a, vs, ns, rfl, rfl, hobj, hints, hlen⟩ := script_of hn hpre hwl
  refine enter_call (codeAny_mono (call w s₀ s₁ mg mb fa o pm cd doc a vs ns G Y ho (fd_plain hd) hcd hmg hobj hints hlen hg) fun r s' hq => ?_)
  obtain ⟨rfl, h2, h3, h4⟩ := hq
  exact ⟨.inl ⟨.bool true, .bool true, [], rfl, fun _ => rfl, .bool true, post_true l _, fun _ => ⟨List.Pairwise.nil, fun _ hm => (nomatch hm)⟩⟩, h2, h3, h4⟩

/-! ### rules over ANY heap (no ledger) from facts about the written part K: the library's own take a ledger (News) for what they write -/
section
variable {prog : Program} {w : World} {A : Around} {E : Value → Shared → Prop} {s : Shared} {K : Frag}

/-! the whole heap as the ledger: makes every rule that writes through a ledger a rule over any heap -/
end
end Att

namespace L2
open PySem PySem.Spec PyProof.Rows

theorem vals_ints : ∀ {vs : List Value} {ns : List Int}, IntsAre vs ns → Vals (ns.map V.int) vs
  | _, _, .nil => .nil
  | _, _, .cons n t h => .cons ⟨t, rfl⟩ (vals_ints h)

/-- nothing is tracked but the script, known to the object (or it is an object of the module) -/
def Only (H : Hp) : Prop := ∀ b, H b = none ∨ ∃ o xs, H b = some (.frz o (.lst xs))

/-- THE HEAD: the law's promise, at the heap behind the top. F, the promise of the law's def, may use that base is part of the heap (so K.In base, base.Ns mainGlobals mg stand in Mod) -/
theorem law_call {P : Program} {w : World} {K : PySem.W.Frag} {mg mb : Str → Option Value} {CX : CXT} {k : Nat} {fa a : Addr} {fd : FuncData} {x : Str} {sp : Sp} {s₁ : Shared} {vs : List Value} {ns : List Int}
    (KX : K.In s₁.heap) (hns : s₁.heap.Ns mainGlobals mg) (hb : s₁.heap.Ns builtinsNs mb) (hbb : ∀ x : Str, x ≠ "__name__" → mb x = bootBuiltins x) (hlim : s₁.heap.NoLimit) (hg : s₁.gens = #[])
    (ha : s₁.heap.get? a = some { cls := .type "list", data := .seq vs.toArray }) (hi : IntsAre vs ns) (hl : ns.length ≤ sizeLine) (hr : Room k callerA)
    (F : ∀ base : Heap, K.In base → base.Ns mainGlobals mg → FnOk P w K mg base CX k fa fd [x] sp) (hbind : ∀ (s : Shared) (u : Value), BindsTo s fd ⟨[u], []⟩ [(x, u)])
    (hsp : ∀ H : Hp, Only H → SqL K H a (ns.map V.int) → sp [.ref a] H (fun v _ => v = .bl true) fun _ _ _ => False)
    (hCX : ∀ H e s', CX [] H s₁ (fun _ _ _ => False) e s' → False) :
    codeAny (model P w) callerA (.call (.ref fa) ⟨[.ref a], []⟩) (fun r s' => r = .ok (.ret (.bool true)) ∧ OldK s₁.heap s'.heap ∧ s'.os = s₁.os ∧ AllBare s'.gens) s₁ := by
  have rv := vals_ints hi
  have lenV := hi.length
  -- from an abstract heap in which nothing but the script may be tracked
  have core : ∀ H : Hp, Only H → SqL K H a (ns.map V.int) → HOk P w H s₁.heap → (∀ b, H b ≠ none → b = a) → (H a ≠ none → K.lookup a = none) →
      codeAny (model P w) callerA (.call (.ref fa) ⟨[.ref a], []⟩) (fun r s' => r = .ok (.ret (.bool true)) ∧ OldK s₁.heap s'.heap ∧ s'.os = s₁.os ∧ AllBare s'.gens) s₁ := by
    intro H hO hS hok hA hK
    have base_of : ∀ {b : Addr} {o : Obj}, s₁.heap.get? b = some o → H b = none → (hidT s₁.heap H).get? b = some o := fun e n => hidT_get e n
    have noA : ∀ {b : Addr} {o : Obj} {es : Array DictEntry} {ep : Nat}, s₁.heap.get? b = some o → o.data = .dict es ep → H b = none := fun {b o es ep} e d => by
      cases q : H b with
      | none => rfl
      | some u =>
        have e' : b = a := hA b (by rw [q]; simp)
        subst e'
        rw [ha] at e; cases e
        have d' : Data.seq vs.toArray _ = Data.dict es ep := d
        cases d'
    have nsK : ∀ {b : Addr} {m : Str → Option Value}, s₁.heap.Ns b m → (hidT s₁.heap H).Ns b m := fun {b m} ⟨o, es, ep, e, d, r⟩ => ⟨o, es, ep, base_of e (noA e d), d, r⟩
    have hKb : K.In (hidT s₁.heap H) := fun b o e => base_of (KX b o e) (by
      cases q : H b with
      | none => rfl
      | some u =>
        have e' : b = a := hA b (by rw [q]; simp)
        subst e'
        rw [hK (by rw [q]; simp)] at e; cases e)
    have hM : Mod K mg (hidT s₁.heap H) := ⟨hKb, nsK hns, ⟨mb, nsK hb, hbb⟩, let ⟨mc, h1, h2⟩ := hlim; ⟨mc, nsK h1, h2⟩⟩
    have e0 : Env0 P w K mg (hidT s₁.heap H) callerA [] s₁ H := ⟨rfl, hM, fun b o e => of_hidT e, Nat.le_of_eq (hidT_size _ _), trivial, fun b hb => absurd (show b ∈ ([] : List Addr) from hb) (by simp), hok, .of_eq hg⟩
    refine codeAny_mono ((F _ hKb (nsK hns)).run callerA [] s₁ H ⟨[.ref a], []⟩ [.ref a] [.ref a] _ _ hr e0 (hbind s₁ (.ref a)) (.cons rfl .nil) (hsp H hO hS)) fun r s' h => ?_
    cases r with
    | error e => exact (hCX H e s' h).elim
    | ok fl =>
      cases fl with
      | next => exact False.elim h
      | brk => exact False.elim h
      | cont => exact False.elim h
      | ret u =>
        obtain ⟨v, H', os, bare, un, hok', r', q⟩ := h
        have q' : v = .bl true := q
        subst q'
        obtain rfl : u = Value.bool true := r'
        refine ⟨rfl, OldK.of_keep fun b o e => ?_, os, bare⟩
        cases q : H b with
        | none => exact un.keep b o e q (by intro z; exact absurd (show b ∈ ([] : List Addr) from z) (by simp)) (by simp)
        | some u =>
          rcases hO b with z | ⟨ob, xs, z⟩
          · rw [q] at z; cases z
          · have z2 := un.frzs b ob _ z
            obtain ⟨e1, _⟩ := hok b _ z
            obtain ⟨e2, _⟩ := hok' b _ z2
            rw [e] at e1; cases e1
            exact e2
  cases hk : K.lookup a with
  | some o =>
    -- the script is one of the module's own objects
    have e := KX a o hk
    rw [ha] at e
    cases e
    refine core (fun _ => none) (fun _ => .inl rfl) (.inr ⟨_, vs.toArray, _, hk, rfl, rfl, rfl, by rw [List.size_toArray, lenV]; exact hl, by simpa using rv⟩) (fun b u z => by have z' : (none : Option HO) = some u := z; cases z') (fun b z => absurd rfl z) fun z => absurd rfl z
  | none =>
    refine core (fun b => if b = a then some (.frz { cls := .type "list", data := .seq vs.toArray } (.lst (ns.map V.int))) else none) (fun b => ?_) (.inl (.inr ⟨{ cls := .type "list", data := .seq vs.toArray }, if_pos rfl⟩)) (fun b u z => ?_) (fun b z => ?_) fun _ => hk
    · by_cases hb : b = a
      · exact .inr ⟨_, _, if_pos hb⟩
      · exact .inl (if_neg hb)
    · by_cases hb : b = a
      · have z' := (if_pos hb).symm.trans z
        cases z'
        subst hb
        exact ⟨ha, by rw [List.length_map]; exact hl, vs, _, rv, ha⟩
      · have z' := (if_neg hb).symm.trans z
        cases z'
    · by_cases hb : b = a
      · exact hb
      · exact absurd (if_neg hb) z
end L2

namespace L2
open PySem PySem.Spec PyProof.Rows

/-- the goal that k_head leaves (case hc), from the law's promise. F gives the function object fd (K's own) once, then the promise over every base -/
theorem walk_of {l : PySem.W.OpenLaw} {n k : Nat} {q : Program} {loose : List Str} {XP : (Str → Option Value) → Heap → Prop} {YP : World → Heap → Prop} {d : DefRec} {K : Params → PySem.W.Frag} {CX : World → CXT} {sp : World → Sp} {x : Str}
    (hn : l.most = some n) (hn2 : n ≤ sizeLine) (hdf : d.params.defaults = []) (hr : Room k callerA)
    (hY : ∀ (w : World) (h : Heap), YP w h → (K w.params).In h)
    (F : ∀ (w : World) (mg : Str → Option Value) (fa : Addr) (h : Heap), (K w.params).In h → h.Ns mainGlobals mg → mg d.name = some (.ref fa) →
      ∃ fd : FuncData, (∀ (s : Shared) (u : Value), BindsTo s fd ⟨[u], []⟩ [(x, u)]) ∧
        ∀ base : Heap, (K w.params).In base → base.Ns mainGlobals mg → FnOk l.prog w (K w.params) mg base (CX w) k fa fd [x] (sp w))
    (hsp : ∀ (w : World) (H : Hp) (a : Addr) (ns : List Int), ns.length ≤ n → Only H → SqL (K w.params) H a (ns.map V.int) → sp w [.ref a] H (fun v _ => v = .bl true) fun _ _ _ => False)
    (hCX : ∀ (w : World) (H : Hp) (s : Shared) (e : Value) (s' : Shared), CX w [] H s (fun _ _ _ => False) e s' → False) :
    PySem.W.WalkO q loose XP YP l.row.toRowW d [] (fun f vs => PySem.call f vs) := by
  refine Att.attach_call hn hdf fun w s₀ s₁ mg mb fa o pm cd doc a vs ns G Y ho hd hcd hmg hobj hints hlen hg => ?_
  have KX := hY w _ Y
  obtain ⟨fd, hb, hF⟩ := F w mg fa _ KX G.T.g hmg
  exact law_call KX G.T.g G.T.b G.T.builtins G.T.nolimit hg hobj hints (Nat.le_trans hlen hn2) hr hF hb (fun H hO hS => hsp w H a ns hlen hO hS) fun H e s' => hCX w H s₁ e s'
end L2

/- THE LAST THEOREM (shape; LID, My.* are yours):
   My.Adr: a structure of the addresses that your layer names (classes, functions); My.Txt K t: a structure (Prop) of the equations over K;
   My.txt_mk : {K} {implicit addresses ..} (e1 : nsIn K mainGlobals "law" = some (some (.ref f))) (e2 : K.lookup f = some ⟨oc, od, .func (fnOf "law" "law" params body scope dV kV doc pm an cdv ct), sl⟩) (e3 : codeIn K cdv "law" = true) .. : ∃ t, My.Txt K t

set_option maxRecDepth 100000 in
set_option maxHeartbeats 0 in
theorem PySem.Challenge.cw_LID_holds : PySem.Challenge.rw_LID.Holds := by
  w_on; o_law; k_head; (case hw => w_witness2)
  k_fill
  refine L2.walk_of (l := PySem.Challenge.rw_LID) (n := 63) (k := 40) (x := "script") (CX := fun w => ..) (sp := fun _ => My.sp_law) rfl (by decide) rfl ⟨rfl, by decide, by decide⟩ (fun w h Y => PySem.W.kIn_of Y) ?F ?S ?C
  case F =>
    intro w mg fa h KX G hmg
    have T : ∃ t, My.Txt (L2.KOf KX) t := by
      dsimp only [L2.KOf]                          -- K must stand as «<heap const> w.params» for k_is
      refine' My.txt_mk ?e1 ?e2 ?e3 ..
      (case e1 => PySem.W.k_is)                    -- in the order: a name -> its address -> its object -> its parts
      (case e2 => PySem.W.k_is)
      ..
    obtain ⟨t, T⟩ := T
    have e0 := hmg.symm.trans (PySem.W.mg_of KX G T.law)
    cases e0                                       -- fa is the law's own address
    exact ⟨_, fun s u => .of_eq rfl, fun base kb nb => My.law_fn T kb nb⟩     -- if «.of_eq rfl» comes too early: refine' ⟨_, ?b, fun base kb nb => My.law_fn T kb nb⟩; exact fun s u => .of_eq rfl
  case S => exact fun w H a ns hl hO hS => ..
  case C => exact ..
(the tactic k_is has no namespace: write k_is) -/

/-! SHORT WORDS over the layer: a def of the text, its body, what a loop and a test want. -/
namespace L2
open PySem PySem.Spec PyProof.Rows

/-! ### the text by places -/
/-- the j-th statement of a class's body -/
def inClass (s : Stmt) (j : Nat) : Stmt := match s with
  | .ClassDef _ _ _ body _ _ _ _ _ _ _ => body.getD j (.Pass ⟨0, 0, 0, 0⟩)
  | _ => .Pass ⟨0, 0, 0, 0⟩
def defArgs (s : Stmt) : Arguments := match s with
  | .FunctionDef _ a _ _ _ _ _ _ _ _ => a
  | _ => { posonlyargs := [], args := [], vararg := none, kwonlyargs := [], kw_defaults := [], kwarg := none, defaults := [] }
def defBody (s : Stmt) : List Stmt := match s with
  | .FunctionDef _ _ b _ _ _ _ _ _ _ => b
  | _ => []
def defScope (s : Stmt) : Scope := match s with
  | .FunctionDef _ _ _ _ _ _ sc _ _ _ => sc
  | _ => { kind := .function, names := [], isGenerator := false, isCoroutine := false }

/-! ### no exception leaves a def -/
abbrev CX0 : CXT := fun _ _ _ _ _ _ => False
abbrev E0 : XK := fun _ _ _ => False
theorem pass0 {X : Cx} : Passes CX0 X E0 := fun _ _ _ _ _ _ _ h => h.elim

/-! ### a def (or method) of the text as it stands behind the top -/
structure Fun (K : PySem.W.Frag) (x qual : Str) (st : Stmt) (f : Addr) (fd : FuncData) : Prop where
  ex : ∃ (oc : Value) (od : Option Addr) (kV doc pm : Value) (an : Option Addr) (cdv ct : Value) (osl : Array (Option Value)),
    fd = PySem.W.fnOf x qual (defArgs st) (defBody st) (defScope st) .none kV doc pm an cdv ct ∧ K.lookup f = some ⟨oc, od, .func fd, osl⟩ ∧ PySem.W.codeIn K cdv qual = true
  kp : PySem.W.keepIn K (.ref f) = true
section
variable {P : Program} {w : World} {K : PySem.W.Frag} {mg : Str → Option Value} {base : Heap}
/-- THE RULE for a def: its body as a term of rules, and the reading of that term -/
theorem Fun.ok {x qual : Str} {st : Stmt} {f : Addr} {fd : FuncData} {N ps : List Str} {k : Nat} {sp : Sp} (F : Fun K x qual st f fd) (S : FnScope N ps (defScope st)) (len : ∀ vs H Q E, sp vs H Q E → vs.length = ps.length)
    (hbody : ∀ (cdv : Value) (A : Around) (outer : List Env) (s : Shared) (H : Hp) (vs : List V) (Q : VK) (E : XK), Room k (A.deeper (envOfC qual (defScope st) s.heap.objs.size f cdv)) → sp vs H Q E →
      ∃ t, PSs (cxOf CX0 P w K mg base N qual (defScope st) f cdv A outer s H E).nox (defBody st) t ∧ t { nx := fun _ H' => Q .non H', rt := Q } (start N vs) H) : FnOk P w K mg base CX0 (k + 1) f fd ps sp := by
  obtain ⟨oc, od, kV, doc, pm, an, cdv, ct, osl, rfl, lk, hcd⟩ := F.ex
  refine fn_of lk hcd S len fun A outer s H vs Q E hr hsp => ?_
  obtain ⟨t, h, q⟩ := hbody cdv A outer s H vs Q E hr hsp
  exact ⟨t, h.nox, q⟩
/-- how its arguments bind (no defaults): h is «fun _ _ _ _ _ _ us hl => match us, hl with | [_, _], _ => rfl», one _ a parameter -/
theorem Fun.binds {x qual : Str} {st : Stmt} {f : Addr} {fd : FuncData} {ps : List Str} (F : Fun K x qual st f fd)
    (h : ∀ (kV doc pm : Value) (an : Option Addr) (cdv ct : Value) (us : List Value), us.length = ps.length → bindArgs (PySem.W.fnOf x qual (defArgs st) (defBody st) (defScope st) .none kV doc pm an cdv ct) ⟨us, []⟩ = pure (ps.zip us)) : Binds K fd ps [] := by
  obtain ⟨oc, od, kV, doc, pm, an, cdv, ct, osl, rfl, lk, hcd⟩ := F.ex
  exact .all (h kV doc pm an cdv ct)
theorem fun_mk {x qual : Str} {st : Stmt} {f : Addr} {oc : Value} {od an : Option Addr} {osl : Array (Option Value)} {kV doc pm cdv ct : Value} (l : K.lookup f = some ⟨oc, od, .func (PySem.W.fnOf x qual (defArgs st) (defBody st) (defScope st) .none kV doc pm an cdv ct), osl⟩)
    (c : PySem.W.codeIn K cdv qual = true) (k : PySem.W.keepIn K (.ref f) = true) : Fun K x qual st f (PySem.W.fnOf x qual (defArgs st) (defBody st) (defScope st) .none kV doc pm an cdv ct) := ⟨⟨oc, od, kV, doc, pm, an, cdv, ct, osl, rfl, l, c⟩, k⟩
end
theorem hu_of {A : Around} {k : Nat} (hr : Room k A) : A.units + 1 < cLine := Nat.lt_of_le_of_lt (Nat.add_le_add_left (by decide : 1 ≤ 64) _) hr.units
/-! ### expressions in short: the name that stands in the i-th slot -/
section
variable {X : Cx}
theorem pv (i : Nat) {x : Str} {pos : Pos} (hN : X.N[i]? = some x := by rfl) (hv : Vis X.env.scope x := by first | exact Or.inl rfl | exact Or.inr (Or.inl rfl) | exact Or.inr (Or.inr rfl)) (hd : (x == ("__debug__" : Str)) = false := by decide)
    (hcd : (x == ("__classdict__" : Str)) = false := by decide) : PE X (.Name x pos) (tVar i) := pe_var hN hv hd hcd
end

/-! ### tests -/
theorem iteF {A B : Prop} (h : B) : if false = true then A else B := by
  rw [if_neg Bool.false_ne_true]
  exact h
theorem iteT {A B : Prop} (h : A) : if true = true then A else B := by
  rw [if_pos rfl]
  exact h
theorem iteNS {c A B : Prop} [Decidable c] (hc : c) (h : B) : if (!decide c) = true then A else B := by
  rw [decide_eq_true hc]
  exact iteF h

/-! ### heaps -/
/-- all that was tracked is as it was -/
def Same (H H' : Hp) : Prop := ∀ b o, H b = some o → H' b = some o
theorem Same.refl (H : Hp) : Same H H := fun _ _ h => h
theorem Same.trans {H H1 H2 : Hp} (a : Same H H1) (b : Same H1 H2) : Same H H2 := fun c o h => b c o (a c o h)
theorem Same.free {H H' : Hp} (e : Same H H') {l : Addr} (h : H' l = Option.none) : H l = Option.none := by
  cases q : H l with
  | none => rfl
  | some o =>
    rw [e l o q] at h
    cases h
theorem Same.seq {K : PySem.W.Frag} {H H' : Hp} {a : Addr} {xs : List V} (e : Same H H') (h : SqL K H a xs) : SqL K H' a xs := by
  rcases h with (h | ⟨o, h⟩) | h
  · exact .inl (.inl (e _ _ h))
  · exact .inl (.inr ⟨o, e _ _ h⟩)
  · exact .inr h

end L2

end

section
set_option autoImplicit false
set_option maxRecDepth 100000
namespace EoD
open PySem
section
variable {prog : Program} {w : World} {A : Around} {E : Value → Shared → Prop} {s : Shared} {d it : Addr} {es : Array DictEntry} {ep i : Nat}
end
end EoD

end

section
set_option autoImplicit false
set_option maxRecDepth 100000
namespace EoD
open PySem
section
variable {prog : Program} {w : World} {A : Around} {E : Value → Shared → Prop} {s : Shared}
def b2n (b : Bool) : Int := if b then 1 else 0
theorem hash_bool {b : Bool} {Q : Int → Shared → Prop} (q : Q (hashInt (b2n b)) { s with toks := s.toks + 1 }) : wpAny (model prog w) A (pyHash (.bool b)) Q E s := by
  have ty : s.TypeIs (.bool b) "bool" := rfl
  unfold pyHash
  first | unfold pyHashByItsType | skip
  refine wpAny_bind ?_
  rw [cRoomFor, if_neg (show ¬ [Value.bool b].any Value.onHeap = true from Bool.false_ne_true)]
  refine wpAny_pure (wpAny_bind (wpAny_specialOf ty F.slot_bool_hash.lookup ?_))
  rw [if_neg (by rw [beq_builtin_none]; exact Bool.false_ne_true)]
  refine wpAny_bind (wpAny_specialOf ty F.slot_bool_hash.lookup ?_)
  have hr := rawHash_range (b2n b)
  have tree : ∀ {K : Value → Shared → Prop} {E' : Value → Shared → Prop}, K (.int (rawHash (b2n b)) s.toks) { s with toks := s.toks + 1 } → wpAny (model prog w) A.in1 (Builtin.«int.__hash__» ⟨[.bool b], []⟩) (fun fin s' => ∃ v, fin = PySem.Fin.done (Flow.ret v) ∧ K v s') E' s := by
    intro K E' hp
    cases b <;> exact (show wpAny _ _ (do ret (← mkInt _)) _ _ s from wpAny_ret_mkInt hp)
  refine wpAny_bind (wpAny_callSpecialIfBoundUnlessNone?_slot ty F.slot_bool_hash (wpAny_call_entry F.slot_bool_hash ty entry_int_hash (tree ?_) (args_int_hash _)))
  show wpAny _ _ (if (decide (-(2 : Int) ^ 63 ≤ rawHash (b2n b)) && decide (rawHash (b2n b) < 2 ^ 63)) = true then _ else _) Q E _
  rw [decide_eq_true hr.1, decide_eq_true hr.2, if_pos (show (true && true) = true from rfl)]
  exact wpAny_pure q
end
end EoD

end

section
set_option autoImplicit false
set_option maxRecDepth 100000
namespace EoD
open PySem Eo
def biIs (k : Int) : Value → Bool
  | .int i _ => i == k
  | .bool b => b2n b == k
  | _ => false
theorem biIs_shape {k : Int} {v : Value} (h : biIs k v = true) : (∃ t, v = .int k t) ∨ ∃ b, v = .bool b ∧ b2n b = k := by
  unfold biIs at h
  split at h
  · rename_i i t
    exact .inl ⟨t, by rw [eq_of_beq h]⟩
  · rename_i b
    exact .inr ⟨b, rfl, eq_of_beq h⟩
  · cases h
theorem b2n_inj {a b : Bool} (h : b2n a = b2n b) : a = b := by cases a <;> cases b <;> first | rfl | (exact absurd h (by decide))
/-- ints and bools as keys, as Python holds them for the same -/
def biKind (prog : Program) (w : World) : KeyKind prog w Int where
  is := biIs
  hash := hashInt
  inj := fun v a b ha hb => by
    rcases biIs_shape ha with ⟨t, rfl⟩ | ⟨x, rfl, rfl⟩
    · rcases biIs_shape hb with ⟨u, e⟩ | ⟨y, e, _⟩
      · injection e
      · cases e
    · rcases biIs_shape hb with ⟨u, e⟩ | ⟨y, e, rfl⟩
      · cases e
      · injection e with e
        rw [e]
  byValue := fun k v h => by
    rcases biIs_shape h with ⟨t, rfl⟩ | ⟨x, rfl, rfl⟩ <;> rfl
  pyHash := fun hv h => by
    rcases biIs_shape hv with ⟨t, rfl⟩ | ⟨x, rfl, rfl⟩
    · exact wpAny_pyHash_int h
    · exact hash_bool h
  eqBool := fun {A E s a b u v Q} hu hv h => by
    rcases biIs_shape hu with ⟨t, rfl⟩ | ⟨x, rfl, rfl⟩
    · rcases biIs_shape hv with ⟨t', rfl⟩ | ⟨y, rfl, rfl⟩
      · exact SeqAt.EqAt.int_int a t b t' prog w E Q (by rw [show (a == b) = decide (a = b) from by rw [Bool.eq_iff_iff]; simp]; exact h)
      · exact SeqAt.EqAt.int_bool a t y prog w E Q (by rw [show (a == if y then 1 else 0) = decide (a = b2n y) from by rw [Bool.eq_iff_iff, beq_iff_eq, decide_eq_true_iff]; rfl]; exact h)
    · rcases biIs_shape hv with ⟨t', rfl⟩ | ⟨y, rfl, rfl⟩
      · exact SeqAt.EqAt.bool_int x b t' prog w E Q (by rw [show ((if x then 1 else 0) == b) = decide (b2n x = b) from by rw [Bool.eq_iff_iff, beq_iff_eq, decide_eq_true_iff]; rfl]; exact h)
      · exact SeqAt.EqAt.bool_bool x y prog w E Q (by rw [show (x == y) = decide (b2n x = b2n y) from by cases x <;> cases y <;> decide]; exact h)
  «strs» := fun k x t v h => by
    rcases biIs_shape h with ⟨u, e⟩ | ⟨y, e, _⟩ <;> cases e

def wkey (x : W) : List Int := [x.1, b2n x.2]
theorem wkey_inj {x y : W} (h : wkey x = wkey y) : x = y := by
  unfold wkey at h
  injection h with h1 h2
  injection h2 with h2 _
  exact Prod.ext h1 (b2n_inj h2)
theorem wkey_dec (x y : W) : decide (wkey x = wkey y) = decide (x = y) := by
  by_cases h : x = y
  · subst h; simp
  · rw [decide_eq_false h, decide_eq_false fun e => h (wkey_inj e)]
/-- words as keys -/
def wordKind (prog : Program) (w : World) : HeapKind prog w W where
  is := fun h x a => IsTupleKey (biKind prog w) h (wkey x) a
  hash := fun x => tupleKeyHash (biKind prog w) (wkey x)
  draws := fun x => (wkey x).length + 1
  room := fun A => A.units < cLine
  inj := fun hx hy => wkey_inj (hx.inj hy)
  keeps := fun x ho hd hs => x.keeps ho hd hs
  pyHash := fun hu hk h => wpAny_pyHash_tuple hu hk h
  eqBool := fun hu hx hy h => wpAny_eqBool_tuple hu hx hy (by rw [wkey_dec]; exact h)
  quiet := fun hk h => wpAny_eqIsQuiet_tuple hk h
theorem wordKind_room {prog : Program} {w : World} {A : Around} (hu : A.units + 1 < cLine) : (wordKind prog w).room A.in1 := hu
/-- a tuple of an int and a bool is a word -/
theorem word_is {prog : Program} {w : World} {h : Heap} {a : Addr} {x : W} {o : Obj} {its : Array Value} {n : Nat} {t : Tok} (e : h.get? a = some o) (c : o.cls = .type "tuple") (d : o.data = .seq its n) (i : its.toList = [.int x.1 t, .bool x.2]) :
    (wordKind prog w).is h x a := by
  refine ⟨o, its, n, e, c, d, ?_⟩
  rw [i]
  refine .cons ?_ (.cons ?_ .nil)
  · show biIs x.1 (.int x.1 t) = true
    simp [biIs]
  · show biIs (b2n x.2) (.bool x.2) = true
    simp [biIs]
end EoD

end

section
set_option autoImplicit false
set_option maxRecDepth 100000
namespace EoD
open PySem
section
variable {prog : Program} {w : World} {A : Around} {E : Value → Shared → Prop} {s : Shared} {it l : Addr} {items : Array Value}
theorem rev_len : typeLookup (.type "list_reverseiterator") "__len__" = pure none := by rw [typeLookup_type, builtinLookup_eq_fast]; kernel_rfl
theorem rev_lh : typeLookup (.type "list_reverseiterator") "__length_hint__" = pure (some (.builtin "list_reverseiterator.__length_hint__")) := by rw [typeLookup_type, builtinLookup_eq_fast]; kernel_rfl
theorem rev_hint {Q : Bool → Shared → Prop} (ty : s.TypeIs (.ref it) "list_reverseiterator") (q : Q false s) : wpAny (model prog w) A (Builtin.List.listLengthHint (.ref it)) Q E s := by
  unfold Builtin.List.listLengthHint
  refine wpAny_bind (wpAny_specialOf ty rev_len ?_)
  dsimp only
  refine wpAny_ite_split (fun h => absurd h (by decide +kernel)) (fun _ => ?_)
  refine wpAny_ite_split (fun h => absurd h (by decide)) (fun _ => ?_)
  refine wpAny_bind (wpAny_specialOf ty rev_lh ?_)
  dsimp only
  rw [show splitId "list_reverseiterator.__length_hint__" = some ("list_reverseiterator", "__length_hint__") from by decide +kernel]
  dsimp only
  refine wpAny_bind (wpAny_isInstance (T := "list_reverseiterator") (b := true) ty (by rw [isSubtype_type]; kernel_rfl) ?_)
  refine wpAny_ite_split (fun h => absurd h (by decide)) (fun _ => ?_)
  refine wpAny_ite_split (fun _ => ?_) (fun h => absurd (by decide +kernel) h)
  refine wpAny_ite_split (fun h => absurd h (by decide)) (fun _ => ?_)
  exact wpAny_pure q
/-- list(it), it the backward iterator of a list, just made -/
theorem list_rev {Q : Value → Shared → Prop} (hh : A.handled = none) (y : s.heap.IsRevIter it l ((items.size : Int) - 1)) (x : s.heap.IsList l items) (ne : l ≠ it) (hn : items.size ≤ sizeLine)
    (q : ∀ h' tk acc c, (∀ b o, b ≠ it → s.heap.get? b = some o → h'.get? b = some o) → h'.get? s.heap.objs.size = some { cls := .type "list", dict := none, data := .seq acc c, slots := #[] } → ItemsOf (fun i v => items[items.size - 1 - i]? = some v) acc items.size → Q (.ref s.heap.objs.size) { s with heap := h', toks := tk }) :
    wpAny (model prog w) A (call (.type "list") [.ref it]) Q E s := by
  have ily : it < s.heap.objs.size := let ⟨_, e, _⟩ := y; Heap.lt_size e
  have ilx : l < s.heap.objs.size := let ⟨_, e, _⟩ := x; Heap.lt_size e
  refine callType_codes (Q₁ := fun obj s₁ => obj = .ref s.heap.objs.size ∧ s₁ = { s with heap := s.heap.push { cls := .type "list", data := .seq #[] } }) PySem.F.called_list (PySem.F.typeCall_list_1 _) PySem.F.entry_list_init (code_list_new _ ⟨rfl, rfl⟩) fun obj s₁ h₁ => ?_
  obtain ⟨rfl, rfl⟩ := h₁
  generalize hS : s.heap.objs.size = S at q ily ilx ⊢
  have e0 : (s.heap.push { cls := .type "list", data := .seq #[] }).get? S = some { cls := .type "list", data := .seq #[] } := by rw [← hS]; exact Heap.get?_push_size _ rfl
  refine ⟨⟨_, e0, rfl⟩, PySem.F.args_list_init_2 _ _, ?_⟩
  generalize hp : s.heap.push { cls := .type "list", data := .seq #[] } = h0 at e0 ⊢
  have k0 : ∀ b o, s.heap.get? b = some o → h0.get? b = some o := fun b o e => by rw [← hp]; exact Heap.get?_push_of_some _ e
  show wpAny _ _ (do let old ← Builtin.List.listItems (.ref S); Builtin.List.listUpdate (.ref S) (fun _ => #[]); letGo old.toList.reverse; Builtin.List.listExtendWith (.ref S) (.ref it) .none) _ _ { s with heap := h0 }
  refine wpAny_bind ?_
  unfold Builtin.List.listItems
  refine wpAny_bind (wpAny_seqItems e0 rfl (wpAny_pure ?_))
  refine wpAny_bind (m := updateSeq S (fun _ => #[])) (wpAny_updateSeq e0 rfl ?_)
  have e1 := Heap.get?_update_self (Obj.mapSeq (fun _ => (#[] : Array Value))) e0 rfl
  generalize hq : h0.update S (Obj.mapSeq fun _ => (#[] : Array Value)) = h1 at e1 ⊢
  have k1 : ∀ b o, b ≠ S → h0.get? b = some o → h1.get? b = some o := fun b o hb e => by rw [← hq]; exact (Heap.get?_update_other _ _ (Ne.symm hb)).trans e
  refine wpAny_bind (wpAny_letGo ?_)
  have nS : it ≠ S := Nat.ne_of_lt ily
  have nS' : l ≠ S := Nat.ne_of_lt ilx
  have y1 : h1.IsRevIter it l ((items.size : Int) - 1) := y.at fun o e => k1 _ _ nS (k0 _ _ e)
  have x1 : h1.IsList l items := x.at fun o e => k1 _ _ nS' (k0 _ _ e)
  unfold Builtin.List.listExtendWith
  refine wpAny_bind (wpAny_typeOf (s := { s with heap := h1 }) (T := "list_reverseiterator") y1.typeIs ?_)
  have ns : Builtin.List.listSameRef (.ref S) (.ref it) = false := by simp [Builtin.List.listSameRef, Ne.symm nS]
  have n1 : (Value.type "list_reverseiterator" == Value.type "list") = false := by decide
  have n2 : (Value.type "list_reverseiterator" == Value.type "tuple") = false := by decide
  simp only [ns, n1, n2, Bool.or_false, Bool.false_eq_true, if_false]
  refine wpAny_bind (wpAny_pyIter_revIter (s := { s with heap := h1 }) y1 ?_)
  refine wpAny_bind (wpAny_holding (rev_hint (s := { s with heap := h1 }) y1.typeIs ?_))
  refine wpAny_ite_split (fun h => absurd h (by decide +kernel)) (fun _ => wpAny_pure ⟨plainId_quiet PySem.F.plain_extend_loop _, ?_⟩)
  have nf : S ∉ [it, l] := by simp [Ne.symm nS, Ne.symm nS']
  refine codeAny_extend_loopS (Walks.listRev (A := A.in1.in1) hh it l ne items).toS hn S nf .none items.size 0 { s with heap := h1 } #[] _ (by omega) (Nat.zero_le _) ⟨Nat.zero_le _, by simpa using y1, x1⟩ e1 (ItemsOf.nil _) fun s' acc c mv e2 it2 => ?_
  rw [Moved.eq_with mv]
  refine ⟨rfl, q s'.heap s'.toks acc c (fun b o hb e => mv.heap b o (fun hm => ?_) (k1 b o ?_ (k0 b o e))) e2 it2⟩
  · rcases List.mem_cons.mp hm with z | z
    · rw [z] at e
      exact absurd (Heap.lt_size e) (by rw [hS]; exact Nat.lt_irrefl _)
    · exact hb (List.mem_singleton.mp z)
  · intro z
    rw [z] at e
    exact absurd (Heap.lt_size e) (by rw [hS]; exact Nat.lt_irrefl _)
end
end EoD

end

section
set_option autoImplicit false
set_option maxRecDepth 100000
set_option linter.all false
namespace L2
open PySem PySem.Spec PyProof.Rows

def cellAt (env : Env) (n : Str) : Addr := (env.cells.lookup n).getD 0
def clOf (env : Env) (l : List (Str × NameKind)) : List (Str × Addr) := ((l.filter fun x => x.2 == .free).map fun x => (x.1, cellAt env x.1)).reverse
theorem closure_go {env : Env} : ∀ (l : List (Str × NameKind)) (acc : List (Str × Addr)), (∀ x ∈ l, x.2 = .free → ∃ c, env.cells.lookup x.1 = some c) →
    (forIn l acc fun (x : Str × NameKind) (cs : List (Str × Addr)) => (do
      if x.2 == .free then pure (ForInStep.yield ((x.1, ← cellOf env x.1) :: cs)) else pure (ForInStep.yield cs) : Sem (ForInStep (List (Str × Addr))))) = (pure (clOf env l ++ acc) : Sem (List (Str × Addr)))
  | [], acc, _ => rfl
  | x :: r, acc, h => by
    have hr : ∀ y ∈ r, y.2 = .free → ∃ c, env.cells.lookup y.1 = some c := fun y hy => h y (List.mem_cons_of_mem _ hy)
    rw [List.forIn_cons]
    by_cases e : x.2 = .free
    · obtain ⟨c, hc⟩ := h x List.mem_cons_self e
      have e1 : (x.2 == NameKind.free) = true := by rw [e]; rfl
      have e2 : cellOf env x.1 = pure c := by unfold cellOf; rw [hc]
      have e3 : cellAt env x.1 = c := by unfold cellAt; rw [hc]; rfl
      simp only [e1, if_true, e2, pure_bind]
      rw [closure_go r _ hr]
      simp [clOf, e1, e3]
    · have e1 : (x.2 == NameKind.free) = false := by
        cases h2 : x.2 <;> first | rfl | exact absurd h2 e
      simp only [e1, Bool.false_eq_true, if_false, pure_bind]
      rw [closure_go r _ hr]
      simp [clOf, e1]
theorem closure_of {env : Env} {sc : Scope} (h : ∀ x ∈ sc.names, x.2 = .free → ∃ c, env.cells.lookup x.1 = some c) : closureFor sc env = pure (clOf env sc.names) := by
  have e := closure_go (env := env) sc.names [] h
  rw [List.append_nil] at e
  unfold closureFor
  exact (bind_congr (x := _) fun _ => rfl).trans ((congrArg (· >>= pure) e).trans (by simp))
theorem clOf_in {env : Env} {l : List (Str × NameKind)} {x : Str} {c : Addr} (hl : ∀ x ∈ l, x.2 = .free → ∃ c, env.cells.lookup x.1 = some c) (h : (clOf env l).lookup x = some c) : env.cells.lookup x = some c ∧ (x, NameKind.free) ∈ l := by
  have hm := PySem.mem_of_lookup h
  unfold clOf at hm
  rw [List.mem_reverse, List.mem_map] at hm
  obtain ⟨p, hp, e⟩ := hm
  obtain ⟨h1, h2⟩ := List.mem_filter.mp hp
  have e2 : p.2 = .free := by cases h3 : p.2 <;> rw [h3] at h2 <;> first | rfl | cases h2
  obtain ⟨c', hc⟩ := hl p h1 e2
  have e3 : p.1 = x := congrArg Prod.fst e
  have e4 : cellAt env p.1 = c := congrArg Prod.snd e
  unfold cellAt at e4
  rw [hc] at e4
  cases e4
  subst e3
  exact ⟨hc, by rw [← e2]; exact h1⟩
theorem lookup_some {α : Type} {x : Str} : ∀ {l : List (Str × α)}, (∃ a, (x, a) ∈ l) → ∃ c, l.lookup x = some c
  | [], ⟨a, h⟩ => by simp at h
  | (y, b) :: r, ⟨a, h⟩ => by
    by_cases e : x = y
    · subst e
      exact ⟨b, by simp [List.lookup_cons]⟩
    · have h' : ∃ a, (x, a) ∈ r := by
        rcases List.mem_cons.mp h with z | z
        · exact absurd (congrArg Prod.fst z) e
        · exact ⟨a, z⟩
      obtain ⟨c, hc⟩ := lookup_some h'
      have ef : (x == y) = false := beq_eq_false_iff_ne.mpr e
      exact ⟨c, by rw [List.lookup_cons, ef]; exact hc⟩
theorem clOf_has {env : Env} {l : List (Str × NameKind)} {x : Str} (h : (x, NameKind.free) ∈ l) : ∃ c, (clOf env l).lookup x = some c :=
  lookup_some ⟨cellAt env x, by
    unfold clOf
    rw [List.mem_reverse, List.mem_map]
    exact ⟨(x, .free), List.mem_filter.mpr ⟨h, rfl⟩, rfl⟩⟩
/-- a name of the block that is no local of it is one that it closes over -/
theorem relabel_free {env : Env} {x : Str} {k : NameKind} (hk : k = .cell ∨ k = .free) : ∀ {l : List (Str × NameKind)}, (∀ y ∈ l, y.2 ≠ .cell) →
    (l.map fun (n, k) => if (k == NameKind.free && env.scope.kind == .function && env.kindOf n == some .cell) then (n, NameKind.cell) else (n, k)).lookup x = some k → (x, NameKind.free) ∈ l
  | [], _, h => by simp at h
  | (n, q) :: r, hc, h => by
    have hr : ∀ y ∈ r, y.2 ≠ .cell := fun y hy => hc y (List.mem_cons_of_mem _ hy)
    by_cases e : x = n
    · subst e
      have hq : q = .free := by
        by_cases hq : q = .free
        · exact hq
        · exfalso
          have e1 : (q == NameKind.free) = false := by cases q <;> first | rfl | exact absurd rfl hq
          rw [List.map_cons] at h
          simp only [e1, Bool.false_and, Bool.false_eq_true, if_false] at h
          rw [List.lookup_cons, beq_self_eq_true] at h
          have e2 : q = k := by simpa using h
          rcases hk with z | z
          · exact hc (x, q) List.mem_cons_self (e2.trans z)
          · exact hq (e2.trans z)
      rw [hq]
      exact List.mem_cons_self
    · have ef : (x == n) = false := beq_eq_false_iff_ne.mpr e
      refine List.mem_cons_of_mem _ (relabel_free (env := env) hk hr ?_)
      rw [List.map_cons] at h
      by_cases c : (q == NameKind.free && env.scope.kind == .function && env.kindOf n == some .cell) = true
      · simp only [c, if_true] at h
        rw [List.lookup_cons, ef] at h
        exact h
      · simp only [c, Bool.false_eq_true, if_false] at h
        rw [List.lookup_cons, ef] at h
        exact h
theorem relabel_cell {env : Env} {x : Str} (hf : env.scope.kind = .function) (hx : env.kindOf x = some .cell) : ∀ {l : List (Str × NameKind)}, l.lookup x = some .free →
    (l.map fun (n, k) => if (k == NameKind.free && env.scope.kind == .function && env.kindOf n == some .cell) then (n, NameKind.cell) else (n, k)).lookup x = some .cell
  | [], h => by simp at h
  | (n, q) :: r, h => by
    by_cases e : x = n
    · subst e
      rw [List.lookup_cons, beq_self_eq_true] at h
      have e2 : q = .free := by simpa using h
      subst e2
      rw [List.map_cons]
      have c : (NameKind.free == NameKind.free && env.scope.kind == .function && env.kindOf x == some .cell) = true := by rw [hf, hx]; rfl
      simp only [c, if_true]
      rw [List.lookup_cons, beq_self_eq_true]
    · have ef : (x == n) = false := beq_eq_false_iff_ne.mpr e
      rw [List.lookup_cons, ef] at h
      have ih := relabel_cell hf hx h
      rw [List.map_cons]
      by_cases c : (q == NameKind.free && env.scope.kind == .function && env.kindOf n == some .cell) = true
      · simp only [c, if_true]
        rw [List.lookup_cons, ef]
        exact ih
      · simp only [c, Bool.false_eq_true, if_false]
        rw [List.lookup_cons, ef]
        exact ih

def cxC (X : Cx) (N : List Str) (sc : Scope) (s : Shared) (H : Hp) (fp : List Addr) (pins : List (Addr × Obj)) (C : Addr) : Cx :=
  { X with N := N, s₀ := s, H₀ := H, env := compEnvC sc (clOf X.env sc.names) C X.env, outer := X.stack, ex := fp, fn := fun _ => false, pn := X.pn ++ pins, xe := fun _ _ => False }
structure ScOk (X : Cx) (sc : Scope) (x : Str) : Prop where
  kind : sc.kind = .function
  nocell : ∀ y ∈ sc.names, y.2 ≠ .cell
  var : sc.names.lookup x = some .local
  names : ∀ y ∈ sc.names, y.2 = .local → sc.names.lookup y.1 = some .local
  frees : ∀ y ∈ sc.names, y.2 = .free → X.env.kindOf y.1 = some .cell
/-- the names that the block closes over, with their slots outside -/
def FreeOk (X : Cx) (sc : Scope) : List Str → List Nat → Prop
  | [], [] => True
  | y :: ys, j :: js => X.N[j]? = some y ∧ X.env.kindOf y = some .cell ∧ sc.names.lookup y = some .free ∧ FreeOk X sc ys js
  | _, _ => False
def look (σ : St) (js : List Nat) : St := js.map fun j => (σ[j]?).join
theorem FreeOk.get {X : Cx} {sc : Scope} {σ : St} : ∀ {ys : List Str} {js : List Nat}, FreeOk X sc ys js → ∀ {i : Nat} {y : Str} {v : V}, ys[i]? = some y → (look σ js)[i]? = some (some v) →
    ∃ j : Nat, X.N[j]? = some y ∧ σ[j]? = some (some v) ∧ X.env.kindOf y = some .cell ∧ sc.names.lookup y = some .free
  | [], [], _, i, y, v, h, _ => by simp at h
  | y' :: ys, j :: js, f, 0, y, v, h, g => by
    obtain ⟨f1, f2, f3, _⟩ := f
    have e : y' = y := by simpa using h
    subst e
    have g' : (σ[j]?).join = some v := by simpa [look] using g
    cases q : σ[j]? with
    | none => rw [q] at g'; cases g'
    | some z =>
      rw [q] at g'
      have : z = some v := g'
      subst this
      exact ⟨j, f1, q, f2, f3⟩
  | y' :: ys, j :: js, f, i + 1, y, v, h, g => FreeOk.get f.2.2.2 (by simpa using h) (by simpa [look] using g)
  | [], _ :: _, f, _, _, _, _, _ => f.elim
  | _ :: _, [], f, _, _, _, _, _ => f.elim
theorem FreeOk.len {X : Cx} {sc : Scope} : ∀ {ys : List Str} {js : List Nat}, FreeOk X sc ys js → ys.length = js.length
  | [], [], _ => rfl
  | _ :: _, _ :: _, f => by simp [FreeOk.len f.2.2.2]
  | [], _ :: _, f => f.elim
  | _ :: _, [], f => f.elim

section
variable {X : Cx} {pins : List (Addr × Obj)} {σ : St} {H : Hp} {s : Shared} {sc : Scope} {x : Str} {ys : List Str} {js : List Nat} {fp : List Addr} {C D : Addr}

theorem ScOk.cells (S : ScOk X sc x) (I : Inv X pins σ H s) : ∀ y ∈ sc.names, y.2 = .free → ∃ c, X.env.cells.lookup y.1 = some c := fun y hy e => I.ok.has y.1 (.inl (S.frees y hy e))
theorem cxC_ok {N : List Str} (S : ScOk X sc x) (I : Inv X pins σ H s) (hf : ∀ b ∈ fp, FpOk X pins H b) (hl : ∀ b ∈ fp, b < s.heap.objs.size) (hC : s.heap.objs.size ≤ C) : (cxC X N sc s H fp pins C).Ok where
  mod := I.ok.mod
  kind := S.kind
  glob := I.ok.glob
  blt := I.ok.blt
  above := hC
  inj := fun y z c h1 h2 => I.ok.inj y z c (clOf_in (S.cells I) h1).1 (clOf_in (S.cells I) h2).1
  has := fun y hy => by
    have hm : (y, NameKind.free) ∈ sc.names := by
      rcases hy with hy | hy
      · exact relabel_free (.inl rfl) S.nocell hy
      · exact relabel_free (.inr rfl) S.nocell hy
    exact clOf_has hm
  cab := fun _ _ h _ => nomatch h
  hd := I.ok.hd
  frames := I.ok.frames
  stk := .inl rfl
  exf := fun b hb => ⟨Nat.ne_of_lt (Nat.lt_of_lt_of_le (hl b hb) hC), fun y c hc => (hf b hb).2.2.2.2.1 y c (clOf_in (S.cells I) hc).1⟩
  bs := fun b o e => I.bs b o e
  bsz := Nat.le_trans I.ok.bsz I.sz
  noex := fun b o e hb => by
    rcases (hf b hb).2.2.2.1 with z | z
    · exact I.ok.noex b o e z
    · have := (I.ok.bs b o e).1
      rw [z] at this; cases this
  exfs := fun b hb hz => by
    rcases List.mem_cons.mp (I.stkSub b hz) with e | e
    · exact (hf b hb).2.1 e
    · exact (hf b hb).2.2.1 e
  funs := I.stack
  frf := I.stkFree
  hdl := by
    rcases I.ok.hdl with q | ⟨e, C', oe, vs, q1, q2, q3, q4, q5 | ⟨q5, q6, q7, q8⟩⟩
    · exact .inl q
    · exact .inr ⟨e, C', oe, vs, q1, q2, q3, q4, .inl (List.mem_append_left _ q5)⟩
    · refine .inr ⟨e, C', oe, vs, q1, q2, q3, q4, .inr ⟨I.base.keep e oe q5 q6 q7 q8, I.base.free e oe q5 q6 q8, fun z => (List.mem_cons.mp (I.stkSub e z)).elim (Nat.ne_of_lt (Nat.lt_of_lt_of_le (Heap.lt_size q5) I.ok.above)) q7, fun z => ?_⟩⟩
      rcases (hf e z).2.2.2.1 with y | y
      · exact q8 y
      · rw [y] at q5; cases q5
theorem notStk (I : Inv X pins σ H s) {b : Addr} (h1 : b ≠ X.env.locals) (h2 : b ∉ X.fs) : b ∉ frs X.stack := fun z => (List.mem_cons.mp (I.stkSub b z)).elim h1 h2
/-- the block begins: the new list stands at D, the frame at C -/
theorem inv_block {h' : Heap} {t' : Nat} {m : Str → Option Value} {H' : Hp} (S : ScOk X sc x) (Fo : FreeOk X sc ys js) (I : Inv X pins σ H s) (hf : ∀ b ∈ fp, FpOk X pins H b) (hl : ∀ b ∈ fp, b < s.heap.objs.size) (hC : s.heap.objs.size ≤ C)
    (kp : ∀ b o, s.heap.get? b = some o → h'.get? b = some o) (hn : h'.Ns C m) (un : Un (frs X.stack) fp H H' s.heap h') (ok : HOk X.prog X.w H' h') (nC : H' C = none) (nf : ∀ b o, s.heap.get? b = some o → H b = none → H' b = none) :
    Inv (cxC X (x :: ys) sc s H fp pins C) [] (none :: look σ js) H' { s with heap := h', toks := t' } where
  ok := cxC_ok S I hf hl hC
  os := rfl
  bare := I.bare
  base := un
  loc := ⟨m, hn, fun i y v e1 e2 e3 => by
    cases i with
    | zero => simp at e2
    | succ i =>
      have z1 : ((x :: ys) : List Str)[i + 1]? = some y := e1
      obtain ⟨j, g1, g2, g3, g4⟩ := Fo.get (σ := σ) (i := i) (y := y) (v := v) (by simpa using z1) (by simpa using e2)
      obtain ⟨mo, hmo, lo⟩ := I.loc
      have vis : Vis X.env.scope y := .inr (.inl g3)
      obtain ⟨u, ru, lk⟩ := lo j y v g1 g2 vis
      refine ⟨u, ru, .inr ⟨.inl (relabel_cell I.ok.kind g3 g4), ?_⟩⟩
      rcases lk with ⟨k, _⟩ | ⟨_, c, hc, cell⟩
      · rw [g3] at k; cases k
      · obtain ⟨c', hc'⟩ := clOf_has (env := X.env) (PySem.mem_of_lookup g4)
        have e : c' = c := by
          have := (clOf_in (S.cells I) hc').1
          rw [hc] at this
          cases this; rfl
        subst e
        obtain ⟨oc, ho, hd⟩ := cell
        exact ⟨c', hc', oc, kp _ _ ho, hd⟩⟩
  cell := fun y c hc => by
    obtain ⟨v, oc, ho, hd⟩ := I.cell y c (clOf_in (S.cells I) hc).1
    exact ⟨v, oc, kp _ _ ho, hd⟩
  free := nC
  freeC := fun y c hc => by
    obtain ⟨v, oc, ho, hd⟩ := I.cell y c (clOf_in (S.cells I) hc).1
    exact nf c oc ho (I.freeC y c (clOf_in (S.cells I) hc).1)
  pin := fun p hp => by
    rw [List.append_nil] at hp
    obtain ⟨e, n, ne, nfs, d⟩ := I.pin p hp
    exact ⟨kp _ _ e, nf _ _ e n, Nat.ne_of_lt (Nat.lt_of_lt_of_le (Heap.lt_size e) hC), notStk I ne nfs, d⟩
  hok := ok
  len := by
    have := Fo.len
    simp [look, cxC, this]
/-- .. and ends -/
theorem inv_out {s2 : Shared} {H2 H' : Hp} {N : List Str} {σ' : St} {pl : List (Addr × Obj)} (I : Inv X pins σ H2 s2) (hf : ∀ b ∈ fp, FpOk X pins H2 b) (I' : Inv (cxC X N sc s2 H2 fp pins C) pl σ' H' s) : Inv X pins σ H' s :=
  I.call' I'.os I'.base I'.hok I'.bare fun b hb => ⟨(hf b hb).2.2.2.1, (hf b hb).2.1, (hf b hb).2.2.2.2.1, (hf b hb).2.2.2.2.2⟩
end

def PIfs (X : Cx) (ifs : List Expr) (t : TT) : Prop :=
  ∀ (pins : List (Addr × Obj)) (s : Shared) (σ : St) (H : Hp) (Q : Bool → Hp → Prop), Inv X pins σ H s → t σ H Q →
    wpAny (model X.prog X.w) X.A (forIn ifs true fun c r => if r = true then do let ok ← isTrue c X.env (eval c X.env); pure (ForInStep.yield ok) else pure (ForInStep.yield r)) (TP X pins σ Q) X.xe s
def tYes : TT := fun _ H Q => Q true H
theorem pifs_nil {X : Cx} : PIfs X [] tYes := fun _ _ _ H _ I h => wpAny_tests_nil ⟨H, I, h⟩
theorem pifs_one {X : Cx} {c : Expr} {t : TT} (h : PT X c t) : PIfs X [c] t := fun pins s σ H Q I q => wpAny_tests_one (h pins s σ H Q I q)

section
variable {prog : Program} {w : World} {A : Around} {R : Result → Shared → Prop} {s : Shared}
theorem comp_loop {elt tg iter : Expr} {ifs : List Expr} {scope : Scope} {pos : Pos} {it acc : Value} {env : Env} (J : Nat → Shared → Prop)
    (turn : ∀ n s, J n s → wpAny (model prog w) A (pyNext it) (fun r s1 => match r with
      | none => R (.ok .next) s1
      | some v => wpAny (model prog w) A (letOwnedTupleGo tg it v) (fun _ s2 => wpAny (model prog w) A (assign tg env v) (fun _ s3 =>
          wpAny (model prog w) A (forIn ifs true fun c r => if r = true then do let ok ← isTrue c env (eval c env); pure (ForInStep.yield ok) else pure (ForInStep.yield r)) (fun ok s4 =>
            if ok = true then wpAny (model prog w) A (eval elt env) (fun x s5 => wpAny (model prog w) A (call (.builtin "list.append") [acc, x]) (fun _ s6 => ∃ m, m < n ∧ J m s6) (fun _ _ => False) s5) (fun _ _ => False) s4
            else ∃ m, m < n ∧ J m s4) (fun _ _ => False) s3) (fun _ _ => False) s2) (fun _ _ => False) s1) (fun _ _ => False) s)
    (n : Nat) (h : J n s) : codeAny (model prog w) A (.compLoop (.ListComp elt [⟨tg, iter, ifs, 0⟩] scope pos) 0 it acc env) R s := by
  refine codeAny_loop rfl J (fun n s j => ?_) n h
  refine wpAny_noted (m := compTurn (.ListComp elt [⟨tg, iter, ifs, 0⟩] scope pos) 0 it acc env) ?_
  rw [compTurn_list]
  refine wpAny_bind (wpAny_standAt (wpAny_bind (wpAny_mono (turn n s j) (fun r s1 h1 => ?_) fun _ _ z => z.elim)))
  cases r with
  | none => exact wpAny_pure h1
  | some v =>
    refine wpAny_bind (wpAny_mono h1 (fun _ s2 h2 => wpAny_bind (wpAny_mono h2 (fun _ s3 h3 => wpAny_bind (wpAny_mono h3 (fun ok s4 h4 => ?_) fun _ _ z => z.elim)) fun _ _ z => z.elim)) fun _ _ z => z.elim)
    cases ok with
    | false => exact wpAny_pure ⟨rfl, h4⟩
    | true => exact wpAny_bind (wpAny_bind (wpAny_mono h4 (fun y s5 h5 => wpAny_bind (wpAny_mono h5 (fun _ s6 h6 => wpAny_pure (wpAny_pure ⟨rfl, h6⟩)) fun _ _ z => z.elim)) fun _ _ z => z.elim))
end

def tComp (wi : TI) (js : List Nat) (tc : TT) (te : TE) : TE := fun σ H Q => wi σ H fun J H1 => ∀ D, H1 D = none → ∃ W : Nat → Nat → List V → Hp → Prop, (∃ m, W 0 m [] (upd H1 D (.lst []))) ∧
  ∀ i m acc H2, W i m acc H2 → H2 D = some (.lst acc) ∧ acc.length < sizeLine ∧ ((J.stop i H2 ∧ Q (.ref D) H2) ∨
    (J.go i H2 ∧ ∀ x H3, J.yld i H2 x H3 → tc (some x :: look σ js) H3 fun b H4 => if b = true then te (some x :: look σ js) H4 fun v H5 => H5 D = some (.lst acc) ∧ ∃ m', m' < m ∧ W (i + 1) m' (acc ++ [v]) (upd H5 D (.lst (acc ++ [v])))
      else ∃ m', m' < m ∧ W (i + 1) m' acc H4))
section
variable {X : Cx} {elt iter : Expr} {x : Str} {px pos : Pos} {ifs : List Expr} {sc : Scope} {wi : TI} {ys : List Str} {js : List Nat} {tc : TT} {te : TE}
theorem comp_core {pins : List (Addr × Obj)} {σ : St} {H : Hp} {s : Shared} {Q : VK} {RR : Value → Addr → Result → Shared → Prop} (hc : (0 : Nat) = 0) (S : ScOk X sc x) (Fo : FreeOk X sc ys js) (hN : (x :: ys).Nodup) (hi : PI X (.Name x px) iter wi)
    (hifs : ∀ s H fp pins C, PIfs (cxC X (x :: ys) sc s H fp pins C) ifs tc) (helt : ∀ s H fp pins C, PE (cxC X (x :: ys) sc s H fp pins C) elt te)
    (I : Inv X pins σ H s) (h : tComp wi js tc te σ H Q)
    (hRR : ∀ D C H' s' m, Inv X pins σ H' s' → s'.heap.Ns C m → FpOk X pins H' C → Q (.ref D) H' → RR (.ref D) C (.ok .next) s') :
    wpAny (model X.prog X.w) X.A (eval iter X.env) (fun v s1 => wpAny (model X.prog X.w) X.A (pyIter v) (fun it s2 => wpAny (model X.prog X.w) X.A (newList []) (fun acc s3 =>
      wpAny (model X.prog X.w) X.A (newFunctionEnv sc X.env.globals (clOf X.env sc.names) [] X.env.qual none .none (some X.env)) (fun cenv s4 =>
        codeAny (model X.prog X.w) X.A (.compStart (.ListComp elt [⟨.Name x px, iter, ifs, 0⟩] sc pos) 0 it acc { cenv with scope := relabel sc X.env }) (RR acc cenv.locals) s4) X.xe s3) X.xe s2) X.xe s1) X.xe s := by
  refine thn (hi pins s σ H _ I h) fun v s1 h1 => thn h1 fun itv s2 h2 => ?_
  obtain ⟨it, fp, tn, J, H2, e, I2, T, st2, f2, q⟩ := h2
  subst e
  have hl : ∀ b ∈ fp, b < s2.heap.objs.size := fun b hb => let ⟨_, e, _⟩ := T.obj 0 _ st2 b hb; Heap.lt_size e
  have hfr := I2.hok.fresh (Nat.le_refl s2.heap.objs.size)
  obtain ⟨W, ⟨m0, w0⟩, turn⟩ := q s2.heap.objs.size hfr
  refine wpAny_newObj_type (wpAny_newFunctionEnv S.nocell (by intro y hy; simp at hy) (fun h4 hn4 hb4 => ?_) S.kind) (by size_fits)
  dsimp only at hn4 hb4 ⊢
  generalize hD : s2.heap.objs.size = D at hfr w0 turn hn4 hb4 ⊢
  generalize hp : s2.heap.push { cls := .type "list", data := .seq ([] : List Value).toArray } = h3 at hn4 hb4 ⊢
  have hC : h3.objs.size = D + 1 := by rw [← hp, Heap.size_push, hD]
  generalize hCe : h3.objs.size = C at hC hn4 hb4 ⊢
  have hDs : s2.heap.objs.size ≤ D := Nat.le_of_eq hD
  have hCs : s2.heap.objs.size ≤ C := by rw [hD, hC]; exact Nat.le_succ _
  have hDC : D ≠ C := by rw [hC]; exact Nat.ne_of_lt (Nat.lt_succ_self D)
  have k3 : ∀ b o, s2.heap.get? b = some o → h3.get? b = some o := fun b o e => by rw [← hp]; exact Heap.get?_push_of_some _ e
  have k4 : ∀ b o, b ≠ C → h3.get? b = some o → h4.get? b = some o := fun b o ne e => hb4.extBut b o ne (Heap.get?_push_of_some _ e)
  have kp : ∀ b o, s2.heap.get? b = some o → h4.get? b = some o := fun b o e => k4 b o (Nat.ne_of_lt (Nat.lt_of_lt_of_le (Heap.lt_size e) hCs)) (k3 b o e)
  have hDo : h4.get? D = some { cls := .type "list", data := .seq ([] : List Value).toArray } := k4 D _ hDC (by rw [← hp, ← hD]; exact Heap.get?_push_size _ rfl)
  have new : ObjOk X.prog X.w (upd H2 D (.lst [])) h4 D (.lst []) := ⟨Nat.zero_le _, [], 0, .nil, hDo⟩
  have ok4 : HOk X.prog X.w (upd H2 D (.lst [])) h4 := I2.hok.laid kp hDs new
  have un4 : Un (frs X.stack) fp H2 (upd H2 D (.lst [])) s2.heap h4 := Un.laid kp hDs hfr
  have nC : upd H2 D (.lst []) C = none := by
    rw [upd_ne hDC.symm]
    exact I2.hok.fresh hCs
  have nf : ∀ b o, s2.heap.get? b = some o → H2 b = none → upd H2 D (.lst []) b = none := fun b o e n => by
    rw [upd_ne (Nat.ne_of_lt (Nat.lt_of_lt_of_le (Heap.lt_size e) hDs))]
    exact n
  have I4 := inv_block (t' := s2.toks) S Fo I2 f2 hl hCs kp hn4 un4 ok4 nC nf
  have stat : ∀ {H' : Hp} {pl : List (Addr × Obj)}, (∀ b ∈ fp, H' b = none) → ∀ b ∈ fp, FpOk (cxC X (x :: ys) sc s2 H2 fp pins C) [] H' b := fun {H' pl} hn b hb =>
    ⟨hn b hb, Nat.ne_of_lt (Nat.lt_of_lt_of_le (hl b hb) hCs), notStk I2 (f2 b hb).2.1 (f2 b hb).2.2.1, .inl hb, fun y c e => (f2 b hb).2.2.2.2.1 y c (clOf_in (S.cells I2) e).1, fun p hp => (f2 b hb).2.2.2.2.2 p (by simpa [cxC] using hp)⟩
  have loop : ∀ s', s' = { s2 with heap := h4, toks := s2.toks + ([] : List (Str × Value)).length } → codeAny (model X.prog X.w) X.A (.compLoop (.ListComp elt [⟨.Name x px, iter, ifs, 0⟩] sc pos) 0 (.ref it) (.ref D) (cxC X (x :: ys) sc s2 H2 fp pins C).env) (RR (.ref D) C) s' := by
    rintro s' rfl
    refine comp_loop (fun n s' => ∃ i a H' z, Inv (cxC X (x :: ys) sc s2 H2 fp pins C) [] (z :: look σ js) H' s' ∧ tn i s'.heap ∧ (∀ b ∈ fp, H' b = none) ∧ W i n a H') ?_ m0
      ⟨0, [], _, none, I4, T.keep _ _ _ st2 fun b hb o e => kp b o e, fun b hb => nf b _ (T.obj 0 _ st2 b hb).choose_spec.1 (f2 b hb).1, w0⟩
    rintro n s5 ⟨i, a, H5, z, I5, t5, n5, w5⟩
    obtain ⟨eD, hz, alt⟩ := turn i n a H5 w5
    rcases alt with ⟨stop, qn⟩ | ⟨go, step⟩
    · refine wpAny_mono (T.done (cxC X (x :: ys) sc s2 H2 fp pins C) rfl rfl rfl hc i [] s5 _ H5 (fun _ _ => False) I5 (stat (pl := []) n5) t5 stop) (fun r s6 ⟨hr, I6⟩ => ?_) fun _ _ z => z
      subst hr
      obtain ⟨m6, hn6, _⟩ := I6.loc
      exact hRR D C H5 s6 m6 (inv_out I2 f2 I6) hn6 (I2.fpOk hCs I6.free) qn
    · refine wpAny_mono (T.item (cxC X (x :: ys) sc s2 H2 fp pins C) rfl rfl rfl hc i [] s5 _ H5 (fun _ _ => False) I5 (stat (pl := []) n5) t5 go) (fun r s6 ⟨u, hr, h6⟩ => ?_) fun _ _ z => z
      subst hr
      refine wpAny_mono h6 (fun _ s7 ⟨y, H7, I7, r7, y7, t7, n7⟩ => ?_) fun _ _ z => z
      have I7' := I7.pinned (stat (pl := []) n7) (T.obj _ _ t7)
      have q7 := step y H7 y7
      have hx : Loc (cxC X (x :: ys) sc s2 H2 fp pins C).env.scope x := .inl (lookup_relabel_local S.var)
      refine wpAny_mono (pg_name (X := cxC X (x :: ys) sc s2 H2 fp pins C) (i := 0) (x := x) (pos := px) hN rfl hx (.inr (lookup_relabel_local S.var)) _ s7 _ H7 y u (fun σ' H' => σ' = some y :: look σ js ∧ H' = H7) I7' r7 ⟨rfl, rfl⟩) (fun _ s8 ⟨σ8, H8, I8, e8, e8'⟩ => ?_) fun _ _ z => z
      subst e8; subst e8'
      have again : ∀ {s9 : Shared} {H9 : Hp} {m' : Nat} {a' : List V}, Inv (cxC X (x :: ys) sc s2 H2 fp pins C) ([] ++ pinsAt fp s7.heap) (some y :: look σ js) H9 s9 → m' < n → W (i + 1) m' a' H9 →
          ∃ m, m < n ∧ ∃ i a H' z, Inv (cxC X (x :: ys) sc s2 H2 fp pins C) [] (z :: look σ js) H' s9 ∧ tn i s9.heap ∧ (∀ b ∈ fp, H' b = none) ∧ W i m a H' := fun {s9 H9 m' a'} I9 hm w9 =>
        ⟨m', hm, i + 1, a', H9, some y, I9.unpinned, T.keep _ _ _ t7 fun b hb o e => (I9.pin (b, o) (List.mem_append_right _ (List.mem_append_right _ (mem_pinsAt hb e)))).1, fun b hb => by
          obtain ⟨o, e, _⟩ := T.obj _ _ t7 b hb
          exact (I9.pin (b, o) (List.mem_append_right _ (List.mem_append_right _ (mem_pinsAt hb e)))).2.1, w9⟩
      refine wpAny_mono (hifs s2 H2 fp pins C _ s8 _ H8 _ I8 q7) (fun ok s9 ⟨H9, I9, q9⟩ => ?_) fun _ _ z => z
      cases ok with
      | false =>
        rw [if_neg Bool.false_ne_true] at q9 ⊢
        obtain ⟨m', hm, w9⟩ := q9
        exact again I9 hm w9
      | true =>
        rw [if_pos rfl] at q9 ⊢
        refine wpAny_mono (helt s2 H2 fp pins C _ s9 _ H9 _ I9 q9) (fun ev s10 ⟨ve, H10, I10, r10, e10, m', hm, w10⟩ => ?_) fun _ _ z => z
        refine wpAny_mono (mt_append (X := cxC X (x :: ys) sc s2 H2 fp pins C) _ s10 _ H10 (.ref D) [ve] (.ref D) [ev] (fun _ H' => H' = upd H10 D (.lst (a ++ [ve]))) I10 rfl (.cons r10 .nil) ⟨D, a, ve, rfl, rfl, e10, hz, rfl⟩) (fun _ s11 ⟨_, H11, I11, _, e11⟩ => ?_) fun _ _ z => z
        subst e11
        exact again I11 hm w10
  exact codeAny_compStart_list (loop _ rfl) (T.self _ 0 _ _ _ (T.keep _ _ _ st2 fun b hb o e => kp b o e) (loop _ rfl))
theorem pe_comp (hc : (0 : Nat) = 0) (S : ScOk X sc x) (Fo : FreeOk X sc ys js) (hN : (x :: ys).Nodup) (hi : PI X (.Name x px) iter wi)
    (hifs : ∀ s H fp pins C, PIfs (cxC X (x :: ys) sc s H fp pins C) ifs tc) (helt : ∀ s H fp pins C, PE (cxC X (x :: ys) sc s H fp pins C) elt te) (hs : ∀ v, foldedSetIterable iter X.env v = pure v := by intro _; rfl) :
    PE X (.ListComp elt [⟨.Name x px, iter, ifs, 0⟩] sc pos) (tComp wi js tc te) := by
  intro pins s σ H Q I h
  rw [eval_ListComp]
  refine wpAny_comprehension_free rfl hs (closure_of (S.cells I)) S.kind S.names (comp_core (Q := Q) hc S Fo hN hi hifs helt I h fun D C H' s' m I' hn fo q => ?_)
  exact ⟨m, hn, fun h' sb => ⟨.ref D, H', I'.turned (t' := s'.toks) (fun b o ne e => sb.extBut b o ne e) fo.1 fo.2.1 fo.2.2.2.1 fo.2.2.2.2.1 fo.2.2.2.2.2, rfl, q⟩⟩
end
end L2

end

section
set_option autoImplicit false
set_option maxRecDepth 100000
set_option linter.all false
namespace L2
open PySem PySem.Spec PyProof.Rows EoD Eo

mutual
inductive Rep (K : PySem.W.Frag) (H : Hp) : V → PyData → Prop
  | non : Rep K H .non .none
  | bl (b : Bool) : Rep K H (.bl b) (.bool b)
  | int (i : Int) : Rep K H (.int i) (.int i)
  | tup {a : Addr} {xs : List V} {ds : List PyData} : SqT K H a xs → Reps K H xs ds → Rep K H (.ref a) (.tuple ds)
  | lst {a : Addr} {xs : List V} {ds : List PyData} : SqL K H a xs → Reps K H xs ds → Rep K H (.ref a) (.list ds)
inductive Reps (K : PySem.W.Frag) (H : Hp) : List V → List PyData → Prop
  | nil : Reps K H [] []
  | cons {v : V} {d : PyData} {vs : List V} {ds : List PyData} : Rep K H v d → Reps K H vs ds → Reps K H (v :: vs) (d :: ds)
end
mutual
theorem Rep.reads {X : Cx} {pins : List (Addr × Obj)} {σ : St} {H : Hp} {s : Shared} (I : Inv X pins σ H s) : ∀ {v : V} {d : PyData} {u : Value}, Rep X.K H v d → RelV v u → ∃ as, Reads s.heap u d as
  | _, _, _, .non, r => by cases r; exact ⟨_, .none⟩
  | _, _, _, .bl b, r => by cases r; exact ⟨_, .bool b⟩
  | _, _, _, .int i, r => by obtain ⟨t, rfl⟩ := r; exact ⟨_, .int i t⟩
  | _, _, _, .tup h rs, r => by
    cases r
    obtain ⟨its, rv, ⟨o, e, c, n, d⟩, _⟩ := I.tuple h
    obtain ⟨as, ra⟩ := Reps.reads I rs rv
    exact ⟨_, .tuple e c d ra⟩
  | _, _, _, .lst h rs, r => by
    cases r
    obtain ⟨its, rv, ⟨o, n, e, c, _, d⟩, _⟩ := I.list h
    obtain ⟨as, ra⟩ := Reps.reads I rs rv
    exact ⟨_, .list e c d ra⟩
theorem Reps.reads {X : Cx} {pins : List (Addr × Obj)} {σ : St} {H : Hp} {s : Shared} (I : Inv X pins σ H s) : ∀ {vs : List V} {ds : List PyData} {us : List Value}, Reps X.K H vs ds → Vals vs us → ∃ as, ReadsAll s.heap us ds as
  | _, _, _, .nil, .nil => ⟨_, .nil⟩
  | _, _, _, .cons a b, .cons r t => by
    obtain ⟨as, ra⟩ := Rep.reads I a r
    obtain ⟨bs, rb⟩ := Reps.reads I b t
    exact ⟨_, .cons ra rb⟩
end
def rEqD (K : PySem.W.Frag) : R2 := fun x y H Q => ∃ dx dy, Rep K H x dx ∧ Rep K H y dy ∧ SeqAt.shaped dx = true ∧ SeqAt.shaped dy = true ∧ Q (.bl (PyData.eqv dx dy)) H
def rNeD (K : PySem.W.Frag) : R2 := fun x y H Q => ∃ dx dy, Rep K H x dx ∧ Rep K H y dy ∧ SeqAt.shaped dx = true ∧ SeqAt.shaped dy = true ∧ Q (.bl (!PyData.eqv dx dy)) H
section
variable {X : Cx}
theorem op_eqD (hu : X.A.units + 64 < cLine) : OpR X (compareOp .Eq) (rEqD X.K) := by
  intro pins s σ H x y v u Q I rx ry ⟨dx, dy, hx, hy, sx, sy, q⟩
  obtain ⟨as, ra⟩ := hx.reads I rx
  obtain ⟨bs, rb⟩ := hy.reads I ry
  exact eq_dataH ra rb sx sy hu ⟨.bl _, H, I, rfl, q⟩
theorem op_neD (hu : X.A.units + 64 < cLine) : OpR X (compareOp .NotEq) (rNeD X.K) := by
  intro pins s σ H x y v u Q I rx ry ⟨dx, dy, hx, hy, sx, sy, q⟩
  obtain ⟨as, ra⟩ := hx.reads I rx
  obtain ⟨bs, rb⟩ := hy.reads I ry
  exact ne_dataH ra rb sx sy hu ⟨.bl _, H, I, rfl, q⟩
end

def wd (x : W) : PyData := .tuple [.int x.1, .bool x.2]
def pd (p : W × W) : PyData := .tuple [wd p.1, wd p.2]
theorem eqv_wd (x y : W) : PyData.eqv (wd x) (wd y) = decide (x = y) := by
  obtain ⟨a, b⟩ := x
  obtain ⟨c, d⟩ := y
  simp only [wd, PyData.eqv, PyData.eqvAll, Bool.and_true]
  rw [Bool.eq_iff_iff]
  simp [Prod.ext_iff]
theorem eqv_pd (x y : W × W) : PyData.eqv (pd x) (pd y) = decide (x = y) := by
  obtain ⟨a, b⟩ := x
  obtain ⟨c, d⟩ := y
  have e : PyData.eqv (pd (a, b)) (pd (c, d)) = (PyData.eqv (wd a) (wd c) && (PyData.eqv (wd b) (wd d) && true)) := by simp only [pd, PyData.eqv, PyData.eqvAll]
  rw [e, eqv_wd, eqv_wd, Bool.and_true, Bool.eq_iff_iff]
  simp
theorem eqvAll_map {α : Type} [DecidableEq α] {f : α → PyData} (h : ∀ x y, PyData.eqv (f x) (f y) = decide (x = y)) : ∀ l m : List α, PyData.eqvAll (l.map f) (m.map f) = decide (l = m)
  | [], [] => by simp [PyData.eqvAll]
  | [], _ :: _ => by simp [PyData.eqvAll]
  | _ :: _, [] => by simp [PyData.eqvAll]
  | a :: l, b :: m => by
    simp only [List.map_cons, PyData.eqvAll, h, eqvAll_map h l m]
    rw [Bool.eq_iff_iff]
    simp

def IsW (H : Hp) (v : V) (x : W) : Prop := ∃ p, v = .ref p ∧ H p = some (.tup [.int x.1, .bl x.2])
def IsP (H : Hp) (v : V) (p : W × W) : Prop := ∃ q a b, v = .ref q ∧ H q = some (.tup [a, b]) ∧ IsW H a p.1 ∧ IsW H b p.2
abbrev Ws (H : Hp) : List V → List W → Prop := Paired (IsW H)
abbrev Ps (H : Hp) : List V → List (W × W) → Prop := Paired (IsP H)
section
variable {K : PySem.W.Frag} {H H' : Hp} {v : V} {x : W} {p : W × W}
theorem IsW.same (e : Same H H') (h : IsW H v x) : IsW H' v x := let ⟨q, h1, h2⟩ := h; ⟨q, h1, e _ _ h2⟩
theorem IsP.same (e : Same H H') (h : IsP H v p) : IsP H' v p := let ⟨q, a, b, h1, h2, h3, h4⟩ := h; ⟨q, a, b, h1, e _ _ h2, h3.same e, h4.same e⟩
theorem IsW.rep (h : IsW H v x) : Rep K H v (wd x) := by
  obtain ⟨q, rfl, h2⟩ := h
  exact .tup (SqT.of h2) (.cons (.int _) (.cons (.bl _) .nil))
theorem IsP.rep (h : IsP H v p) : Rep K H v (pd p) := by
  obtain ⟨q, a, b, rfl, h2, h3, h4⟩ := h
  exact .tup (SqT.of h2) (.cons h3.rep (.cons h4.rep .nil))
theorem Ws.same (e : Same H H') {vs : List V} {xs : List W} (h : Ws H vs xs) : Ws H' vs xs := Paired.mapP h fun _ _ z => z.same e
theorem Ps.same (e : Same H H') {vs : List V} {xs : List (W × W)} (h : Ps H vs xs) : Ps H' vs xs := Paired.mapP h fun _ _ z => z.same e
theorem Ws.reps : ∀ {vs : List V} {xs : List W}, Ws H vs xs → Reps K H vs (xs.map wd)
  | _, _, .nil => .nil
  | _, _, .cons a b => .cons a.rep (Ws.reps b)
theorem Ps.reps : ∀ {vs : List V} {xs : List (W × W)}, Ps H vs xs → Reps K H vs (xs.map pd)
  | _, _, .nil => .nil
  | _, _, .cons a b => .cons a.rep (Ps.reps b)
theorem paired_get {α β : Type} {F : α → β → Prop} : ∀ {l : List α} {m : List β}, Paired F l m → ∀ {i : Nat} {a : α}, l[i]? = some a → ∃ b, m[i]? = some b ∧ F a b
  | _, _, .nil, i, a, h => by simp at h
  | _, _, .cons f t, 0, a, h => by simp at h; subst h; exact ⟨_, rfl, f⟩
  | _, _, .cons f t, i + 1, a, h => by
    obtain ⟨b, h1, h2⟩ := paired_get t (i := i) (a := a) (by simpa using h)
    exact ⟨b, by simpa using h1, h2⟩
theorem paired_get' {α β : Type} {F : α → β → Prop} : ∀ {l : List α} {m : List β}, Paired F l m → ∀ {i : Nat} {b : β}, m[i]? = some b → ∃ a, l[i]? = some a ∧ F a b
  | _, _, .nil, i, a, h => by simp at h
  | _, _, .cons f t, 0, a, h => by simp at h; subst h; exact ⟨_, rfl, f⟩
  | _, _, .cons f t, i + 1, a, h => by
    obtain ⟨b, h1, h2⟩ := paired_get' t (i := i) (b := a) (by simpa using h)
    exact ⟨b, by simpa using h1, h2⟩
end

abbrev R3 (p : W × Addr × V) (q : W × Addr × Value) : Prop := p.1 = q.1 ∧ p.2.1 = q.2.1 ∧ RelV p.2.2 q.2.2
def DO (P : Program) (w : World) (a : Addr) (xs : List (W × Addr × V)) : HO := .ext fun h => (a == sysModules) = false ∧ ∃ ys : List (W × Addr × Value), Paired R3 xs ys ∧
  ∃ o es ep, h.get? a = some o ∧ o.ExactDict ∧ o.data = .dict es ep ∧ es.toList = ys.map (entryOfKey (wordKind P w)) ∧ (ys.map (·.1)).Nodup
theorem do_ok {P : Program} {w : World} {H : Hp} {h : Heap} {a : Addr} {xs : List (W × Addr × V)} {ys : List (W × Addr × Value)} {o : Obj} {es : Array DictEntry} {ep : Nat} (hd : (a == sysModules) = false) (r : Paired R3 xs ys) (e : h.get? a = some o) (c : o.ExactDict) (d : o.data = .dict es ep)
    (t : es.toList = ys.map (entryOfKey (wordKind P w))) (n : (ys.map (·.1)).Nodup) : ObjOk P w H h a (DO P w a xs) :=
  ⟨⟨hd, ys, r, o, es, ep, e, c, d, t, n⟩, ⟨o, e⟩, fun h1 h2 ⟨hd, ys, r, o, es, ep, e, c⟩ k => ⟨hd, ys, r, o, es, ep, k o e, c⟩⟩
/-- the dict at a holds the pairs kvs -/
structure DW (P : Program) (w : World) (H : Hp) (a : Addr) (kvs : List (W × V)) : Prop where
  ex : ∃ xs : List (W × Addr × V), H a = some (DO P w a xs) ∧ (∀ x ∈ xs, H x.2.1 = some (.tup [.int x.1.1, .bl x.1.2])) ∧ kvs = xs.map fun x => (x.1, x.2.2)
  len : kvs.length ≤ 1000
theorem DW.same {P : Program} {w : World} {H H' : Hp} {a : Addr} {kvs : List (W × V)} (e : Same H H') (d : DW P w H a kvs) : DW P w H' a kvs :=
  ⟨let ⟨xs, h1, h2, h3⟩ := d.ex; ⟨xs, e _ _ h1, fun x hx => e _ _ (h2 x hx), h3⟩, d.len⟩
theorem val_rel {xs : List (W × Addr × V)} {ys : List (W × Addr × Value)} (r : Paired R3 xs ys) (k : W) : RelO (valV (xs.map fun x => (x.1, x.2.2)) k) ((atKey ys k).map (·.2)) := by
  induction r with
  | nil => exact True.intro
  | @cons p q xs ys h t ih =>
    obtain ⟨h1, h2, h3⟩ := h
    rw [List.map_cons]
    by_cases e : p.1 = k
    · have e' : q.1 = k := h1.symm.trans e
      rw [valV_pos (p := (p.1, p.2.2)) e]
      have : atKey (q :: ys) k = some q.2 := by simp [atKey, List.find?_cons, e']
      rw [this]
      exact h3
    · have e' : ¬ q.1 = k := fun z => e (h1.trans z)
      rw [valV_neg (p := (p.1, p.2.2)) e]
      have : atKey (q :: ys) k = atKey ys k := by simp [atKey, List.find?_cons, e']
      rw [this]
      exact ih
section
variable {X : Cx} {pins : List (Addr × Obj)} {σ : St} {H : Hp} {s : Shared} {a : Addr} {kvs : List (W × V)} {A : Around} {E : Value → Shared → Prop}
theorem key_at (I : Inv X pins σ H s) {p : Addr} {x : W} (h : H p = some (.tup [.int x.1, .bl x.2])) : (wordKind X.prog X.w).is s.heap x p := by
  obtain ⟨_, its, r, o, e, c, n, d⟩ := (show ObjOk X.prog X.w H s.heap p (.tup _) from I.hok p _ h)
  obtain ⟨u, v, rfl, ⟨t, rfl⟩, rb⟩ := vals2 r
  cases rb
  exact word_is e c d rfl
structure At (X : Cx) (H : Hp) (s : Shared) (a : Addr) (kvs : List (W × V)) (xs : List (W × Addr × V)) (ys : List (W × Addr × Value)) : Prop where
  eH : H a = some (DO X.prog X.w a xs)
  tups : ∀ x ∈ xs, H x.2.1 = some (.tup [.int x.1.1, .bl x.1.2])
  kv : kvs = xs.map fun x => (x.1, x.2.2)
  nm : (a == sysModules) = false
  rel : Paired R3 xs ys
  dict : s.heap.DictOfH (wordKind X.prog X.w) a ys
theorem DW.at (I : Inv X pins σ H s) (d : DW X.prog X.w H a kvs) : ∃ xs ys, At X H s a kvs xs ys := by
  obtain ⟨xs, h1, h2, h3⟩ := d.ex
  obtain ⟨⟨hd, ys, r, o, es, ep, e, c, dd, t, n⟩, _⟩ := (show ObjOk X.prog X.w H s.heap a (DO X.prog X.w a xs) from I.hok a _ h1)
  refine ⟨xs, ys, h1, h2, h3, hd, r, o, es, ep, e, c, dd, t, fun y hy => ?_, n⟩
  obtain ⟨i, hi⟩ := List.mem_iff_getElem?.mp hy
  obtain ⟨x, hx, r1, r2, _⟩ := paired_get' r hi
  rw [← r1, ← r2]
  exact key_at I (h2 x (List.mem_of_getElem? hx))
theorem At.val {xs : List (W × Addr × V)} {ys : List (W × Addr × Value)} (t : At X H s a kvs xs ys) (k : W) : RelO (valV kvs k) ((atKey ys k).map (·.2)) := by
  rw [t.kv]
  exact val_rel t.rel k
theorem At.some_eq {xs : List (W × Addr × V)} {ys : List (W × Addr × Value)} (t : At X H s a kvs xs ys) (k : W) : (atKey ys k).isSome = (valV kvs k).isSome := by
  rw [(t.val k).isSome_eq]
  simp
def rNiW (P : Program) (w : World) : R2 := fun x y H Q => ∃ a k kvs, y = .ref a ∧ IsW H x k ∧ DW P w H a kvs ∧ Q (.bl (!(valV kvs k).isSome)) H
theorem op_niW (hu : X.A.units + 1 < cLine) : OpR X (compareOp .NotIn) (rNiW X.prog X.w) := by
  intro pins s σ H x y v u Q I rx ry ⟨a, k, kvs, e, ⟨p, ep, hp⟩, d, q⟩
  subst e; subst ep
  cases rx; cases ry
  obtain ⟨xs, ys, t⟩ := d.at I
  exact wpAny_notIn_heap (wordKind_room hu) (key_at I hp) t.nm t.dict (by rw [t.some_eq]; exact ⟨.bl _, H, I.tok _, rfl, q⟩)
def tWGet (P : Program) (w : World) (td ty : TE) : TE := fun σ H Q => td σ H fun x H1 => ty σ H1 fun y H2 => ∃ a k kvs v, x = .ref a ∧ IsW H2 y k ∧ DW P w H2 a kvs ∧ valV kvs k = some v ∧ Q v H2
theorem At.ty {xs : List (W × Addr × V)} {ys : List (W × Addr × Value)} (t : At X H s a kvs xs ys) : s.TypeIs (.ref a) "dict" := t.dict.typeIs
theorem pe_wget {o i : Expr} {pos : Pos} {td ty : TE} (hu : X.A.units + 1 < cLine) (ho : PE X o td) (hi : PE X i ty) (hs : NoSl i) : PE X (.Subscript o i pos) (tWGet X.prog X.w td ty) := by
  intro pins s σ H Q I h
  refine subD_of PySem.F.slot_dict_getitem.lookup hs (thn (ho pins s σ H _ I h) fun u s1 ⟨x, H1, I1, rx, q1⟩ => thn (hi pins s1 σ H1 _ I1 q1) fun iv s2 ⟨y, H2, I2, ry, a, k, kvs, v, e, ⟨p, ep, hp⟩, d, l, q2⟩ => ?_)
  subst e; subst ep
  cases rx; cases ry
  obtain ⟨xs, ys, t⟩ := d.at I2
  refine ⟨t.ty, ?_⟩
  have r := t.val k
  rw [l] at r
  obtain ⟨w', hw, rw'⟩ := r.some_of
  obtain ⟨z, hz, ez⟩ := Option.map_eq_some_iff.mp hw
  exact wpAny_getItem_heap (wordKind_room hu) (key_at I2 hp) t.dict hz (by rw [ez]; exact ⟨v, H2, I2.tok _, rw', q2⟩)
/-- d[y] = v, a new key -/
def sWPut (P : Program) (w : World) (td ty tv : TE) : TS := fun D σ H => tv σ H fun v H1 => td σ H1 fun x H2 => ty σ H2 fun y H3 => ∃ a k kvs, x = .ref a ∧ IsW H3 y k ∧ DW P w H3 a kvs ∧ valV kvs k = none ∧ kvs.length < 1000 ∧
  ∀ o, DW P w (upd H3 a o) a (kvs ++ [(k, v)]) → D.nx σ (upd H3 a o)
theorem atKey_none {xs : List (W × Addr × V)} {ys : List (W × Addr × Value)} (t : At X H s a kvs xs ys) {k : W} (l : valV kvs k = none) : atKey ys k = none := by
  have r := t.some_eq k
  rw [l] at r
  cases q : atKey ys k with
  | none => rfl
  | some z => rw [q] at r; cases r
/-- behind a store of a new key -/
theorem put_new {h' : Heap} {t' : Nat} {p : Addr} {k : W} {v : V} {u : Value} {xs : List (W × Addr × V)} {ys : List (W × Addr × Value)} (I : Inv X pins σ H s) (t : At X H s a kvs xs ys) (hp : H p = some (.tup [.int k.1, .bl k.2])) (rv : RelV v u) (l : valV kvs k = none)
    (hn : kvs.length < 1000) (dd : h'.DictOfH (wordKind X.prog X.w) a (storedH ys k p u)) (hs : Heap.SameBut a s.heap h') :
    Inv X pins σ (upd H a (DO X.prog X.w a (xs ++ [(k, p, v)]))) { s with heap := h', toks := t' } ∧ DW X.prog X.w (upd H a (DO X.prog X.w a (xs ++ [(k, p, v)]))) a (kvs ++ [(k, v)]) := by
  rw [storedH_new (atKey_none t l)] at dd
  obtain ⟨o, es, ep, e, c, d, es', _, n⟩ := dd
  have rel : Paired R3 (xs ++ [(k, p, v)]) (ys ++ [(k, p, u)]) := t.rel.snoc ⟨rfl, rfl, rv⟩
  have tupNe : ∀ {b : Addr} {zs : List V}, H b = some (.tup zs) → b ≠ a := fun hb => ne_of hb t.eH (fun z => nomatch z)
  refine ⟨d_write I (by rw [t.eH]; exact True.intro) hs ⟨o, e⟩ (do_ok t.nm rel e c d es' n), ⟨xs ++ [(k, p, v)], upd_same, fun x hx => ?_, ?_⟩, ?_⟩
  · rcases List.mem_append.mp hx with hx | hx
    · rw [upd_ne (tupNe (t.tups x hx))]
      exact t.tups x hx
    · have ex : x = (k, p, v) := by simpa using hx
      subst ex
      rw [upd_ne (tupNe hp)]
      exact hp
  · rw [t.kv, List.map_append]
    rfl
  · rw [List.length_append]
    show kvs.length + 1 ≤ 1000
    omega
theorem ys_len {xs : List (W × Addr × V)} {ys : List (W × Addr × Value)} (t : At X H s a kvs xs ys) : ys.length = kvs.length := by
  rw [t.kv, List.length_map, ← Paired.length t.rel]
theorem ps_wput {o i value : Expr} {pos pos' : Pos} {td ty tv : TE} (hu : X.A.units + 1 < cLine) (ho : PE X o td) (hi : PE X i ty) (hv : PE X value tv) (hs : swapsWith value (some (.Subscript o i pos')) pos.line X.env = pure false := by rfl) :
    PS X (.Assign [.Subscript o i pos'] value pos) (sWPut X.prog X.w td ty tv) := by
  intro pins s σ H D I h
  refine wpAny_Assign_Subscript (thn (hv pins s σ H _ I h) fun r s1 ⟨v, H1, I1, rv, q1⟩ => thn (ho pins s1 σ H1 _ I1 q1) fun u s2 ⟨x, H2, I2, rx, q2⟩ => thn (hi pins s2 σ H2 _ I2 q2) fun iv s3 ⟨y, H3, I3, ry, a, k, kvs, e, ⟨p, ep, hp⟩, d, l, hn, q3⟩ => ?_) hs
  subst e; subst ep
  cases rx; cases ry
  obtain ⟨xs, ys, t⟩ := d.at I3
  have hz : ys.length ≤ sizeLine := by rw [ys_len t, sizeLine_eq]; omega
  refine wpAny_setItem_heap (hsz := hz) (wordKind_room hu) (key_at I3 hp) t.dict fun h' dd sb => ?_
  obtain ⟨I4, d4⟩ := put_new (t' := s3.toks + (wordKind X.prog X.w).draws k) I3 t hp rv l hn dd sb
  exact ⟨σ, _, I4, q3 _ d4⟩
theorem dw_empty (I : Inv X pins σ H s) : Inv X pins σ (upd H s.heap.objs.size (DO X.prog X.w s.heap.objs.size [])) { s with heap := s.heap.push { cls := .type "dict", data := .dict #[] } } ∧ DW X.prog X.w (upd H s.heap.objs.size (DO X.prog X.w s.heap.objs.size [])) s.heap.objs.size [] := by
  have hb := I.big
  have nm : (s.heap.objs.size == sysModules) = false := beq_eq_false_iff_ne.mpr (Ne.symm (Nat.ne_of_lt hb))
  refine ⟨I.laid (t' := s.toks) (fun _ _ q => Heap.get?_push_of_some _ q) (Nat.le_refl _) (do_ok (ys := []) nm .nil (Heap.get?_push_size _ rfl) ⟨rfl, rfl, rfl⟩ rfl rfl List.nodup_nil), ⟨[], upd_same, fun x hx => by simp at hx, rfl⟩, Nat.zero_le _⟩
/-- {k: v} -/
def tWOne (P : Program) (w : World) (tk tv : TE) : TE := fun σ H Q => ∀ p o, H p = none → tk σ (upd H p o) fun x H1 => tv σ H1 fun y H2 => ∃ k, IsW H2 x k ∧ H2 p = some o ∧ ∀ o', DW P w (upd H2 p o') p [(k, y)] → Q (.ref p) (upd H2 p o')
theorem pe_wone {ke ve : Expr} {pos : Pos} {tk tv : TE} (hu : X.A.units < cLine) (hk : PE X ke tk) (hv : PE X ve tv) : PE X (.Dict [some ke] [ve] pos) (tWOne X.prog X.w tk tv) := by
  intro pins s σ H Q I h
  obtain ⟨I1, d1⟩ := dw_empty I
  have q := h s.heap.objs.size (DO X.prog X.w s.heap.objs.size []) (I.hok.fresh (Nat.le_refl _))
  refine wpAny_Dict_any (by rfl) rfl (by simp) (by simp) (pairTrees_cons_walk (thn (hk pins _ σ _ _ I1 q) fun kv s2 ⟨x, H2, I2, rx, q2⟩ => thn (hv pins s2 σ H2 _ I2 q2) fun vv s3 ⟨y, H3, I3, ry, k, ⟨p, ep, hp⟩, e3, q3⟩ => pairTrees_nil_walk ?_))
  subst ep
  cases rx
  have d3 : DW X.prog X.w H3 s.heap.objs.size [] := ⟨⟨[], e3, fun x hx => by simp at hx, rfl⟩, Nat.zero_le _⟩
  obtain ⟨xs, ys, t⟩ := d3.at I3
  have hz : ys.length ≤ sizeLine := by rw [ys_len t]; exact Nat.zero_le _
  unfold storeAll
  rw [List.forIn_cons]
  refine wpAny_bind (wpAny_bind (wpAny_dictSet_heap (hsz := hz) (knd := wordKind X.prog X.w) hu (key_at I3 hp) t.dict fun h' dd sb => wpAny_pure ?_))
  dsimp only
  rw [List.forIn_nil]
  obtain ⟨I4, d4⟩ := put_new (t' := s3.toks + (wordKind X.prog X.w).draws k) I3 t hp ry rfl (by decide) dd sb
  exact wpAny_pure ⟨.ref s.heap.objs.size, _, I4, rfl, q3 _ d4⟩
end
end L2

end

section
set_option autoImplicit false
set_option maxRecDepth 100000
set_option linter.all false
namespace L2
open PySem PySem.Spec PyProof.Rows EoD Eo

theorem ns_one {h : Heap} {a : Addr} {m m' : Str → Option Value} (x : h.Ns a m) (y : h.Ns a m') : m = m' := by
  obtain ⟨o, es, ep, e, d, _, f⟩ := x
  obtain ⟨o', es', ep', e', d', _, f'⟩ := y
  rw [e] at e'
  cases e'
  rw [d] at d'
  cases d'
  funext n
  rw [← f n, ← f' n]
section
variable {X : Cx} {pins : List (Addr × Obj)} {σ : St} {H : Hp} {s : Shared}
theorem news_keep {base h h' : Heap} {L : Addr} {m m' : Str → Option Value} {q : List (Addr × Obj)} (F : Fr base L h m) (F' : Fr base L h' m') (N : News base L h' q) (hq : ∀ p ∈ allNews base h L, p ∈ q) : ∀ b o, b ≠ L → h.get? b = some o → h'.get? b = some o := fun b o hb e => by
  cases z : base.get? b with
  | some u =>
    have := F.keep b u z
    rw [e] at this
    cases this
    exact F'.keep b _ z
  | none => exact (N (b, o) (hq _ (mem_allNews hb z e))).1
end

section
variable {prog : Program} {w : World} {A : Around} {E : Value → Shared → Prop} {s : Shared} {Q : Bool → Shared → Prop}
end

section
variable {prog : Program} {w : World} {A : Around} {E : Value → Shared → Prop} {s : Shared}
end
section
variable {X : Cx}
end
end L2

end

section
set_option autoImplicit false
set_option maxRecDepth 100000
set_option linter.all false
namespace L2
open PySem PySem.Spec PyProof.Rows EoD Eo
section
variable {X : Cx}
theorem vals_bools : ∀ {bs : List Bool} {us : List Value}, Vals (bs.map V.bl) us → LSm.BoolsAre us bs
  | [], _, .nil => .nil
  | b :: bs, _, .cons r t => by cases r; exact .cons b (vals_bools t)
/-- all([..]) of truths -/
theorem call_allB (hc : (0 : Nat) = 0) : CallR X (.builtin "all") (fun xs H Q => ∃ (p : Addr) (bs : List Bool), xs = [.ref p] ∧ SqL X.K H p (bs.map V.bl) ∧ Q (.bl (bs.all id)) H) := by
  intro pins s σ H xs us Q I r ⟨p, bs, e, hq, q⟩
  subst e
  obtain ⟨u, rfl, ru⟩ := vals1 r
  cases ru
  obtain ⟨its, rv, pl, hz⟩ := I.list hq
  obtain ⟨m, F⟩ := I.fr
  refine EoH.all_bools F (news_all (g := X.base) (h := s.heap) (L := X.env.locals)) I.hdn pl.isList (vals_bools rv) fun h' tk F' N' => ⟨.bl _, H, ?_, rfl, q⟩
  have k := news_keep F F' N' fun _ hp => hp
  have nL : ∀ b u, H b = some u → b ≠ X.env.locals := fun b u e z => by rw [z, I.free] at e; cases e
  have there : ∀ b o, s.heap.get? b = some o → ∃ o', h'.get? b = some o' := fun b o e => by
    by_cases hb : b = X.env.locals
    · obtain ⟨o', _, _, e', _⟩ := F'.ns
      exact ⟨o', by rw [hb]; exact e'⟩
    · exact ⟨o, k b o hb e⟩
  refine I.step (g' := s.gens) (d' := s.drawn) (ch := []) (fun _ z => nomatch z) (fun b o h1 _ _ e _ => k b o h1 e) (fun b o h1 _ _ e _ => ⟨o.slots, k b o h1 e⟩) (fun b o _ e n => n) (fun b o _ e => there b o e) (fun _ _ e => e) (fun _ _ _ e => e) (fun b ps e => ⟨#[], by rw [e]; simp⟩)
    (fun m' hm' => by rw [← ns_one F.ns hm']; exact F'.ns) (fun b u w => (I.hok b u w).stay (fun c v hc z => ?_) (fun _ z => z) fun _ _ z => z) I.bare
  rcases hc with rfl | hc
  · exact k _ v (nL _ _ w) z
  · exact k _ v (nL _ _ hc) z
/-- isinstance(x, T) of a built-in type -/
theorem call_isinst : CallR X (.builtin "isinstance") (fun xs H Q => ∃ x T t b, xs = [x, .ty T] ∧ TyOf X.K H x t ∧ PySem.W.kitOne X.K t (.type T) = some b ∧ Q (.bl b) H) := by
  intro pins s σ H xs us Q I r ⟨x, T, t, b, e, ty, hk, q⟩
  subst e
  obtain ⟨u, v, rfl, ru, rv⟩ := vals2 r
  cases rv
  exact isinst_ok I ru ty hk fun tk => ⟨.bl b, H, I.tok tk, rfl, q⟩
/-- list(reversed(e)) -/
def tRev (K : PySem.W.Frag) (te : TE) : TE := fun σ H Q => te σ H fun x H1 => ∃ p ys, x = .ref p ∧ SqL K H1 p ys ∧ ys.length ≤ 1000 ∧ ∀ l, H1 l = none → Q (.ref l) (upd H1 l (.lst ys.reverse))
theorem rev_vals {ys : List V} {its : List Value} {acc : Array Value} (r : Vals ys its) (h : ItemsOf (fun i v => its.toArray[its.toArray.size - 1 - i]? = some v) acc its.toArray.size) : acc.toList = its.reverse := by
  apply List.ext_getElem?
  intro i
  have hs : acc.toList.length = its.length := by simpa using h.1
  by_cases hi : i < its.length
  · have hi' : i < acc.size := by simpa using (show i < acc.toList.length by omega)
    have g : its.toArray[its.toArray.size - 1 - i]? = some acc[i] := h.2 i acc[i] (Array.getElem?_eq_getElem hi')
    rw [← Array.getElem?_toList] at g
    have e1 : acc.toList[i]? = some acc[i] := by simp [hi']
    rw [e1, List.getElem?_reverse hi, ← g]
    simp
  · rw [List.getElem?_eq_none (by omega), List.getElem?_eq_none (by rw [List.length_reverse]; omega)]
theorem pe_listrev {e : Expr} {te : TE} {p1 p2 p3 p4 : Pos} (hc : X.calm = true) (he : PE X e te) (g1 : Gl X "list") (m1 : X.mg "list" = none) (g2 : Gl X "reversed") (m2 : X.mg "reversed" = none) (v2 : bootBuiltins "reversed" = some (.type "reversed"))
    (s1 : starEach [.Call (.Name "reversed" p2) [e] [] p3] X.env = [(false, eval (.Call (.Name "reversed" p2) [e] [] p3) X.env)] := by rfl) (s2 : starEach [e] X.env = [(false, eval e X.env)] := by rfl) :
    PE X (.Call (.Name "list" p1) [.Call (.Name "reversed" p2) [e] [] p3] [] p4) (tRev X.K te) := by
  intro pins s σ H Q I h
  refine wpAny_Call_Name_kw (ld_blt I g1 m1 boot_list (PyProof.Rows.callWith_type1 ?_ s1 rfl))
  rw [s1]
  refine Calls.spliced_cons ?_
  refine wpAny_Call_Name_kw (ld_blt I g2 m2 v2 (PyProof.Rows.callWith_type1 ?_ s2 rfl))
  rw [s2]
  refine Calls.spliced_cons (thn (he pins s σ H _ I h) fun u s1 ⟨x, H1, I1, rx, p, ys, ex, hq, hl, q⟩ => Calls.spliced_nil ?_)
  subst ex
  cases rx
  obtain ⟨its, rv, pl, hz⟩ := I1.list hq
  have hp : p < s1.heap.objs.size := let ⟨_, e, _⟩ := pl.isList; Heap.lt_size e
  refine call_reversed_list pl.isList (Calls.spliced_nil ?_)
  have I2 : Inv X pins σ H1 { s1 with heap := s1.heap.push (revObj p ((its.toArray.size : Int) - 1)) } := I1.kept (t' := s1.toks) fun b o e => Heap.get?_push_of_some _ e
  refine list_rev (s := { s1 with heap := s1.heap.push (revObj p ((its.toArray.size : Int) - 1)) }) (items := its.toArray) (I.ok.hd hc) ⟨_, Heap.get?_push_size _ rfl, rfl, rfl⟩ (pl.isList.push _) (Nat.ne_of_lt hp) (by rw [List.size_toArray, ← rv.length]; exact hz) fun h' tk acc c k e io => ?_
  have er : acc.toList = its.reverse := rev_vals rv io
  have fr : H1 (s1.heap.push (revObj p ((its.toArray.size : Int) - 1))).objs.size = none := I2.hok.fresh (Nat.le_refl _)
  refine ⟨.ref _, _, I1.laid (t' := tk) (fun b o eb => k b o (Nat.ne_of_lt (Heap.lt_size eb)) (Heap.get?_push_of_some _ eb)) (by rw [Heap.size_push]; exact Nat.le_succ _) (show ObjOk X.prog X.w _ h' _ (.lst ys.reverse) from ⟨?_, its.reverse, c, rv.reverse, ?_⟩), rfl, q _ fr⟩
  · rw [List.length_reverse]; exact hz
  · rw [e, ← er]
end
end L2

end

section
set_option autoImplicit false
set_option maxRecDepth 100000
set_option linter.all false
namespace EoE
open PySem PySem.Spec PyProof.Rows EoH
section
variable {prog : Program} {w : World} {A : Around} {E : Value → Shared → Prop} {s : Shared}
theorem nextOf_end {it l : Addr} {i : Nat} {items : Array Value} {Q : Value → Shared → Prop} (hq : HdN A s.heap) (hit : s.heap.IsListIter it l i) (hl : s.heap.IsList l items) (hx : items[i]? = none)
    (k : ∀ h' e, Heap.ExtBut it s.heap h' → (∃ o, h'.get? e = some o ∧ o.cls = .type "StopIteration") → E (.ref e) { s with heap := h' }) : wpAny (model prog w) A (Builtin.SmallTypes.nextOf (.ref it)) Q E s := by
  obtain ⟨oi, hoi, ci, di⟩ := id hit
  obtain ⟨ol, hol, _, nl, dl⟩ := hl
  unfold Builtin.SmallTypes.nextOf
  refine wpAny_bind (wpAny_callSpecial?_slot (name := Str.ofString "__next__") hit.typeIs slot_listiter_next (wpAny_call_entry slot_listiter_next hit.typeIs entry_listiter_next ?_ (args_listiter_next _)))
  change wpAny (model prog w) A.in1 (field (.ref it) 0 >>= _) _ _ s
  refine wpAny_bind (wpAny_field hoi di (x := .ref l) rfl ?_)
  change wpAny (model prog w) A.in1 (if (Value.ref l == Value.none) = true then _ else _) _ _ s
  rw [if_neg (show ¬ ((Value.ref l == Value.none) = true) from Bool.false_ne_true)]
  change wpAny (model prog w) A.in1 (field (.ref it) 1 >>= _) _ _ s
  refine wpAny_bind (wpAny_field hoi di (x := .int i 0) rfl ?_)
  change wpAny (model prog w) A.in1 (seqItems? (.ref l) >>= _) _ _ s
  refine wpAny_bind (wpAny_seqItems hol dl ?_)
  simp only [Int.toNat_natCast, hx]
  refine wpAny_bind (wpAny_rule (wpAny_bind (wpAny_setField hoi di (by simp) ?_)))
  have kp : ∀ b o, b ≠ it → s.heap.get? b = some o → (s.heap.update it (Obj.mapFields (·.setIfInBounds 0 Value.none))).get? b = some o := fun b o nb e => (Heap.get?_update_other _ _ (Ne.symm nb)).trans e
  exact stop_hd (s := { s with heap := s.heap.update it (Obj.mapFields (·.setIfInBounds 0 Value.none)) }) (hq.but hoi ci kp) fun h' x kk ts => k _ _ (fun b o nb e => kk b o (kp b o nb e)) ts
theorem enum_end {e it l : Addr} {i : Nat} {items : Array Value} {old : Value} {Q : Option Value → Shared → Prop} (hq : HdN A s.heap) (he : IsEnum s.heap e it i old) (hit : s.heap.IsListIter it l i) (hl : s.heap.IsList l items) (hx : items[i]? = none)
    (k : ∀ h', Heap.ExtBut it s.heap h' → Q none { s with heap := h' }) : wpAny (model prog w) A (pyNext (.ref e)) Q E s := by
  have ty : s.TypeIs (.ref e) "enumerate" := ⟨_, he, rfl⟩
  unfold pyNext
  refine wpAny_bind (wpAny_attempt (wpAny_callSpecial?_slot (name := Str.ofString "__next__") ty F.slot_enumerate_next (wpAny_call_entry F.slot_enumerate_next ty F.entry_enumerate_next ?_ (F.args_enumerate_next_1 _))))
  change wpAny (model prog w) A.in1 (field (.ref e) 2 >>= _) _ _ s
  refine wpAny_bind (wpAny_field he rfl (x := .ref it) rfl (wpAny_bind (nextOf_end (A := A.in1) hq hit hl hx fun h' x ex ts => ?_)))
  exact wpAny_bind (wpAny_isInstance (T := "StopIteration") (b := true) ts isSubtype_stop (wpAny_pure (k _ ex)))
end
end EoE
namespace L2
open PySem PySem.Spec PyProof.Rows
section
variable {X : Cx} {pins : List (Addr × Obj)} {σ : St} {H : Hp} {s : Shared} {fp : List Addr} {h' : Heap}
/-- several own records of an iterator turned -/
theorem Inv.turnedL {t' : Nat} (I : Inv X pins σ H s) (hf : ∀ b ∈ fp, FpOk X pins H b) (k : ∀ b o, b ∉ fp → s.heap.get? b = some o → h'.get? b = some o) : Inv X pins σ H { s with heap := h', toks := t' } := by
  have nit : ∀ b u, H b = some u → b ∉ fp := fun b u e z => by rw [(hf b z).1] at e; cases e
  refine I.step (g' := s.gens) (d' := s.drawn) (ch := fp) (fun b hb => ⟨(hf b hb).2.2.2.1, (hf b hb).2.1, (hf b hb).2.2.2.2.1, (hf b hb).2.2.2.2.2⟩) (fun b o _ _ hc e _ => k b o hc e) (fun b o _ _ hc e _ => ⟨o.slots, k b o hc e⟩) (fun _ _ _ _ n => n)
    (fun b o hc e => ⟨o, k b o hc e⟩) (fun _ _ e => e) (fun _ _ _ e => e) (fun b ps e => ⟨#[], by rw [e]; simp⟩) (fun m hm => ?_) (fun b u e => ?_) I.bare
  · obtain ⟨o, es, ep, ho, r⟩ := hm
    exact ⟨o, es, ep, k _ _ (fun z => (hf _ z).2.1 rfl) ho, r⟩
  · refine (I.hok b u e).stay (fun c v hc z => k c v ?_ z) (fun _ z => z) fun _ _ z => z
    rcases hc with rfl | hc
    · exact nit _ _ e
    · exact nit _ _ hc
/-- .. and a new object laid -/
theorem Inv.turnedN {t' : Nat} {a : Addr} {o : HO} (I : Inv X pins σ H s) (hf : ∀ b ∈ fp, FpOk X pins H b) (k : ∀ b o, b ∉ fp → s.heap.get? b = some o → h'.get? b = some o) (hp : s.heap.objs.size ≤ a) (new : ObjOk X.prog X.w (upd H a o) h' a o) :
    Inv X pins σ (upd H a o) { s with heap := h', toks := t' } := by
  have nit : ∀ b u, H b = some u → b ∉ fp := fun b u e z => by rw [(hf b z).1] at e; cases e
  have hn : H a = none := I.hok.fresh hp
  refine I.step (g' := s.gens) (d' := s.drawn) (ch := fp) (fun b hb => ⟨(hf b hb).2.2.2.1, (hf b hb).2.1, (hf b hb).2.2.2.2.1, (hf b hb).2.2.2.2.2⟩) (fun b o _ _ hc e _ => k b o hc e) (fun b o _ _ hc e _ => ⟨o.slots, k b o hc e⟩)
    (fun b u _ e n => by rw [upd_ne (Nat.ne_of_lt (Nat.lt_of_lt_of_le (Heap.lt_size e) hp))]; exact n)
    (fun b o hc e => ⟨o, k b o hc e⟩) (fun b xs e => by rw [upd_ne (ne_of_none e hn)]; exact e) (fun b _ _ e => by rw [upd_ne (ne_of_none e hn)]; exact e) (fun b ps e => ⟨#[], by rw [upd_ne (ne_of_none e hn), e]; simp⟩) (fun m hm => ?_) (fun b u e => ?_) I.bare
  · obtain ⟨o, es, ep, ho, r⟩ := hm
    exact ⟨o, es, ep, k _ _ (fun z => (hf _ z).2.1 rfl) ho, r⟩
  · by_cases hb : b = a
    · subst hb; rw [upd_same] at e; cases e; exact new
    · rw [upd_ne hb] at e
      refine (I.hok b u e).stay (fun c v hc z => k c v ?_ z) (fun c q => by rw [upd_ne (ne_of_none q hn)]; exact q) fun c xs q => by rw [upd_ne (ne_of_none q hn)]; exact q
      rcases hc with rfl | hc
      · exact nit _ _ e
      · exact nit _ _ hc
end
theorem off_ne (n : Nat) {i j : Nat} (h : i ≠ j) : n + i ≠ n + j := fun z => h (Nat.add_left_cancel z)
theorem tup2_ok {P : Program} {w : World} {H : Hp} {h : Heap} {T : Addr} {x y : V} {u v : Value} (rx : RelV x u) (ry : RelV y v) (e : h.get? T = some { cls := .type "tuple", data := .seq #[u, v] }) : ObjOk P w H h T (.tup [x, y]) :=
  ⟨by show 2 ≤ sizeLine; decide, [u, v], .cons rx (.cons ry .nil), _, e, rfl, _, rfl⟩
def Ite (K : PySem.W.Frag) (a : Addr) : It :=
  ⟨fun i H => ∃ xs x, SqL K H a xs ∧ xs[i]? = some x, fun i H x H' => ∃ T y, x = .ref T ∧ H T = none ∧ (∀ xs, SqL K H a xs → xs[i]? = some y) ∧ H' = upd H T (.tup [.int i, y]), fun i H => ∃ xs, SqL K H a xs ∧ xs.length ≤ i⟩
theorem turn_enum {P : Program} {w : World} {K : PySem.W.Frag} {elts : List Expr} {k : Nat} {pos : Pos} (a e it : Addr) (hne : e ≠ it) :
    Turn P w K (.Tuple elts k pos) (Ite K a) [e, it] e (fun i h => (∃ old, IsEnum h e it i old) ∧ h.IsListIter it a i) where
  mem := by simp
  obj := fun i h st b hb => by
    obtain ⟨⟨old, he⟩, hi⟩ := st
    have hb' : b = e ∨ b = it := by simpa using hb
    rcases hb' with rfl | rfl
    · exact ⟨_, he, fun v z => by cases (show Data.fields _ = Data.cell v from z)⟩
    · obtain ⟨o, e, c, d⟩ := hi
      exact ⟨o, e, fun v z => by rw [d] at z; cases z⟩
  keep := fun i h h' st k => ⟨let ⟨old, he⟩ := st.1; ⟨old, k e (by simp) _ he⟩, st.2.at fun o q => k it (by simp) o q⟩
  item := by
    intro X hP hw hK hc i pins s σ H E I hf st hg
    subst hP hw hK
    obtain ⟨xs, x, hq, hx⟩ := hg
    obtain ⟨⟨old, he⟩, hi⟩ := st
    obtain ⟨its, rv, p, hz⟩ := I.list hq
    obtain ⟨u, hu, ru⟩ := rv.get hx
    refine wpAny_pyNext_enum_item he hi p.isList (x := u) (by simpa using hu) hne fun h1 ho hi1 hT hsz hk => ⟨_, rfl, wpAny_letOwnedTupleGo_enum ho fun h2 he2 hs2 => ?_⟩
    replace hs2 : Heap.SameBut e h1 h2 := hs2
    have hT2 : h2.get? s.heap.objs.size = some { cls := .type "tuple", data := .seq #[.int i s.toks, u] } := hs2.extBut _ _ (Nat.ne_of_gt (Heap.lt_size he)) hT
    have kk : ∀ b o, b ∉ [e, it] → s.heap.get? b = some o → h2.get? b = some o := fun b o hb q => hs2.extBut b o (fun z => hb (by simp [z])) (hk b o (fun z => hb (by simp [z])) (fun z => hb (by simp [z])) q)
    refine ⟨.ref s.heap.objs.size, _, I.turnedN (t' := s.toks + 1) hf kk (Nat.le_refl _) (tup2_ok (x := .int i) (y := x) ⟨_, rfl⟩ ru hT2), rfl, ⟨_, x, rfl, I.hok.fresh (Nat.le_refl _), fun ys hy => by rw [I.list_inj hy hq]; exact hx, rfl⟩, ⟨⟨u, ?_⟩, ?_⟩, fun b hb => ?_⟩
    · have : ((i : Int) + 1) = ((i + 1 : Nat) : Int) := by omega
      rw [← this]; exact he2
    · exact hi1.at fun o q => hs2.extBut _ o hne.symm q
    · have lt : b < s.heap.objs.size := by
        have hb' : b = e ∨ b = it := by simpa using hb
        rcases hb' with rfl | rfl
        · exact Heap.lt_size he
        · obtain ⟨o, q, _⟩ := hi; exact Heap.lt_size q
      rw [upd_ne (Nat.ne_of_lt lt)]
      exact (hf b hb).1
  done := by
    intro X hP hw hK hc i pins s σ H E I hf st hg
    subst hP hw hK
    obtain ⟨xs, hq, hx⟩ := hg
    obtain ⟨⟨old, he⟩, hi⟩ := st
    obtain ⟨its, rv, p, hz⟩ := I.list hq
    have hl := rv.length
    exact EoE.enum_end I.hdn he hi p.isList (by simp; omega) fun h' eb => ⟨rfl, I.turnedL (t' := s.toks) hf fun b o hb q => eb b o (fun z => hb (by simp [z])) q⟩
  self := fun _ _ _ _ _ st h => let ⟨_, he⟩ := st.1; wpAny_pyIter_enum he h
theorem bt_enumerate : bootBuiltins "enumerate" = some (.type "enumerate") := by decide +kernel
def iEnum (K : PySem.W.Frag) (tl : TE) : TI := fun σ H R => tl σ H fun x H1 => ∃ a, x = .ref a ∧ (∃ xs, SqL K H1 a xs) ∧ R (Ite K a) H1
theorem pi_enum {X : Cx} {elts : List Expr} {k : Nat} {pos p1 p2 : Pos} {l : Expr} {tl : TE} (hl : PE X l tl) (hg : Gl X "enumerate") (hm : X.mg "enumerate" = none) (s2 : starEach [l] X.env = [(false, eval l X.env)] := by rfl) :
    PI X (.Tuple elts k pos) (.Call (.Name "enumerate" p1) [l] [] p2) (iEnum X.K tl) := by
  intro pins s σ H R I h
  refine wpAny_Call_Name_kw (ld_blt I hg hm bt_enumerate (PyProof.Rows.callWith_type1 ?_ s2 rfl))
  rw [s2]
  refine Calls.spliced_cons (thn (hl pins s σ H _ I h) fun v s1 ⟨x, H1, I1, r1, q1⟩ => Calls.spliced_nil ?_)
  obtain ⟨a, e, ⟨xs, hq⟩, q⟩ := q1
  subst e
  cases r1
  obtain ⟨its, rv, p, hz⟩ := I1.list hq
  refine call_enumerate_list p.isList fun h' he hi hsz hk => wpAny_pyIter_enum he ?_
  have I2 : Inv X pins σ H1 { s1 with heap := h' } := I1.kept (t' := s1.toks) hk
  refine ⟨_, [s1.heap.objs.size + 1, s1.heap.objs.size], _, _, H1, rfl, I2, turn_enum a _ s1.heap.objs.size (off_ne s1.heap.objs.size (i := 1) (j := 0) (by decide)), ⟨⟨_, he⟩, hi⟩, fun b hb => ?_, q⟩
  have hb' : b = s1.heap.objs.size + 1 ∨ b = s1.heap.objs.size := by simpa using hb
  have hle : s1.heap.objs.size ≤ b := by
    rcases hb' with e | e
    · rw [e]; exact Nat.le_succ _
    · rw [e]; exact Nat.le_refl _
  exact I1.fpOk hle (I1.hok.fresh hle)
end L2

end

section
set_option autoImplicit false
set_option maxRecDepth 100000
set_option linter.all false
namespace L2
open PySem PySem.Spec PyProof.Rows
section
variable {X : Cx} {pins : List (Addr × Obj)} {σ : St} {H : Hp} {s : Shared} {sc : Scope} {x : Str} {ys : List Str} {js : List Nat} {fp : List Addr} {C D : Addr}
/-- the block begins: the new list stands at D, the frame at C -/
theorem inv_block2 {x2 : Str} {h' : Heap} {t' : Nat} {m : Str → Option Value} {H' : Hp} (S : ScOk X sc x) (Fo : FreeOk X sc ys js) (I : Inv X pins σ H s) (hf : ∀ b ∈ fp, FpOk X pins H b) (hl : ∀ b ∈ fp, b < s.heap.objs.size) (hC : s.heap.objs.size ≤ C)
    (kp : ∀ b o, s.heap.get? b = some o → h'.get? b = some o) (hn : h'.Ns C m) (un : Un (frs X.stack) fp H H' s.heap h') (ok : HOk X.prog X.w H' h') (nC : H' C = none) (nf : ∀ b o, s.heap.get? b = some o → H b = none → H' b = none) :
    Inv (cxC X (x :: x2 :: ys) sc s H fp pins C) [] (none :: none :: look σ js) H' { s with heap := h', toks := t' } where
  ok := cxC_ok S I hf hl hC
  os := rfl
  bare := I.bare
  base := un
  loc := ⟨m, hn, fun i y v e1 e2 e3 => by
    match i, e1, e2 with
    | 0, _, e2 => simp at e2
    | 1, _, e2 => simp at e2
    | i + 2, e1, e2 =>
      have z1 : ((x :: x2 :: ys) : List Str)[i + 2]? = some y := e1
      obtain ⟨j, g1, g2, g3, g4⟩ := Fo.get (σ := σ) (i := i) (y := y) (v := v) (by simpa using z1) (by simpa using e2)
      obtain ⟨mo, hmo, lo⟩ := I.loc
      have vis : Vis X.env.scope y := .inr (.inl g3)
      obtain ⟨u, ru, lk⟩ := lo j y v g1 g2 vis
      refine ⟨u, ru, .inr ⟨.inl (relabel_cell I.ok.kind g3 g4), ?_⟩⟩
      rcases lk with ⟨k, _⟩ | ⟨_, c, hc, cell⟩
      · rw [g3] at k; cases k
      · obtain ⟨c', hc'⟩ := clOf_has (env := X.env) (PySem.mem_of_lookup g4)
        have e : c' = c := by
          have := (clOf_in (S.cells I) hc').1
          rw [hc] at this
          cases this; rfl
        subst e
        obtain ⟨oc, ho, hd⟩ := cell
        exact ⟨c', hc', oc, kp _ _ ho, hd⟩⟩
  cell := fun y c hc => by
    obtain ⟨v, oc, ho, hd⟩ := I.cell y c (clOf_in (S.cells I) hc).1
    exact ⟨v, oc, kp _ _ ho, hd⟩
  free := nC
  freeC := fun y c hc => by
    obtain ⟨v, oc, ho, hd⟩ := I.cell y c (clOf_in (S.cells I) hc).1
    exact nf c oc ho (I.freeC y c (clOf_in (S.cells I) hc).1)
  pin := fun p hp => by
    rw [List.append_nil] at hp
    obtain ⟨e, n, ne, nfs, d⟩ := I.pin p hp
    exact ⟨kp _ _ e, nf _ _ e n, Nat.ne_of_lt (Nat.lt_of_lt_of_le (Heap.lt_size e) hC), notStk I ne nfs, d⟩
  hok := ok
  len := by
    have := Fo.len
    simp [look, cxC, this]
end
def tComp2 (K : PySem.W.Frag) (wi : TI) (js : List Nat) (tc : TT) (te : TE) : TE := fun σ H Q => wi σ H fun J H1 => ∀ D, H1 D = none → ∃ W : Nat → Nat → List V → Hp → Prop, (∃ m, W 0 m [] (upd H1 D (.lst []))) ∧
  ∀ i m acc H2, W i m acc H2 → H2 D = some (.lst acc) ∧ acc.length < sizeLine ∧ ((J.stop i H2 ∧ Q (.ref D) H2) ∨
    (J.go i H2 ∧ ∀ x H3, J.yld i H2 x H3 → ∃ T v1 v2, x = .ref T ∧ SqT K H3 T [v1, v2] ∧ tc (some v1 :: some v2 :: look σ js) H3 fun b H4 => if b = true then te (some v1 :: some v2 :: look σ js) H4 fun v H5 => H5 D = some (.lst acc) ∧ ∃ m', m' < m ∧ W (i + 1) m' (acc ++ [v]) (upd H5 D (.lst (acc ++ [v])))
      else ∃ m', m' < m ∧ W (i + 1) m' acc H4))
section
variable {X : Cx} {elt iter : Expr} {x x2 : Str} {px px2 pt pos : Pos} {kt : Nat} {ifs : List Expr} {sc : Scope} {wi : TI} {ys : List Str} {js : List Nat} {tc : TT} {te : TE}
theorem comp_core2 {pins : List (Addr × Obj)} {σ : St} {H : Hp} {s : Shared} {Q : VK} {RR : Value → Addr → Result → Shared → Prop} (hc : (0 : Nat) = 0) (hcm : X.calm = true) (S : ScOk X sc x) (S2 : sc.names.lookup x2 = some .local) (Fo : FreeOk X sc ys js) (hN : (x :: x2 :: ys).Nodup) (hi : PI X (.Tuple [.Name x px, .Name x2 px2] kt pt) iter wi)
    (hifs : ∀ s H fp pins C, PIfs (cxC X (x :: x2 :: ys) sc s H fp pins C) ifs tc) (helt : ∀ s H fp pins C, PE (cxC X (x :: x2 :: ys) sc s H fp pins C) elt te)
    (I : Inv X pins σ H s) (h : tComp2 X.K wi js tc te σ H Q)
    (hRR : ∀ D C H' s' m, Inv X pins σ H' s' → s'.heap.Ns C m → FpOk X pins H' C → Q (.ref D) H' → RR (.ref D) C (.ok .next) s') :
    wpAny (model X.prog X.w) X.A (eval iter X.env) (fun v s1 => wpAny (model X.prog X.w) X.A (pyIter v) (fun it s2 => wpAny (model X.prog X.w) X.A (newList []) (fun acc s3 =>
      wpAny (model X.prog X.w) X.A (newFunctionEnv sc X.env.globals (clOf X.env sc.names) [] X.env.qual none .none (some X.env)) (fun cenv s4 =>
        codeAny (model X.prog X.w) X.A (.compStart (.ListComp elt [⟨.Tuple [.Name x px, .Name x2 px2] kt pt, iter, ifs, 0⟩] sc pos) 0 it acc { cenv with scope := relabel sc X.env }) (RR acc cenv.locals) s4) X.xe s3) X.xe s2) X.xe s1) X.xe s := by
  refine thn (hi pins s σ H _ I h) fun v s1 h1 => thn h1 fun itv s2 h2 => ?_
  obtain ⟨it, fp, tn, J, H2, e, I2, T, st2, f2, q⟩ := h2
  subst e
  have hl : ∀ b ∈ fp, b < s2.heap.objs.size := fun b hb => let ⟨_, e, _⟩ := T.obj 0 _ st2 b hb; Heap.lt_size e
  have hfr := I2.hok.fresh (Nat.le_refl s2.heap.objs.size)
  obtain ⟨W, ⟨m0, w0⟩, turn⟩ := q s2.heap.objs.size hfr
  refine wpAny_newObj_type (wpAny_newFunctionEnv S.nocell (by intro y hy; simp at hy) (fun h4 hn4 hb4 => ?_) S.kind) (by size_fits)
  dsimp only at hn4 hb4 ⊢
  generalize hD : s2.heap.objs.size = D at hfr w0 turn hn4 hb4 ⊢
  generalize hp : s2.heap.push { cls := .type "list", data := .seq ([] : List Value).toArray } = h3 at hn4 hb4 ⊢
  have hC : h3.objs.size = D + 1 := by rw [← hp, Heap.size_push, hD]
  generalize hCe : h3.objs.size = C at hC hn4 hb4 ⊢
  have hDs : s2.heap.objs.size ≤ D := Nat.le_of_eq hD
  have hCs : s2.heap.objs.size ≤ C := by rw [hD, hC]; exact Nat.le_succ _
  have hDC : D ≠ C := by rw [hC]; exact Nat.ne_of_lt (Nat.lt_succ_self D)
  have k3 : ∀ b o, s2.heap.get? b = some o → h3.get? b = some o := fun b o e => by rw [← hp]; exact Heap.get?_push_of_some _ e
  have k4 : ∀ b o, b ≠ C → h3.get? b = some o → h4.get? b = some o := fun b o ne e => hb4.extBut b o ne (Heap.get?_push_of_some _ e)
  have kp : ∀ b o, s2.heap.get? b = some o → h4.get? b = some o := fun b o e => k4 b o (Nat.ne_of_lt (Nat.lt_of_lt_of_le (Heap.lt_size e) hCs)) (k3 b o e)
  have hDo : h4.get? D = some { cls := .type "list", data := .seq ([] : List Value).toArray } := k4 D _ hDC (by rw [← hp, ← hD]; exact Heap.get?_push_size _ rfl)
  have new : ObjOk X.prog X.w (upd H2 D (.lst [])) h4 D (.lst []) := ⟨Nat.zero_le _, [], 0, .nil, hDo⟩
  have ok4 : HOk X.prog X.w (upd H2 D (.lst [])) h4 := I2.hok.laid kp hDs new
  have un4 : Un (frs X.stack) fp H2 (upd H2 D (.lst [])) s2.heap h4 := Un.laid kp hDs hfr
  have nC : upd H2 D (.lst []) C = none := by
    rw [upd_ne hDC.symm]
    exact I2.hok.fresh hCs
  have nf : ∀ b o, s2.heap.get? b = some o → H2 b = none → upd H2 D (.lst []) b = none := fun b o e n => by
    rw [upd_ne (Nat.ne_of_lt (Nat.lt_of_lt_of_le (Heap.lt_size e) hDs))]
    exact n
  have I4 := inv_block2 (x2 := x2) (t' := s2.toks) S Fo I2 f2 hl hCs kp hn4 un4 ok4 nC nf
  have stat : ∀ {H' : Hp} {pl : List (Addr × Obj)}, (∀ b ∈ fp, H' b = none) → ∀ b ∈ fp, FpOk (cxC X (x :: x2 :: ys) sc s2 H2 fp pins C) [] H' b := fun {H' pl} hn b hb =>
    ⟨hn b hb, Nat.ne_of_lt (Nat.lt_of_lt_of_le (hl b hb) hCs), notStk I2 (f2 b hb).2.1 (f2 b hb).2.2.1, .inl hb, fun y c e => (f2 b hb).2.2.2.2.1 y c (clOf_in (S.cells I2) e).1, fun p hp => (f2 b hb).2.2.2.2.2 p (by simpa [cxC] using hp)⟩
  have loop : ∀ s', s' = { s2 with heap := h4, toks := s2.toks + ([] : List (Str × Value)).length } → codeAny (model X.prog X.w) X.A (.compLoop (.ListComp elt [⟨.Tuple [.Name x px, .Name x2 px2] kt pt, iter, ifs, 0⟩] sc pos) 0 (.ref it) (.ref D) (cxC X (x :: x2 :: ys) sc s2 H2 fp pins C).env) (RR (.ref D) C) s' := by
    rintro s' rfl
    refine comp_loop (fun n s' => ∃ i a H' z z2, Inv (cxC X (x :: x2 :: ys) sc s2 H2 fp pins C) [] (z :: z2 :: look σ js) H' s' ∧ tn i s'.heap ∧ (∀ b ∈ fp, H' b = none) ∧ W i n a H') ?_ m0
      ⟨0, [], _, none, none, I4, T.keep _ _ _ st2 fun b hb o e => kp b o e, fun b hb => nf b _ (T.obj 0 _ st2 b hb).choose_spec.1 (f2 b hb).1, w0⟩
    rintro n s5 ⟨i, a, H5, z, z2, I5, t5, n5, w5⟩
    obtain ⟨eD, hz, alt⟩ := turn i n a H5 w5
    rcases alt with ⟨stop, qn⟩ | ⟨go, step⟩
    · refine wpAny_mono (T.done (cxC X (x :: x2 :: ys) sc s2 H2 fp pins C) rfl rfl rfl hc i [] s5 _ H5 (fun _ _ => False) I5 (stat (pl := []) n5) t5 stop) (fun r s6 ⟨hr, I6⟩ => ?_) fun _ _ z => z
      subst hr
      obtain ⟨m6, hn6, _⟩ := I6.loc
      exact hRR D C H5 s6 m6 (inv_out I2 f2 I6) hn6 (I2.fpOk hCs I6.free) qn
    · refine wpAny_mono (T.item (cxC X (x :: x2 :: ys) sc s2 H2 fp pins C) rfl rfl rfl hc i [] s5 _ H5 (fun _ _ => False) I5 (stat (pl := []) n5) t5 go) (fun r s6 ⟨u, hr, h6⟩ => ?_) fun _ _ z => z
      subst hr
      refine wpAny_mono h6 (fun _ s7 ⟨y, H7, I7, r7, y7, t7, n7⟩ => ?_) fun _ _ z => z
      have I7' := I7.pinned (stat (pl := []) n7) (T.obj _ _ t7)
      obtain ⟨Tt, v1, v2, ey, hT, q7⟩ := step y H7 y7
      have hx : Loc (cxC X (x :: x2 :: ys) sc s2 H2 fp pins C).env.scope x := .inl (lookup_relabel_local S.var)
      have hx2 : Loc (cxC X (x :: x2 :: ys) sc s2 H2 fp pins C).env.scope x2 := .inl (lookup_relabel_local S2)
      have pg := pg_tup (X := cxC X (x :: x2 :: ys) sc s2 H2 fp pins C) (es := [.Name x px, .Name x2 px2]) (k := kt) (pos := pt) (n := 2) hcm (pgs_cons (pg_name (X := cxC X (x :: x2 :: ys) sc s2 H2 fp pins C) (i := 0) (x := x) (pos := px) hN rfl hx (.inr (lookup_relabel_local S.var))) (pgs_cons (pg_name (X := cxC X (x :: x2 :: ys) sc s2 H2 fp pins C) (i := 1) (x := x2) (pos := px2) hN rfl hx2 (.inr (lookup_relabel_local S2))) pgs_nil))
      refine wpAny_mono (pg _ s7 _ H7 y u (fun σ' H' => σ' = some v1 :: some v2 :: look σ js ∧ H' = H7) I7' r7 ⟨Tt, [v1, v2], ey, hT, rfl, v1, [v2], rfl, v2, [], rfl, rfl, rfl, rfl⟩) (fun _ s8 ⟨σ8, H8, I8, e8, e8'⟩ => ?_) fun _ _ z => z
      subst e8; subst e8'
      have again : ∀ {s9 : Shared} {H9 : Hp} {m' : Nat} {a' : List V}, Inv (cxC X (x :: x2 :: ys) sc s2 H2 fp pins C) ([] ++ pinsAt fp s7.heap) (some v1 :: some v2 :: look σ js) H9 s9 → m' < n → W (i + 1) m' a' H9 →
          ∃ m, m < n ∧ ∃ i a H' z z2, Inv (cxC X (x :: x2 :: ys) sc s2 H2 fp pins C) [] (z :: z2 :: look σ js) H' s9 ∧ tn i s9.heap ∧ (∀ b ∈ fp, H' b = none) ∧ W i m a H' := fun {s9 H9 m' a'} I9 hm w9 =>
        ⟨m', hm, i + 1, a', H9, some v1, some v2, I9.unpinned, T.keep _ _ _ t7 fun b hb o e => (I9.pin (b, o) (List.mem_append_right _ (List.mem_append_right _ (mem_pinsAt hb e)))).1, fun b hb => by
          obtain ⟨o, e, _⟩ := T.obj _ _ t7 b hb
          exact (I9.pin (b, o) (List.mem_append_right _ (List.mem_append_right _ (mem_pinsAt hb e)))).2.1, w9⟩
      refine wpAny_mono (hifs s2 H2 fp pins C _ s8 _ H8 _ I8 q7) (fun ok s9 ⟨H9, I9, q9⟩ => ?_) fun _ _ z => z
      cases ok with
      | false =>
        rw [if_neg Bool.false_ne_true] at q9 ⊢
        obtain ⟨m', hm, w9⟩ := q9
        exact again I9 hm w9
      | true =>
        rw [if_pos rfl] at q9 ⊢
        refine wpAny_mono (helt s2 H2 fp pins C _ s9 _ H9 _ I9 q9) (fun ev s10 ⟨ve, H10, I10, r10, e10, m', hm, w10⟩ => ?_) fun _ _ z => z
        refine wpAny_mono (mt_append (X := cxC X (x :: x2 :: ys) sc s2 H2 fp pins C) _ s10 _ H10 (.ref D) [ve] (.ref D) [ev] (fun _ H' => H' = upd H10 D (.lst (a ++ [ve]))) I10 rfl (.cons r10 .nil) ⟨D, a, ve, rfl, rfl, e10, hz, rfl⟩) (fun _ s11 ⟨_, H11, I11, _, e11⟩ => ?_) fun _ _ z => z
        subst e11
        exact again I11 hm w10
  exact codeAny_compStart_list (loop _ rfl) (T.self _ 0 _ _ _ (T.keep _ _ _ st2 fun b hb o e => kp b o e) (loop _ rfl))
theorem pe_comp2 (hc : (0 : Nat) = 0) (hcm : X.calm = true) (S : ScOk X sc x) (S2 : sc.names.lookup x2 = some .local) (Fo : FreeOk X sc ys js) (hN : (x :: x2 :: ys).Nodup) (hi : PI X (.Tuple [.Name x px, .Name x2 px2] kt pt) iter wi)
    (hifs : ∀ s H fp pins C, PIfs (cxC X (x :: x2 :: ys) sc s H fp pins C) ifs tc) (helt : ∀ s H fp pins C, PE (cxC X (x :: x2 :: ys) sc s H fp pins C) elt te) (hs : ∀ v, foldedSetIterable iter X.env v = pure v := by intro _; rfl) :
    PE X (.ListComp elt [⟨.Tuple [.Name x px, .Name x2 px2] kt pt, iter, ifs, 0⟩] sc pos) (tComp2 X.K wi js tc te) := by
  intro pins s σ H Q I h
  rw [eval_ListComp]
  refine wpAny_comprehension_free rfl hs (closure_of (S.cells I)) S.kind S.names (comp_core2 (Q := Q) hc hcm S S2 Fo hN hi hifs helt I h fun D C H' s' m I' hn fo q => ?_)
  exact ⟨m, hn, fun h' sb => ⟨.ref D, H', I'.turned (t' := s'.toks) (fun b o ne e => sb.extBut b o ne e) fo.1 fo.2.1 fo.2.2.2.1 fo.2.2.2.2.1 fo.2.2.2.2.2, rfl, q⟩⟩
end
end L2

end

section
set_option autoImplicit false
set_option maxRecDepth 100000
set_option linter.all false
namespace L2
open PySem PySem.Spec PyProof.Rows EoD Eo
theorem bt_isinstance : bootBuiltins "isinstance" = some (.builtin "isinstance") := by decide +kernel
theorem bt_len : bootBuiltins "len" = some (.builtin "len") := by decide +kernel
theorem bt_all : bootBuiltins "all" = some (.builtin "all") := by decide +kernel
theorem bt_int : bootBuiltins "int" = some (.type "int") := by decide +kernel
theorem bt_bool : bootBuiltins "bool" = some (.type "bool") := by decide +kernel
theorem bt_tuple : bootBuiltins "tuple" = some (.type "tuple") := by decide +kernel
theorem bt_list : bootBuiltins "list" = some (.type "list") := by decide +kernel
theorem bt_reversed : bootBuiltins "reversed" = some (.type "reversed") := by decide +kernel
/-- the built-in names stand as they were -/
structure Bare (mg : Str → Option Value) : Prop where
  isin : mg "isinstance" = none
  len : mg "len" = none
  all : mg "all" = none
  min : mg "min" = none
  srt : mg "sorted" = none
  int : mg "int" = none
  bool : mg "bool" = none
  tup : mg "tuple" = none
  lst : mg "list" = none
  rev : mg "reversed" = none
  rng : mg "range" = none
/-- a def of the top -/
structure Def (K : PySem.W.Frag) (mg : Str → Option Value) (x : Str) (st : Stmt) (ps : List Str) : Prop where
  ex : ∃ f fd, Fun K x x st f fd ∧ mg x = some (.ref f) ∧ Binds K fd ps []
/-- a def of the top may be called, and keeps its promise -/
def Cal (P : Program) (w : World) (K : PySem.W.Frag) (mg : Str → Option Value) (base : Heap) (x : Str) (k : Nat) (ps : List Str) (sp : Sp) : Prop :=
  ∃ f fd, FnOk P w K mg base CX0 k f fd ps sp ∧ mg x = some (.ref f) ∧ PySem.W.keepIn K (.ref f) = true ∧ Binds K fd ps []
section
variable {P : Program} {w : World} {K : PySem.W.Frag} {mg : Str → Option Value} {base : Heap}
theorem Def.cal {x : Str} {st : Stmt} {N ps : List Str} {k : Nat} {sp : Sp} (D : Def K mg x st ps) (S : FnScope N ps (defScope st)) (len : ∀ vs H Q E, sp vs H Q E → vs.length = ps.length)
    (hbody : ∀ (f : Addr) (cdv : Value) (A : Around) (outer : List Env) (s : Shared) (H : Hp) (vs : List V) (Q : VK) (E : XK), Room k (A.deeper (envOfC x (defScope st) s.heap.objs.size f cdv)) → sp vs H Q E →
      ∃ t, PSs (cxOf CX0 P w K mg base N x (defScope st) f cdv A outer s H E).nox (defBody st) t ∧ t { nx := fun _ H' => Q .non H', rt := Q } (start N vs) H) : Cal P w K mg base x (k + 1) ps sp := by
  obtain ⟨f, fd, F, m, b⟩ := D.ex
  exact ⟨f, fd, F.ok S len (hbody f), m, F.kp, b⟩
end
theorem pe_cal {X : Cx} {x : Str} {k : Nat} {ps : List Str} {sp : Sp} {e : Expr} {es : List Expr} {t : TA} {p pos : Pos} (c : Cal X.prog X.w X.K X.mg X.base x k ps sp) (hr : Room k X.A) (hg : Gl X x) (ha : PA X (e :: es) t) (hdb : (x == ("__debug__" : Str)) = false := by decide)
    (he : starEach (e :: es) X.env = (false, eval e X.env) :: starEach es X.env := by rfl) (hpl : (backTo pos (starEach es X.env)).any (·.1) = false := by rfl) : PE X (.Call (.Name x p) (e :: es) [] pos) (tCall sp [] E0 t) :=
  let ⟨_, _, F, m, kp, b⟩ := c; pe_call F hr hg m kp b .nil pass0 ha hdb he hpl
/-- isinstance(e, T) -/
theorem pe_isin {X : Cx} (B : Bare X.mg) {e : Expr} {te : TE} {T : String} {x : Str} {p1 p2 pos : Pos} (he : PE X e te) (hg : Gl X "isinstance") (hx : Gl X x) (hm : X.mg x = none) (hv : bootBuiltins x = some (.type T)) (hn : x ≠ "__name__" := by decide) (hd : (x == ("__debug__" : Str)) = false := by decide)
    (s1 : starEach [e, .Name x p2] X.env = [(false, eval e X.env), (false, eval (.Name x p2) X.env)] := by rfl) (s2 : starEach [.Name x p2] X.env = [(false, eval (.Name x p2) X.env)] := by rfl) :
    PE X (.Call (.Name "isinstance" p1) [e, .Name x p2] [] pos) (tCB (fun xs H Q => ∃ x T t b, xs = [x, .ty T] ∧ TyOf X.K H x t ∧ PySem.W.kitOne X.K t (.type T) = some b ∧ Q (.bl b) H) (tCons te (tCons (tC (.ty T)) tNil))) :=
  pe_callB call_isinst hg B.isin bt_isinstance (pa_cons he (pa_cons (pe_bltn hx hm hv rfl hn hd) pa_nil s2) (by rw [s1, s2])) (he := by rw [s1, s2]) (hpl := by rw [s2]; rfl)

/-- the tuples stay -/
def Tups (H H' : Hp) : Prop := ∀ b xs, H b = some (.tup xs) → H' b = some (.tup xs)
theorem Same.tups {H H' : Hp} (e : Same H H') : Tups H H' := fun b xs h => e b _ h
theorem Tups.trans {H H1 H2 : Hp} (a : Tups H H1) (b : Tups H1 H2) : Tups H H2 := fun c xs h => b c xs (a c xs h)
theorem Tups.upd {H : Hp} {a : Addr} {o : HO} (h : ∀ xs, H a ≠ some (.tup xs)) : Tups H (upd H a o) := fun b xs e => by
  by_cases z : b = a
  · subst z; exact absurd e (h xs)
  · rw [upd_ne z]; exact e
theorem IsW.tups {H H' : Hp} {v : V} {x : W} (e : Tups H H') (h : IsW H v x) : IsW H' v x := let ⟨q, h1, h2⟩ := h; ⟨q, h1, e _ _ h2⟩
theorem IsP.tups {H H' : Hp} {v : V} {p : W × W} (e : Tups H H') (h : IsP H v p) : IsP H' v p := let ⟨q, a, b, h1, h2, h3, h4⟩ := h; ⟨q, a, b, h1, e _ _ h2, h3.tups e, h4.tups e⟩
theorem Ws.tups {H H' : Hp} (e : Tups H H') {vs : List V} {xs : List W} (h : Ws H vs xs) : Ws H' vs xs := Paired.mapP h fun _ _ z => z.tups e
theorem Ps.tups {H H' : Hp} (e : Tups H H') {vs : List V} {xs : List (W × W)} (h : Ps H vs xs) : Ps H' vs xs := Paired.mapP h fun _ _ z => z.tups e
theorem Same.laid {H : Hp} {a : Addr} {o : HO} (h : H a = Option.none) : Same H (upd H a o) := fun b u e => by
  rw [upd_ne (ne_of_none e h)]; exact e
theorem Same.laidT {H H' : Hp} {a : Addr} {o : HO} (e : Same H H') (h : H' a = Option.none) : Same H (upd H' a o) := e.trans (Same.laid h)
/-- what was fresh then may change -/
theorem Same.chg {H H' : Hp} {a : Addr} {o : HO} (e : Same H H') (h : H a = Option.none) : Same H (upd H' a o) := fun b u z => by
  rw [upd_ne (ne_of_none z h)]; exact e b u z

def flds (N : Nat) (q : Addr) : List (Str × V) := putF "kept" (.ref q) (putF "names" (.int N) [])
theorem nk : ¬ (("names" : Str) = "kept") := by decide +kernel
theorem flds_names (N : Nat) (q : Addr) : (flds N q).lookup ("names" : Str) = some (.int N) := by
  unfold flds
  rw [lookup_putF, if_neg nk, lookup_putF, if_pos rfl]
theorem flds_kept (N : Nat) (q : Addr) : (flds N q).lookup ("kept" : Str) = some (.ref q) := by
  unfold flds
  rw [lookup_putF, if_pos rfl]
theorem flds_no (N : Nat) (q : Addr) {m : Str} (h1 : ¬ m = "kept") (h2 : ¬ m = "names") : (flds N q).lookup m = none := by
  unfold flds
  rw [lookup_putF, if_neg h1, lookup_putF, if_neg h2]
  all_goals rfl
structure HouseAt (C : Addr) (H : Hp) (v : V) (N : Nat) (ws : List (W × W)) : Prop where
  ob : ∃ p dx q vs, v = .ref p ∧ H p = some (.ins C dx (flds N q)) ∧ H q = some (.tup vs) ∧ Ps H vs ws ∧ vs.length ≤ 24
theorem HouseAt.same {C : Addr} {H H' : Hp} {v : V} {N : Nat} {ws : List (W × W)} (e : Same H H') (h : HouseAt C H v N ws) : HouseAt C H' v N ws :=
  let ⟨p, dx, q, vs, h1, h2, h3, h4, h5⟩ := h.ob; ⟨p, dx, q, vs, h1, e _ _ h2, e _ _ h3, h4.same e, h5⟩
/-- a house that is one -/
structure GoodH (N : Nat) (ws : List (W × W)) : Prop where
  lo : 1 ≤ N
  hi : N ≤ 8
  len : ws.length ≤ 24
  good : Good N ws

theorem iteP {c A B : Prop} [Decidable c] (hc : c) (h : A) : if decide c = true then A else B := by rw [decide_eq_true hc]; exact iteT h
theorem iteN {c A B : Prop} [Decidable c] (hc : ¬ c) (h : B) : if decide c = true then A else B := by rw [decide_eq_false hc]; exact iteF h
theorem iteD {c A B : Prop} [Decidable c] (h1 : c → A) (h2 : ¬ c → B) : if decide c = true then A else B := by
  by_cases hc : c
  · exact iteP hc (h1 hc)
  · exact iteN hc (h2 hc)
theorem shp {d : PyData} (h1 : d.canLay0 = true) (h2 : d.depth ≤ 64) : SeqAt.shaped d = true := by
  unfold SeqAt.shaped
  rw [h1, decide_eq_true h2]; rfl
theorem lay_wd (x : W) : (wd x).canLay0 = true := by simp [wd, PyData.canLay0, PyData.canLayAll0]
theorem lay_pd (x : W × W) : (pd x).canLay0 = true := by simp [pd, wd, PyData.canLay0, PyData.canLayAll0]
theorem dep_wd (x : W) : (wd x).depth ≤ 8 := by simp [wd, PyData.depth, PyData.depthAll]
theorem dep_pd (x : W × W) : (pd x).depth ≤ 8 := by simp [pd, wd, PyData.depth, PyData.depthAll]
theorem lay_all {α : Type} {f : α → PyData} (h : ∀ x, (f x).canLay0 = true) : ∀ l : List α, PyData.canLayAll0 (l.map f) = true
  | [] => rfl
  | x :: l => by simp [PyData.canLayAll0, h x, lay_all h l]
theorem dep_all {α : Type} {f : α → PyData} {n : Nat} (h : ∀ x, (f x).depth ≤ n) : ∀ l : List α, PyData.depthAll (l.map f) ≤ n
  | [] => by simp [PyData.depthAll]
  | x :: l => by
    have := h x
    have := dep_all h l
    simp only [List.map_cons, PyData.depthAll]
    omega
theorem shp_list {α : Type} {f : α → PyData} {n : Nat} (h1 : ∀ x, (f x).canLay0 = true) (h2 : ∀ x, (f x).depth ≤ n) (hn : n ≤ 60) (l : List α) : SeqAt.shaped (.list (l.map f)) = true := by
  refine shp ?_ ?_
  · show PyData.canLayAll0 _ = true
    exact lay_all h1 l
  · have := dep_all h2 l
    simp only [PyData.depth]
    omega
theorem lay_wl (l : List W) : (PyData.list (l.map wd)).canLay0 = true := by show PyData.canLayAll0 _ = true; exact lay_all lay_wd l
theorem dep_wl (l : List W) : (PyData.list (l.map wd)).depth ≤ 20 := by
  have := dep_all dep_wd l
  simp only [PyData.depth]
  omega
theorem eqv_wl (l m : List W) : PyData.eqv (.list (l.map wd)) (.list (m.map wd)) = decide (l = m) := by
  simp only [PyData.eqv]
  exact eqvAll_map eqv_wd l m
section
variable {X : Cx}
theorem OpR.imp {f : Value → Value → Sem Value} {r r' : R2} (h : OpR X f r) (i : ∀ x y H Q, r' x y H Q → r x y H Q) : OpR X f r' := fun pins s σ H x y v u Q I rx ry q => h pins s σ H x y v u Q I rx ry (i x y H Q q)
def rEqW : R2 := fun x y H Q => ∃ a b, IsW H x a ∧ IsW H y b ∧ Q (.bl (decide (a = b))) H
theorem op_eqW (hu : X.A.units + 64 < cLine) : OpR X (compareOp .Eq) rEqW := (op_eqD hu).imp fun x y H Q ⟨a, b, h1, h2, q⟩ => ⟨wd a, wd b, h1.rep, h2.rep, shp (lay_wd a) (by have := dep_wd a; omega), shp (lay_wd b) (by have := dep_wd b; omega), by rw [eqv_wd]; exact q⟩
/-- lists of words; lists of wishes -/
def WL (K : PySem.W.Frag) (H : Hp) (v : V) (l : List W) : Prop := ∃ a vs, v = .ref a ∧ SqL K H a vs ∧ Ws H vs l
def PL (K : PySem.W.Frag) (H : Hp) (v : V) (l : List (W × W)) : Prop := ∃ a vs, v = .ref a ∧ SqL K H a vs ∧ Ps H vs l
theorem WL.rep {K : PySem.W.Frag} {H : Hp} {v : V} {l : List W} (h : WL K H v l) : Rep K H v (.list (l.map wd)) := by
  obtain ⟨a, vs, rfl, h1, h2⟩ := h
  exact .lst h1 h2.reps
theorem PL.rep {K : PySem.W.Frag} {H : Hp} {v : V} {l : List (W × W)} (h : PL K H v l) : Rep K H v (.list (l.map pd)) := by
  obtain ⟨a, vs, rfl, h1, h2⟩ := h
  exact .lst h1 h2.reps
theorem eqv_pl (l m : List (W × W)) : PyData.eqv (.list (l.map pd)) (.list (m.map pd)) = decide (l = m) := by
  simp only [PyData.eqv]
  exact eqvAll_map eqv_pd l m
def rNePL (K : PySem.W.Frag) : R2 := fun x y H Q => ∃ a b, PL K H x a ∧ PL K H y b ∧ Q (.bl (!decide (a = b))) H
theorem op_nePL (hu : X.A.units + 64 < cLine) : OpR X (compareOp .NotEq) (rNePL X.K) := (op_neD hu).imp fun x y H Q ⟨a, b, h1, h2, q⟩ => ⟨_, _, h1.rep, h2.rep, shp_list lay_pd dep_pd (by decide) a, shp_list lay_pd dep_pd (by decide) b, by rw [eqv_pl]; exact q⟩
/-- lists of lists of words -/
def GL (K : PySem.W.Frag) (H : Hp) (v : V) (g : List (List W)) : Prop := ∃ a vs, v = .ref a ∧ SqL K H a vs ∧ Paired (WL K H) vs g
theorem glReps {K : PySem.W.Frag} {H : Hp} : ∀ {vs : List V} {g : List (List W)}, Paired (WL K H) vs g → Reps K H vs (g.map fun l => .list (l.map wd))
  | _, _, .nil => .nil
  | _, _, .cons a b => .cons a.rep (glReps b)
theorem eqv_gl (l m : List (List W)) : PyData.eqv (.list (l.map fun l => .list (l.map wd))) (.list (m.map fun l => .list (l.map wd))) = decide (l = m) := by
  simp only [PyData.eqv]
  exact eqvAll_map eqv_wl l m
def rEqGL (K : PySem.W.Frag) : R2 := fun x y H Q => ∃ a b, GL K H x a ∧ GL K H y b ∧ Q (.bl (decide (a = b))) H
theorem GL.rep {K : PySem.W.Frag} {H : Hp} {v : V} {l : List (List W)} (h : GL K H v l) : Rep K H v (.list (l.map fun l => .list (l.map wd))) := by
  obtain ⟨a, vs, rfl, h1, h2⟩ := h
  exact .lst h1 (glReps h2)
theorem op_eqGL (hu : X.A.units + 64 < cLine) : OpR X (compareOp .Eq) (rEqGL X.K) := (op_eqD hu).imp fun x y H Q ⟨a, b, h1, h2, q⟩ => ⟨_, _, h1.rep, h2.rep, shp_list lay_wl dep_wl (by decide) a, shp_list lay_wl dep_wl (by decide) b, by rw [eqv_gl]; exact q⟩
end
/-- xs.append(e) -/
theorem ps_app {X : Cx} {o e : Expr} {to te : TE} {p1 p2 p3 : Pos} (ho : PE X o to) (he : PE X e te) (hb : attributeBase o "append" X.env (eval o X.env) = eval o X.env := by rfl)
    (hf : ((backTo p2 (starEach [e] X.env)).all (fun x => !x.1) && (backToKw p2 (keywordEach [] X.env)).all (fun x => x.1.isSome) && decide (([e] : List Expr).length + ([] : List Keyword).length + (if ([] : List Keyword).isEmpty then 0 else 1) < 30)) = true := by rfl)
    (hl : (p1.endLine == p2.line) = true := by rfl) (hs : swapsWith (.Call (.Attribute o "append" p1) [e] [] p2) none p3.line X.env = pure false := by rfl) (s1 : starEach [e] X.env = (false, eval e X.env) :: starEach [] X.env := by rfl) :
    PS X (.Expr (.Call (.Attribute o "append" p1) [e] [] p2) p3) (tDrop (tBM X.K "list" rAppend to (tCons te tNil))) :=
  ps_expr (pe_bm (hbase := hb) (hfew := hf) (hline := hl) (hs := s1) PySem.F.plainAttrs_list PySem.F.slot_list_append PySem.F.type_list_append mt_append ho (pa_cons he pa_nil s1)) hs
end L2

end

section
set_option autoImplicit false
set_option maxRecDepth 100000
set_option linter.all false
namespace L2
open PySem PySem.Spec PyProof.Rows EoD Eo
theorem bools1 {J : It} {D : Addr} {js : List Nat} {te : TE} {σ : St} {H : Hp} {Qd : Hp → Prop} (n : Nat) (f : Nat → Bool) (hD : H D = none) (hn : n < sizeLine) (go : ∀ i H', i < n → Same H H' → J.go i H') (st : ∀ H', Same H H' → J.stop n H')
    (hs : ∀ i x H' H'' (Q : VK), i < n → Same H H' → J.yld i H' x H'' → (∀ H3, Same H' H3 → Q (.bl (f i)) H3) → te (some x :: look σ js) H'' Q)
    (hd : ∀ H', Same H H' → H' D = some (.lst (((List.range n).map f).map V.bl)) → Qd H') :
    ∃ W : Nat → Nat → List V → Hp → Prop, (∃ m, W 0 m [] (upd H D (.lst []))) ∧ ∀ i m acc H2, W i m acc H2 → H2 D = some (.lst acc) ∧ acc.length < sizeLine ∧ ((J.stop i H2 ∧ Qd H2) ∨
      (J.go i H2 ∧ ∀ x H3, J.yld i H2 x H3 → tYes (some x :: look σ js) H3 fun b H4 => if b = true then te (some x :: look σ js) H4 fun v H5 => H5 D = some (.lst acc) ∧ ∃ m', m' < m ∧ W (i + 1) m' (acc ++ [v]) (upd H5 D (.lst (acc ++ [v])))
        else ∃ m', m' < m ∧ W (i + 1) m' acc H4)) := by
  refine ⟨fun i m acc H2 => m = n - i ∧ i ≤ n ∧ Same H H2 ∧ H2 D = some (.lst acc) ∧ acc = ((List.range i).map f).map V.bl, ⟨n, by omega, Nat.zero_le _, Same.laid hD, upd_same, rfl⟩, ?_⟩
  rintro i m acc H2 ⟨rfl, hi, s2, e2, ea⟩
  refine ⟨e2, by rw [ea, List.length_map, List.length_map, List.length_range]; omega, ?_⟩
  by_cases hlt : i < n
  · refine .inr ⟨go i H2 hlt s2, fun x H3 y => ?_⟩
    simp only [tYes, if_true]
    refine hs i x H2 H3 _ hlt s2 y fun H5 s5 => ⟨s5 _ _ e2, _, (by omega : n - (i + 1) < n - i), rfl, hlt, (s2.trans s5).chg hD, upd_same, ?_⟩
    rw [ea, List.range_succ, List.map_append, List.map_append]
    rfl
  · have e : i = n := by omega
    subst e
    exact .inl ⟨st H2 s2, hd H2 s2 (by rw [e2, ea])⟩
def plV (l : List Nat) : List V := l.map fun i : Nat => V.int (i : Int)
theorem plV_len (l : List Nat) : (plV l).length = l.length := by simp [plV]
theorem filter_succ (f : Nat → Bool) (i : Nat) : plV ((List.range (i + 1)).filter f) = plV ((List.range i).filter f) ++ (if f i = true then [V.int i] else []) := by
  rw [List.range_succ, List.filter_append]
  unfold plV
  rw [List.map_append]
  congr 1
  cases e : f i <;> simp [e]
theorem places2 {K : PySem.W.Frag} {J : It} {D : Addr} {js : List Nat} {tc : TT} {te : TE} {σ : St} {H : Hp} {Qd : Hp → Prop} (n : Nat) (f : Nat → Bool) (hD : H D = none) (hn : n < sizeLine) (go : ∀ i H', i < n → Same H H' → J.go i H') (st : ∀ H', Same H H' → J.stop n H')
    (hs : ∀ i x H' H'', i < n → Same H H' → J.yld i H' x H'' → ∃ T v1 v2, x = .ref T ∧ SqT K H'' T [v1, v2] ∧ (∀ (Q : Bool → Hp → Prop), (∀ H3, Same H' H3 → Q (f i) H3) → tc (some v1 :: some v2 :: look σ js) H'' Q) ∧ ∀ H3 (Q : VK), Same H' H3 → Q (.int i) H3 → te (some v1 :: some v2 :: look σ js) H3 Q)
    (hd : ∀ H', Same H H' → H' D = some (.lst (plV ((List.range n).filter f))) → Qd H') :
    ∃ W : Nat → Nat → List V → Hp → Prop, (∃ m, W 0 m [] (upd H D (.lst []))) ∧ ∀ i m acc H2, W i m acc H2 → H2 D = some (.lst acc) ∧ acc.length < sizeLine ∧ ((J.stop i H2 ∧ Qd H2) ∨
      (J.go i H2 ∧ ∀ x H3, J.yld i H2 x H3 → ∃ T v1 v2, x = .ref T ∧ SqT K H3 T [v1, v2] ∧ tc (some v1 :: some v2 :: look σ js) H3 fun b H4 => if b = true then te (some v1 :: some v2 :: look σ js) H4 fun v H5 => H5 D = some (.lst acc) ∧ ∃ m', m' < m ∧ W (i + 1) m' (acc ++ [v]) (upd H5 D (.lst (acc ++ [v])))
        else ∃ m', m' < m ∧ W (i + 1) m' acc H4)) := by
  refine ⟨fun i m acc H2 => m = n - i ∧ i ≤ n ∧ Same H H2 ∧ H2 D = some (.lst acc) ∧ acc = plV ((List.range i).filter f), ⟨n, by omega, Nat.zero_le _, Same.laid hD, upd_same, rfl⟩, ?_⟩
  rintro i m acc H2 ⟨rfl, hi, s2, e2, ea⟩
  have hl : acc.length ≤ i := by
    rw [ea, plV_len]
    exact Nat.le_trans (List.length_filter_le _ _) (by simp)
  refine ⟨e2, by omega, ?_⟩
  by_cases hlt : i < n
  · refine .inr ⟨go i H2 hlt s2, fun x H3 y => ?_⟩
    obtain ⟨T, v1, v2, ex, hT, k1, k2⟩ := hs i x H2 H3 hlt s2 y
    refine ⟨T, v1, v2, ex, hT, k1 _ fun H4 s4 => ?_⟩
    have fs := filter_succ f i
    cases e : f i with
    | true =>
      rw [if_pos rfl]
      refine k2 H4 _ s4 ⟨s4 _ _ e2, _, (by omega : n - (i + 1) < n - i), rfl, hlt, (s2.trans s4).chg hD, upd_same, ?_⟩
      rw [fs, e, if_pos rfl, ea]
    | false =>
      rw [if_neg Bool.false_ne_true]
      refine ⟨_, (by omega : n - (i + 1) < n - i), rfl, hlt, s2.trans s4, s4 _ _ e2, ?_⟩
      rw [fs, e, if_neg Bool.false_ne_true, ea, List.append_nil]
  · have e : i = n := by omega
    subst e
    exact .inl ⟨st H2 s2, hd H2 s2 (by rw [e2, ea])⟩
section
variable {K : PySem.W.Frag} {a b : Addr} {xs ys : List V} {H H' H'' : Hp} {i : Nat} {x : V}
theorem itl_go (s : Same H H') (h : SqL K H a xs) (hi : i < xs.length) : (Itl K a).go i H' := ⟨xs, xs[i], s.seq h, by simp [hi]⟩
theorem itl_stop (s : Same H H') (h : SqL K H a xs) : (Itl K a).stop xs.length H' := ⟨xs, s.seq h, Nat.le_refl _⟩
theorem itl_yld (s : Same H H') (h : SqL K H a xs) (y : (Itl K a).yld i H' x H'') : H'' = H' ∧ xs[i]? = some x := ⟨y.1, y.2 xs (s.seq h)⟩
theorem ite_go (s : Same H H') (h : SqL K H a xs) (hi : i < xs.length) : (Ite K a).go i H' := ⟨xs, xs[i], s.seq h, by simp [hi]⟩
theorem ite_stop (s : Same H H') (h : SqL K H a xs) : (Ite K a).stop xs.length H' := ⟨xs, s.seq h, Nat.le_refl _⟩
theorem ite_yld (s : Same H H') (h : SqL K H a xs) (y : (Ite K a).yld i H' x H'') : ∃ T v, x = .ref T ∧ xs[i]? = some v ∧ Same H' H'' ∧ H'' T = some (.tup [.int i, v]) := by
  obtain ⟨T, v, ex, hT, hv, rfl⟩ := y
  exact ⟨T, v, ex, hv xs (s.seq h), Same.laid hT, upd_same⟩
end
abbrev tIsT (K : PySem.W.Frag) (te : TE) (T : String) : TE := tCB (fun xs H Q => ∃ x T t b, xs = [x, .ty T] ∧ TyOf K H x t ∧ PySem.W.kitOne K t (.type T) = some b ∧ Q (.bl b) H) (tCons te (tCons (tC (.ty T)) tNil))
end L2
namespace L2
open PySem PySem.Spec PyProof.Rows
end L2

end

section
set_option autoImplicit false
namespace Eo
theorem neg_neg (x : W) : neg (neg x) = x := by simp [neg]
theorem Nx.opp {ws : List (W × W)} {u v : W} (h : Nx ws u v) : Nx ws (neg v) (neg u) := by
  unfold Nx
  rw [neg_neg]
  exact h.symm
theorem Way.trans {ws : List (W × W)} {u v x : W} {j k : Nat} (a : Way ws u j v) (b : Way ws v k x) : Way ws u (j + k) x := by
  induction b with
  | here => exact a
  | step _ n ih => exact .step ih n
theorem Way.first {ws : List (W × W)} {u v x : W} {k : Nat} (n : Nx ws u v) (b : Way ws v k x) : Way ws u (1 + k) x := (Way.step .here n).trans b
theorem Way.opp {ws : List (W × W)} {u v : W} {k : Nat} (h : Way ws u k v) : Way ws (neg v) k (neg u) := by
  induction h with
  | here => exact .here
  | step _ n ih =>
    have := ih.first n.opp
    rw [Nat.add_comm] at this
    exact this
theorem Reach.refl (ws : List (W × W)) (u : W) : Reach ws u u := ⟨0, .here⟩
theorem Reach.trans {ws : List (W × W)} {u v x : W} (a : Reach ws u v) (b : Reach ws v x) : Reach ws u x := let ⟨_, a⟩ := a; let ⟨_, b⟩ := b; ⟨_, a.trans b⟩
theorem Reach.opp {ws : List (W × W)} {u v : W} (h : Reach ws u v) : Reach ws (neg v) (neg u) := let ⟨_, h⟩ := h; ⟨_, h.opp⟩
theorem Reach.next {ws : List (W × W)} {u v x : W} (a : Reach ws u v) (n : Nx ws v x) : Reach ws u x := let ⟨_, a⟩ := a; ⟨_, .step a n⟩
/-- whether a choice, as truths by names, has a word; pleases -/
def Has (f : Int → Bool) (x : W) : Prop := f x.1 = x.2
def Pls (f : Int → Bool) (ws : List (W × W)) : Prop := ∀ p ∈ ws, Has f p.1 ∨ Has f p.2
/-- where no name is torn, some choice pleases -/
theorem pls_of {N : Nat} {ws : List (W × W)} (g : Good N ws) (no : ∀ x, InN N x → ¬ (Reach ws x (neg x) ∧ Reach ws (neg x) x)) : ∃ f, Pls f ws := by
  classical
  have step : ∀ n : Nat, n ≤ N → ∃ T : W → Prop, (∀ x y, T x → Nx ws x y → T y) ∧ (∀ x, T x → ¬ T (neg x)) ∧ ∀ i : Nat, i < n → T ((i : Int), true) ∨ T ((i : Int), false) := by
    intro n
    induction n with
    | zero => exact fun _ => ⟨fun _ => False, fun _ _ h => h.elim, fun _ h => h.elim, fun i hi => by omega⟩
    | succ n ih =>
      intro hn
      obtain ⟨T, c1, c2, c3⟩ := ih (by omega)
      by_cases dn : T ((n : Int), true) ∨ T ((n : Int), false)
      · refine ⟨T, c1, c2, fun i hi => ?_⟩
        by_cases e : i = n
        · subst e; exact dn
        · exact c3 i (by omega)
      · have hx : ∃ b : Bool, ¬ Reach ws ((n : Int), b) (neg ((n : Int), b)) := by
          by_cases z : Reach ws ((n : Int), true) (neg ((n : Int), true))
          · exact ⟨false, fun z' => no ((n : Int), true) ⟨by show (0 : Int) ≤ n; omega, by show (n : Int) < N; omega⟩ ⟨z, z'⟩⟩
          · exact ⟨true, z⟩
        obtain ⟨b, hb⟩ := hx
        have und : ¬ T (neg ((n : Int), b)) := fun z => dn (by cases b with
          | true => exact .inr z
          | false => exact .inl z)
        have close0 : ∀ y k z, T y → Way ws y k z → T z := fun y k z hy r => by
          induction r with
          | here => exact hy
          | step _ n ih => exact c1 _ _ ih n
        have close : ∀ y z, T y → Reach ws y z → T z := fun y z hy ⟨k, r⟩ => close0 y k z hy r
        refine ⟨fun y => T y ∨ Reach ws ((n : Int), b) y, ?_, ?_, fun i hi => ?_⟩
        · rintro x y (h | h) m
          · exact .inl (c1 _ _ h m)
          · exact .inr (h.next m)
        · rintro x (h | h) (h' | h')
          · exact c2 x h h'
          · have := h'.opp
            rw [neg_neg] at this
            exact und (close _ _ h this)
          · have := h.opp
            exact und (close _ _ h' this)
          · have := h'.opp
            rw [neg_neg] at this
            exact hb (h.trans this)
        · by_cases e : i = n
          · subst e
            cases b with
            | true => exact .inl (.inr (.refl _ _))
            | false => exact .inr (.inr (.refl _ _))
          · exact (c3 i (by omega)).imp .inl .inl
  obtain ⟨T, c1, c2, c3⟩ := step N (Nat.le_refl _)
  have dec : ∀ x, InN N x → T x ∨ T (neg x) := by
    rintro ⟨n, b⟩ ⟨h1, h2⟩
    have h1 : 0 ≤ n := h1
    have h2 : n < (N : Int) := h2
    obtain ⟨i, rfl⟩ := Int.eq_ofNat_of_zero_le h1
    have := c3 i (by omega)
    cases b with
    | true => exact this
    | false => exact this.symm
  have had : ∀ x, T x → Has (fun n => decide (T (n, true))) x := by
    rintro ⟨n, b⟩ hx
    unfold Has
    cases b with
    | true => simp [hx]
    | false =>
      have : ¬ T (n, true) := c2 _ hx
      simp [this]
  refine ⟨fun n => decide (T (n, true)), fun p hp => ?_⟩
  rcases dec p.1 (g p hp).1 with h | h
  · exact .inl (had _ h)
  · exact .inr (had _ (c1 _ _ h (.inl (by rw [neg_neg]; exact hp))))
/-- either, or -/
theorem pls_or_torn {N : Nat} {ws : List (W × W)} (g : Good N ws) : (∃ f, Pls f ws) ∨ ∃ x, InN N x ∧ Reach ws x (neg x) ∧ Reach ws (neg x) x := by
  by_cases h : ∃ x, InN N x ∧ Reach ws x (neg x) ∧ Reach ws (neg x) x
  · exact .inr h
  · exact .inl (pls_of g fun x hx z => h ⟨x, hx, z⟩)
def fOf (c : List Bool) (n : Int) : Bool := c.getD n.toNat false
def ofF (N : Nat) (f : Int → Bool) : List Bool := (List.range N).map fun i : Nat => f (i : Int)
theorem ofF_len (N : Nat) (f : Int → Bool) : (ofF N f).length = N := by simp [ofF]
theorem fOf_ofF {N : Nat} {f : Int → Bool} {n : Int} (h0 : 0 ≤ n) (h1 : n < N) : fOf (ofF N f) n = f n := by
  obtain ⟨i, rfl⟩ := Int.eq_ofNat_of_zero_le h0
  have hi : i < N := by omega
  simp [fOf, ofF, List.getD, hi]
theorem has_ofF {N : Nat} {f : Int → Bool} {x : W} (h : InN N x) : Has (fOf (ofF N f)) x ↔ Has f x := by
  unfold Has
  rw [fOf_ofF h.1 h.2]
theorem pls_ofF {N : Nat} {ws : List (W × W)} {f : Int → Bool} (g : Good N ws) : Pls (fOf (ofF N f)) ws ↔ Pls f ws :=
  forall_congr' fun p => ⟨fun h hp => (h hp).imp (has_ofF (g p hp).1).1 (has_ofF (g p hp).2).1, fun h hp => (h hp).imp (has_ofF (g p hp).1).2 (has_ofF (g p hp).2).2⟩
instance (f : Int → Bool) (x : W) : Decidable (Has f x) := inferInstanceAs (Decidable (_ = _))
instance (f : Int → Bool) (ws : List (W × W)) : Decidable (Pls f ws) := inferInstanceAs (Decidable (∀ p ∈ ws, _))
/-- all choices, in the order of their numbers; those that please -/
def bitsOf (N k : Nat) : List Bool := (List.range N).map fun i => k / 2 ^ i % 2 == 1
def pleasing (ws : List (W × W)) (N : Nat) : List (List Bool) := ((List.range (2 ^ N)).map (bitsOf N)).filter fun c => decide (Pls (fOf c) ws)
theorem bits_len (N k : Nat) : (bitsOf N k).length = N := by simp [bitsOf]
theorem all_bits : ∀ c : List Bool, ∃ k, k < 2 ^ c.length ∧ bitsOf c.length k = c
  | [] => ⟨0, by simp, rfl⟩
  | b :: c => by
    obtain ⟨k, hk, e⟩ := all_bits c
    refine ⟨2 * k + (if b then 1 else 0), ?_, ?_⟩
    · rw [List.length_cons, Nat.pow_succ]
      cases b <;> simp <;> omega
    · unfold bitsOf at *
      rw [List.length_cons, List.range_succ_eq_map, List.map_cons, List.map_map]
      congr 1
      · cases b <;> simp <;> omega
      · refine Eq.trans ?_ e
        refine (List.map_congr_left fun i _ => ?_)
        simp only [Function.comp_apply]
        have : (2 * k + if b then 1 else 0) / 2 ^ (i + 1) = k / 2 ^ i := by
          rw [Nat.pow_succ, Nat.mul_comm (2 ^ i) 2, ← Nat.div_div_eq_div_mul]
          congr 1
          cases b <;> simp <;> omega
        rw [this]
theorem mem_pleasing {ws : List (W × W)} {N : Nat} {c : List Bool} : c ∈ pleasing ws N ↔ c.length = N ∧ Pls (fOf c) ws := by
  unfold pleasing
  rw [List.mem_filter, List.mem_map, decide_eq_true_iff]
  constructor
  · rintro ⟨⟨k, _, rfl⟩, h⟩
    exact ⟨bits_len N k, h⟩
  · rintro ⟨rfl, h⟩
    obtain ⟨k, hk, e⟩ := all_bits c
    exact ⟨⟨k, List.mem_range.2 hk, e⟩, h⟩
theorem pleasing_ne {N : Nat} {ws : List (W × W)} (g : Good N ws) : pleasing ws N ≠ [] ↔ ∃ f, Pls f ws := by
  constructor
  · intro h
    obtain ⟨c, hc⟩ := List.exists_mem_of_ne_nil _ h
    exact ⟨_, (mem_pleasing.1 hc).2⟩
  · rintro ⟨f, h⟩ e
    have : ofF N f ∈ pleasing ws N := mem_pleasing.2 ⟨ofF_len N f, (pls_ofF g).2 h⟩
    rw [e] at this
    simp at this
end Eo

end

section
set_option autoImplicit false
set_option maxRecDepth 100000
set_option linter.all false
namespace L2
open PySem PySem.Spec PyProof.Rows EoD Eo
/-- a new list of truths; a new list of such -/
def NewBs (H H' : Hp) (v : V) (bs : List Bool) : Prop := ∃ a, v = .ref a ∧ H a = none ∧ H' a = some (.lst (bs.map V.bl))
def NewCL (H H' : Hp) (v : V) (cs : List (List Bool)) : Prop := ∃ a vs, v = .ref a ∧ H a = none ∧ H' a = some (.lst vs) ∧ Paired (NewBs H H') vs cs
theorem NewBs.same {H H' H2 : Hp} {v : V} {bs : List Bool} (h : NewBs H H' v bs) (e : Same H' H2) : NewBs H H2 v bs := let ⟨a, h1, h2, h3⟩ := h; ⟨a, h1, h2, e _ _ h3⟩
theorem NewBs.old {H0 H H' : Hp} {v : V} {bs : List Bool} (h : NewBs H H' v bs) (e : Same H0 H) : NewBs H0 H' v bs := let ⟨a, h1, h2, h3⟩ := h; ⟨a, h1, e.free h2, h3⟩
theorem pairs_append {α β : Type} {F : α → β → Prop} : ∀ {l₁ m₁ : List α} {l₂ m₂ : List β}, Paired F l₁ l₂ → Paired F m₁ m₂ → Paired F (l₁ ++ m₁) (l₂ ++ m₂)
  | _, _, _, _, .nil, s => s
  | _, _, _, _, .cons r t, s => .cons r (pairs_append t s)
theorem lists1 {J : It} {D : Addr} {js : List Nat} {te : TE} {σ : St} {H : Hp} {Qd : Hp → Prop} (n : Nat) (cs : Nat → List Bool) (hD : H D = none) (hn : n < sizeLine) (go : ∀ i H', i < n → Same H H' → J.go i H') (st : ∀ H', Same H H' → J.stop n H')
    (hs : ∀ i x H' H'' (Q : VK), i < n → Same H H' → J.yld i H' x H'' → (∀ H3 a, Same H' H3 → H' a = none → H3 a = some (.lst ((cs i).map V.bl)) → Q (.ref a) H3) → te (some x :: look σ js) H'' Q)
    (hd : ∀ H' vs, Same H H' → H' D = some (.lst vs) → Paired (NewBs H H') vs ((List.range n).map cs) → Qd H') :
    ∃ W : Nat → Nat → List V → Hp → Prop, (∃ m, W 0 m [] (upd H D (.lst []))) ∧ ∀ i m acc H2, W i m acc H2 → H2 D = some (.lst acc) ∧ acc.length < sizeLine ∧ ((J.stop i H2 ∧ Qd H2) ∨
      (J.go i H2 ∧ ∀ x H3, J.yld i H2 x H3 → tYes (some x :: look σ js) H3 fun b H4 => if b = true then te (some x :: look σ js) H4 fun v H5 => H5 D = some (.lst acc) ∧ ∃ m', m' < m ∧ W (i + 1) m' (acc ++ [v]) (upd H5 D (.lst (acc ++ [v])))
        else ∃ m', m' < m ∧ W (i + 1) m' acc H4)) := by
  refine ⟨fun i m acc H2 => m = n - i ∧ i ≤ n ∧ Same H H2 ∧ H2 D = some (.lst acc) ∧ Paired (fun v bs => ∃ a, v = .ref a ∧ H a = none ∧ a ≠ D ∧ H2 a = some (.lst (bs.map V.bl))) acc ((List.range i).map cs), ⟨n, by omega, Nat.zero_le _, Same.laid hD, upd_same, .nil⟩, ?_⟩
  rintro i m acc H2 ⟨rfl, hi, s2, e2, pa⟩
  have la : acc.length = i := by
    have := Paired.length pa
    rw [List.length_map, List.length_range] at this
    exact this
  refine ⟨e2, by omega, ?_⟩
  by_cases hlt : i < n
  · refine .inr ⟨go i H2 hlt s2, fun x H3 y => ?_⟩
    simp only [tYes, if_true]
    refine hs i x H2 H3 _ hlt s2 y fun H5 a s5 na e5 => ?_
    have aD : a ≠ D := (ne_of_none e2 na).symm
    refine ⟨s5 _ _ e2, _, (by omega : n - (i + 1) < n - i), rfl, hlt, (s2.trans s5).chg hD, upd_same, ?_⟩
    rw [List.range_succ, List.map_append]
    refine Paired.snoc (Paired.mapP pa fun v bs ⟨b, h1, h2, h3, h4⟩ => ⟨b, h1, h2, h3, by rw [upd_ne h3]; exact s5 _ _ h4⟩) ⟨a, rfl, s2.free na, aD, by rw [upd_ne aD]; exact e5⟩
  · have e : i = n := by omega
    subst e
    exact .inl ⟨st H2 s2, hd H2 acc s2 e2 (Paired.mapP pa fun v bs ⟨b, h1, h2, h3, h4⟩ => ⟨b, h1, h2, h4⟩)⟩
theorem sel1 {α : Type} {K : PySem.W.Frag} {a D : Addr} {xs : List V} {js : List Nat} {tc : TT} {σ : St} {H : Hp} {Qd : Hp → Prop} {R : V → α → Prop} (css : List α) (g : α → Bool) (hD : H D = none) (hq : SqL K H a xs) (hn : xs.length < sizeLine) (pr : Paired R xs css)
    (hc : ∀ (i : Nat) x c H' (Q : Bool → Hp → Prop), xs[i]? = some x → css[i]? = some c → R x c → Same H H' → (∀ H3, Same H' H3 → Q (g c) H3) → tc (some x :: look σ js) H' Q)
    (hd : ∀ H' acc, Same H H' → H' D = some (.lst acc) → Paired R acc (css.filter g) → Qd H') :
    ∃ W : Nat → Nat → List V → Hp → Prop, (∃ m, W 0 m [] (upd H D (.lst []))) ∧ ∀ i m acc H2, W i m acc H2 → H2 D = some (.lst acc) ∧ acc.length < sizeLine ∧ (((Itl K a).stop i H2 ∧ Qd H2) ∨
      ((Itl K a).go i H2 ∧ ∀ x H3, (Itl K a).yld i H2 x H3 → tc (some x :: look σ js) H3 fun b H4 => if b = true then tVar 0 (some x :: look σ js) H4 fun v H5 => H5 D = some (.lst acc) ∧ ∃ m', m' < m ∧ W (i + 1) m' (acc ++ [v]) (upd H5 D (.lst (acc ++ [v])))
        else ∃ m', m' < m ∧ W (i + 1) m' acc H4)) := by
  refine ⟨fun i m acc H2 => m = xs.length - i ∧ i ≤ xs.length ∧ Same H H2 ∧ H2 D = some (.lst acc) ∧ acc.length ≤ i ∧ Paired R acc ((css.take i).filter g), ⟨xs.length, by omega, Nat.zero_le _, Same.laid hD, upd_same, Nat.le_refl _, by simpa using Paired.nil⟩, ?_⟩
  rintro i m acc H2 ⟨rfl, hi, s2, e2, la, pa⟩
  refine ⟨e2, by omega, ?_⟩
  by_cases hlt : i < xs.length
  · refine .inr ⟨itl_go s2 hq hlt, fun x H3 y => ?_⟩
    obtain ⟨rfl, hx⟩ := itl_yld s2 hq y
    obtain ⟨c, hcc, rx⟩ := paired_get pr hx
    have et : (css.take (i + 1)).filter g = (css.take i).filter g ++ (if g c = true then [c] else []) := by
      rw [List.take_add_one, hcc, List.filter_append]
      cases e : g c <;> simp [e]
    refine hc i x c _ _ hx hcc rx s2 fun H4 s4 => ?_
    cases e : g c with
    | true =>
      rw [if_pos rfl]
      refine ⟨x, rfl, s4 _ _ e2, _, (by omega : xs.length - (i + 1) < xs.length - i), rfl, hlt, (s2.trans s4).chg hD, upd_same, by simp; omega, ?_⟩
      rw [et, e, if_pos rfl]
      exact Paired.snoc pa rx
    | false =>
      rw [if_neg Bool.false_ne_true]
      refine ⟨_, (by omega : xs.length - (i + 1) < xs.length - i), rfl, hlt, s2.trans s4, s4 _ _ e2, by omega, ?_⟩
      rw [et, e, if_neg Bool.false_ne_true, List.append_nil]
      exact pa
  · have e : i = xs.length := by omega
    subst e
    have lc : xs.length = css.length := Paired.length pr
    rw [lc, List.take_length] at pa
    exact .inl ⟨itl_stop s2 hq, hd H2 acc s2 e2 pa⟩
def allC : Nat → List (List Bool)
  | 0 => [[]]
  | n + 1 => (allC n).map (· ++ [false]) ++ (allC n).map (· ++ [true])
theorem allC_len : ∀ n, (allC n).length = 2 ^ n
  | 0 => rfl
  | n + 1 => by
    rw [allC, List.length_append, List.length_map, List.length_map, allC_len n, Nat.pow_succ]
    omega
theorem bits_lo {n k : Nat} (h : k < 2 ^ n) : bitsOf (n + 1) k = bitsOf n k ++ [false] := by
  unfold bitsOf
  rw [List.range_succ, List.map_append]
  congr 1
  rw [List.map_cons, List.map_nil, Nat.div_eq_of_lt h]
  rfl
theorem bits_hi {n k : Nat} (h : k < 2 ^ n) : bitsOf (n + 1) (2 ^ n + k) = bitsOf n k ++ [true] := by
  unfold bitsOf
  rw [List.range_succ, List.map_append]
  have p : 0 < 2 ^ n := Nat.two_pow_pos n
  congr 1
  · refine List.map_congr_left fun i hi => ?_
    have hi : i < n := List.mem_range.1 hi
    have e : 2 ^ n = 2 ^ i * (2 * 2 ^ (n - i - 1)) := by
      rw [← Nat.mul_assoc, ← Nat.pow_succ, ← Nat.pow_add]
      congr 1
      omega
    have e2 : (2 ^ n + k) / 2 ^ i = 2 * 2 ^ (n - i - 1) + k / 2 ^ i := by
      rw [e, Nat.add_comm, Nat.add_mul_div_left _ _ (Nat.two_pow_pos i)]
      omega
    rw [e2]
    congr 1
    omega
  · rw [List.map_cons, List.map_nil]
    have : (2 ^ n + k) / 2 ^ n = 1 := by
      rw [Nat.add_div_left _ p, Nat.div_eq_of_lt h]
    rw [this]
    rfl
theorem allC_bits : ∀ n, allC n = (List.range (2 ^ n)).map (bitsOf n)
  | 0 => rfl
  | n + 1 => by
    have e : 2 ^ (n + 1) = 2 ^ n + 2 ^ n := by rw [Nat.pow_succ]; omega
    rw [allC, allC_bits n, e, List.range_add, List.map_append, List.map_map, List.map_map, List.map_map]
    congr 1
    · exact List.map_congr_left fun k hk => (bits_lo (List.mem_range.1 hk)).symm
    · exact List.map_congr_left fun k hk => (bits_hi (List.mem_range.1 hk)).symm
theorem pleasing_all (ws : List (W × W)) (N : Nat) : (allC N).filter (fun c => decide (Pls (fOf c) ws)) = pleasing ws N := by
  unfold pleasing
  rw [allC_bits]
theorem allC_mem {N : Nat} {c : List Bool} (h : c ∈ allC N) : c.length = N := by
  rw [allC_bits, List.mem_map] at h
  obtain ⟨k, _, rfl⟩ := h
  exact bits_len N k
end L2

end

section
set_option autoImplicit false
set_option maxRecDepth 100000
set_option linter.all false
namespace L2
open PySem PySem.Spec PyProof.Rows EoD Eo
end L2

end

section
set_option autoImplicit false
set_option maxRecDepth 100000
set_option linter.all false
namespace L2
open PySem PySem.Spec PyProof.Rows EoD Eo
/-- the object of an exception at e: its class, its dict, its last entry -/
def ExcO (h : Heap) (e : Addr) (cls : Value) (dO T : Option Addr) : Prop := ∃ oe vs, h.get? e = some oe ∧ oe.cls = cls ∧ oe.dict = dO ∧ oe.data = .fields vs ∧ 2 < vs.size ∧ vs[2]? = some Value.none ∧
  (match T with
  | none => vs[1]? = some Value.none
  | some t => vs[1]? = some (Value.ref t) ∧ t ≠ e ∧ ∃ ot ts, h.get? t = some ot ∧ ot.data = .fields ts ∧ 3 < ts.size)
structure Exc (X : Cx) (pins : List (Addr × Obj)) (H : Hp) (h : Heap) (e : Addr) (cls : Value) (dO : Option Addr) : Prop where
  fe : FpOk X pins H e
  ob : ∃ T, (∀ t, T = some t → FpOk X pins H t) ∧ ExcO h e cls dO T
section
variable {X : Cx} {pins : List (Addr × Obj)} {σ : St} {H : Hp} {s : Shared}
/-- records of ours have changed, and slots of frames -/
theorem Inv.recs {h' : Heap} {ch : List Addr} (I : Inv X pins σ H s) (hc : ∀ b ∈ ch, FpOk X pins H b) (kp : ∀ b o, b ∉ ch → b ∉ frs X.stack → s.heap.get? b = some o → h'.get? b = some o)
    (sl : ∀ b o, b ∉ ch → s.heap.get? b = some o → ∃ q, h'.get? b = some { o with slots := q }) : Inv X pins σ H { s with heap := h' } := by
  have nch : ∀ b u, H b = some u → b ∉ ch := fun b u e z => by rw [(hc b z).1] at e; cases e
  have nst : ∀ b u, H b = some u → b ∉ frs X.stack := fun b u e z => by rw [I.stkFree b z] at e; cases e
  refine I.step (g' := s.gens) (d' := s.drawn) (t' := s.toks) (ch := ch) (fun b hb => let ⟨_, a2, _, a4, a5, a6⟩ := hc b hb; ⟨a4, a2, a5, a6⟩) (fun b o h1 h2 h3 e _ => kp b o h3 (fun z => (List.mem_cons.mp (I.stkSub b z)).elim h1 h2) e) (fun b o _ _ h3 e _ => sl b o h3 e) (fun _ _ _ _ n => n)
    (fun b o h3 e => let ⟨_, q⟩ := sl b o h3 e; ⟨_, q⟩) (fun _ _ e => e) (fun _ _ _ e => e) (fun b ps e => ⟨#[], by rw [e]; simp⟩) (fun m hm => ?_) (fun b u e => ?_) I.bare
  · obtain ⟨o, es, ep, ho, r⟩ := hm
    obtain ⟨q, hq⟩ := sl _ o (fun z => (hc _ z).2.1 rfl) ho
    exact ⟨_, es, ep, hq, r⟩
  · refine (I.hok b u e).stay (fun c v hv q => ?_) (fun _ q => q) fun _ _ q => q
    rcases hv with z | z
    · subst z; exact kp c v (nch c u e) (nst c u e) q
    · exact kp c v (nch c _ z) (nst c _ z) q
theorem mapF {o : Obj} {vs : Array Value} {i : Nat} {x : Value} (hd : o.data = .fields vs) : (o.mapFields (·.setIfInBounds i x)).data = .fields (vs.setIfInBounds i x) := Obj.data_mapFields hd _
theorem upd_at {h : Heap} {a : Addr} {o : Obj} {vs : Array Value} {i : Nat} {x : Value} (ho : h.get? a = some o) (hd : o.data = .fields vs) : (h.update a (Obj.mapFields (·.setIfInBounds i x))).get? a = some (o.mapFields (·.setIfInBounds i x)) := Heap.get?_update_self _ ho (Obj.isFreed_of_fields (mapF hd))
theorem upd_off {h : Heap} {a b : Addr} {f : Obj → Obj} (n : b ≠ a) : (h.update a f).get? b = h.get? b := Heap.get?_update_other _ _ (Ne.symm n)
theorem mapF_dict {o : Obj} {f : Array Value → Array Value} : (o.mapFields f).dict = o.dict := by
  obtain ⟨c, d, dt, sl⟩ := o
  cases dt <;> rfl
/-- a new entry is laid ahead of the others -/
theorem entry_x {M : Model} {A : Around} {E : Value → Shared → Prop} {base : Heap} {env : Env} {outer : List Env} {L e : Addr} {oe : Obj} {vs : Array Value} {head : Value} {had : Bool} {Q : Unit → Shared → Prop}
    (hfr : A.frames = some (env :: outer)) (hl : s.heap.FunFrames base (env :: outer)) (hf : env.frame = some L) (he : s.heap.get? e = some oe) (hd : oe.data = .fields vs) (h1 : 1 < vs.size)
    (k : ∀ h' T ot ts, (∀ b o, b ≠ e → b ∉ frs (env :: outer) → s.heap.get? b = some o → h'.get? b = some o) → (∀ b o, b ≠ e → s.heap.get? b = some o → ∃ q, h'.get? b = some { o with slots := q }) → h'.get? e = some (oe.mapFields (·.setIfInBounds 1 (.ref T))) → s.heap.objs.size ≤ T →
      h'.get? T = some ot → ot.data = .fields ts → 3 < ts.size → Q () { s with heap := h' }) :
    wpAny M A (do let a ← frameOf env; let pl ← entryPlaceOf L had; let b ← EntryCells.newEntry head a .none (rawInt L) .none pl; setField (.ref e) 1 b) Q E s := by
  have nfe : e ∉ frs (env :: outer) := fun hm => by
    obtain ⟨_, o, ho, nf⟩ := hl.mem hm
    rw [he] at ho; cases ho
    exact nf vs hd
  refine wpAny_bind (wpAny_frameOf_fun hfr hl hf fun g1 so => wpAny_bind (wpAny_entryPlaceOf fun pl hpl => ?_))
  unfold EntryCells.newEntry newFields
  refine wpAny_bind (wpAny_newObj_type ?_ (hpl.sizeOk5 _ _ _ _ _))
  have e1 : g1.get? e = some oe := (so.2.1 e nfe).trans he
  have e2 := Heap.get?_push_of_some (h := g1) { cls := .type "traceback", dict := none, data := .fields ([head, .ref L, .none, rawInt L, .none] ++ (if pl.isEmpty then List.replicate 6 Value.none else pl)).toArray } e1
  refine wpAny_setField e2 hd h1 (k _ g1.objs.size _ _ (fun b o nb nf q => ?_) (fun b o nb q => ?_) (upd_at e2 hd) (by rw [so.1]; exact Nat.le_refl _) ((upd_off (Nat.ne_of_gt (Heap.lt_size e1))).trans (Heap.get?_push_size _ rfl)) rfl ?_)
  · rw [upd_off nb]
    exact Heap.get?_push_of_some _ ((so.2.1 b nf).trans q)
  · obtain ⟨sl, hs⟩ := so.2.2 b o q
    exact ⟨sl, by rw [upd_off nb]; exact Heap.get?_push_of_some _ hs⟩
  · simp only [List.size_toArray, List.length_append, List.length_cons, List.length_nil]
    omega
theorem entry_ok {E : Value → Shared → Prop} {e : Addr} {cls : Value} {dO : Option Addr} {oe : Obj} {vs : Array Value} {head : Value} {had : Bool} {Q : Unit → Shared → Prop} (I : Inv X pins σ H s) (st : X.stack = X.env :: X.outer ∧ X.env.frame = some X.env.locals)
    (fe : FpOk X pins H e) (he : s.heap.get? e = some oe) (hc : oe.cls = cls) (hdi : oe.dict = dO) (hd : oe.data = .fields vs) (h2 : 2 < vs.size) (h2n : vs[2]? = some Value.none)
    (k : ∀ s' t, Inv X pins σ H s' → FpOk X pins H t → ExcO s'.heap e cls dO (some t) → Q () s') :
    wpAny (model X.prog X.w) X.A (do let a ← frameOf X.env; let pl ← entryPlaceOf X.env.locals had; let b ← EntryCells.newEntry head a .none (rawInt X.env.locals) .none pl; setField (.ref e) 1 b) Q E s := by
  have fr : X.A.frames = some (X.env :: X.outer) := by rw [I.ok.frames, st.1]
  have ff : s.heap.FunFrames X.base (X.env :: X.outer) := by have := I.stack; rwa [st.1] at this
  refine entry_x fr ff st.2 he hd (by omega) fun h' T ot ts kp sl e' lt eT dT zT => ?_
  have ne : T ≠ e := fun z => by rw [z] at lt; exact absurd (Heap.lt_size he) (Nat.not_lt.mpr lt)
  refine k _ T (I.recs (ch := [e]) (fun b hb => ?_) (fun b o nb nf q => kp b o (fun z => nb (by simp [z])) (by rw [← st.1]; exact nf) q) fun b o nb q => sl b o (fun z => nb (by simp [z])) q) (I.fpOk lt (I.hok.fresh lt)) ?_
  · have : b = e := by simpa using hb
    subst this
    exact fe
  · refine ⟨_, _, e', (Obj.cls_mapFields _ _).trans hc, mapF_dict.trans hdi, mapF hd, by rw [Array.size_setIfInBounds]; exact h2, ?_, ?_, ne, ot, ts, eT, dT, zT⟩
    · rw [Array.getElem?_setIfInBounds_ne (by decide)]; exact h2n
    · rw [Array.getElem?_setIfInBounds_self_of_lt (by omega)]
theorem note_ok {E : Value → Shared → Prop} {e : Addr} {cls : Value} {dO : Option Addr} {Q : Unit → Shared → Prop} (I : Inv X pins σ H s) (st : X.stack = X.env :: X.outer ∧ X.env.frame = some X.env.locals) (x : Exc X pins H s.heap e cls dO)
    (k : ∀ s' t, Inv X pins σ H s' → FpOk X pins H t → ExcO s'.heap e cls dO (some t) → Q () s') : wpAny (model X.prog X.w) X.A (noteFrame (.ref e) X.env) Q E s := by
  obtain ⟨fe, T, ft, oe, vs, he, hc, hdi, hd, h2, h2n, hT⟩ := x
  unfold noteFrame
  simp only [st.2]
  cases T with
  | none =>
    refine wpAny_bind (wpAny_field he hd hT ?_)
    rw [if_neg (by decide)]
    exact entry_ok I st fe he hc hdi hd h2 h2n k
  | some t =>
    obtain ⟨h1, ne, ot, ts, et, dt, z3⟩ := hT
    have fT := ft t rfl
    refine wpAny_bind (wpAny_field he hd h1 ?_)
    rw [if_pos (show (Value.ref t != Value.none) = true from by simp)]
    refine wpAny_bind (wpAny_field et dt (Array.getElem?_eq_getElem z3) ?_)
    by_cases here : (ts[3] == rawInt X.env.locals) = true
    · rw [if_pos here]
      exact wpAny_pure (k s t I fT ⟨oe, vs, he, hc, hdi, hd, h2, h2n, h1, ne, ot, ts, et, dt, z3⟩)
    · rw [if_neg here]
      refine wpAny_bind (wpAny_setField et dt z3 ?_)
      have I1 : Inv X pins σ H { s with heap := s.heap.update t (Obj.mapFields (·.setIfInBounds 3 Value.none)) } := I.recs (ch := [t]) (fun b hb => by
        have : b = t := by simpa using hb
        subst this
        exact fT) (fun b o nb _ q => (upd_off (fun z => nb (by simp [z]))).trans q) fun b o nb q => ⟨o.slots, (upd_off (fun z => nb (by simp [z]))).trans q⟩
      exact entry_ok I1 st fe ((upd_off (Ne.symm ne)).trans he) hc hdi hd h2 h2n k
theorem flight_ok {E : Value → Shared → Prop} {e t : Addr} {cls : Value} {dO fr : Option Addr} {Q : Unit → Shared → Prop} (I : Inv X pins σ H s) (ft : FpOk X pins H t) (x : ExcO s.heap e cls dO (some t))
    (k : ∀ s', Inv X pins σ H s' → ExcO s'.heap e cls dO (some t) → Q () s') : wpAny (model X.prog X.w) X.A (setFlight (.ref e) fr) Q E s := by
  obtain ⟨oe, vs, he, hc, hdi, hd, h2, h2n, h1, ne, ot, ts, et, dt, z3⟩ := x
  unfold setFlight
  refine wpAny_bind (wpAny_field he hd h1 ?_)
  rw [if_pos (show (Value.ref t != Value.none) = true from by simp)]
  refine wpAny_setField et dt z3 (k _ (I.recs (ch := [t]) (fun b hb => ?_) (fun b o nb _ q => (upd_off (fun z => nb (by simp [z]))).trans q) fun b o nb q => ⟨o.slots, (upd_off (fun z => nb (by simp [z]))).trans q⟩) ?_)
  · have : b = t := by simpa using hb
    subst this
    exact ft
  · exact ⟨oe, vs, (upd_off (Ne.symm ne)).trans he, hc, hdi, hd, h2, h2n, h1, ne, _, _, upd_at et dt, mapF dt, by rw [Array.size_setIfInBounds]; exact z3⟩
/-- an exception leaves the frame -/
theorem leave_ok {E : Value → Shared → Prop} {e : Addr} {cls : Value} {dO : Option Addr} {Q : Unit → Shared → Prop} (I : Inv X pins σ H s) (st : X.stack = X.env :: X.outer ∧ X.env.frame = some X.env.locals) (x : Exc X pins H s.heap e cls dO)
    (k : ∀ s', Inv X pins σ H s' → Exc X pins H s'.heap e cls dO → Q () s') : wpAny (model X.prog X.w) X.A (leaving X.env (.ref e)) Q E s := by
  unfold leaving
  refine wpAny_bind (note_ok I st x fun s1 t I1 ft x1 => flight_ok I1 ft x1 fun s2 I2 x2 => k s2 I2 ⟨x.fe, some t, fun t' q => by cases q; exact ft, x2⟩)
/-- what lies behind: the state as it was, the exception -/
def XP (X : Cx) (E : XK) : Value → Shared → Prop := fun v s => ∃ pins σ H e cls dO, v = .ref e ∧ Inv X pins σ H s ∧ Exc X pins H s.heap e cls dO ∧ E cls dO H
theorem passes_own {E : XK} (st : X.stack = X.env :: X.outer ∧ X.env.frame = some X.env.locals) : PassesOwn (model X.prog X.w) X.A X.env (XP X E) := by
  rintro v s ⟨pins, σ, H, e, cls, dO, rfl, I, x, q⟩
  refine note_ok I st x fun s1 t I1 ft x1 => ?_
  show wpAny _ _ _ _ _ s1
  obtain ⟨oe, vs, he, hc, hdi, hd, h2, h2n, h1, r⟩ := id x1
  refine wpAny_bind (wpAny_field he hd h1 ?_)
  rw [if_neg (show ¬ ((Value.ref t == Value.none) = true) from Bool.false_ne_true)]
  exact flight_ok I1 ft x1 fun s2 I2 x2 => ⟨pins, σ, H, e, cls, dO, rfl, I2, ⟨x.fe, some t, fun t' q => by cases q; exact ft, x2⟩, q⟩
end
/-- behind a call that raised -/
def CXE (P : Program) (w : World) : CXT := fun outer H s E v s' => ∃ e cls dO H', v = .ref e ∧ s'.os = s.os ∧ AllBare s'.gens ∧ Un (frs outer) [] H H' s.heap s'.heap ∧ HOk P w H' s'.heap ∧
  (s.heap.get? e = none ∧ H' e = none) ∧ (∃ T, (∀ t, T = some t → s.heap.get? t = none ∧ H' t = none) ∧ ExcO s'.heap e cls dO T) ∧ E cls dO H'
/-- a context that lets exceptions with E pass -/
def Thr (X : Cx) (E : XK) : Prop := ∀ (pins : List (Addr × Obj)) (σ : St) (H : Hp) (s : Shared) (e : Addr) (cls : Value) (dO : Option Addr), Inv X pins σ H s → Exc X pins H s.heap e cls dO → E cls dO H → X.xe (.ref e) s
section
variable {X : Cx} {E : XK}
theorem passes_thr (t : Thr X E) : Passes (CXE X.prog X.w) X E := by
  rintro pins σ H s v s' I ⟨e, cls, dO, H', rfl, os, bare, un, hok, ⟨l1, n1⟩, ⟨T, hT, x⟩, q⟩
  have I' : Inv X pins σ H' s' := I.call' os un hok bare (fun b z => nomatch z)
  exact t pins σ H' s' e cls dO I' ⟨I.fpNew l1 n1, T, fun t' e' => I.fpNew (hT t' e').1 (hT t' e').2, x⟩ q
theorem thr_xp (X : Cx) (E : XK) : Thr (X.wish (XP X E)) E := fun pins σ H s e cls dO I x q => ⟨pins, σ, H, e, cls, dO, rfl, I.unwish, ⟨x.fe, let ⟨T, a, b⟩ := x.ob; ⟨T, a, b⟩⟩, q⟩
end
end L2

end

section
set_option autoImplicit false
set_option maxRecDepth 100000
set_option linter.all false
namespace PySem
section
variable {pg : Program} {wo : World} {Ar : Around} {Ex : Value → Shared → Prop} {h : Heap} {gs : Array GenState} {dr : Drawn} {tn : Nat} {os : OsState}
variable {nm qn : Str} {C N : Addr} {bs bm bmB : List Value} {hd : Bool} {sn : List Str} {sub : List Value} {ab : Bool} {col : Option Bool} {dd : Option Addr} {k0 k1 k2 k3 k5 : Option Value} {B newId initId : String}

theorem xi_type (F : ExcBaseFacts B newId initId bmB) (T : OwnTail h bmB bm) {mN : Str → Option Value} {us : List Value} {fI : Addr} {oI : Obj} {Q : Fin → Shared → Prop}
    (cC : h.get? C = some (excClassObj nm qn C N bs bm hd sn sub ab col dd k0 k1 k2 k3 k5 newId)) (cN : h.Ns N mN) (hi : mN "__init__" = some (.ref fI)) (hf : h.get? fI = some oI) (hfc : oI.cls = .type "function")
    (k : ∀ h' e, Heap.MadeExcOf h h' e (.ref C) us → wpAny (model pg wo) Ar (call (.ref fI) (.ref e :: us)) (fun r s' => r = .none ∧ Q (.done (.ret (.ref e))) s') Ex ⟨h', gs, dr, tn, os⟩) (hz : us.length ≤ sizeLine) :
    wpAny (model pg wo) Ar (Builtin.«type.__call__» ⟨.ref C :: us, []⟩) Q Ex ⟨h, gs, dr, tn, os⟩ := by
  repeat (first | with_reducible refine wpAny_loadPart_at cC ?_ | with_reducible refine wpAny_madeBy_exc cC ?_ | wp_step)
  refine codeAny_call_builtin_code (Code.quiet_builtin _ F.quiet) (wpAny_check_new_subT F T cC ?_)
  refine codeAny_exc_new_subT F T cC ?_ hz
  change wpAny _ _ _ _ _ _
  have kp : ∀ b o, h.get? b = some o → ((h.push { cls := .type "tuple", data := .seq us.toArray }).push { cls := .ref C, data := .fields #[.ref h.objs.size, .none, .none, .none, .bool false, .none] }).get? b = some o := fun b o q => Heap.get?_push_of_some _ (Heap.get?_push_of_some _ q)
  have cC1 := kp _ _ cC
  have hf1 := kp _ _ hf
  have cN1 := cN.keeps kp
  have hg1 : ((h.push { cls := .type "tuple", data := .seq us.toArray }).push { cls := .ref C, data := .fields #[.ref h.objs.size, .none, .none, .none, .bool false, .none] }).get? (h.objs.size + 1) = some { cls := .ref C, data := .fields #[.ref h.objs.size, .none, .none, .none, .bool false, .none] } := by heap_get
  have hcc : (Value.ref C :: bm).contains (.ref C) = true := by simp
  have T1 := T.keeps kp
  unfold isInstance
  repeat (first | with_reducible refine wpAny_loadPart_at hg1 ?_ | (with_reducible refine wpAny_isSubtype_exc cC1 ?_; rw [hcc]) | wp_step)
  change wpAny _ _ (typeLookup (.ref C) _) _ _ _
  refine wpAny_typeLookup_tail cC1 cN1 T1 F.mroIs F.init.lookup ?_
  rw [hi]
  refine wpAny_holding (wpAny_bind ?_)
  unfold bindSpecial
  refine wpAny_bind (wpAny_typeOf (T := "function") ⟨_, hf1, hfc⟩ ?_)
  rw [if_pos (by decide)]
  refine wpAny_pure (wpAny_bind (wpAny_mono (k _ (h.objs.size + 1) ⟨kp, Heap.get?_none_of_le (Nat.le_succ _), h.objs.size, hg1, Heap.get?_none_of_le (Nat.le_refl _), ?_⟩) (fun r s' hr => ?_) fun _ _ x => x))
  · exact Heap.get?_push_of_some _ (Heap.get?_push_at rfl rfl)
  · obtain ⟨rfl, hQ⟩ := hr
    wp_walk
    exact hQ

theorem xi_call (F : ExcBaseFacts B newId initId bmB) (T : OwnTail h bmB bm) {mN : Str → Option Value} {us : List Value} {fI : Addr} {oI : Obj} {Q : Value → Shared → Prop}
    (cC : h.get? C = some (excClassObj nm qn C N bs bm hd sn sub ab col dd k0 k1 k2 k3 k5 newId)) (cN : h.Ns N mN) (hi : mN "__init__" = some (.ref fI)) (hf : h.get? fI = some oI) (hfc : oI.cls = .type "function")
    (k : ∀ h' e, Heap.MadeExcOf h h' e (.ref C) us → wpAny (model pg wo) (Ar.under (.builtin "type.__call__" ⟨.ref C :: us, []⟩)) (call (.ref fI) (.ref e :: us)) (fun r s' => r = .none ∧ Q (.ref e) s') Ex ⟨h', gs, dr, tn, os⟩) (hz : us.length ≤ sizeLine) :
    wpAny (model pg wo) Ar (call (.ref C) us) Q Ex ⟨h, gs, dr, tn, os⟩ := by
  have f1 := tc_lookup
  have f2 := tc_bind (.ref C)
  have hT : (⟨h, gs, dr, tn, os⟩ : Shared).TypeIs (.ref C) "type" := ⟨_, cC, rfl⟩
  refine wpAny_call (codeAny_of_tree ?_)
  change wpAny _ _ (callAny (.ref C) _) _ _ _
  repeat (any_goals (first | assumption | with_reducible refine wpAny_loadPart_at cC ?_ | wp_step))
  refine ⟨rfl, ?_⟩
  refine codeAny_call_builtin_at (Code.quiet_builtin _ (by decide +kernel)) entry_typeCall (wpAny_check_type_call_sub cC (xi_type F T cC cN hi hf hfc (fun h' e hm => ?_) hz))
  exact k h' e hm

theorem xr_raise {M : Model} {s : Shared} {x : Sem Value} {env : Env} {Q : Flow → Shared → Prop} (hb : bm.contains (.type "BaseException") = true) (hh : Ar.handled = none)
    (k : wpAny M Ar x (fun v s₁ => ∃ e oe vs, v = .ref e ∧ s₁.heap.get? C = some (excClassObj nm qn C N bs bm hd sn sub ab col dd k0 k1 k2 k3 k5 newId) ∧ s₁.heap.get? e = some oe ∧ oe.cls = .ref C ∧ oe.data = .fields vs ∧ vs[1]? = some Value.none ∧ Ex (.ref e) s₁) Ex s) :
    wpAny M Ar (raiseStmt env (some x) none) Q Ex s := by
  have hcb : (Value.ref C :: bm).contains (.type "BaseException") = true := by rw [List.contains_cons, hb, Bool.or_true]
  unfold raiseStmt
  refine wpAny_bind (wpAny_mono k (fun v s₁ k₁ => ?_) fun _ _ z => z)
  obtain ⟨e, oe, vs, rfl, cC, he, hcl, hda, h1, hE⟩ := k₁
  obtain ⟨hp, gs, dr, tn, os⟩ := s₁
  obtain ⟨oc, od, oda, osl⟩ := oe
  dsimp only at hcl hda
  subst hcl hda
  repeat (first | with_reducible refine wpAny_loadPart_at he ?_ | with_reducible refine wpAny_loadPart_at cC ?_ | (with_reducible refine wpAny_isSubtype_exc cC ?_; rw [hcb]) | with_reducible refine wpAny_field he rfl h1 ?_ | wp_step)
  exact wpAny_raiseNew_none hh hE
end
end PySem
namespace PySem
section
variable {pg : Program} {wo : World} {Ar : Around} {Ex : Value → Shared → Prop} {h : Heap} {gs : Array GenState} {dr : Drawn} {tn : Nat} {os : OsState}
variable {nm qn : Str} {C N : Addr} {bs bm bmB : List Value} {hd : Bool} {sn : List Str} {sub : List Value} {ab : Bool} {col : Option Bool} {dd : Option Addr} {k0 k1 k2 k3 k5 : Option Value} {B newId initId : String}
/-- Base.__init__(e, ..) -/
theorem xi_init (F : ExcBaseFacts B newId initId bmB) (T : OwnTail h bmB bm) {us : List Value} {e : Addr} {dO : Option Addr} {vs : Array Value} {sl : Array (Option Value)} {Q : Value → Shared → Prop}
    (cC : h.get? C = some (excClassObj nm qn C N bs bm hd sn sub ab col dd k0 k1 k2 k3 k5 newId)) (he : h.get? e = some ⟨.ref C, dO, .fields vs, sl⟩) {t₁ : Addr} (h0 : vs[0]? = some (.ref t₁)) (hu : us.length ≤ sizeLine)
    (k : ∀ h' t0, (∀ b o, b ≠ e → h.get? b = some o → h'.get? b = some o) → h'.get? e = some ⟨.ref C, dO, .fields (vs.setIfInBounds 0 (.ref t0)), sl⟩ → Q .none ⟨h', gs, dr, tn, os⟩) :
    wpAny (model pg wo) Ar (call (.builtin initId) (.ref e :: us)) Q Ex ⟨h, gs, dr, tn, os⟩ := by
  refine wpAny_call (codeAny_call_builtin F.init.plain F.initEntry (wpAny_check_init_subT F T cC he rfl ?_))
  have he1 := Heap.get?_push_of_some { cls := .type "tuple", data := .seq us.toArray } he
  unfold Builtin.«BaseException.__init__»
  refine wpAny_bind ?_
  unfold newTuple
  refine wpAny_newObj_type ?_ (by change us.toArray.size ≤ sizeLine; rw [List.size_toArray]; exact hu)
  have hz : 0 < vs.size := (Array.getElem?_eq_some_iff.mp h0).1
  refine wpAny_bind ?_
  unfold Builtin.BaseException.bexcPut
  refine wpAny_bind (wpAny_field he1 rfl h0 (wpAny_bind (wpAny_setField he1 rfl hz ?_)))
  wp_walk
  refine k _ _ (fun b o nb q => ?_) (Heap.get?_update_self _ he1 rfl)
  rw [Heap.get?_update_other _ _ (Ne.symm nb)]
  exact Heap.get?_push_of_some _ q
end
end PySem

end

section
set_option autoImplicit false
set_option maxRecDepth 100000
set_option maxHeartbeats 1000000
set_option linter.all false
namespace PySem.W
open PySem PySem.Spec PySem.Calls PyProof.Rows Builtin Builtin.ObjectAttr
def onlyVE : List Value → Bool
  | .ref _ :: r => onlyVE r
  | l => l == [.type "ValueError", .type "Exception", .type "BaseException", .type "object"]
theorem onlyVE_pass (self : Value) : ∀ {l : List Value}, onlyVE l = true → refuseLoop self "__setattr__" l = pure () ∧ l.contains (.type "object") = true ∧ l ≠ []
  | [], e => by cases e
  | .ref c :: r, e => by
    obtain ⟨a, b, _⟩ := onlyVE_pass self (l := r) e
    exact ⟨by rw [refuseLoop_ref]; exact a, by rw [List.contains_cons, b, Bool.or_true], by simp⟩
  | .type n :: r, e => by
    have e' : (Value.type n :: r) = [.type "ValueError", .type "Exception", .type "BaseException", .type "object"] := beq_iff_eq.mp e
    rw [e']
    exact ⟨PySem.F.store_ValueError.passes self, by decide +kernel, by simp⟩
  | .none :: r, e => by cases beq_iff_eq.mp (show ((Value.none :: r) == [.type "ValueError", .type "Exception", .type "BaseException", .type "object"]) = true from e)
  | .bool b :: r, e => by cases beq_iff_eq.mp (show ((Value.bool b :: r) == [.type "ValueError", .type "Exception", .type "BaseException", .type "object"]) = true from e)
  | .int i t :: r, e => by cases beq_iff_eq.mp (show ((Value.int i t :: r) == [.type "ValueError", .type "Exception", .type "BaseException", .type "object"]) = true from e)
  | .float i t :: r, e => by cases beq_iff_eq.mp (show ((Value.float i t :: r) == [.type "ValueError", .type "Exception", .type "BaseException", .type "object"]) = true from e)
  | .str i t :: r, e => by cases beq_iff_eq.mp (show ((Value.str i t :: r) == [.type "ValueError", .type "Exception", .type "BaseException", .type "object"]) = true from e)
  | .bytes i t :: r, e => by cases beq_iff_eq.mp (show ((Value.bytes i t :: r) == [.type "ValueError", .type "Exception", .type "BaseException", .type "object"]) = true from e)
  | .builtin i :: r, e => by cases beq_iff_eq.mp (show ((Value.builtin i :: r) == [.type "ValueError", .type "Exception", .type "BaseException", .type "object"]) = true from e)
  | .notImplemented :: r, e => by cases beq_iff_eq.mp (show ((Value.notImplemented :: r) == [.type "ValueError", .type "Exception", .type "BaseException", .type "object"]) = true from e)
  | .ellipsis :: r, e => by cases beq_iff_eq.mp (show ((Value.ellipsis :: r) == [.type "ValueError", .type "Exception", .type "BaseException", .type "object"]) = true from e)
/-- an exception class of one's own, over ValueError -/
structure XC (K : Frag) (C : Addr) : Prop where
  ga : findIn K (.ref C) "__getattribute__" = some (some (.builtin "BaseException.__getattribute__"))
  gt : findIn K (.ref C) "__getattr__" = some none
  be : mroIn K C (.type "BaseException") = some true
  hd : hasDictIn K C = true
  sa : findIn K (.ref C) "__setattr__" = some (some (.builtin "object.__setattr__"))
  cl : findIn K (.ref C) "__class__" = some (some (.builtin "object.__class__"))
  cg : specialIn K (.builtin "object.__class__") "__get__" = some (some (.builtin "getset_descriptor.__get__"))
  ct : takesIn K (.builtin "object.__class__") = some true
  ve : (clsIn K C).any (fun cd => onlyVE cd.mro) = true
theorem XC.ob {K : Frag} {C : Addr} (c : XC K C) : mroIn K C (.type "object") = some true := by
  obtain ⟨cd, hc, ho⟩ := any_some c.ve
  obtain ⟨_, h2, h3⟩ := onlyVE_pass .none ho
  have ne : cd.mro.isEmpty = false := by
    cases q : cd.mro with
    | nil => exact absurd q h3
    | cons _ _ => rfl
  unfold mroIn
  rw [hc, Option.bind_some, if_neg (by rw [ne]; decide), h2]
section
variable {prog : Program} {w : World} {A : Around} {E : Value → Shared → Prop} {s : Shared} {K : Frag} {x C : Addr} {ox : Obj} {od : Option Obj} {name : Str}
theorem findObj_dataX {a g : Value} (hc : (clsIn K C).isSome = true) (ha : findIn K (.ref C) name = some (some a)) (hg : specialIn K a "__get__" = some (some g)) (ht : takesIn K a = some true) : findObj K C od name = some (.bind g a) := by
  obtain ⟨cd, hc⟩ := Option.isSome_iff_exists.mp hc
  unfold findObj
  rw [hc, Option.bind_some, ha, Option.bind_some]
  simp [hg, ht]
theorem xg_bodyC {tk : Tok} {Q : Fin → Shared → Prop} (c : XC K C) (X : K.In s.heap) (I : InstAt s.heap x ox C od) (h : Q (.done (.ret (.ref C))) s) :
    wpAny (model prog w) A (Builtin.«object.__getattribute__» ⟨[.ref x, .str "__class__" tk], []⟩) Q E s := by
  have hf : findObj K C od "__class__" = some (.bind (.builtin "getset_descriptor.__get__") (.builtin "object.__class__")) := findObj_dataX (by obtain ⟨cd, hc, _⟩ := any_some c.hd; rw [hc]; rfl) c.cl c.cg c.ct
  have cg := fun {Q' : Value → Shared → Prop} {A' : Around} (z : Q' (.ref C) s) => (wpAny_call (class_get (prog := prog) (w := w) (A := A') (tp := .ref C) (R := fun r s' => match r with | .ok (.ret v) => Q' v s' | .ok _ => False | .error e => E e s') X I c.ob z) : wpAny (model prog w) A' (call (.builtin "getset_descriptor.__get__") [.builtin "object.__class__", .ref x, .ref C]) Q' E s)
  obtain ⟨hh, g, d, t, os⟩ := s
  have L0 := I.type (M := model prog w)
  have L1 := looks_find (M := model prog w) X I hf
  refine wpAny_bind (wpAny_pure (wpAny_bind (wpAny_pure (wpAny_bind (L0.at (wpAny_bind (L1.at ?_)))))))
  change wpAny _ _ (holding [Value.builtin "object.__class__"] (call (.builtin "getset_descriptor.__get__") [.builtin "object.__class__", .ref x, .ref C]) >>= ret) _ _ _
  exact wpAny_bind (wpAny_holding (cg (wpAny_pure h)))
theorem xg_call {tk : Tok} {v : Value} {R : Result → Shared → Prop} (c : XC K C) (X : K.In s.heap) (I : InstAt s.heap x ox C od)
    (hb : ∀ {A' : Around} {Q : Fin → Shared → Prop} {E' : Value → Shared → Prop}, Q (.done (.ret v)) s → wpAny (model prog w) A' (Builtin.«object.__getattribute__» ⟨[.ref x, .str name tk], []⟩) Q E' s) (h : R (.ok (.ret v)) s) :
    codeAny (model prog w) A (.call (.builtin "BaseException.__getattribute__") ⟨[.ref x, .str name tk], []⟩) R s := by
  have hi : Looks (model prog w) s.heap (isInstance (.ref x) (.type "BaseException")) true := I.type.andThen (looks_mroIn X c.be)
  refine codeAny_call_builtin PySem.F.excAttr_ValueError.ga.plain PySem.F.entry_bexc_ga (@check_slot (model prog w) _ _ s "BaseException.__getattribute__" "BaseException" "__getattribute__" (.ref x) [.str name tk] [] _ (by decide +kernel) (by decide +kernel) hi (PySem.F.args_bexc_ga (.ref x) (.str name tk)) ?_)
  exact hb h
theorem xg_by {tk : Tok} {v : Value} {fill expr : Bool} {Q : Value → Shared → Prop} (c : XC K C) (X : K.In s.heap) (I : InstAt s.heap x ox C od)
    (hb : ∀ {A' : Around} {Q : Fin → Shared → Prop} {E' : Value → Shared → Prop}, Q (.done (.ret v)) s → wpAny (model prog w) A' (Builtin.«object.__getattribute__» ⟨[.ref x, .str name tk], []⟩) Q E' s) (hv : handedIn v = true) (h : Q v s) :
    wpAny (model prog w) A (getAttrBy (.ref x) (.str name tk) fill expr) Q E s := by
  have L0 := I.type (M := model prog w)
  have L1 := looks_findIn (M := model prog w) X c.ga
  have L2 := looks_findIn (M := model prog w) X c.gt
  have hx1 : (onTheHeap (Value.ref C) && Value.builtin "BaseException.__getattribute__" == Value.builtin "object.__getattribute__") = false := by
    rw [show (Value.builtin "BaseException.__getattribute__" == Value.builtin "object.__getattribute__") = false by decide +kernel, Bool.and_false]
  have hx0 : (expr && onTheHeap (Value.builtin "BaseException.__getattribute__")) = false := by cases expr <;> rfl
  unfold getAttrBy
  refine wpAny_holding (wpAny_bind (L0.here (wpAny_bind (L1.here ?_))))
  dsimp only
  rw [hx1, if_neg Bool.false_ne_true]
  unfold getAttrByItsOwn
  refine wpAny_bind ?_
  change wpAny _ _ (typeLookup (.ref C) "__getattr__") _ _ _
  refine L2.here (wpAny_bind (wpAny_attempt (wpAny_holding ?_)))
  unfold callGetattribute
  rw [hx0, if_neg Bool.false_ne_true]
  unfold boundAndCalled
  rw [PySem.F.excAttr_ValueError.ga.bind]
  refine wpAny_bind (wpAny_pure (wpAny_call (xg_call c X I hb ?_)))
  change wpAny _ _ (handedOut v) _ _ _
  rw [handedOut_of hv]
  exact wpAny_pure h
theorem xg_class {Q : Option Value → Shared → Prop} (c : XC K C) (X : K.In s.heap) (I : InstAt s.heap x ox C od) (h : Q (some (.ref C)) { s with toks := s.toks + 1 }) :
    wpAny (model prog w) A (getAttr? (.ref x) "__class__") Q E s := by
  unfold getAttr? getAttrBy?
  refine wpAny_bind (wpAny_mkText (wpAny_bind (wpAny_attempt (xg_by (s := { s with toks := s.toks + 1 }) c X I (fun z => xg_bodyC (s := { s with toks := s.toks + 1 }) c X I z) rfl ?_))))
  exact wpAny_pure h
theorem kitx_exc (c : XC K C) : KitX K (.ref x) (.ref C) (fun h => InstAt h x ox C od) where
  ty := fun _ _ _ I => I.type
  it := fun _ _ X _ => by
    obtain ⟨cdD, hcD, _⟩ := any_some c.hd
    unfold clsIn at hcD
    split at hcD
    · rename_i c' d' cd' sl' ho
      intro A' Q' E' s' kk q
      unfold isType loadHead
      exact wpAny_bind (wpAny_loadPart (kk _ _ (X _ _ ho)) (wpAny_pure q))
    · cases hcD
  ne := fun h tp dd its n sl X htp => by
    obtain ⟨cdD, hcD, _⟩ := any_some c.hd
    refine Bool.eq_false_iff.mpr fun q => ?_
    have e : C = tp := Value.ref.inj (beq_iff_eq.mp q)
    subst e
    unfold clsIn at hcD
    split at hcD
    · rename_i c' d' cd' sl' ho
      have z := (X _ _ ho).symm.trans htp
      cases z
    · cases hcD
  ca := fun X I k => xg_class c X I k
/-- e.name = v, the first attribute of an exception -/
theorem xs_open {R : Result → Shared → Prop} {tk : Tok} {v : Value} (c : XC K C) (X : K.In s.heap) (I : InstAt s.heap x ox C od) (ht : takerIn K C name = some none)
    (h : ∀ b, wpAny (model prog w) A.in1 (storeInOwnDict (.ref x) (.ref C) (.str name tk) name v b)
      (fun fin s' => match fin with | .done f => R (.ok f) s' | .again c' => c'.quiet = true ∧ codeAny (model prog w) A c' R s') (fun e s' => R (.error e) s') s) :
    codeAny (model prog w) A (.call (.builtin "object.__setattr__") ⟨[.ref x, .str name tk, v], []⟩) R s := by
  have SF := PySem.F.store_object
  obtain ⟨cd, hc, ho⟩ := any_some c.ve
  have sub : Looks (model prog w) s.heap (isInstance (.ref x) (.type "object")) true := I.type.andThen (looks_mroIn X c.ob)
  refine codeAny_call_builtin SF.slot.plain SF.entry (@check_slot (model prog w) _ _ s "object.__setattr__" "object" "__setattr__" (.ref x) [.str name tk, v] [] _ SF.kind SF.split sub (SF.args (.ref x) (.str name tk) v) ?_)
  obtain ⟨attr, ha, hr⟩ := Option.bind_eq_some_iff.mp ht
  have hm : Looks (model prog w) s.heap (mroOf (.ref C)) cd.mro := (looks_clsIn X hc).andThen .now
  have L3 : Looks (model prog w) s.heap (storeTaker? attr) none := by
    cases attr with
    | none => exact .now
    | some a =>
      obtain ⟨b, hb, hbb⟩ := Option.map_eq_some_iff.mp hr
      refine (looks_takesIn X hb).andThen ?_
      cases b with
      | false => exact .now
      | true => cases hbb
  rw [osa_eq, refuse_eq]
  refine wpAny_bind (wpAny_bind (I.type.here (wpAny_bind (hm.here ?_))))
  rw [(onlyVE_pass _ ho).1]
  refine wpAny_pure (wpAny_bind (I.type.here (wpAny_bind ((looks_findIn X ha).here (wpAny_bind (L3.here ?_))))))
  exact h _
theorem xs_set {v : Value} {vs : Array Value} {sl : Array (Option Value)} {Q : Unit → Shared → Prop} (c : XC K C) (X : K.In s.heap) (he : s.heap.get? x = some ⟨.ref C, none, .fields vs, sl⟩) (ht : takerIn K C name = some none)
    (h : ∀ h' tk', h'.get? x = some ⟨.ref C, some s.heap.objs.size, .fields vs, sl⟩ → h'.Ns1 s.heap.objs.size (fun y => if y = name then some v else none) → (∀ b o, b ≠ x → s.heap.get? b = some o → h'.get? b = some o) → Q () { s with heap := h', toks := tk' }) :
    wpAny (model prog w) A (setAttr (.ref x) name v) Q E s := by
  have I : InstAt s.heap x ⟨.ref C, none, .fields vs, sl⟩ C none := ⟨he, rfl, rfl, trivial⟩
  refine set_plain X I c.sa (xs_open (s := { s with toks := s.toks + 1 }) c X I ht fun b => ?_)
  obtain ⟨hh, g, d, t, os⟩ := s
  obtain ⟨cd, hc, hd'⟩ := any_some c.hd
  refine wpAny_bind (wpAny_pure (wpAny_bind (wpAny_bind (wpAny_loadPart he (wpAny_bind (looks_clsIn (M := model prog w) X hc _ _ _ _ (fun _ _ e => e) ?_))))))
  rw [hd']
  dsimp only
  have hx₁ : (hh.push { cls := .type "dict", data := .dict #[] }).get? x = some ⟨.ref C, none, .fields vs, sl⟩ := Heap.get?_push_of_some _ he
  have hxs : x ≠ hh.objs.size := Nat.ne_of_lt (Heap.lt_size he)
  have hgd : ((hh.push { cls := .type "dict", data := .dict #[] }).update x fun o => { o with dict := some hh.objs.size }).get? hh.objs.size = some { cls := .type "dict", data := .dict #[] } :=
    (Heap.get?_update_ne _ _ _ _ hxs.symm).trans (Heap.get?_push_at rfl rfl)
  have hnd : ((hh.push { cls := .type "dict", data := .dict #[] }).update x fun o => { o with dict := some hh.objs.size }).Ns hh.objs.size (fun _ => none) :=
    ⟨_, #[], _, hgd, rfl, fun e he => absurd he (by simp), fun _ => rfl⟩
  simp only [Bool.not_true, Bool.false_or, typeHasDict, Bool.false_eq_true, if_false]
  refine wpAny_bind (wpAny_alloc' (wpAny_bind (wpAny_update' hx₁ ?_)))
  refine wpAny_pure ?_
  change wpAny _ _ (storeInDict hh.objs.size (.str name _) name v) _ _ _
  unfold storeInDict newKeyGuard
  refine wpAny_bind (wpAny_pure (wpAny_bind (wpAny_nsSet1 (Heap.Ns1.of_empty hnd) fun h' hn' hs => ?_)))
  obtain ⟨oD, esD, epD, hoD, hdD, hcD⟩ := hn'.count (Within.cons name v Within.nil)
  refine wpAny_bind (wpAny_lookBehind hoD (by rw [hdD]; exact pastItsLine_dict (Nat.le_trans hcD (by rw [List.length_cons, List.length_nil, sizeLine_eq]; omega))) ?_)
  refine wpAny_pure (h h' _ ?_ hn' fun b o nb q => ?_)
  · exact (hs.2 x hxs).trans (Heap.get?_update_self _ hx₁ rfl)
  · exact (hs.2 b (Nat.ne_of_lt (Heap.lt_size q))).trans ((Heap.get?_update_ne _ _ _ _ nb).trans (Heap.get?_push_of_some _ q))
end
end PySem.W

end

section
set_option autoImplicit false
set_option maxRecDepth 100000
set_option linter.all false
namespace L2
open PySem PySem.Spec PyProof.Rows EoD Eo
def XeP (C : Addr) (dO : Option Addr) (e : Addr) (h : Heap) : Prop := ∃ vs sl t, h.get? e = some ⟨.ref C, dO, .fields vs, sl⟩ ∧ 2 < vs.size ∧ vs[0]? = some (Value.ref t) ∧ vs[1]? = some Value.none ∧ vs[2]? = some Value.none
def XE (C : Addr) (dO : Option Addr) (e : Addr) : HO := .ext (XeP C dO e)
theorem XeP.ok {P : Program} {w : World} {H : Hp} {h : Heap} {C e : Addr} {dO : Option Addr} (x : XeP C dO e h) : ObjOk P w H h e (XE C dO e) :=
  ⟨x, let ⟨_, _, _, q, _⟩ := x; ⟨_, q⟩, fun _ _ ⟨vs, sl, t, q, r⟩ k => ⟨vs, sl, t, k _ q, r⟩⟩
theorem HOk.xe {P : Program} {w : World} {H : Hp} {h : Heap} {C e : Addr} {dO : Option Addr} (x : HOk P w H h) (q : H e = some (XE C dO e)) : XeP C dO e h := (show ObjOk P w H h e (.ext _) from x e _ q).1
def del (H : Hp) (a : Addr) : Hp := fun b => if b = a then none else H b
theorem del_same {H : Hp} {a : Addr} : del H a a = none := by unfold del; rw [if_pos rfl]
theorem del_ne {H : Hp} {a b : Addr} (h : b ≠ a) : del H a b = H b := by unfold del; rw [if_neg h]
theorem del_some {H : Hp} {a b : Addr} {φ : Heap → Prop} {o : HO} (e : H a = some (.ext φ)) (n : ∀ ψ, o ≠ .ext ψ) (h : H b = some o) : del H a b = some o := by
  refine (del_ne fun z => ?_).trans h
  rw [z, e] at h
  exact n φ (Option.some.inj h).symm
theorem del_none {H : Hp} {a b : Addr} (h : H b = none) : del H a b = none := by
  unfold del
  split
  · rfl
  · exact h
theorem ObjOk.obj {P : Program} {w : World} {H : Hp} {h : Heap} {a : Addr} {o : HO} (x : ObjOk P w H h a o) : ∃ ob, h.get? a = some ob := by
  cases o with
  | lst xs => obtain ⟨_, _, _, _, e⟩ := x; exact ⟨_, e⟩
  | tup xs => obtain ⟨_, _, _, ob, e, _⟩ := x; exact ⟨_, e⟩
  | dK kvs => obtain ⟨_, _, _, _, o, _, _, e, _⟩ := x; exact ⟨_, e⟩
  | dT kvs => obtain ⟨_, _, _, _, o, _, _, e, _⟩ := x; exact ⟨_, e⟩
  | set S n => obtain ⟨o, _, _, _, e, _⟩ := x; exact ⟨_, e⟩
  | ins C dx fs => obtain ⟨_, _, _, e, _⟩ := x; exact ⟨_, e⟩
  | own y => exact x
  | xd fs => obtain ⟨_, ⟨_, _, _, e, _⟩, _⟩ := x; exact ⟨_, e⟩
  | rng lo hi => obtain ⟨_, _, _, e⟩ := x; exact ⟨_, e⟩
  | frz ob u => obtain ⟨e, _⟩ := x; exact ⟨_, e⟩
  | tbl ps => exact ⟨_, x⟩
  | met f y => exact ⟨_, x⟩
  | ext φ => exact x.2.1
theorem HOk.freshN {P : Program} {w : World} {H : Hp} {h : Heap} {a : Addr} (x : HOk P w H h) (e : h.get? a = none) : H a = none := by
  cases q : H a with
  | none => rfl
  | some u =>
    obtain ⟨ob, z⟩ := (x a u q).obj
    rw [e] at z
    cases z
section
variable {X : Cx} {pins : List (Addr × Obj)} {σ : St} {H : Hp} {s : Shared}
theorem Inv.del (I : Inv X pins σ H s) {e : Addr} {φ : Heap → Prop} (q : H e = some (.ext φ)) : Inv X pins σ (del H e) s := by
  refine ⟨I.ok, I.os, I.bare, ⟨I.base.keep, I.base.slot, fun b o h1 h2 h3 => del_none (I.base.free b o h1 h2 h3), I.base.there, fun b xs h => del_some q (fun _ z => nomatch z) (I.base.tups b xs h), fun b o u h => del_some q (fun _ z => nomatch z) (I.base.frzs b o u h), fun b ps h => ?_⟩,
    I.loc, I.cell, del_none I.free, fun x c h => del_none (I.freeC x c h), fun p hp => ?_, fun b o h => ?_, I.len⟩
  · obtain ⟨m, z⟩ := I.base.tbls b ps h
    exact ⟨m, del_some q (fun _ z => nomatch z) z⟩
  · obtain ⟨a1, a2, a3⟩ := I.pin p hp
    exact ⟨a1, del_none a2, a3⟩
  · have hb : H b = some o := by
      by_cases z : b = e
      · rw [z, del_same] at h; cases h
      · rw [del_ne z] at h; exact h
    exact (I.hok b o hb).stay (fun _ _ _ z => z) (fun c z => del_some q (fun _ z => nomatch z) z) fun c xs z => del_some q (fun _ z => nomatch z) z
theorem Inv.laidN {h' : Heap} {a : Addr} {o : HO} {t' : Nat} (I : Inv X pins σ H s) (k : ∀ b u, s.heap.get? b = some u → h'.get? b = some u) (hp : s.heap.get? a = none) (new : ObjOk X.prog X.w (upd H a o) h' a o) :
    Inv X pins σ (upd H a o) { s with heap := h', toks := t' } := by
  have hn := I.hok.freshN hp
  have ne : ∀ b u, s.heap.get? b = some u → b ≠ a := fun b u q z => by rw [z, hp] at q; cases q
  refine I.un ⟨fun b u q _ _ _ => k b u q, fun b u q _ _ _ => ⟨u.slots, k b u q⟩, fun b u q n _ => by rw [upd_ne (ne b u q)]; exact n, fun b u q _ => ⟨u, k b u q⟩, fun b xs q => by rw [upd_ne (ne_of_none q hn)]; exact q, fun b u xs q => by rw [upd_ne (ne_of_none q hn)]; exact q,
    fun b ps q => ⟨#[], by rw [upd_ne (ne_of_none q hn), q]; simp⟩⟩ fun b u e => ?_
  by_cases hb : b = a
  · subst hb; rw [upd_same] at e; cases e; exact new
  · rw [upd_ne hb] at e
    exact (I.hok b u e).stay (fun c v _ q => k c v q) (fun c q => by rw [upd_ne (ne_of_none q hn)]; exact q) fun c xs q => by rw [upd_ne (ne_of_none q hn)]; exact q
end
abbrev bmV : List Value := [.type "ValueError", .type "Exception", .type "BaseException", .type "object"]
theorem ns_val {K : PySem.W.Frag} {h : Heap} {N : Addr} {m : Str → Option Value} {n : Str} {v : Value} (X : K.In h) (G : h.Ns N m) (e : PySem.W.nsIn K N n = some (some v)) : m n = some v := by
  obtain ⟨o, es, ep, ho, hd, _, hf⟩ := G
  unfold PySem.W.nsIn at e
  split at e
  · rename_i c d es' n' sl q
    have := X _ _ q
    rw [ho] at this
    cases this
    cases hd
    split at e
    · rename_i en he
      cases e
      rw [← hf]
      unfold nsFind findBy
      rw [← Array.find?_toList, he]
      rfl
    · split at e <;> cases e
  · cases e
/-- an exception class over ValueError; r: its own __init__ -/
def xclIn (K : PySem.W.Frag) (C : Addr) (r : Option Value) : Bool := match K.lookup C with
  | some ⟨.type t, _, .cls cd, sl⟩ => (match cd.mro, sl.toList with
    | .ref C' :: bm, [_, _, _, _, some (.builtin n), _] => t == "type" && C' == C && n == "ValueError.__new__" && !cd.hasDel && PySem.W.tailIn K bmV bm && PySem.W.nsOkIn K cd.ns && PySem.W.nsIn K cd.ns "__init__" == some r
    | _, _ => false)
  | _ => false
structure XCls (h : Heap) (C : Addr) (r : Option Value) (nm qn : Str) (N : Addr) (bs bm : List Value) (hd : Bool) (sn : List Str) (sub : List Value) (ab : Bool) (col : Option Bool) (dd : Option Addr) (k0 k1 k2 k3 k5 : Option Value) (mN : Str → Option Value) : Prop where
  ob : h.get? C = some (excClassObj nm qn C N bs bm hd sn sub ab col dd k0 k1 k2 k3 k5 "ValueError.__new__")
  ns : h.Ns N mN
  ini : mN "__init__" = r
  tl : OwnTail h bmV bm
theorem xcls_of {K : PySem.W.Frag} {h : Heap} {C : Addr} {r : Option Value} (X : K.In h) (q : xclIn K C r = true) : ∃ nm qn N bs bm hd sn sub ab col dd k0 k1 k2 k3 k5 mN, XCls h C r nm qn N bs bm hd sn sub ab col dd k0 k1 k2 k3 k5 mN := by
  unfold xclIn at q
  split at q
  · rename_i t dd cd sl ho
    split at q
    · rename_i C' bm k0 k1 k2 k3 n k5 hm hs
      simp only [Bool.and_eq_true, beq_iff_eq, Bool.not_eq_true'] at q
      obtain ⟨⟨⟨⟨⟨⟨rfl, rfl⟩, rfl⟩, hdel⟩, ht⟩, hok⟩, hni⟩ := q
      obtain ⟨nm, bs, mro, ns, qn, hd, sn, sub, ab, col, dl⟩ := cd
      dsimp only at hm hdel hok hni
      subst hm hdel
      have hsl : sl = #[k0, k1, k2, k3, some (.builtin "ValueError.__new__"), k5] := by
        obtain ⟨l⟩ := sl
        simp only at hs
        rw [hs]
      subst hsl
      refine ⟨nm, qn, ns, bs, bm, hd, sn, sub, ab, col, dd, k0, k1, k2, k3, k5, _, X _ _ ho, .of_isNs (PySem.W.isNs_of_in X hok), ?_, PySem.W.tail_of_in X ht⟩
      cases r with
      | none => exact PySem.W.nsMap_none_of_in X hok hni
      | some v => exact ns_val X (.of_isNs (PySem.W.isNs_of_in X hok)) hni
    · cases q
  · cases q
theorem XCls.keeps {h h' : Heap} {C : Addr} {r : Option Value} {nm qn : Str} {N : Addr} {bs bm : List Value} {hd : Bool} {sn : List Str} {sub : List Value} {ab : Bool} {col : Option Bool} {dd : Option Addr} {k0 k1 k2 k3 k5 : Option Value} {mN : Str → Option Value}
    (c : XCls h C r nm qn N bs bm hd sn sub ab col dd k0 k1 k2 k3 k5 mN) (k : ∀ b o, h.get? b = some o → h'.get? b = some o) : XCls h' C r nm qn N bs bm hd sn sub ab col dd k0 k1 k2 k3 k5 mN := ⟨k _ _ c.ob, c.ns.keeps k, c.ini, c.tl.keeps k⟩
theorem own_base {h : Heap} {bm : List Value} (T : OwnTail h bmV bm) : bm.contains (.type "BaseException") = true := T.hasType (by decide +kernel)
theorem fn_at {K : PySem.W.Frag} {h : Heap} {f : Addr} (X : K.In h) (e : PySem.W.isFn K (.ref f) = true) : ∃ o, h.get? f = some o ∧ o.cls = .type "function" := by
  have e' : PySem.W.typeIn K (.ref f) = some (.type "function") := beq_iff_eq.mp e
  obtain ⟨o, ho, hc⟩ := Option.map_eq_some_iff.mp (show (K.lookup f).map (·.cls) = some (.type "function") from e')
  exact ⟨o, X _ _ ho, hc⟩
def tRaiseI (C : Addr) (sp : Sp) (E : XK) (t : TA) : TS := fun D σ H => t σ H fun vs H1 => vs.length ≤ sizeLine ∧ ∀ e, H1 e = none → sp (.ref e :: vs) (upd H1 e (XE C none e)) (fun v H2 => v = .non ∧ ∃ dO, H2 e = some (XE C dO e) ∧ E (.ref C) dO (del H2 e)) E0
section
variable {X : Cx} {x : Str} {np cpos pos : Pos} {a : Expr} {as : List Expr} {t : TA} {C f : Addr} {k : Nat} {fd : FuncData} {ps : List Str} {sp : Sp} {E : XK}
theorem ps_raiseI (hc : X.calm = true) (M : xclIn X.K C (some (.ref f)) = true) (kp : PySem.W.keepIn X.K (.ref C) = true) (isf : PySem.W.isFn X.K (.ref f) = true) (F : FnOk X.prog X.w X.K X.mg X.base CX0 k f fd ps sp) (hr : Room (k + 1) X.A)
    (hg : Gl X x) (hm : X.mg x = some (.ref C)) (hb : Binds X.K fd ps []) (th : Thr X E) (ha : PA X (a :: as) t) (hdb : (x == ("__debug__" : Str)) = false := by decide)
    (he : starEach (a :: as) X.env = (false, eval a X.env) :: starEach as X.env := by rfl) (hpl : (backTo cpos (starEach as X.env)).any (·.1) = false := by rfl) :
    PS X (.Raise (some (.Call (.Name x np) (a :: as) [] cpos)) none pos) (tRaiseI C sp E t) := by
  intro pins s σ H D I h
  obtain ⟨nm, qn, N, bs, bm, hd, sn, sub, ab, col, dd, k0, k1, k2, k3, k5, mN, c0⟩ := xcls_of I.mod.kin M
  rw [arm_exec_Raise]
  refine wpAny_bind (wpAny_standAt (xr_raise (C := C) (nm := nm) (qn := qn) (N := N) (bs := bs) (bm := bm) (hd := hd) (sn := sn) (sub := sub) (ab := ab) (col := col) (dd := dd) (k0 := k0) (k1 := k1) (k2 := k2) (k3 := k3) (k5 := k5) (newId := "ValueError.__new__") (own_base c0.tl) (I.ok.hd hc)
    (wpAny_bind (wpAny_mono (wpAny_Call_Name_kw (ld_glob I hg hm ?_ hdb)) (fun v s₃ h₃ => wpAny_bind (wpAny_standAt (wpAny_pure h₃))) fun _ _ z => z))))
  refine PySem.W.callWith_K (h₀ := X.base) I.ok.mod.kin kp (thn (ha cpos pins s σ H _ I h) fun us s1 ⟨vs, H1, I1, r, hz, hq⟩ => ⟨I1.kIn, ?_⟩) he hpl
  change wpAny _ _ (call (.ref C) us) _ _ _
  have c1 := c0.keeps I1.bk
  obtain ⟨oI, fI, fc⟩ := fn_at I1.kIn isf
  obtain ⟨hh, g1, d1, t1, o1⟩ := s1
  refine xi_call PySem.F.excBase_ValueError c1.tl c1.ob c1.ns c1.ini fI fc (fun h' e m => ?_) (by rw [← r.length]; exact hz)
  have xe0 : XeP C none e h' := by
    obtain ⟨t0, q, _⟩ := m.there
    exact ⟨_, _, t0, q, (by show 2 < 6; decide), rfl, rfl, rfl⟩
  have I2 : Inv X pins σ (upd H1 e (XE C none e)) ⟨h', g1, d1, t1, o1⟩ := I1.laidN (h' := h') (t' := t1) m.keeps m.new xe0.ok
  have hsp := hq e (I1.hok.freshN m.new)
  have r2 : Vals (V.ref e :: vs) (Value.ref e :: us) := .cons rfl r
  have hl : (Value.ref e :: us ++ ([] : List Value)).length = ps.length := by
    have z := r2.length
    rw [F.len _ _ _ _ hsp] at z
    rw [List.append_nil]
    exact z.symm
  refine wpAny_call (codeAny_mono (F.run _ X.stack _ _ ⟨Value.ref e :: us, []⟩ (Value.ref e :: us) _ _ E0 (hr.make C us []) (I2.env0.make C us []) (by have z := hb ⟨h', g1, d1, t1, o1⟩ (Value.ref e :: us) I2.kIn hl; rwa [List.append_nil] at z) r2 hsp) fun r s' hq' => ?_)
  cases r with
  | error e => exact False.elim hq'
  | ok fl =>
    cases fl with
    | ret u =>
      obtain ⟨v, H', I3, rv, ev, dO, eE, q3⟩ := I2.after hq'
      subst ev
      obtain ⟨ws, sl, t0, w1, w2, w3, w4, w5⟩ := I3.hok.xe eE
      refine ⟨rv, e, _, ws, rfl, (c0.keeps I3.bk).ob, w1, rfl, rfl, w4, ?_⟩
      exact th pins σ (L2.del H' e) s' e (.ref C) dO (I3.del eE) ⟨I1.fpNew m.new del_same, none, (fun _ z => nomatch z), _, ws, w1, rfl, rfl, rfl, w2, w5, w4⟩ q3
    | next => exact False.elim hq'
    | brk => exact False.elim hq'
    | cont => exact False.elim hq'
end
section
variable {P : Program} {w : World} {K : PySem.W.Frag} {mg : Str → Option Value} {base : Heap}
abbrev cxX (P : Program) (w : World) (K : PySem.W.Frag) (mg : Str → Option Value) (base : Heap) (N : List Str) (qual : Str) (scope : Scope) (f : Addr) (cd : Value) (A : Around) (outer : List Env) (s : Shared) (H : Hp) (E : XK) : Cx :=
  (cxOf (CXE P w) P w K mg base N qual scope f cd A outer s H E).wish (XP (cxOf (CXE P w) P w K mg base N qual scope f cd A outer s H E) E)
theorem Fun.okX {x qual : Str} {st : Stmt} {f : Addr} {fd : FuncData} {N ps : List Str} {k : Nat} {sp : Sp} (F : Fun K x qual st f fd) (S : FnScope N ps (defScope st)) (len : ∀ vs H Q E, sp vs H Q E → vs.length = ps.length)
    (hbody : ∀ (cdv : Value) (A : Around) (outer : List Env) (s : Shared) (H : Hp) (vs : List V) (Q : VK) (E : XK), Room k (A.deeper (envOfC qual (defScope st) s.heap.objs.size f cdv)) → sp vs H Q E →
      ∃ t, PSs (cxX P w K mg base N qual (defScope st) f cdv A outer s H E) (defBody st) t ∧ t { nx := fun _ H' => Q .non H', rt := Q } (start N vs) H) : FnOk P w K mg base (CXE P w) (k + 1) f fd ps sp := by
  obtain ⟨oc, od, kV, doc, pm, an, cdv, ct, osl, rfl, lk, hcd⟩ := F.ex
  refine fn_of lk hcd S len fun A outer s H vs Q E hr hsp => ?_
  obtain ⟨t, h, q⟩ := hbody cdv A outer s H vs Q E hr hsp
  refine ⟨t, fun pins s1 σ H1 D I hw => wpAny_mono (h pins s1 σ H1 D (I.wish _) hw) (fun _ _ q => q.unwish) fun v s2 z => ?_, q⟩
  obtain ⟨pins', σ', H', e, cls, dO, rfl, J, x, qE⟩ := z
  refine leave_ok J ⟨rfl, rfl⟩ x fun s3 J3 x3 => ?_
  have new : ∀ b, FpOk (cxOf (CXE P w) P w K mg base N qual (defScope st) f cdv A outer s H E) pins' H' b → s.heap.get? b = none ∧ H' b = none := fun b fp => ⟨fp.2.2.2.1.resolve_left (fun z => nomatch z), fp.1⟩
  obtain ⟨fe, T, hT, xo⟩ := x3
  exact ⟨e, cls, dO, H', rfl, J3.os, J3.bare, J3.base, J3.hok, new e fe, ⟨T, fun t' q => new t' (hT t' q), xo⟩, qE⟩
/-- a def of the top that may raise -/
def CalX (P : Program) (w : World) (K : PySem.W.Frag) (mg : Str → Option Value) (base : Heap) (x : Str) (k : Nat) (ps : List Str) (sp : Sp) : Prop :=
  ∃ f fd, FnOk P w K mg base (CXE P w) k f fd ps sp ∧ mg x = some (.ref f) ∧ PySem.W.keepIn K (.ref f) = true ∧ Binds K fd ps []
theorem Def.calX {x : Str} {st : Stmt} {N ps : List Str} {k : Nat} {sp : Sp} (D : Def K mg x st ps) (S : FnScope N ps (defScope st)) (len : ∀ vs H Q E, sp vs H Q E → vs.length = ps.length)
    (hbody : ∀ (f : Addr) (cdv : Value) (A : Around) (outer : List Env) (s : Shared) (H : Hp) (vs : List V) (Q : VK) (E : XK), Room k (A.deeper (envOfC x (defScope st) s.heap.objs.size f cdv)) → sp vs H Q E →
      ∃ t, PSs (cxX P w K mg base N x (defScope st) f cdv A outer s H E) (defBody st) t ∧ t { nx := fun _ H' => Q .non H', rt := Q } (start N vs) H) : CalX P w K mg base x (k + 1) ps sp := by
  obtain ⟨f, fd, F, m, b⟩ := D.ex
  exact ⟨f, fd, F.okX S len (hbody f), m, F.kp, b⟩
end
theorem pe_calX {X : Cx} {x : Str} {k : Nat} {ps : List Str} {sp : Sp} {E : XK} {e : Expr} {es : List Expr} {t : TA} {p pos : Pos} (c : CalX X.prog X.w X.K X.mg X.base x k ps sp) (hr : Room k X.A) (hg : Gl X x) (th : Thr X E) (ha : PA X (e :: es) t) (hdb : (x == ("__debug__" : Str)) = false := by decide)
    (he : starEach (e :: es) X.env = (false, eval e X.env) :: starEach es X.env := by rfl) (hpl : (backTo pos (starEach es X.env)).any (·.1) = false := by rfl) : PE X (.Call (.Name x p) (e :: es) [] pos) (tCall sp [] E t) :=
  let ⟨_, _, F, m, kp, b⟩ := c; pe_call F hr hg m kp b .nil (passes_thr th) ha hdb he hpl
/-- a def that is not to raise here -/
theorem thr_never {X : Cx} : Thr X E0 := fun _ _ _ _ _ _ _ _ _ h => h.elim
end L2

end

section
set_option autoImplicit false
set_option maxRecDepth 100000
set_option linter.all false
namespace L2
open PySem PySem.Spec PyProof.Rows EoD Eo
theorem upd_id {H : Hp} {a : Addr} {o : HO} (h : H a = some o) : upd H a o = H := by
  funext b
  unfold upd
  split
  · rename_i z; rw [z, h]
  · rfl
def tBase (C : Addr) (t : TA) : TE := fun σ H Q => t σ H fun vs H1 => ∃ e dO v, vs = [.ref e, v] ∧ H1 e = some (XE C dO e) ∧ Q .non H1
structure BaseOf (K : PySem.W.Frag) (W : Addr) : Prop where
  ga : PySem.W.specialIn K (.ref W) "__getattribute__" = some (some (.builtin "type.__getattribute__"))
  rd : PySem.W.readsIn K W (.type "type") = true
  fi : PySem.W.findCls K (.ref W) (.type "type") "__init__" = some (.val (.builtin "ValueError.__init__"))
theorem pe_base {X : Cx} {x : Str} {p apos pos : Pos} {a : Expr} {as : List Expr} {t : TA} {W C : Addr} {r : Option Value} {pl : Sem Bool} (hg : Gl X x) (hm : X.mg x = some (.ref W)) (B : BaseOf X.K W) (M : xclIn X.K C r = true) (ha : PA X (a :: as) t) (hdb : (x == ("__debug__" : Str)) = false := by decide)
    (he : starEach (a :: as) X.env = (false, eval a X.env) :: starEach as X.env := by rfl) (hpl : (backTo pos (starEach as X.env)).any (·.1) = false := by rfl)
    (ht : eval (.Call (.Attribute (.Name x p) "__init__" apos) (a :: as) [] pos) X.env = (do
      let ov ← eval (.Name x p) X.env
      standAt apos.atName
      let (f, first) ← holding [ov] (getMethod ov "__init__" pl)
      callWith pos f first (backTo pos (starEach (a :: as) X.env)) (backToKw pos (keywordEach [] X.env))) := by rfl) :
    PE X (.Call (.Attribute (.Name x p) "__init__" apos) (a :: as) [] pos) (tBase C t) := by
  intro pins s σ H Q I h
  obtain ⟨nm, qn, N, bs, bm, hd, sn, sub, ab, col, dd, k0, k1, k2, k3, k5, mN, c0⟩ := xcls_of I.mod.kin M
  refine PySem.W.methodCall_KW (pl := pl) (ld_glob I hg hm ?_ hdb) ht
  refine PySem.W.method_cls I.kIn B.ga (PySem.W.cls_value I.kIn B.rd B.fi rfl ?_)
  refine PyProof.Rows.callWith_builtin1 (thn (ha pos pins _ σ H _ (I.tok _) h) fun us s1 ⟨vs, H1, I1, r, e, dO, v, ev, eE, q⟩ => ?_) he hpl
  subst ev
  obtain ⟨u1, u2, rfl, ru, rv⟩ := vals2 r
  obtain rfl : u1 = Value.ref e := ru
  obtain ⟨ws, sl, t0, w1, w2, w3, w4, w5⟩ := I1.hok.xe eE
  have c1 := c0.keeps I1.bk
  obtain ⟨hh, g1, d1, t1, o1⟩ := s1
  refine xi_init PySem.F.excBase_ValueError c1.tl c1.ob w1 w3 (by show 1 ≤ sizeLine; decide) fun h' t' kp e' => ?_
  have sz : (ws.setIfInBounds 0 (Value.ref t')).size = ws.size := Array.size_setIfInBounds
  have I3 := I1.write (x := e) (e := e) (o := XE C dO e) (h' := h') (t' := t1) (by rw [eE]; exact True.intro) (.inl rfl) (fun b u nb z => kp b u nb z) ⟨_, e'⟩
    (XeP.ok ⟨_, sl, t', e', by rw [sz]; exact w2, Array.getElem?_setIfInBounds_self_of_lt (by omega), by rw [Array.getElem?_setIfInBounds_ne (by decide)]; exact w4, by rw [Array.getElem?_setIfInBounds_ne (by decide)]; exact w5⟩)
  rw [upd_id eE] at I3
  exact ⟨.non, H1, I3, rfl, q⟩
def sXFld (K : PySem.W.Frag) (ta tv : TE) (f : Str) : TS := fun D σ H => tv σ H fun y H1 => ta σ H1 fun x H2 => ∃ e C, x = .ref e ∧ PySem.W.XC K C ∧ NoAttr K C f ∧ H2 e = some (XE C none e) ∧ ∀ d, H2 d = none → d ≠ e → D.nx σ (upd (upd H2 d (.xd [(f, y)])) e (XE C (some d) e))
theorem ps_xfld {X : Cx} {o value : Expr} {f : Str} {pos pos' : Pos} {ta tv : TE} (ha : PE X o ta) (hv : PE X value tv) (hs : swapsWith value (some (.Attribute o f pos')) pos.line X.env = pure false) : PS X (.Assign [.Attribute o f pos'] value pos) (sXFld X.K ta tv f) := by
  intro pins s σ H D I h
  refine plainObj_wpAny_Assign_Attribute (thn (hv pins s σ H _ I h) fun u s1 ⟨y, H1, I1, ry, q⟩ => thn (ha pins s1 σ H1 _ I1 q) fun ov s2 ⟨x, H2, I2, rx, e, C, ex, xc, na, eE, q2⟩ => ?_) hs
  subst ex
  obtain rfl : ov = Value.ref e := rx
  obtain ⟨ws, sl, t0, w1, w2, w3, w4, w5⟩ := I2.hok.xe eE
  refine PySem.W.xs_set xc I2.kIn w1 na.taker fun h' tk' e' ns kp => ?_
  have hd : H2 s2.heap.objs.size = none := I2.hok.fresh (Nat.le_refl _)
  have ned : s2.heap.objs.size ≠ e := (ne_of_none eE hd).symm
  refine ⟨σ, _, ?_, q2 _ hd ned⟩
  have nx : ∀ b o, H2 b = some o → (∀ φ, o ≠ .ext φ) → b ≠ e := fun b o z n w => by rw [w, eE] at z; exact n _ (Option.some.inj z).symm
  have up : ∀ b o, H2 b = some o → b ≠ e → upd (upd H2 s2.heap.objs.size (.xd [(f, y)])) e (XE C (some s2.heap.objs.size) e) b = some o := fun b o z n => by rw [upd_ne n, upd_ne (ne_of_none z hd)]; exact z
  refine I2.un (t' := tk') ⟨fun b ob z n _ _ => kp b ob (fun w => by rw [w, eE] at n; cases n) z, fun b ob z n _ _ => ⟨ob.slots, kp b ob (fun w => by rw [w, eE] at n; cases n) z⟩, fun b ob z n _ => ?_, fun b ob z _ => ?_, fun b xs z => up b _ z (nx b _ z fun _ w => nomatch w), fun b ob xs z => up b _ z (nx b _ z fun _ w => nomatch w), fun b ps z => ⟨#[], ?_⟩⟩ fun b ob z => ?_
  · rw [upd_ne (fun w => by rw [w, eE] at n; cases n), upd_ne (Nat.ne_of_lt (Heap.lt_size z))]; exact n
  · by_cases w : b = e
    · rw [w]; exact ⟨_, e'⟩
    · exact ⟨ob, kp b ob w z⟩
  · rw [up b _ z (nx b _ z fun _ w => nomatch w)]; simp
  · by_cases w : b = e
    · subst w
      rw [upd_same] at z
      cases z
      exact XeP.ok ⟨ws, sl, t0, e', w2, w3, w4, w5⟩
    · rw [upd_ne w] at z
      by_cases w' : b = s2.heap.objs.size
      · subst w'
        rw [upd_same] at z
        cases z
        refine ⟨_, ns, fun g => ?_⟩
        by_cases hgf : g = f
        · subst hgf
          rw [if_pos rfl, show ([(g, y)] : List (Str × V)).lookup g = some y by simp]
          exact ry
        · rw [if_neg hgf, show ([(f, y)] : List (Str × V)).lookup g = none by simp [List.lookup, beq_eq_false_iff_ne.mpr hgf]]
          exact True.intro
      · rw [upd_ne w'] at z
        refine (I2.hok b ob z).stay (fun c v hc k => kp c v (fun m => ?_) k) (fun c k => up c _ k (nx c _ k fun _ w => nomatch w)) fun c xs k => up c _ k (nx c _ k fun _ w => nomatch w)
        rcases hc with rfl | hc
        · exact w m
        · exact nx c _ hc (fun _ w => nomatch w) m
structure RoomH (k : Nat) (A : Around) : Prop where
  dp : A.depth + 3 * k + 5 < recursionLimit
  un : A.units + 16 * k + 200 < cLine
theorem RoomH.mono {j k : Nat} {A : Around} (r : RoomH k A) (h : j ≤ k) : RoomH j A := ⟨by have := r.dp; omega, by have := r.un; omega⟩
theorem RoomH.deeper {k : Nat} {A : Around} (r : RoomH (k + 1) A) (env : Env) : RoomH k (A.deeper env) :=
  ⟨by have := r.dp; change A.depth + 1 + 3 * k + 5 < _; omega, by have := r.un; change A.units + 3 + 16 * k + 200 < _; omega⟩
theorem RoomH.depth {k : Nat} {A : Around} (r : RoomH k A) : A.depth < recursionLimit := by have := r.dp; omega
abbrev cxH (P : Program) (w : World) (K : PySem.W.Frag) (mg : Str → Option Value) (base : Heap) (N : List Str) (qual : Str) (scope : Scope) (f : Addr) (cd : Value) (A : Around) (outer : List Env) (s : Shared) (H : Hp) (E : XK) : Cx := { cxOf CX0 P w K mg base N qual scope f cd A outer s H E with calm := false }
section
variable {P : Program} {w : World} {K : PySem.W.Frag} {mg : Str → Option Value} {base : Heap}
end
end L2

end

section
set_option autoImplicit false
set_option maxRecDepth 100000
set_option linter.all false
namespace PySem.W
open PySem PySem.Spec PySem.Calls PyProof.Rows
structure CatchOf (K : Frag) (W : Addr) : Prop where
  tup : instIn K (.ref W) (.type "tuple") = some false
  be : mroIn K W (.type "BaseException") = some true
  cl : (clsIn K W).isSome = true
theorem isTy_of {K : Frag} {M : Model} {h : Heap} {W : Addr} (X : K.In h) (e : (clsIn K W).isSome = true) : Looks M h (isType (.ref W)) true := by
  unfold clsIn at e
  split at e
  · rename_i c' d' cd' sl' ho
    intro A' Q' E' s' kk q
    unfold isType loadHead
    exact wpAny_bind (wpAny_loadPart (kk _ _ (X _ _ ho)) (wpAny_pure q))
  · cases e
theorem x_match {K : Frag} {M : Model} {A : Around} {E : Value → Shared → Prop} {s : Shared} {W C e : Addr} {oe : Obj} {Q : Bool → Shared → Prop} (X : K.In s.heap) (c : CatchOf K W) (he : s.heap.get? e = some oe) (hc : oe.cls = .ref C) (hm : mroIn K C (.ref W) = some true) (q : Q true s) :
    wpAny M A (excMatches (.ref e) (.ref W)) Q E s := by
  have L1 := looks_instIn (M := M) X c.tup
  have L2 := isTy_of (M := M) X c.cl
  have L3 := looks_mroIn (M := M) X c.be
  have L4 : Looks M s.heap (typeOf (.ref e)) (.ref C) := hc ▸ (Looks.ld he).andThen .now
  have L5 := looks_mroIn (M := M) X hm
  obtain ⟨hh, g, d, t, os⟩ := s
  unfold excMatches
  repeat lk
  exact q
end PySem.W
namespace L2
open PySem PySem.Spec PyProof.Rows EoD Eo
abbrev hcx (X : Cx) (e : Addr) (oe : Obj) : Cx := { X with A := X.A.mark (some (.ref e)), calm := false, pn := (e, oe) :: X.pn, xe := fun _ _ => False }
section
variable {X : Cx} {pins : List (Addr × Obj)} {σ : St} {H : Hp} {s : Shared}
theorem Inv.hcx {e C : Addr} {oe : Obj} {vs : Array Value} (I : Inv X pins σ H s) (fp : FpOk X pins H e) (ge : s.heap.get? e = some oe) (hc : oe.cls = .ref C) (hd : oe.data = .fields vs) (h2 : vs[2]? = some Value.none) : Inv (hcx X e oe) pins σ H s := by
  refine ⟨⟨I.ok.mod, I.ok.kind, I.ok.glob, I.ok.blt, I.ok.above, I.ok.inj, I.ok.has, I.ok.cab, (fun z => absurd z Bool.false_ne_true), I.ok.frames, I.ok.stk, I.ok.exf, I.ok.bs, I.ok.bsz, I.ok.noex, I.ok.exfs, I.ok.funs, I.ok.frf, .inr ⟨e, C, oe, vs, rfl, hc, hd, h2, .inl List.mem_cons_self⟩⟩,
    I.os, I.bare, I.base, I.loc, I.cell, I.free, I.freeC, fun p hp => ?_, I.hok, I.len⟩
  rcases List.mem_cons.mp (show p ∈ (e, oe) :: (X.pn ++ pins) from hp) with rfl | hp
  · exact ⟨ge, fp.1, fp.2.1, fp.2.2.1, fun v z => by rw [hd] at z; cases z⟩
  · exact I.pin p hp
theorem Inv.unhcx {e : Addr} {oe : Obj} (ok : X.Ok) (I : Inv (L2.hcx X e oe) pins σ H s) : Inv X pins σ H s :=
  ⟨ok, I.os, I.bare, I.base, I.loc, I.cell, I.free, I.freeC, fun p hp => I.pin p (List.mem_cons_of_mem _ hp), I.hok, I.len⟩
/-- the frame's map is another one: nothing is known of the names -/
theorem Inv.forget {h' : Heap} {m' : Str → Option Value} {t' : Nat} (I : Inv X pins σ H s) (hn : h'.Ns X.env.locals m') (hs : Heap.SameBut X.env.locals s.heap h') : Inv X pins (List.replicate σ.length none) H { s with heap := h', toks := t' } := by
  have neL : ∀ b o, X.s₀.heap.get? b = some o → b ≠ X.env.locals := fun b o e => Nat.ne_of_lt (Nat.lt_of_lt_of_le (Heap.lt_size e) I.ok.above)
  refine ⟨I.ok, I.os, I.bare, ⟨fun b o e n hb hx => (hs.2 b (neL b o e)).trans (I.base.keep b o e n hb hx), fun b o e n hb hx => ?_, I.base.free, fun b o e hx => ?_, I.base.tups, I.base.frzs, I.base.tbls⟩, ⟨m', hn, fun i x v _ e2 _ => ?_⟩, fun x c e => ?_, I.free, I.freeC, fun p hp => ?_, fun b o e => ?_, by rw [List.length_replicate]; exact I.len⟩
  · obtain ⟨sl, e1⟩ := I.base.slot b o e n hb hx
    exact ⟨sl, (hs.2 b (neL b o e)).trans e1⟩
  · obtain ⟨o', e1⟩ := I.base.there b o e hx
    exact ⟨o', (hs.2 b (neL b o e)).trans e1⟩
  · rw [List.getElem?_replicate] at e2
    split at e2 <;> cases e2
  · obtain ⟨w', z⟩ := I.cell x c e
    exact ⟨w', z.sameBut hs (I.cne x c e)⟩
  · obtain ⟨e, n, ne, nf, d⟩ := I.pin p hp
    exact ⟨(hs.2 p.1 ne).trans e, n, ne, nf, d⟩
  · refine (I.hok b o e).stay (fun c w' hc q => (hs.2 c ?_).trans q) (fun _ q => q) fun _ _ q => q
    rintro rfl
    rcases hc with rfl | hc
    · rw [I.free] at e; cases e
    · rw [I.free] at hc; cases hc
end
def tTry (K : PySem.W.Frag) (W : Addr) (sp : Sp) (t : TA) (i : Nat) (u : Addr → Obj → TS) : TS := fun D σ H => t σ H fun vs H1 => sp vs H1 (fun _ H2 => D.nx σ H2)
  (fun cls dO H2 => ∃ C, cls = .ref C ∧ PySem.W.mroIn K C (.ref W) = some true ∧ ∀ e oe, H2 e = none → oe.cls = .ref C → oe.dict = dO → u e oe { nx := fun _ _ => False, rt := D.rt } (σ.set i (some (.ref e))) H2)
theorem ps_try {X : Cx} {x wn n : Str} {p cpos epos wp hp pos : Pos} {a : Expr} {as : List Expr} {b₀ : Stmt} {suite : List Stmt} {t : TA} {W : Addr} {k i : Nat} {ps : List Str} {sp : Sp} {u : Addr → Obj → TS}
    (c : CalX X.prog X.w X.K X.mg X.base x k ps sp) (hr : Room k X.A) (hg : Gl X x) (st : X.stack = X.env :: X.outer ∧ X.env.frame = some X.env.locals) (ha : ∀ E', PA (X.wish E') (a :: as) t) (hgW : Gl X wn) (mW : X.mg wn = some (.ref W)) (cW : PySem.W.CatchOf X.K W)
    (hN : X.N.Nodup) (hi : X.N[i]? = some n) (hl : X.env.scope.names.lookup n = some .local) (hs : ∀ e oe vs, oe.data = .fields vs → PSs (hcx X e oe) (b₀ :: suite) (u e oe))
    (hdb : (x == ("__debug__" : Str)) = false := by decide) (hdw : (wn == ("__debug__" : Str)) = false := by decide) (he : starEach (a :: as) X.env = (false, eval a X.env) :: starEach as X.env := by rfl) (hpl : (backTo cpos (starEach as X.env)).any (·.1) = false := by rfl)
    (hsw : swapsWith (.Call (.Name x p) (a :: as) [] cpos) none epos.line X.env = pure false := by rfl) :
    PS X (.Try [.Expr (.Call (.Name x p) (a :: as) [] cpos) epos] [.ExceptHandler (some (.Name wn wp)) (some n) (b₀ :: suite) hp] [] [] pos) (tTry X.K W sp t i u) := by
  obtain ⟨f, fd, F, m, kp, b⟩ := c
  intro pins s σ H D I h
  refine wpAny_Try_except ?_
  let EE : XK := fun cls dO H2 => ∃ C, cls = .ref C ∧ PySem.W.mroIn X.K C (.ref W) = some true ∧ ∀ e oe, H2 e = none → oe.cls = .ref C → oe.dict = dO → u e oe { nx := fun _ _ => False, rt := D.rt } (σ.set i (some (.ref e))) H2
  let W0 : Value → Shared → Prop := fun v s' => ∃ e cls dO H', v = .ref e ∧ Inv X pins σ H' s' ∧ Exc X pins H' s'.heap e cls dO ∧ EE cls dO H'
  have callp : wpAny (model X.prog X.w) X.A (eval (.Call (.Name x p) (a :: as) [] cpos) X.env) (EP X pins σ (fun _ H2 => D.nx σ H2)) W0 s := by
    refine wpAny_Call_Name_kw (ld_glob I hg m ?_ hdb)
    refine PySem.W.callWith_K (h₀ := X.base) I.ok.mod.kin kp (thn (ha W0 cpos pins s σ H _ (I.wish W0) h) fun us s1 ⟨vs, H1, I1, r, q⟩ => ⟨I1.kIn, ?_⟩) he hpl
    have J1 : Inv X pins σ H1 s1 := I1.unwish
    have hlen : (us ++ ([] : List Value)).length = ps.length := by rw [List.append_nil, ← r.length]; exact F.len _ _ _ _ q
    refine wpAny_call (codeAny_mono (F.run X.A X.stack s1 H1 ⟨us, []⟩ us vs _ EE hr J1.env0 (by have z := b s1 us J1.kIn hlen; rwa [List.append_nil] at z) r q) fun r s' hq => ?_)
    cases r with
    | error v =>
      obtain ⟨e, cls, dO, H', rfl, os, bare, un, hok, ⟨l1, n1⟩, ⟨T, hT, x⟩, q⟩ := hq
      exact ⟨e, cls, dO, H', rfl, J1.call' os un hok bare (fun b z => nomatch z), ⟨J1.fpNew l1 n1, T, fun t' e' => J1.fpNew (hT t' e').1 (hT t' e').2, x⟩, q⟩
    | ok fl =>
      cases fl with
      | ret u => exact J1.after hq
      | next => exact False.elim hq
      | brk => exact False.elim hq
      | cont => exact False.elim hq
  have body : wpAny (model X.prog X.w) X.A (execs [.Expr (.Call (.Name x p) (a :: as) [] cpos) epos] X.env) (fun f s1 => f = .next ∧ ∃ H1, Inv X pins σ H1 s1 ∧ D.nx σ H1) W0 s := by
    refine wpAny_execs_cons (wpAny_Expr_any (thn callp fun v s1 ⟨x, H1, I1, r1, q1⟩ => ?_) I.quiet hsw)
    exact wpAny_execs_nil ⟨rfl, H1, I1, q1⟩
  refine wpAny_mono body (fun f s1 ⟨ef, H1, I1, q⟩ => by subst ef; exact wpAny_execs_nil ⟨σ, H1, I1, q⟩) (fun v s1 ⟨e, cls, dO, H', ev, I', xx, C, ec, mro, hu⟩ => ?_)
  subst ev ec
  refine note_ok I' st xx fun s2 t2 I2 ft x2 => flight_ok I2 ft x2 fun s3 I3 x3 => ?_
  obtain ⟨oe, vs, ge, hcls, hdi, hda, h2, h2n, h1, ne, ot, ts, et, dt, z3⟩ := id x3
  have J : Inv (hcx X e oe) pins σ H' s3 := I3.hcx xx.fe ge hcls hda h2n
  have ft' : FpOk (hcx X e oe) pins H' t2 := ⟨ft.1, ft.2.1, ft.2.2.1, ft.2.2.2.1, ft.2.2.2.2.1, fun p hp => by
    rcases List.mem_cons.mp (show p ∈ (e, oe) :: (X.pn ++ pins) from hp) with rfl | hp
    · exact Ne.symm ne
    · exact ft.2.2.2.2.2 p hp⟩
  refine wpAny_handleBy_cons (codeAny_handlers_test (ld_glob (X := hcx X e oe) J hgW mW (PySem.W.x_match J.kIn cW ge hcls mro ?_) hdw)) (by intro q; cases q)
  change codeAny _ _ _ _ _
  refine codeAny_handlers_suite_as (flight_ok (X := hcx X e oe) J ft' x3 fun s4 J4 x4 => store_ok (X := hcx X e oe) (v := .ref e) J4 hN hi (Or.inl hl) rfl (fun s5 J5 => ?_) (.inr hl))
  refine wpAny_mono (hs e oe vs hda pins s5 _ H' _ J5 (hu e oe xx.fe.1 hcls hdi)) (fun f s6 hf => ?_) (fun _ _ z => z.elim)
  cases f with
  | next => obtain ⟨_, _, _, q⟩ := hf; exact q.elim
  | brk => obtain ⟨_, _, _, q⟩ := hf; exact q.elim
  | cont => obtain ⟨_, _, _, q⟩ := hf; exact q.elim
  | ret uu =>
    obtain ⟨v, σ', H6, J6, rv, q⟩ := hf
    obtain ⟨m6, n6, _⟩ := id J6.loc
    refine wpAny_nameGoes hl n6 (by rw [I.ok.kind]; rfl) fun h' m' n' s' => ?_
    exact ⟨v, _, H6, (J6.unhcx I.ok).forget n' s', rv, q⟩
def rIsX (K : PySem.W.Frag) (e : Addr) (oe : Obj) : List V → Hp → VK → Prop := fun xs H Q => ∃ c C b, xs = [.ref e, c] ∧ (∀ u, RelV c u → PySem.W.kitOne K (.ref C) u = some b) ∧ oe.cls = .ref C ∧ PySem.W.XC K C ∧ (oe.dict = none ∨ ∃ d fs, oe.dict = some d ∧ H d = some (.xd fs)) ∧ Q (.bl b) H
theorem call_isX {X : Cx} {e : Addr} {oe : Obj} {vs : Array Value} (hp : (e, oe) ∈ X.pn) (hda : oe.data = .fields vs) : CallR X (.builtin "isinstance") (rIsX X.K e oe) := by
  intro pins s σ H xs us Q I r ⟨c, C, b, ex, hk, ec, xc, hd, q⟩
  subst ex
  obtain ⟨u, v, rfl, ru, rv⟩ := vals2 r
  obtain rfl : u = Value.ref e := ru
  obtain ⟨ge, _⟩ := I.pin (e, oe) (List.mem_append_left _ hp)
  have nc : PySem.W.notCls oe = true := by unfold PySem.W.notCls; rw [hda]
  rcases hd with hd | ⟨d, fs, hd, hx⟩
  · have J : PySem.W.InstAt s.heap e oe C none := ⟨ge, ec, nc, by rw [hd]; trivial⟩
    exact PySem.W.kia_one (PySem.W.kitx_exc xc) I.kIn J (hk v rv) (fun z => nomatch z) fun tk => ⟨.bl b, H, I.tok tk, rfl, q⟩
  · obtain ⟨mA, ns, _⟩ := (show ObjOk X.prog X.w H s.heap d (.xd fs) from I.hok d _ hx)
    obtain ⟨od, god, _⟩ := lookIn_ns ns
    have J : PySem.W.InstAt s.heap e oe C (some od) := ⟨ge, ec, nc, by rw [hd]; exact god⟩
    exact PySem.W.kia_one (PySem.W.kitx_exc xc) I.kIn J (hk v rv) (fun z => nomatch z) fun tk => ⟨.bl b, H, I.tok tk, rfl, q⟩
abbrev tIsX (K : PySem.W.Frag) (e : Addr) (oe : Obj) (te : TE) (c : V) : TE := tCB (rIsX K e oe) (tCons te (tCons (tC c) tNil))
theorem pe_isX {X : Cx} (B : Bare X.mg) {e : Addr} {oe : Obj} {vs : Array Value} {ex : Expr} {te : TE} {D : Addr} {x : Str} {p1 p2 pos : Pos} (hp : (e, oe) ∈ X.pn) (hda : oe.data = .fields vs) (he : PE X ex te) (hg : Gl X "isinstance") (hx : Gl X x) (hm : X.mg x = some (.ref D)) (hd : (x == ("__debug__" : Str)) = false := by decide)
    (s1 : starEach [ex, .Name x p2] X.env = [(false, eval ex X.env), (false, eval (.Name x p2) X.env)] := by rfl) (s2 : starEach [.Name x p2] X.env = [(false, eval (.Name x p2) X.env)] := by rfl) :
    PE X (.Call (.Name "isinstance" p1) [ex, .Name x p2] [] pos) (tIsX X.K e oe te (.ref D)) :=
  pe_callB (call_isX hp hda) hg B.isin bt_isinstance (pa_cons he (pa_cons (pe_glob hx hm rfl hd) pa_nil s2) (by rw [s1, s2])) (he := by rw [s1, s2]) (hpl := by rw [s2]; rfl)
theorem pe_isXT {X : Cx} (B : Bare X.mg) {e : Addr} {oe : Obj} {vs : Array Value} {ex : Expr} {te : TE} {T : String} {x : Str} {p1 p2 pos : Pos} (hp : (e, oe) ∈ X.pn) (hda : oe.data = .fields vs) (he : PE X ex te) (hg : Gl X "isinstance") (hx : Gl X x) (hm : X.mg x = none) (hv : bootBuiltins x = some (.type T)) (hn : x ≠ "__name__" := by decide) (hd : (x == ("__debug__" : Str)) = false := by decide)
    (s1 : starEach [ex, .Name x p2] X.env = [(false, eval ex X.env), (false, eval (.Name x p2) X.env)] := by rfl) (s2 : starEach [.Name x p2] X.env = [(false, eval (.Name x p2) X.env)] := by rfl) :
    PE X (.Call (.Name "isinstance" p1) [ex, .Name x p2] [] pos) (tIsX X.K e oe te (.ty T)) :=
  pe_callB (call_isX hp hda) hg B.isin bt_isinstance (pa_cons he (pa_cons (pe_bltn hx hm hv rfl hn hd) pa_nil s2) (by rw [s1, s2])) (he := by rw [s1, s2]) (hpl := by rw [s2]; rfl)
theorem mem_hcx {X : Cx} {e : Addr} {oe : Obj} : (e, oe) ∈ (hcx X e oe).pn := List.mem_cons_self
end L2

end

section
set_option autoImplicit false
set_option maxRecDepth 100000
set_option linter.all false
namespace L2
open PySem PySem.Spec PyProof.Rows EoD Eo
theorem del_upd {H : Hp} {e : Addr} {o : HO} (h : H e = none) : del (upd H e o) e = H := by
  funext b
  by_cases z : b = e
  · rw [z, del_same, h]
  · rw [del_ne z, upd_ne z]
def tRaise0 (C : Addr) (E : XK) (t : TA) : TS := fun _ σ H => t σ H fun vs H1 => vs.length ≤ sizeLine ∧ E (.ref C) none H1
section
variable {X : Cx} {x : Str} {np cpos pos : Pos} {a : Expr} {as : List Expr} {t : TA} {C : Addr} {E : XK}
theorem ps_raise0 (hc : X.calm = true) (M : xclIn X.K C none = true) (kp : PySem.W.keepIn X.K (.ref C) = true)
    (hg : Gl X x) (hm : X.mg x = some (.ref C)) (th : Thr X E) (ha : PA X (a :: as) t) (hdb : (x == ("__debug__" : Str)) = false := by decide)
    (he : starEach (a :: as) X.env = (false, eval a X.env) :: starEach as X.env := by rfl) (hpl : (backTo cpos (starEach as X.env)).any (·.1) = false := by rfl) :
    PS X (.Raise (some (.Call (.Name x np) (a :: as) [] cpos)) none pos) (tRaise0 C E t) := by
  intro pins s σ H D I h
  obtain ⟨nm, qn, N, bs, bm, hd, sn, sub, ab, col, dd, k0, k1, k2, k3, k5, mN, c0⟩ := xcls_of I.mod.kin M
  rw [arm_exec_Raise]
  refine wpAny_bind (wpAny_standAt (xr_raise (C := C) (nm := nm) (qn := qn) (N := N) (bs := bs) (bm := bm) (hd := hd) (sn := sn) (sub := sub) (ab := ab) (col := col) (dd := dd) (k0 := k0) (k1 := k1) (k2 := k2) (k3 := k3) (k5 := k5) (newId := "ValueError.__new__") (own_base c0.tl) (I.ok.hd hc)
    (wpAny_bind (wpAny_mono (wpAny_Call_Name_kw (ld_glob I hg hm ?_ hdb)) (fun v s₃ h₃ => wpAny_bind (wpAny_standAt (wpAny_pure h₃))) fun _ _ z => z))))
  refine PySem.W.callWith_K (h₀ := X.base) I.ok.mod.kin kp (thn (ha cpos pins s σ H _ I h) fun us s1 ⟨vs, H1, I1, r, hz, hq⟩ => ⟨I1.kIn, ?_⟩) he hpl
  change wpAny _ _ (call (.ref C) us) _ _ _
  have c1 := c0.keeps I1.bk
  obtain ⟨hh, g1, d1, t1, o1⟩ := s1
  refine wpAny_call_exc_subT PySem.F.excBase_ValueError c1.tl c1.ob c1.ns c1.ini (fun h' e m => ?_) (by rw [← r.length]; exact hz)
  have hn := I1.hok.freshN m.new
  obtain ⟨t0, q, _⟩ := m.there
  have xe0 : XeP C none e h' := ⟨_, _, t0, q, (by change 2 < 6; decide), rfl, rfl, rfl⟩
  have I2 : Inv X pins σ (upd H1 e (XE C none e)) ⟨h', g1, d1, t1, o1⟩ := I1.laidN (h' := h') (t' := t1) m.keeps m.new xe0.ok
  have I3 : Inv X pins σ H1 ⟨h', g1, d1, t1, o1⟩ := by
    have z := I2.del upd_same
    rwa [del_upd hn] at z
  refine ⟨e, _, _, rfl, (c1.keeps m.keeps).ob, q, rfl, rfl, rfl, ?_⟩
  exact th pins σ H1 _ e (.ref C) none I3 ⟨I1.fpNew m.new hn, none, (fun _ z => nomatch z), _, _, q, rfl, rfl, rfl, (by change 2 < 6; decide), rfl, rfl⟩ hq
end
end L2

end

section
set_option autoImplicit false
set_option maxRecDepth 100000
set_option linter.all false
namespace L2
open PySem PySem.Spec PyProof.Rows EoD Eo
theorem Inv.pn1 {X : Cx} {pins : List (Addr × Obj)} {σ : St} {H : Hp} {s : Shared} {e : Addr} {oe : Obj} {vs : Array Value} (I : Inv X pins σ H s) (ge : s.heap.get? e = some oe) (hd : oe.data = .fields vs) (he : H e = none) (ne : e ≠ X.env.locals) (nf : e ∉ X.fs) :
    Inv { X with pn := (e, oe) :: X.pn } pins σ H s := by
  refine ⟨⟨I.ok.mod, I.ok.kind, I.ok.glob, I.ok.blt, I.ok.above, I.ok.inj, I.ok.has, I.ok.cab, I.ok.hd, I.ok.frames, I.ok.stk, I.ok.exf, I.ok.bs, I.ok.bsz, I.ok.noex, I.ok.exfs, I.ok.funs, I.ok.frf, ?_⟩,
    I.os, I.bare, I.base, I.loc, I.cell, I.free, I.freeC, fun p hp => ?_, I.hok, I.len⟩
  · rcases I.ok.hdl with q | ⟨e', C, o', vs', q1, q2, q3, q4, q5⟩
    · exact .inl q
    · exact .inr ⟨e', C, o', vs', q1, q2, q3, q4, q5.imp (fun z => List.mem_cons_of_mem _ z) fun z => z⟩
  · rcases List.mem_cons.mp (show p ∈ (e, oe) :: (X.pn ++ pins) from hp) with rfl | hp
    · exact ⟨ge, he, ne, nf, fun v z => by rw [hd] at z; cases z⟩
    · exact I.pin p hp
structure FnOkE (P : Program) (w : World) (K : PySem.W.Frag) (mg : Str → Option Value) (base : Heap) (k : Nat) (f : Addr) (fd : FuncData) (ps : List Str) (sp : Addr → Obj → Sp) : Prop where
  len : ∀ e oe vs H Q E, sp e oe vs H Q E → vs.length = ps.length
  run : ∀ (A : Around) (outer : List Env) (s : Shared) (H : Hp) (args : Args) (us : List Value) (vs : List V) (Q : VK) (E : XK) (e : Addr) (oe : Obj) (ovs : Array Value), RoomH k A → HdX A s.heap H (frs outer) [] [] → Env0 P w K mg base A outer s H →
    s.heap.get? e = some oe → oe.data = .fields ovs → H e = none → e ∉ frs outer → BindsTo s fd args (ps.zip us) → Vals vs us → sp e oe vs H Q E → codeAny (model P w) A (.call (.ref f) args) (CR CX0 outer P w H s Q E) s
abbrev cxE (P : Program) (w : World) (K : PySem.W.Frag) (mg : Str → Option Value) (base : Heap) (N : List Str) (qual : Str) (scope : Scope) (f : Addr) (cd : Value) (A : Around) (outer : List Env) (s : Shared) (H : Hp) (E : XK) (e : Addr) (oe : Obj) : Cx := { cxH P w K mg base N qual scope f cd A outer s H E with pn := [(e, oe)] }
section
variable {P : Program} {w : World} {K : PySem.W.Frag} {mg : Str → Option Value} {base : Heap}
theorem Fun.okE {x qual : Str} {st : Stmt} {f : Addr} {fd : FuncData} {N ps : List Str} {k : Nat} {sp : Addr → Obj → Sp} (F : Fun K x qual st f fd) (S : FnScope N ps (defScope st)) (len : ∀ e oe vs H Q E, sp e oe vs H Q E → vs.length = ps.length)
    (hbody : ∀ (cdv : Value) (A : Around) (outer : List Env) (s : Shared) (H : Hp) (vs : List V) (Q : VK) (E : XK) (e : Addr) (oe : Obj) (ovs : Array Value), oe.data = .fields ovs → RoomH k (A.deeper (envOfC qual (defScope st) s.heap.objs.size f cdv)) → sp e oe vs H Q E →
      ∃ t, PSs (cxE P w K mg base N qual (defScope st) f cdv A outer s H E e oe).nox (defBody st) t ∧ t { nx := fun _ H' => Q .non H', rt := Q } (start N vs) H) : FnOkE P w K mg base (k + 1) f fd ps sp := by
  obtain ⟨oc, od, kV, doc, pm, an, cdv, ct, osl, rfl, lk, hcd⟩ := F.ex
  refine ⟨len, fun A outer s H args us vs Q E e oe ovs hr hx e0 ge hda he nf hb r hsp => ?_⟩
  have hl := len _ _ _ _ _ _ hsp
  have KX : K.In s.heap := e0.mod.kin.keeps fun b o e => (e0.bs b o e).1
  have lim : s.heap.NoLimit := e0.mod.nolimit.keeps fun b o e => (e0.bs b o e).1
  have hkind : ∀ y ∈ ps.zip us, (defScope st).names.lookup y.1 = some .local ∨ ((defScope st).names.lookup y.1 = some .cell ∧ ((cellsFrom (s.heap.objs.size + 1) (defScope st).names []).lookup y.1).isSome = true) := fun ⟨n, v⟩ hy => by
    rcases S.par n (List.of_mem_zip hy).1 with q | q
    · exact .inl q
    · exact .inr ⟨q, PySem.W.cellsFrom_some _ _ _ (.inl q)⟩
  refine codeAny_call_function hr.depth (KX _ _ lk) rfl S.co S.gen rfl (PySem.W.codeRec_of KX hcd) (hb _ _ _ _ ?_)
  refine wpAny_newFunctionEnv_cells S.kind hkind fun env hev s1 x => ?_
  subst hev
  refine ⟨lim.keeps x.toInCall.keep, codeAny_func ?_⟩
  obtain ⟨t, ht, hq⟩ := hbody cdv A outer s H vs Q E e oe ovs hda (hr.deeper _) hsp
  have I0 : Inv (cxH P w K mg base N qual (defScope st) f cdv A outer s H E) [] (start N vs) H s1 := inv_start (c := false) S (fun z => nomatch z) hx e0 hl r x
  have I : Inv (cxE P w K mg base N qual (defScope st) f cdv A outer s H E e oe) [] (start N vs) H s1 := I0.pn1 (x.toInCall.keep _ _ ge) hda he (Nat.ne_of_lt (Heap.lt_size ge)) nf
  refine wpAny_mono (ht.nox [] s1 (start N vs) H _ I hq) (fun fl s' hs => ?_) fun e s' hs => hs
  have fin : ∀ {σ' : St} {H' : Hp} {v : V} {u : Value}, Inv (cxE P w K mg base N qual (defScope st) f cdv A outer s H E e oe) [] σ' H' s' → RelV v u → Q v H' → CE outer P w H s Q u s' :=
    fun {σ' H' v u} J rv q => ⟨v, H', J.os, J.bare, J.base, J.hok, rv, q⟩
  cases fl with
  | ret u =>
    obtain ⟨v, σ', H', J, rv, q⟩ := hs
    exact fin J rv q
  | next =>
    obtain ⟨σ', H', J, q⟩ := hs
    exact fin (v := V.non) (u := Value.none) J rfl q
  | brk =>
    obtain ⟨_, _, _, q⟩ := hs
    exact False.elim q
  | cont =>
    obtain ⟨_, _, _, q⟩ := hs
    exact False.elim q
def CalE (P : Program) (w : World) (K : PySem.W.Frag) (mg : Str → Option Value) (base : Heap) (x : Str) (k : Nat) (ps : List Str) (sp : Addr → Obj → Sp) : Prop :=
  ∃ f fd, FnOkE P w K mg base k f fd ps sp ∧ mg x = some (.ref f) ∧ PySem.W.keepIn K (.ref f) = true ∧ Binds K fd ps []
theorem Def.calE {x : Str} {st : Stmt} {N ps : List Str} {k : Nat} {sp : Addr → Obj → Sp} (D : Def K mg x st ps) (S : FnScope N ps (defScope st)) (len : ∀ e oe vs H Q E, sp e oe vs H Q E → vs.length = ps.length)
    (hbody : ∀ (f : Addr) (cdv : Value) (A : Around) (outer : List Env) (s : Shared) (H : Hp) (vs : List V) (Q : VK) (E : XK) (e : Addr) (oe : Obj) (ovs : Array Value), oe.data = .fields ovs → RoomH k (A.deeper (envOfC x (defScope st) s.heap.objs.size f cdv)) → sp e oe vs H Q E →
      ∃ t, PSs (cxE P w K mg base N x (defScope st) f cdv A outer s H E e oe).nox (defBody st) t ∧ t { nx := fun _ H' => Q .non H', rt := Q } (start N vs) H) : CalE P w K mg base x (k + 1) ps sp := by
  obtain ⟨f, fd, F, m, b⟩ := D.ex
  exact ⟨f, fd, F.okE S len (hbody f), m, F.kp, b⟩
end
theorem pe_calE {X : Cx} {x : Str} {k : Nat} {ps : List Str} {sp : Addr → Obj → Sp} {a : Expr} {es : List Expr} {t : TA} {p pos : Pos} {e : Addr} {oe : Obj} {ovs : Array Value} (c : CalE X.prog X.w X.K X.mg X.base x k ps sp) (hr : RoomH k X.A) (hp : (e, oe) ∈ X.pn) (hda : oe.data = .fields ovs) (hg : Gl X x) (ha : PA X (a :: es) t) (hdb : (x == ("__debug__" : Str)) = false := by decide)
    (he : starEach (a :: es) X.env = (false, eval a X.env) :: starEach es X.env := by rfl) (hpl : (backTo pos (starEach es X.env)).any (·.1) = false := by rfl) : PE X (.Call (.Name x p) (a :: es) [] pos) (tCall (sp e oe) [] E0 t) := by
  obtain ⟨f, fd, F, m, kp, b⟩ := c
  intro pins s σ H Q I h
  refine wpAny_Call_Name_kw (ld_glob I hg m ?_ hdb)
  refine PySem.W.callWith_K (h₀ := X.base) I.ok.mod.kin kp (thn (ha pos pins s σ H _ I h) fun us s1 ⟨vs, H1, I1, r, q⟩ => ⟨I1.kIn, ?_⟩) he hpl
  have q' : sp e oe (vs ++ []) H1 Q E0 := q
  rw [List.append_nil] at q'
  have hl : (us ++ ([] : List Value)).length = ps.length := by rw [List.append_nil, ← r.length]; exact F.len _ _ _ _ _ _ q'
  obtain ⟨p1, p2, p3, p4, _⟩ := I1.pin (e, oe) (List.mem_append_left _ hp)
  refine wpAny_call (codeAny_mono (F.run X.A X.stack s1 H1 ⟨us, []⟩ us vs Q E0 e oe ovs hr I1.hde I1.env0 p1 hda p2 (fun z => (List.mem_cons.mp (I1.stkSub e z)).elim p3 p4) (by have z := b s1 us I1.kIn hl; rwa [List.append_nil] at z) r q') fun r s' hq => ?_)
  cases r with
  | error e => exact hq.elim
  | ok fl =>
    cases fl with
    | ret u => exact I1.after hq
    | next => exact False.elim hq
    | brk => exact False.elim hq
    | cont => exact False.elim hq
def CalMkX (P : Program) (w : World) (K : PySem.W.Frag) (mg : Str → Option Value) (base : Heap) (C : Addr) (x : Str) (k : Nat) (ps : List Str) (sp : Sp) : Prop := ∃ f fd, Mk K C f ∧ FnOk P w K mg base (CXE P w) k f fd ps sp ∧ mg x = some (.ref C) ∧ Binds K fd ps []
theorem pe_mkX {X : Cx} {C : Addr} {x : Str} {k : Nat} {ps : List Str} {sp : Sp} {E : XK} {e : Expr} {es : List Expr} {t : TA} {p pos : Pos} (c : CalMkX X.prog X.w X.K X.mg X.base C x k ps sp) (hr : Room (k + 1) X.A) (hg : Gl X x) (th : Thr X E) (ha : PA X (e :: es) t)
    (hdb : (x == ("__debug__" : Str)) = false := by decide) (he : starEach (e :: es) X.env = (false, eval e X.env) :: starEach es X.env := by rfl) (hpl : (backTo pos (starEach es X.env)).any (·.1) = false := by rfl) : PE X (.Call (.Name x p) (e :: es) [] pos) (tMake C sp [] E t) :=
  let ⟨_, _, M, F, m, b⟩ := c; pe_make M F hr hg m b .nil (passes_thr th) ha hdb he hpl
end L2

end

section
set_option autoImplicit false
set_option maxRecDepth 100000
set_option linter.all false
namespace L2
open PySem PySem.Spec PyProof.Rows EoD Eo
theorem eqg_bool (a b : Bool) : MeetsSeq.EqGives (.bool a) (.bool b) (a == b) := fun prog w A E s Q h => PySem.SeqAt.EqAt.bool_bool a b prog w E Q h
theorem vals_tru : ∀ {bs : List Bool} {us : List Value}, Vals (bs.map V.bl) us → us = bs.map Value.bool
  | [], _, .nil => rfl
  | b :: bs, _, .cons r t => by cases r; rw [vals_tru t]; rfl
def isTru (k : Bool) : Value → Bool
  | .bool b => b == k
  | _ => false
theorem eq_tru {k : Bool} (bs : List Bool) : ∀ y, y ∈ bs.map Value.bool → MeetsSeq.EqGives y (.bool k) (isTru k y) := fun y hy => by
  obtain ⟨b, _, rfl⟩ := List.mem_map.mp hy
  exact eqg_bool b k
theorem cnt_tru (k : Bool) : ∀ bs : List Bool, (bs.map Value.bool).countP (isTru k) = bs.count k
  | [] => rfl
  | b :: bs => by
    rw [List.map_cons, List.countP_cons, List.count_cons, cnt_tru k bs]
    rfl
def rCntT : V → List V → Hp → VK → Prop := fun x vs H Q => ∃ (l : Addr) (bs : List Bool) (k : Bool), x = .ref l ∧ vs = [.bl k] ∧ H l = some (.lst (bs.map V.bl)) ∧ Q (.int (bs.count k : Nat)) H
def rIdxT : V → List V → Hp → VK → Prop := fun x vs H Q => ∃ (l : Addr) (bs : List Bool) (k : Bool) (j : Nat), x = .ref l ∧ vs = [.bl k] ∧ H l = some (.lst (bs.map V.bl)) ∧ bs[j]? = some k ∧ (∀ i, i < j → bs[i]? = some (!k)) ∧ Q (.int (j : Nat)) H
section
variable {X : Cx}
theorem mt_cntT : MtR X "list.count" rCntT := by
  intro pins s σ H x vs v us Q I rx rv h
  obtain ⟨l, bs, k, rfl, rfl, hH, q⟩ := h
  cases rx
  obtain ⟨u, rfl, ru⟩ := rv.one
  obtain rfl : u = Value.bool k := ru
  obtain ⟨z, its, n, r, hl, e⟩ := I.lstM hH
  obtain rfl := vals_tru r
  refine call_meets PySem.F.slot_list_count ⟨_, e, rfl⟩ PySem.F.entry_list_count (PySem.F.args_list_count_2 _ _) (MeetsSeq.list_count l _ n (.bool k) (isTru k) (fun y hy => eq_tru bs y (by simpa using hy))) ⟨e, ?_⟩
  have e2 : (List.map Value.bool bs).toArray.toList.countP (isTru k) = bs.count k := cnt_tru k bs
  rw [e2]
  exact ⟨.int (bs.count k : Nat), H, I.tok _, ⟨_, rfl⟩, q⟩
theorem mt_idxT : MtR X "list.index" rIdxT := by
  intro pins s σ H x vs v us Q I rx rv h
  obtain ⟨l, bs, k, j, rfl, rfl, hH, hj, hlt, q⟩ := h
  cases rx
  obtain ⟨u, rfl, ru⟩ := rv.one
  obtain rfl : u = Value.bool k := ru
  obtain ⟨z, its, n, r, hl, e⟩ := I.lstM hH
  obtain rfl := vals_tru r
  rw [List.length_map, sizeLine_eq] at z
  have lj : j < bs.length := (List.getElem?_eq_some_iff.mp hj).1
  have ej : bs[j] = k := (List.getElem?_eq_some_iff.mp hj).2
  refine call_meets PySem.F.slot_list_index ⟨_, e, rfl⟩ PySem.F.entry_list_index (PySem.F.args_list_index_2 _ _)
    (MeetsSeq.list_index l _ n (.bool k) (isTru k) (fun y hy => eq_tru bs y (by simpa using hy)) j (by simpa using lj) (by omega) ?_ fun m hm hlt' => ?_) ⟨e, ⟨.int (j : Nat), H, I.tok _, ⟨_, rfl⟩, q⟩⟩
  · simp only [List.getElem_toArray, List.getElem_map, ej]
    change (k == k) = true
    exact beq_self_eq_true k
  · have em := (List.getElem?_eq_some_iff.mp (hlt m hlt')).2
    simp only [List.getElem_toArray, List.getElem_map, em]
    change ((!k) == k) = false
    cases k <;> rfl
theorem pe_cntT {o e : Expr} {to te : TE} {p1 p2 : Pos} (ho : PE X o to) (he : PE X e te) (hb : attributeBase o "count" X.env (eval o X.env) = eval o X.env := by rfl)
    (hf : ((backTo p2 (starEach [e] X.env)).all (fun x => !x.1) && (backToKw p2 (keywordEach [] X.env)).all (fun x => x.1.isSome) && decide (([e] : List Expr).length + ([] : List Keyword).length + (if ([] : List Keyword).isEmpty then 0 else 1) < 30)) = true := by rfl)
    (hl : (p1.endLine == p2.line) = true := by rfl) (s1 : starEach [e] X.env = (false, eval e X.env) :: starEach [] X.env := by rfl) :
    PE X (.Call (.Attribute o "count" p1) [e] [] p2) (tBM X.K "list" rCntT to (tCons te tNil)) :=
  pe_bm (hbase := hb) (hfew := hf) (hline := hl) (hs := s1) PySem.F.plainAttrs_list PySem.F.slot_list_count PySem.F.type_list_count mt_cntT ho (pa_cons he pa_nil s1)
theorem pe_idxT {o e : Expr} {to te : TE} {p1 p2 : Pos} (ho : PE X o to) (he : PE X e te) (hb : attributeBase o "index" X.env (eval o X.env) = eval o X.env := by rfl)
    (hf : ((backTo p2 (starEach [e] X.env)).all (fun x => !x.1) && (backToKw p2 (keywordEach [] X.env)).all (fun x => x.1.isSome) && decide (([e] : List Expr).length + ([] : List Keyword).length + (if ([] : List Keyword).isEmpty then 0 else 1) < 30)) = true := by rfl)
    (hl : (p1.endLine == p2.line) = true := by rfl) (s1 : starEach [e] X.env = (false, eval e X.env) :: starEach [] X.env := by rfl) :
    PE X (.Call (.Attribute o "index" p1) [e] [] p2) (tBM X.K "list" rIdxT to (tCons te tNil)) :=
  pe_bm (hbase := hb) (hfew := hf) (hline := hl) (hs := s1) PySem.F.plainAttrs_list PySem.F.slot_list_index PySem.F.type_list_index mt_idxT ho (pa_cons he pa_nil s1)
end
end L2

end

section
set_option autoImplicit false
set_option maxRecDepth 100000
set_option linter.all false
namespace EoT
open PySem PySem.SetTable
end EoT

end

section
set_option autoImplicit false
set_option maxRecDepth 100000
set_option linter.all false
namespace EoT
open PySem PySem.SetTable EoD Eo
section
variable {prog : Program} {w : World} {A : Around} {E : Value → Shared → Prop} {s : Shared}
end
end EoT

end

section
set_option autoImplicit false
set_option maxRecDepth 100000
set_option linter.all false
namespace EoT
open PySem PySem.SetTable EoD Eo
section
variable {prog : Program} {w : World} {A : Around} {E : Value → Shared → Prop} {s : Shared}
end
end EoT

end

section
set_option autoImplicit false
set_option maxRecDepth 100000
set_option linter.all false
namespace EoT
open PySem PySem.SetTable EoD Eo
section
variable {prog : Program} {w : World} {A : Around} {E : Value → Shared → Prop} {s : Shared} {a it : Addr} {es : Array (Int × Value)} {ep i : Nat} {t : SetTable}
end
end EoT

end

section
set_option autoImplicit false
set_option maxRecDepth 100000
namespace EoS
open PySem.W PyProof.Rows
section
variable {n : Nat} {lt : Nat → Nat → Bool}
end
end EoS

end

section
set_option autoImplicit false
set_option maxRecDepth 100000
set_option linter.all false
namespace L2
open PySem PySem.Spec PyProof.Rows EoD Eo EoT
section
variable {X : Cx}
end
section
variable {X : Cx}
end
end L2

end

section
set_option autoImplicit false
set_option maxRecDepth 100000
set_option linter.all false
namespace L2
open PySem PySem.Spec PyProof.Rows EoD Eo
def top (i : Nat) : Stmt := PySem.Challenge.pw_eitheror_k08_refused.main.body.getD i (.Pass ⟨0, 0, 0, 0⟩)
abbrev S_uninit : Stmt := inClass (top 6) 0
abbrev S_init : Stmt := inClass (top 11) 0
abbrev S_wishes : Stmt := inClass (top 11) 1
abbrev S_fol : Stmt := top 12
abbrev S_chain : Stmt := top 13
abbrev S_disp : Stmt := top 14
abbrev S_num : Stmt := top 15
abbrev S_word : Stmt := top 16
abbrev S_wish : Stmt := top 17
abbrev S_isch : Stmt := top 18
abbrev S_check : Stmt := top 19
abbrev S_has : Stmt := top 20
abbrev S_pls : Stmt := top 21
abbrev S_opp : Stmt := top 22
abbrev S_said : Stmt := top 23
abbrev S_ahead : Stmt := top 24
abbrev S_toinit : Stmt := inClass (top 28) 0
abbrev S_keep : Stmt := top 30
abbrev S_sett : Stmt := top 31
abbrev S_many : Stmt := top 32
abbrev S_cwords : Stmt := top 33
abbrev S_cpls : Stmt := top 34
abbrev S_allch : Stmt := top 35
abbrev S_plsch : Stmt := top 36
abbrev S_ftorn : Stmt := top 37
abbrev S_schain : Stmt := top 39
abbrev S_cell : Stmt := top 41
abbrev S_lsort : Stmt := top 43
abbrev S_lask : Stmt := top 44
abbrev S_lasked : Stmt := top 45
abbrev S_lall : Stmt := top 46
abbrev S_law : Stmt := top 47
end L2

end

section
set_option autoImplicit false
set_option maxRecDepth 100000
set_option linter.all false
namespace L2
open PySem PySem.Spec PyProof.Rows EoD Eo
section
variable {P : Program} {w : World} {K : PySem.W.Frag} {mg : Str → Option Value} {base : Heap}
inductive X_sp_num  (vs : List V) (H : Hp) (Q : VK) (E : XK) : Prop
  | mk (i : _) (z_1 : vs = [.int i]) (z_2 : Q (.bl true) H)
def sp_num : Sp := fun vs H Q E => X_sp_num  vs H Q E
theorem sc_num : FnScope ["value"] ["value"] (defScope S_num) := ⟨rfl, rfl, rfl, by decide +kernel, rfl, by decide +kernel, by decide +kernel⟩
theorem ok_num (D : Def K mg "is_number" S_num ["value"]) (B : Bare mg) : Cal P w K mg base "is_number" 1 ["value"] sp_num := by
  refine D.cal (k := 0) sc_num (fun vs H Q E h => by obtain ⟨i, rfl, _⟩ := h; rfl) (fun f cdv A outer s H vs Q E hr h => ?_)
  obtain ⟨i, rfl, k⟩ := h
  refine ⟨_, pss_one (ps_ret (pe_and (pe_isin B (pv 0) rfl rfl B.int bt_int) (pe_one (pe_not (pe_isin B (pv 0) rfl rfl B.bool bt_bool))))), ?_⟩
  refine ⟨_, rfl, _, _, _, true, rfl, .int i, rfl, true, rfl, iteT ⟨_, rfl, _, _, _, false, rfl, .int i, rfl, false, rfl, k⟩⟩
inductive X_sp_word  (vs : List V) (H : Hp) (Q : VK) (E : XK) : Prop
  | mk (N : Nat) (v : V) (x : W) (z_1 : vs = [.int N, v]) (z_2 : IsW H v x) (z_3 : InN N x) (z_4 : Q (.bl true) H)
def sp_word : Sp := fun vs H Q E => X_sp_word  vs H Q E
theorem sc_word : FnScope ["names", "value"] ["names", "value"] (defScope S_word) := ⟨rfl, rfl, rfl, by decide +kernel, rfl, by decide +kernel, by decide +kernel⟩
theorem ok_word (D : Def K mg "is_word" S_word ["names", "value"]) (B : Bare mg) (cn : Cal P w K mg base "is_number" 1 ["value"] sp_num) : Cal P w K mg base "is_word" 2 ["names", "value"] sp_word := by
  refine D.cal (k := 1) sc_word (fun vs H Q E h => by obtain ⟨N, v, x, rfl, _⟩ := h; rfl) (fun f cdv A outer s H vs Q E hr h => ?_)
  obtain ⟨N, v, x, rfl, ⟨p, rfl, hp⟩, hx, k⟩ := h
  refine ⟨_, pss_cons (ps_if (PW.pt (pw_or (pt_not (pt_val (pe_isin B (pv 1) rfl rfl B.tup bt_tuple))) (pw_or1 (pt_cmpR op_ne (pe_callB call_len_seq rfl B.len bt_len (pa_cons (pv 1) pa_nil)) pe_int (nomark _))))) (pss_one (ps_ret pe_bl)) pss_nil)
    (pss_one (ps_ret (pe_and (pe_cal cn hr rfl (pa_cons (pe_ix ix_tup (pv 1) pe_int (fun _ _ => rfl)) pa_nil)) (pe_and (pe_chain op_le op_lt pe_int (pe_ix ix_tup (pv 1) pe_int (fun _ _ => rfl)) (pv 0)) (pe_one (pe_isin B (pe_ix ix_tup (pv 1) pe_int (fun _ _ => rfl)) rfl rfl B.bool bt_bool)))))), ?_⟩
  have h0 : atI [V.int x.1, V.bl x.2] 0 = some (V.int x.1) := rfl
  have h1 : atI [V.int x.1, V.bl x.2] 1 = some (V.bl x.2) := rfl
  refine ⟨_, rfl, _, _, _, true, rfl, .tup hp, rfl, true, rfl, iteF ⟨_, rfl, p, _, rfl, .inr (SqT.of hp), rfl, _, rfl, iteNS rfl ?_⟩⟩
  refine ⟨_, rfl, p, _, 0, _, rfl, rfl, SqT.of hp, h0, x.1, rfl, true, rfl, iteT ?_⟩
  refine ⟨_, rfl, p, _, 0, _, rfl, rfl, SqT.of hp, h0, ?_⟩
  refine ⟨_, _, rfl, rfl, _, rfl, iteP hx.1 ⟨_, rfl, _, _, rfl, rfl, _, rfl, iteP hx.2 ?_⟩⟩
  exact ⟨_, rfl, p, _, 1, _, rfl, rfl, SqT.of hp, h1, _, _, _, true, rfl, .bl _, rfl, k⟩
inductive X_sp_wish  (vs : List V) (H : Hp) (Q : VK) (E : XK) : Prop
  | mk (N : Nat) (v : V) (x : W × W) (z_1 : vs = [.int N, v]) (z_2 : IsP H v x) (z_3 : InN N x.1) (z_4 : InN N x.2) (z_5 : Q (.bl true) H)
def sp_wish : Sp := fun vs H Q E => X_sp_wish  vs H Q E
theorem sc_wish : FnScope ["names", "value"] ["names", "value"] (defScope S_wish) := ⟨rfl, rfl, rfl, by decide +kernel, rfl, by decide +kernel, by decide +kernel⟩
theorem ok_wish (D : Def K mg "is_wish" S_wish ["names", "value"]) (B : Bare mg) (cw : Cal P w K mg base "is_word" 2 ["names", "value"] sp_word) : Cal P w K mg base "is_wish" 3 ["names", "value"] sp_wish := by
  refine D.cal (k := 2) sc_wish (fun vs H Q E h => by obtain ⟨N, v, x, rfl, _⟩ := h; rfl) (fun f cdv A outer s H vs Q E hr h => ?_)
  obtain ⟨N, v, x, rfl, ⟨p, a, b, rfl, hp, ha, hb⟩, h1, h2, k⟩ := h
  refine ⟨_, pss_cons (ps_if (PW.pt (pw_or (pt_not (pt_val (pe_isin B (pv 1) rfl rfl B.tup bt_tuple))) (pw_or1 (pt_cmpR op_ne (pe_callB call_len_seq rfl B.len bt_len (pa_cons (pv 1) pa_nil)) pe_int (nomark _))))) (pss_one (ps_ret pe_bl)) pss_nil)
    (pss_one (ps_ret (pe_and (pe_cal cw hr rfl (pa_cons (pv 0) (pa_cons (pe_ix ix_tup (pv 1) pe_int (fun _ _ => rfl)) pa_nil))) (pe_one (pe_cal cw hr rfl (pa_cons (pv 0) (pa_cons (pe_ix ix_tup (pv 1) pe_int (fun _ _ => rfl)) pa_nil))))))), ?_⟩
  have i0 : atI [a, b] 0 = some a := rfl
  have i1 : atI [a, b] 1 = some b := rfl
  refine ⟨_, rfl, _, _, _, true, rfl, .tup hp, rfl, true, rfl, iteF ⟨_, rfl, p, _, rfl, .inr (SqT.of hp), rfl, _, rfl, iteNS rfl ?_⟩⟩
  refine ⟨_, rfl, _, rfl, p, _, 0, _, rfl, rfl, SqT.of hp, i0, N, a, x.1, rfl, ha, h1, true, rfl, iteT ?_⟩
  exact ⟨_, rfl, _, rfl, p, _, 1, _, rfl, rfl, SqT.of hp, i1, N, b, x.2, rfl, hb, h2, k⟩
/-- what the walk asks of the class House -/
structure TxtH (K : PySem.W.Frag) (C : Addr) : Prop where
  cl : Cls K C
  nN : NoAttr K C "names"
  nK : NoAttr K C "kept"
inductive X_sp_check (C : Addr) (vs : List V) (H : Hp) (Q : VK) (E : XK) : Prop
  | mk (h v : V) (N : Nat) (ws : List (W × W)) (x : W) (z_1 : vs = [h, v]) (z_2 : HouseAt C H h N ws) (z_3 : IsW H v x) (z_4 : InN N x) (z_5 : Q .non H)
def sp_check (C : Addr) : Sp := fun vs H Q E => X_sp_check C vs H Q E
theorem sc_check : FnScope ["house", "value"] ["house", "value"] (defScope S_check) := ⟨rfl, rfl, rfl, by decide +kernel, rfl, by decide +kernel, by decide +kernel⟩
theorem ok_check {C : Addr} (D : Def K mg "check_word" S_check ["house", "value"]) (T : TxtH K C) (cw : Cal P w K mg base "is_word" 2 ["names", "value"] sp_word) : Cal P w K mg base "check_word" 3 ["house", "value"] (sp_check C) := by
  refine D.cal (k := 2) sc_check (fun vs H Q E h => by obtain ⟨_, _, _, _, _, rfl, _⟩ := h; rfl) (fun f cdv A outer s H vs Q E hr h => ?_)
  obtain ⟨h, v, N, ws, x, rfl, ⟨p, dx, q, us, rfl, hp, _⟩, hv, hx, k⟩ := h
  refine ⟨_, pss_one (ps_if (pt_not (pt_val (pe_cal cw hr rfl (pa_cons (pe_fld (pv 0) rfl) (pa_cons (pv 1) pa_nil))))) pss_never pss_nil), ?_⟩
  exact ⟨_, rfl, p, C, dx, _, _, rfl, hp, T.cl, T.nN, flds_names _ _, _, rfl, N, v, x, rfl, hv, hx, true, rfl, iteF k⟩
inductive X_sp_opp  (vs : List V) (H : Hp) (Q : VK) (E : XK) : Prop
  | mk (v : V) (x : W) (z_1 : vs = [v]) (z_2 : IsW H v x) (z_3 : ∀ H' v', Same H H' → IsW H' v' (neg x) → Q v' H')
def sp_opp : Sp := fun vs H Q E => X_sp_opp  vs H Q E
theorem sc_opp : FnScope ["word"] ["word"] (defScope S_opp) := ⟨rfl, rfl, rfl, by decide +kernel, rfl, by decide +kernel, by decide +kernel⟩
theorem ok_opp (D : Def K mg "opposite" S_opp ["word"]) : Cal P w K mg base "opposite" 1 ["word"] sp_opp := by
  refine D.cal (k := 0) sc_opp (fun vs H Q E h => by obtain ⟨_, _, rfl, _⟩ := h; rfl) (fun f cdv A outer s H vs Q E hr h => ?_)
  obtain ⟨v, x, rfl, ⟨p, rfl, hp⟩, k⟩ := h
  refine ⟨_, pss_one (ps_ret (pe_tup (pa_cons (pe_ix ix_tup (pv 0) pe_int (fun _ _ => rfl)) (pa_cons (pe_not (pe_ix ix_tup (pv 0) pe_int (fun _ _ => rfl))) pa_nil)))), ?_⟩
  have i0 : atI [V.int x.1, V.bl x.2] 0 = some (V.int x.1) := rfl
  have i1 : atI [V.int x.1, V.bl x.2] 1 = some (V.bl x.2) := rfl
  refine ⟨_, rfl, p, _, 0, _, rfl, rfl, SqT.of hp, i0, _, rfl, p, _, 1, _, rfl, rfl, SqT.of hp, i1, _, rfl, (by show 2 ≤ sizeLine; decide), fun q hq => ?_⟩
  exact k _ _ (Same.laid hq) ⟨q, rfl, upd_same⟩
end
end L2

end

section
set_option autoImplicit false
set_option maxRecDepth 100000
set_option linter.all false
namespace L2
open PySem PySem.Spec PyProof.Rows EoD Eo
/-- a new list of words -/
def NewWs (H H' : Hp) (v : V) (l : List W) : Prop := ∃ a vs, v = .ref a ∧ H a = none ∧ H' a = some (.lst vs) ∧ Ws H' vs l
section
variable {P : Program} {w : World} {K : PySem.W.Frag} {mg : Str → Option Value} {base : Heap} {C : Addr}
inductive X_sp_wishes (C : Addr) (vs : List V) (H : Hp) (Q : VK) (E : XK) : Prop
  | mk (h : V) (N : Nat) (ws : List (W × W)) (z_1 : vs = [h]) (z_2 : HouseAt C H h N ws) (z_3 : ∀ l us, H l = none → Ps H us ws → us.length ≤ 24 → Q (.ref l) (upd H l (.lst us)))
def sp_wishes (C : Addr) : Sp := fun vs H Q E => X_sp_wishes C vs H Q E
theorem sc_wishes : FnScope ["self"] ["self"] (defScope S_wishes) := ⟨rfl, rfl, rfl, by decide +kernel, rfl, by decide +kernel, by decide +kernel⟩
theorem ok_wishes {f : Addr} {fd : FuncData} (F : Fun K "wishes" "House.wishes" S_wishes f fd) (B : Bare mg) (T : TxtH K C) : FnOk P w K mg base CX0 1 f fd ["self"] (sp_wishes C) := by
  refine F.ok sc_wishes (fun vs H Q E h => by obtain ⟨_, _, _, rfl, _⟩ := h; rfl) (fun cdv A outer s H vs Q E hr h => ?_)
  obtain ⟨h, N, ws, rfl, ⟨p, dx, q, us, rfl, hp, hq, hu, hn⟩, k⟩ := h
  refine ⟨_, pss_one (ps_ret (pe_callTy call_list_of rfl B.lst bt_list (pa_cons (pe_fld (pv 0) rfl) pa_nil))), ?_⟩
  exact ⟨_, rfl, p, C, dx, _, _, rfl, hp, T.cl, T.nK, flds_kept _ _, q, us, rfl, .inr (SqT.of hq), fun l hl => k l us hl hu hn⟩
/-- the method wishes may be called -/
def CalW (P : Program) (w : World) (K : PySem.W.Frag) (mg : Str → Option Value) (base : Heap) (C : Addr) : Prop := ∃ f fd, FnOk P w K mg base CX0 1 f fd ["self"] (sp_wishes C) ∧ Meth K C "wishes" f ∧ Binds K fd ["self"] []
theorem pe_wishes {X : Cx} {o : Expr} {to : TE} {p1 p2 : Pos} (c : CalW X.prog X.w X.K X.mg X.base C) (T : TxtH X.K C) (hr : Room 1 X.A) (ho : PE X o to) {pl : Sem Bool}
    (ht : eval (.Call (.Attribute o "wishes" p1) [] [] p2) X.env = (do
      let ov ← eval o X.env
      standAt p1.atName
      let (f, first) ← holding [ov] (getMethod ov "wishes" pl)
      callWith p2 f first (backTo p2 (starEach [] X.env)) (backToKw p2 (keywordEach [] X.env))) := by rfl) : PE X (.Call (.Attribute o "wishes" p1) [] [] p2) (tMeth C "wishes" (sp_wishes C) [] E0 to tNil) :=
  let ⟨_, _, F, m, b⟩ := c; pe_meth0 ho T.cl m F hr b .nil pass0 ht
end
end L2

end

section
set_option autoImplicit false
set_option maxRecDepth 100000
set_option linter.all false
namespace L2
open PySem PySem.Spec PyProof.Rows EoD Eo
theorem said_take (ws : List (W × W)) (x : W) (i : Nat) (p : W × W) (h : ws[i]? = some p) : said (ws.take (i + 1)) x = said (ws.take i) x ++ (if p.1 = neg x then [p.2] else []) ++ (if p.2 = neg x then [p.1] else []) := by
  rw [List.take_add_one, h]
  unfold said
  rw [List.flatMap_append]
  simp [List.append_assoc]
section
variable {P : Program} {w : World} {K : PySem.W.Frag} {mg : Str → Option Value} {base : Heap} {C : Addr}
theorem said_if {i j : Int} {D : Ends} {σ : St} {H : Hp} {wq f : Addr} {a b ai aj dv : V} {xi d : W} {vs : List V} (e4 : σ[4]? = some (some (.ref wq))) (e2 : σ[2]? = some (some dv)) (e3 : σ[3]? = some (some (.ref f))) (hw : H wq = some (.tup [a, b])) (hi : atI [a, b] i = some ai) (hj : atI [a, b] j = some aj)
    (wi : IsW H ai xi) (wdv : IsW H dv d) (ef : H f = some (.lst vs)) (sz : vs.length < sizeLine) (k1 : xi = d → D.nx σ (upd H f (.lst (vs ++ [aj])))) (k2 : ¬ xi = d → D.nx σ H) :
    tIfS (tTest (tOp rEqW (tOp (rIxT K) (tVar 4) (tC (.int i))) (tVar 2))) (tDrop (tBM K "list" rAppend (tVar 3) (tCons (tOp (rIxT K) (tVar 4) (tC (.int j))) tNil))) tNext D σ H := by
  refine ⟨_, e4, wq, _, i, _, rfl, rfl, SqT.of hw, hi, _, e2, xi, d, wi, wdv, _, rfl, iteD (fun e => ?_) (fun e => k2 e)⟩
  exact ⟨_, e3, .inl ⟨rfl, _, SqL.of ef⟩, _, e4, wq, _, j, _, rfl, rfl, SqT.of hw, hj, f, vs, _, rfl, rfl, ef, sz, k1 e⟩
inductive X_sp_said (C : Addr) (vs : List V) (H : Hp) (Q : VK) (E : XK) : Prop
  | mk (h v : V) (N : Nat) (ws : List (W × W)) (x : W) (z_1 : vs = [h, v]) (z_2 : HouseAt C H h N ws) (z_3 : IsW H v x) (z_4 : ∀ H' v', Same H H' → NewWs H H' v' (said ws x) → Q v' H')
def sp_said (C : Addr) : Sp := fun vs H Q E => X_sp_said C vs H Q E
theorem sc_said : FnScope ["house", "word", "denied", "found", "wish"] ["house", "word"] (defScope S_said) := ⟨rfl, rfl, rfl, by decide +kernel, rfl, by decide +kernel, by decide +kernel⟩
theorem ok_said (D : Def K mg "said_next" S_said ["house", "word"]) (T : TxtH K C) (co : Cal P w K mg base "opposite" 1 ["word"] sp_opp) (cw : CalW P w K mg base C) : Cal P w K mg base "said_next" 2 ["house", "word"] (sp_said C) := by
  refine D.cal (k := 1) sc_said (fun vs H Q E h => by obtain ⟨_, _, _, _, _, rfl, _⟩ := h; rfl) (fun f cdv A outer s H vs Q E hr h => ?_)
  obtain ⟨h, v, N, ws, x, rfl, hh, hv, k⟩ := h
  have hu := hr.units
  refine ⟨_, pss_cons (ps_set (i := 2) sc_said.nd rfl (Or.inl rfl) (pe_cal co hr rfl (pa_cons (pv 1) pa_nil))) (pss_cons (ps_set (i := 3) sc_said.nd rfl (Or.inl rfl) (pe_lst pa_nil)) (pss_cons (ps_for PassesOwn.never rfl (pi_list (pe_wishes cw T hr (pv 0))) (pg_name (i := 4) sc_said.nd rfl (Or.inl rfl))
    (pss_cons (ps_if (pt_cmpR (op_eqW hu) (pe_ix ix_tup (pv 4) pe_int (fun _ _ => rfl)) (pv 2) (nomark _)) (pss_one (ps_app (pv 3) (pe_ix ix_tup (pv 4) pe_int (fun _ _ => rfl)))) pss_nil)
      (pss_one (ps_if (pt_cmpR (op_eqW hu) (pe_ix ix_tup (pv 4) pe_int (fun _ _ => rfl)) (pv 2) (nomark _)) (pss_one (ps_app (pv 3) (pe_ix ix_tup (pv 4) pe_int (fun _ _ => rfl)))) pss_nil)))) (pss_one (ps_ret (pv 3))))), ?_⟩
  refine ⟨_, rfl, v, x, rfl, hv, fun H1 dv s1 hd => ⟨Nat.zero_le _, fun g hg => ?_⟩⟩
  have s2 : Same H (upd H1 g (.lst [])) := s1.laidT hg
  have hh2 := hh.same s2
  obtain ⟨p, dx, q, us0, rfl, hp, _⟩ := id hh2
  have ng : H g = none := s1.free hg
  refine ⟨_, rfl, p, dx, _, rfl, hp, flds_no _ _ (by decide +kernel) (by decide +kernel), _, N, ws, rfl, hh2, fun l us hl hu' hn => ⟨l, rfl, ⟨_, SqL.of upd_same⟩, ?_⟩⟩
  have lg : l ≠ g := fun z => by rw [z, upd_same] at hl; cases hl
  have nl : H l = none := s2.free hl
  refine for_list (K := K) (a := l) (xs := us) (fun i σ H2 => ∃ (vs : List V) (z : Option V), σ = [some (.ref p), some v, some dv, some (.ref g), z] ∧ Same H H2 ∧ H2 l = some (.lst us) ∧ Ps H2 us ws ∧ IsW H2 dv (neg x) ∧ H2 g = some (.lst vs) ∧ Ws H2 vs (said (ws.take i) x) ∧ vs.length ≤ 2 * i)
    ⟨[], none, rfl, s2.laidT hl, upd_same, hu'.same (Same.laid hl), hd.same ((Same.laid hg).laidT hl), by rw [upd_ne lg.symm]; exact upd_same, .nil, Nat.le_refl _⟩ (fun i σ H2 _ ⟨_, _, _, _, z, _⟩ => SqL.of z) ?_ ?_
  · rintro i y σ H2 hi ⟨vs, z, rfl, sH, el, pu, wd', eg, wv, nv⟩
    obtain ⟨pr, hpr, wq, a, b, rfl, hw, ha, hb⟩ := paired_get pu hi
    have hil : i < us.length := (List.getElem?_eq_some_iff.mp hi).1
    have i0 : atI [a, b] 0 = some a := rfl
    have i1 : atI [a, b] 1 = some b := rfl
    have sz : vs.length < sizeLine := by rw [sizeLine_eq]; omega
    have tpg : ∀ {H3 : Hp} {vs' : List V} {o : HO}, H3 g = some (.lst vs') → Tups H3 (upd H3 g o) := fun {H3 vs' o} e => Tups.upd (by rw [e]; intro _ z; cases z)
    have fin : ∀ (H3 : Hp) (vs3 : List V), Same H H3 → H3 l = some (.lst us) → Tups H2 H3 → H3 g = some (.lst vs3) → Ws H3 vs3 (said (ws.take (i + 1)) x) → vs3.length ≤ 2 * (i + 1) →
        ∃ (vs : List V) (z : Option V), [some (.ref p), some v, some dv, some (.ref g), some (.ref wq)] = [some (.ref p), some v, some dv, some (.ref g), z] ∧ Same H H3 ∧ H3 l = some (.lst us) ∧ Ps H3 us ws ∧ IsW H3 dv (neg x) ∧ H3 g = some (.lst vs) ∧ Ws H3 vs (said (ws.take (i + 1)) x) ∧ vs.length ≤ 2 * (i + 1) :=
      fun H3 vs3 a1 a2 a3 a4 a5 a6 => ⟨vs3, _, rfl, a1, a2, pu.tups a3, wd'.tups a3, a4, a5, a6⟩
    refine said_if (K := K) (xi := pr.1) rfl rfl rfl hw i0 i1 ha wd' eg sz (fun e1 => ?_) (fun e1 => ?_)
    · have t1 : Tups H2 (upd H2 g (.lst (vs ++ [b]))) := tpg eg
      refine said_if (K := K) (xi := pr.2) rfl rfl rfl (t1 _ _ hw) i1 i0 (hb.tups t1) (wd'.tups t1) upd_same (by rw [List.length_append, sizeLine_eq]; show vs.length + 1 < _; omega) (fun e2 => ?_) (fun e2 => ?_)
      · have t2 : Tups H2 (upd (upd H2 g (.lst (vs ++ [b]))) g (.lst (vs ++ [b] ++ [a]))) := t1.trans (tpg upd_same)
        refine fin _ (vs ++ [b] ++ [a]) ((sH.chg ng).chg ng) (by rw [upd_ne lg, upd_ne lg]; exact el) t2 upd_same ?_ (by simp; omega)
        rw [said_take ws x i pr hpr, if_pos e1, if_pos e2]
        exact ((Ws.tups t2 wv).snoc (hb.tups t2)).snoc (ha.tups t2)
      · refine fin _ (vs ++ [b]) (sH.chg ng) (by rw [upd_ne lg]; exact el) t1 upd_same ?_ (by simp; omega)
        rw [said_take ws x i pr hpr, if_pos e1, if_neg e2, List.append_nil]
        exact (Ws.tups t1 wv).snoc (hb.tups t1)
    · refine said_if (K := K) (xi := pr.2) rfl rfl rfl hw i1 i0 hb wd' eg sz (fun e2 => ?_) (fun e2 => ?_)
      · have t1 : Tups H2 (upd H2 g (.lst (vs ++ [a]))) := tpg eg
        refine fin _ (vs ++ [a]) (sH.chg ng) (by rw [upd_ne lg]; exact el) t1 upd_same ?_ (by simp; omega)
        rw [said_take ws x i pr hpr, if_neg e1, if_pos e2, List.append_nil]
        exact (Ws.tups t1 wv).snoc (ha.tups t1)
      · refine fin _ vs sH el (fun _ _ z => z) eg ?_ (by omega)
        rw [said_take ws x i pr hpr, if_neg e1, if_neg e2, List.append_nil, List.append_nil]
        exact wv
  · rintro σ H2 ⟨vs, z, rfl, sH, el, pu, wd', eg, wv, nv⟩
    have e : us.length = ws.length := Paired.length pu
    rw [e, List.take_length] at wv
    exact ⟨_, rfl, k H2 _ sH ⟨g, vs, rfl, ng, eg, wv⟩⟩
end
end L2

end

section
set_option autoImplicit false
set_option maxRecDepth 100000
set_option linter.all false
namespace L2
open PySem PySem.Spec PyProof.Rows EoD Eo
def AhV (H : Hp) (v : V) : Option W → Prop
  | none => v = .non
  | some u => IsW H v u
theorem AhV.tups {H H' : Hp} {v : V} {o : Option W} (e : Tups H H') (h : AhV H v o) : AhV H' v o := by
  cases o with
  | none => exact h
  | some u => exact IsW.tups e h
abbrev AhR (H : Hp) : List (W × V) → List T → Prop := Paired fun kv t => kv.1 = t.1 ∧ AhV H kv.2 t.2.1
theorem AhR.tups {H H' : Hp} {kvs : List (W × V)} {G : List T} (e : Tups H H') (h : AhR H kvs G) : AhR H' kvs G := Paired.mapP h fun _ _ z => ⟨z.1, z.2.tups e⟩
theorem AhR.keys {H : Hp} : ∀ {kvs : List (W × V)} {G : List T}, AhR H kvs G → kvs.map (·.1) = G.map (·.1)
  | _, _, .nil => rfl
  | _, _, .cons h t => by rw [List.map_cons, List.map_cons, h.1, AhR.keys t]
theorem val_none {kvs : List (W × V)} {k : W} : valV kvs k = none ↔ k ∉ kvs.map (·.1) := by
  have h := valV_any k kvs
  constructor
  · intro e hm
    obtain ⟨p, hp, ep⟩ := List.mem_map.mp hm
    have : (kvs.any fun kv => decide (kv.1 = k)) = true := List.any_eq_true.mpr ⟨p, hp, decide_eq_true ep⟩
    rw [h, e] at this
    cases this
  · intro hm
    cases e : valV kvs k with
    | none => rfl
    | some v =>
      rw [e] at h
      obtain ⟨p, hp, ep⟩ := List.any_eq_true.mp h
      exact absurd (List.mem_map.mpr ⟨p, hp, of_decide_eq_true ep⟩) hm
theorem AhR.val {H : Hp} {k : W} : ∀ {kvs : List (W × V)} {G : List T}, AhR H kvs G → (G.map (·.1)).Nodup → ∀ {q : Option W} {d : Nat}, (k, q, d) ∈ G → ∃ v, valV kvs k = some v ∧ AhV H v q
  | _, _, .nil, _, q, d, h => by simp at h
  | kv :: kvs, t :: G, .cons r rs, nd, q, d, h => by
    have nd' := List.nodup_cons.mp (show (t.1 :: G.map (·.1)).Nodup from nd)
    by_cases e : kv.1 = k
    · have e' : t.1 = k := r.1.symm.trans e
      rcases List.mem_cons.mp h with z | z
      · refine ⟨kv.2, valV_pos e, ?_⟩
        have := r.2
        rw [← z] at this
        exact this
      · exact absurd (List.mem_map.mpr ⟨_, z, e'.symm⟩) nd'.1
    · have e' : ¬ t.1 = k := fun z => e (r.1.trans z)
      rcases List.mem_cons.mp h with z | z
      · exact absurd (by rw [← z]) e'
      · obtain ⟨v, h1, h2⟩ := AhR.val rs nd'.2 z
        exact ⟨v, by rw [valV_neg e]; exact h1, h2⟩
theorem DW.obj {P : Program} {w : World} {H : Hp} {a : Addr} {kvs : List (W × V)} (d : DW P w H a kvs) : ∃ φ, H a = some (.ext φ) := let ⟨_, h, _⟩ := d.ex; ⟨_, h⟩
theorem DW.notup {P : Program} {w : World} {H : Hp} {a : Addr} {kvs : List (W × V)} (d : DW P w H a kvs) {o : HO} : Tups H (upd H a o) := by
  obtain ⟨φ, h⟩ := d.obj
  exact Tups.upd (by rw [h]; intro _ z; cases z)
theorem lst_notup {H : Hp} {a : Addr} {vs : List V} {o : HO} (h : H a = some (.lst vs)) : Tups H (upd H a o) := Tups.upd (by rw [h]; intro _ z; cases z)
theorem DW.upd {P : Program} {w : World} {H : Hp} {a b : Addr} {kvs : List (W × V)} {vs : List V} {o : HO} (d : DW P w H a kvs) (h : H b = some (.lst vs)) : DW P w (upd H b o) a kvs := by
  obtain ⟨xs, h1, h2, h3⟩ := d.ex
  refine ⟨⟨xs, ?_, fun x hx => lst_notup h _ _ (h2 x hx), h3⟩, d.len⟩
  rw [upd_ne (ne_of h1 h (by intro z; cases z))]
  exact h1
section
variable {P : Program} {w : World} {K : PySem.W.Frag} {mg : Str → Option Value} {base : Heap} {C : Addr}
inductive X_sp_ahead (P : Program) (w : World) (C : Addr) (vs : List V) (H : Hp) (Q : VK) (E : XK) : Prop
  | mk (h v : V) (N : Nat) (ws : List (W × W)) (x : W) (z_1 : vs = [h, v]) (z_2 : HouseAt C H h N ws) (z_3 : GoodH N ws) (z_4 : IsW H v x) (z_5 : InN N x) (z_6 : ∀ H' d G kvs, Same H H' → H d = none → Found ws x G → DW P w H' d kvs → AhR H' kvs G → Q (.ref d) H')
def sp_ahead (P : Program) (w : World) (C : Addr) : Sp := fun vs H Q E => X_sp_ahead P w C vs H Q E
theorem sc_ahead : FnScope ["house", "word", "ahead", "reached", "at", "current", "found"] ["house", "word"] (defScope S_ahead) := ⟨rfl, rfl, rfl, by decide +kernel, rfl, by decide +kernel, by decide +kernel⟩
theorem ok_ahead (D : Def K mg "words_ahead" S_ahead ["house", "word"]) (B : Bare mg) (cs : Cal P w K mg base "said_next" 2 ["house", "word"] (sp_said C)) : Cal P w K mg base "words_ahead" 3 ["house", "word"] (sp_ahead P w C) := by
  refine D.cal (k := 2) sc_ahead (fun vs H Q E h => by obtain ⟨_, _, _, _, _, rfl, _⟩ := h; rfl) (fun f cdv A outer s H vs Q E hr h => ?_)
  obtain ⟨h, v, N, ws, x, rfl, hh, gh, hv, hx, k⟩ := h
  have hu := hu_of hr
  refine ⟨_, pss_cons (ps_set (i := 2) sc_ahead.nd rfl (Or.inl rfl) (pe_wone hr.units0 (pv 1) pe_non)) (pss_cons (ps_set (i := 3) sc_ahead.nd rfl (Or.inl rfl) (pe_lst (pa_cons (pv 1) pa_nil))) (pss_cons (ps_set (i := 4) sc_ahead.nd rfl (Or.inl rfl) pe_int)
    (pss_cons (ps_while PassesOwn.never (pt_cmpR op_lt (pv 4) (pe_callB call_len_seq rfl B.len bt_len (pa_cons (pv 3) pa_nil)) (nomark _))
      (pss_cons (ps_set (i := 5) sc_ahead.nd rfl (Or.inl rfl) (pe_ix ix_list (pv 3) (pv 4) (fun _ _ => rfl)))
      (pss_cons (ps_for PassesOwn.never rfl (pi_list (pe_cal cs hr rfl (pa_cons (pv 0) (pa_cons (pv 5) pa_nil)))) (pg_name (i := 6) sc_ahead.nd rfl (Or.inl rfl))
        (pss_one (ps_if (pt_cmpR (op_niW hu) (pv 6) (pv 2) (by with_unfolding_all rfl)) (pss_cons (ps_wput hu (pv 2) (pv 6) (pv 5)) (pss_one (ps_app (pv 3) (pv 6)))) pss_nil)))
      (pss_one (ps_set (i := 4) sc_ahead.nd rfl (Or.inl rfl) (pe_op op_add (pv 4) pe_int)))))) (pss_one (ps_ret (pv 2)))))), ?_⟩
  intro d o hd
  have sd : Same H (upd H d o) := Same.laid hd
  refine ⟨_, rfl, x, hv.same sd, upd_same, fun o' dw => ⟨_, rfl, by show 1 ≤ sizeLine; decide, fun r hr' => ?_⟩⟩
  generalize hH1 : upd (upd H d o) d o' = H1 at dw hr' ⊢
  have s1 : Same H H1 := by rw [← hH1]; exact sd.chg hd
  have nr : H r = none := s1.free hr'
  have s2 : Same H (upd H1 r (.lst [v])) := s1.laidT hr'
  have t12 : Same H1 (upd H1 r (.lst [v])) := Same.laid hr'
  refine ⟨fun m σ H2 => ∃ (i : Nat) (G : List T) (kvs : List (W × V)) (rs : List V) (c1 c2 : Option V), σ = [some h, some v, some (.ref d), some (.ref r), some (.int i), c1, c2] ∧ m + i = 2 * N + 1 ∧ Same H H2 ∧ DW P w H2 d kvs ∧ AhR H2 kvs G ∧ H2 r = some (.lst rs) ∧ Ws H2 rs (G.map (·.1)) ∧ Bfs ws x i G ∧ i ≤ G.length,
    ⟨2 * N + 1, 0, [(x, none, 0)], [(x, .non)], [v], none, none, rfl, rfl, s2, dw.same t12, .cons ⟨rfl, rfl⟩ .nil, upd_same, .cons (hv.same s2) .nil, bfs_start ws x, by simp⟩, ?_⟩
  rintro m σ H2 ⟨i, G, kvs, rs, c1, c2, rfl, em, sH, dw2, ah, er, wr, bf, hi⟩
  have lr : rs.length = G.length := by rw [Paired.length wr, List.length_map]
  have lG := bf.toCore.len gh.good hx
  refine ⟨_, rfl, _, rfl, r, rs, rfl, .inl (SqL.of er), _, _, rfl, rfl, _, rfl, iteD (fun lt => ?_) (fun ge => ?_)⟩
  · have lt' : i < rs.length := by omega
    obtain ⟨cv, hcv⟩ : ∃ cv, rs[i]? = some cv := ⟨rs[i], List.getElem?_eq_getElem lt'⟩
    obtain ⟨cw, hcw, iscv⟩ := paired_get wr hcv
    obtain ⟨c, hc, ec⟩ : ∃ c, G[i]? = some c ∧ c.1 = cw := by
      rw [List.getElem?_map] at hcw
      obtain ⟨c, h1, h2⟩ := Option.map_eq_some_iff.mp hcw
      exact ⟨c, h1, h2⟩
    subst ec
    refine ⟨_, fun σ' H' nx => nx, ?_⟩
    refine ⟨_, rfl, _, rfl, r, rs, _, cv, rfl, rfl, SqL.of er, atI_nat hcv, ?_⟩
    refine ⟨_, rfl, _, rfl, h, cv, N, ws, c.1, rfl, hh.same sH, iscv, fun H3 sv s23 nw => ?_⟩
    obtain ⟨sl, ss, rfl, nsl, esl, wss⟩ := nw
    have dr : d ≠ r := by
      obtain ⟨φ, e⟩ := dw2.obj
      exact ne_of e er (by intro z; cases z)
    have nsr : sl ≠ r := (ne_of_none er nsl).symm
    have nsd : sl ≠ d := by
      obtain ⟨φ, e⟩ := dw2.obj
      exact (ne_of_none e nsl).symm
    refine ⟨sl, rfl, ⟨_, SqL.of esl⟩, for_list (K := K) (a := sl) (xs := ss) (fun j σ H4 => ∃ (G' : List T) (kvs' : List (W × V)) (rs' : List V) (c2 : Option V), σ = [some h, some v, some (.ref d), some (.ref r), some (.int i), some cv, c2] ∧ Same H H4 ∧ H4 sl = some (.lst ss) ∧ Ws H4 ss (said ws c.1) ∧ IsW H4 cv c.1 ∧
        DW P w H4 d kvs' ∧ AhR H4 kvs' G' ∧ H4 r = some (.lst rs') ∧ Ws H4 rs' (G'.map (·.1)) ∧ BfsIn ws x i c ((said ws c.1).take j) G')
      ⟨G, kvs, rs, c2, rfl, sH.trans s23, esl, wss, iscv.same s23, dw2.same s23, AhR.tups s23.tups ah, s23 _ _ er, wr.same s23, by simpa using bf.enter hc⟩ (fun j σ H4 _ ⟨_, _, _, _, _, _, z, _⟩ => SqL.of z) ?_ ?_⟩
    · rintro j y σ H4 hj ⟨G', kvs', rs', c2', rfl, s4, esl4, wss4, isc4, dw4, ah4, er4, wr4, bi⟩
      obtain ⟨u, hu', isy⟩ := paired_get wss4 hj
      have nx : Nx ws c.1 u := mem_said.1 (List.mem_of_getElem? hu')
      have etk : (said ws c.1).take (j + 1) = (said ws c.1).take j ++ [u] := by rw [List.take_add_one, hu']; rfl
      have lG' := bi.toCore.len gh.good hx
      have lk : kvs'.length = G'.length := Paired.length ah4
      have lr' : rs'.length = G'.length := by rw [Paired.length wr4, List.length_map]
      have N8 := gh.hi
      refine ⟨_, rfl, _, rfl, d, u, kvs', rfl, isy, dw4, _, rfl, ?_⟩
      cases ev : valV kvs' u with
      | some z =>
        refine iteF ?_
        have hm : u ∈ G'.map (·.1) := by
          rw [← AhR.keys ah4]
          by_cases q : u ∈ kvs'.map (·.1)
          · exact q
          · rw [val_none.2 q] at ev; cases ev
        refine ⟨G', kvs', rs', _, rfl, s4, esl4, wss4, isc4, dw4, ah4, er4, wr4, ?_⟩
        rw [etk]
        exact bi.old hm
      | none =>
        refine iteT ?_
        have hm : u ∉ G'.map (·.1) := by rw [← AhR.keys ah4]; exact val_none.1 ev
        refine ⟨_, rfl, _, rfl, _, rfl, d, u, kvs', rfl, isy, dw4, ev, by omega, fun o5 dw5 => ?_⟩
        have t5 : Tups H4 (upd H4 d o5) := dw4.notup
        have er5 : (upd H4 d o5) r = some (.lst rs') := by rw [upd_ne dr.symm]; exact er4
        refine ⟨_, rfl, .inl ⟨rfl, _, SqL.of er5⟩, _, rfl, r, rs', _, rfl, rfl, er5, by rw [sizeLine_eq]; omega, ?_⟩
        have t6 : Tups H4 (upd (upd H4 d o5) r (.lst (rs' ++ [y]))) := t5.trans (lst_notup er5)
        refine ⟨G' ++ [(u, some c.1, c.2.2 + 1)], kvs' ++ [(u, cv)], rs' ++ [y], _, rfl, (s4.chg hd).chg nr, by rw [upd_ne nsr, upd_ne nsd]; exact esl4, wss4.tups t6, isc4.tups t6, dw5.upd er5, (AhR.tups t6 ah4).snoc ⟨rfl, isc4.tups t6⟩, upd_same, ?_, ?_⟩
        · rw [List.map_append]
          exact (wr4.tups t6).snoc (isy.tups t6)
        · rw [etk]
          exact bi.new hm nx
    · rintro σ H4 ⟨G', kvs', rs', c2', rfl, s4, esl4, wss4, isc4, dw4, ah4, er4, wr4, bi⟩
      have lss : ss.length = (said ws c.1).length := Paired.length wss4
      rw [lss, List.take_length] at bi
      have hi' : i < G'.length := (List.getElem?_eq_some_iff.mp bi.at_).1
      refine ⟨_, rfl, _, _, rfl, rfl, m - 1, by omega, i + 1, G', kvs', rs', some cv, c2', rfl, by omega, s4, dw4, ah4, er4, wr4, bi.leave fun z hz => mem_said.2 hz, hi'⟩
  · refine ⟨_, rfl, k H2 d G kvs sH hd (bf.found ?_) dw2 ah⟩
    have : ¬ ((i : Int) < (rs.length : Int)) := ge
    omega
end
end L2

end

section
set_option autoImplicit false
set_option maxRecDepth 100000
set_option linter.all false
namespace L2
open PySem PySem.Spec PyProof.Rows EoD Eo
theorem paired_app {α β : Type} {F : α → β → Prop} : ∀ {a : List α} {b : List β} {c : List α} {d : List β}, Paired F a b → Paired F c d → Paired F (a ++ c) (b ++ d)
  | _, _, _, _, .nil, r => r
  | _, _, _, _, .cons h t, r => .cons h (paired_app t r)
theorem paired_rev {α β : Type} {F : α → β → Prop} : ∀ {a : List α} {b : List β}, Paired F a b → Paired F a.reverse b.reverse
  | _, _, .nil => .nil
  | _, _, .cons h t => by
    rw [List.reverse_cons, List.reverse_cons]
    exact (paired_rev t).snoc h
def ChainOk (ws : List (W × W)) (x y : W) (cs : List W) : Prop := (¬ Reach ws x y ∧ cs = []) ∨ ∃ k, Dist ws x y k ∧ Chn ws cs ∧ cs.head? = some x ∧ cs.getLast? = some y ∧ cs.length = k + 1
section
variable {P : Program} {w : World} {K : PySem.W.Frag} {mg : Str → Option Value} {base : Heap} {C : Addr}
theorem sc_fol : FnScope ["house", "word"] ["house", "word"] (defScope S_fol) := ⟨rfl, rfl, rfl, by decide +kernel, rfl, by decide +kernel, by decide +kernel⟩
inductive X_sp_chain (C : Addr) (vs : List V) (H : Hp) (Q : VK) (E : XK) : Prop
  | mk (h v o : V) (N : Nat) (ws : List (W × W)) (x y : W) (z_1 : vs = [h, v, o]) (z_2 : HouseAt C H h N ws) (z_3 : GoodH N ws) (z_4 : IsW H v x) (z_5 : IsW H o y) (z_6 : InN N x) (z_7 : InN N y) (z_8 : ∀ H' v' cs, Same H H' → NewWs H H' v' cs → ChainOk ws x y cs → Q v' H')
def sp_chain (C : Addr) : Sp := fun vs H Q E => X_sp_chain C vs H Q E
theorem sc_chain : FnScope ["house", "word", "other", "ahead", "links", "link"] ["house", "word", "other"] (defScope S_chain) := ⟨rfl, rfl, rfl, by decide +kernel, rfl, by decide +kernel, by decide +kernel⟩
theorem ok_chain (D : Def K mg "chain" S_chain ["house", "word", "other"]) (B : Bare mg) (cc : Cal P w K mg base "check_word" 3 ["house", "value"] (sp_check C)) (ca : Cal P w K mg base "words_ahead" 3 ["house", "word"] (sp_ahead P w C)) : Cal P w K mg base "chain" 4 ["house", "word", "other"] (sp_chain C) := by
  refine D.cal (k := 3) sc_chain (fun vs H Q E h => by obtain ⟨_, _, _, _, _, _, _, rfl, _⟩ := h; rfl) (fun f cdv A outer s H vs Q E hr h => ?_)
  obtain ⟨h, v, o, N, ws, x, y, rfl, hh, gh, hv, ho, hx, hy, k⟩ := h
  have hu := hu_of hr
  refine ⟨_, pss_cons (ps_expr (pe_cal cc hr rfl (pa_cons (pv 0) (pa_cons (pv 1) pa_nil)))) (pss_cons (ps_expr (pe_cal cc hr rfl (pa_cons (pv 0) (pa_cons (pv 2) pa_nil))))
    (pss_cons (ps_set (i := 3) sc_chain.nd rfl (Or.inl rfl) (pe_cal ca hr rfl (pa_cons (pv 0) (pa_cons (pv 1) pa_nil))))
    (pss_cons (ps_if (pt_cmpR (op_niW hu) (pv 2) (pv 3) (by with_unfolding_all rfl)) (pss_one (ps_ret (pe_lst pa_nil))) pss_nil)
    (pss_cons (ps_set (i := 4) sc_chain.nd rfl (Or.inl rfl) (pe_lst pa_nil)) (pss_cons (ps_set (i := 5) sc_chain.nd rfl (Or.inl rfl) (pv 2))
    (pss_cons (ps_while PassesOwn.never (pt_cmp (pc_notN (pv 5))) (pss_cons (ps_app (pv 4) (pv 5)) (pss_one (ps_set (i := 5) sc_chain.nd rfl (Or.inl rfl) (pe_wget hu (pv 3) (pv 5) (fun _ _ => rfl))))))
    (pss_one (ps_ret (pe_listrev rfl (pv 4) rfl B.lst rfl B.rev bt_reversed))))))))), ?_⟩
  refine ⟨_, rfl, _, rfl, h, v, N, ws, x, rfl, hh, hv, hx, _, rfl, _, rfl, h, o, N, ws, y, rfl, hh, ho, hy, _, rfl, _, rfl, h, v, N, ws, x, rfl, hh, gh, hv, hx, fun H1 d G kvs s1 nd fo dw ah => ?_⟩
  refine ⟨_, rfl, _, rfl, d, y, kvs, rfl, ho.same s1, dw, _, rfl, ?_⟩
  cases ev : valV kvs y with
  | none =>
    have nm : ¬ Reach ws x y := fun z => val_none.1 ev (by rw [AhR.keys ah]; exact fo.mem.2 z)
    refine iteT ⟨Nat.zero_le _, fun l hl => k _ _ [] (s1.laidT hl) ⟨l, [], rfl, s1.free hl, upd_same, .nil⟩ (.inl ⟨nm, rfl⟩)⟩
  | some z =>
    refine iteF ⟨Nat.zero_le _, fun lk hlk => ?_⟩
    have hm : y ∈ G.map (·.1) := by
      rw [← AhR.keys ah]
      by_cases q : y ∈ kvs.map (·.1)
      · exact q
      · rw [val_none.2 q] at ev; cases ev
    obtain ⟨t, ht, et⟩ := List.mem_map.mp hm
    obtain ⟨y', qy, n⟩ := t
    have et' : y' = y := et
    subst et'
    have nlk : H lk = none := s1.free hlk
    have s2 : Same H1 (upd H1 lk (.lst [])) := Same.laid hlk
    have lG := fo.toCore.len gh.good hx
    have N8 := gh.hi
    have dn := (fo.dist ht).lt gh.good hx
    refine ⟨_, rfl, ?_⟩
    refine ⟨fun m σ H2 => ∃ (link : Option W) (lv : V) (l : List W) (us : List V), σ = [some h, some v, some o, some (.ref d), some (.ref lk), some lv] ∧ AhV H2 lv link ∧ H2 lk = some (.lst us) ∧ Ws H2 us l ∧ Back ws x y' G n link l ∧ m + l.length = n + 2 ∧ Same H H2 ∧ DW P w H2 d kvs ∧ AhR H2 kvs G,
      ⟨n + 2, some y', o, [], [], rfl, (ho.same s1).same s2, upd_same, .nil, Back.start ht, rfl, s1.laidT hlk, dw.same s2, AhR.tups s2.tups ah⟩, ?_⟩
    rintro m σ H2 ⟨link, lv, l, us, rfl, av, el, wl, bk, em, sH, dw2, ah2⟩
    have lu : us.length = l.length := Paired.length wl
    refine ⟨_, rfl, _, rfl, ?_⟩
    cases link with
    | none =>
      have e : lv = .non := av
      subst e
      refine iteNS rfl ?_
      obtain ⟨b1, b2, b3, b4⟩ := bk
      refine ⟨_, rfl, lk, us, rfl, SqL.of el, by omega, fun l' hl' => k _ _ l.reverse (sH.laidT hl') ⟨l', us.reverse, rfl, sH.free hl', upd_same, paired_rev (wl.same (Same.laid hl'))⟩ (.inr ⟨n, fo.dist ht, b1, b2, b3, by rw [List.length_reverse]; exact b4⟩)⟩
    | some u =>
      obtain ⟨p, rfl, hp⟩ := (show IsW H2 lv u from av)
      have e : decide (V.ref p = V.non) = false := by simp
      rw [e]
      obtain ⟨q', d', g1, g2, g3, g4⟩ := bk
      obtain ⟨bt, bl⟩ := Back.turn fo.toCore ⟨q', d', g1, g2, g3, g4⟩ g1
      refine iteT ⟨_, fun σ' H' nx => nx, _, rfl, .inl ⟨rfl, _, SqL.of el⟩, _, rfl, lk, us, _, rfl, rfl, el, by rw [sizeLine_eq]; omega, ?_⟩
      have t3 : Tups H2 (upd H2 lk (.lst (us ++ [V.ref p]))) := lst_notup el
      have dw3 := dw2.upd (o := .lst (us ++ [V.ref p])) el
      have ah3 := AhR.tups t3 ah2
      obtain ⟨nv, ev', anv⟩ := AhR.val ah3 fo.nd g1
      refine ⟨_, rfl, _, rfl, d, u, kvs, nv, rfl, ⟨p, rfl, t3 _ _ hp⟩, dw3, ev', ?_⟩
      exact ⟨m - 1, by omega, q', nv, l ++ [u], us ++ [V.ref p], rfl, anv, upd_same, (wl.tups t3).snoc ⟨p, rfl, t3 _ _ hp⟩, bt, by simp; omega, sH.chg nlk, dw3, ah3⟩
end
end L2

end

section
set_option autoImplicit false
set_option maxRecDepth 100000
set_option linter.all false
namespace L2
open PySem PySem.Spec PyProof.Rows EoD Eo
def AllFree (X : Cx) : List (Str × NameKind) → Prop
  | [] => True
  | x :: r => (x.2 = .free → X.env.kindOf x.1 = some .cell) ∧ AllFree X r
theorem AllFree.all {X : Cx} : ∀ {l : List (Str × NameKind)}, AllFree X l → ∀ y ∈ l, y.2 = .free → X.env.kindOf y.1 = some .cell
  | [], _, y, hy => by simp at hy
  | x :: r, h, y, hy => by
    rcases List.mem_cons.mp hy with e | hy
    · subst e; exact h.1
    · exact AllFree.all h.2 y hy
theorem comp_list {K : PySem.W.Frag} {a D : Addr} {xs : List V} {js : List Nat} {tc : TT} {te : TE} {σ : St} {H : Hp} {Qd : Hp → Prop} (Pv : Nat → List V → Hp → Prop) (h0 : Pv 0 [] (upd H D (.lst []))) (hl : ∀ i acc H, i ≤ xs.length → Pv i acc H → SqL K H a xs ∧ H D = some (.lst acc) ∧ acc.length < sizeLine)
    (hs : ∀ i x acc H (R : List V → Hp → Prop), xs[i]? = some x → Pv i acc H → (∀ acc' H', Pv (i + 1) acc' H' → R acc' H') → tc (some x :: look σ js) H fun b H4 => if b = true then te (some x :: look σ js) H4 fun v H5 => H5 D = some (.lst acc) ∧ R (acc ++ [v]) (upd H5 D (.lst (acc ++ [v]))) else R acc H4)
    (hd : ∀ acc H, Pv xs.length acc H → Qd H) :
    ∃ W : Nat → Nat → List V → Hp → Prop, (∃ m, W 0 m [] (upd H D (.lst []))) ∧ ∀ i m acc H2, W i m acc H2 → H2 D = some (.lst acc) ∧ acc.length < sizeLine ∧ (((Itl K a).stop i H2 ∧ Qd H2) ∨
      ((Itl K a).go i H2 ∧ ∀ x H3, (Itl K a).yld i H2 x H3 → tc (some x :: look σ js) H3 fun b H4 => if b = true then te (some x :: look σ js) H4 fun v H5 => H5 D = some (.lst acc) ∧ ∃ m', m' < m ∧ W (i + 1) m' (acc ++ [v]) (upd H5 D (.lst (acc ++ [v])))
        else ∃ m', m' < m ∧ W (i + 1) m' acc H4)) := by
  refine ⟨fun i m acc H => m = xs.length - i ∧ i ≤ xs.length ∧ Pv i acc H, ⟨xs.length, by simp, Nat.zero_le _, h0⟩, ?_⟩
  rintro i m acc H2 ⟨rfl, hi, p⟩
  obtain ⟨q, eD, sz⟩ := hl i acc H2 hi p
  refine ⟨eD, sz, ?_⟩
  by_cases hlt : i < xs.length
  · refine .inr ⟨⟨xs, xs[i], q, by simp [hlt]⟩, fun x H3 y => ?_⟩
    obtain ⟨e, y⟩ := y
    subst e
    exact hs i x acc _ (fun acc' H' => ∃ m', m' < xs.length - i ∧ m' = xs.length - (i + 1) ∧ i + 1 ≤ xs.length ∧ Pv (i + 1) acc' H') (y xs q) p fun acc' H' p' => ⟨_, by omega, rfl, hlt, p'⟩
  · have e : i = xs.length := by omega
    subst e
    exact .inl ⟨⟨xs, q, Nat.le_refl _⟩, hd acc H2 p⟩
theorem comp_range {lo : Int} {n : Nat} {D : Addr} {js : List Nat} {tc : TT} {te : TE} {σ : St} {H : Hp} {Qd : Hp → Prop} (Pv : Nat → List V → Hp → Prop) (h0 : Pv 0 [] (upd H D (.lst []))) (hl : ∀ i acc H, i ≤ n → Pv i acc H → H D = some (.lst acc) ∧ acc.length < sizeLine)
    (hs : ∀ i acc H (R : List V → Hp → Prop), i < n → Pv i acc H → (∀ acc' H', Pv (i + 1) acc' H' → R acc' H') → tc (some (.int (lo + i)) :: look σ js) H fun b H4 => if b = true then te (some (.int (lo + i)) :: look σ js) H4 fun v H5 => H5 D = some (.lst acc) ∧ R (acc ++ [v]) (upd H5 D (.lst (acc ++ [v]))) else R acc H4)
    (hd : ∀ acc H, Pv n acc H → Qd H) :
    ∃ W : Nat → Nat → List V → Hp → Prop, (∃ m, W 0 m [] (upd H D (.lst []))) ∧ ∀ i m acc H2, W i m acc H2 → H2 D = some (.lst acc) ∧ acc.length < sizeLine ∧ (((Itr lo n).stop i H2 ∧ Qd H2) ∨
      ((Itr lo n).go i H2 ∧ ∀ x H3, (Itr lo n).yld i H2 x H3 → tc (some x :: look σ js) H3 fun b H4 => if b = true then te (some x :: look σ js) H4 fun v H5 => H5 D = some (.lst acc) ∧ ∃ m', m' < m ∧ W (i + 1) m' (acc ++ [v]) (upd H5 D (.lst (acc ++ [v])))
        else ∃ m', m' < m ∧ W (i + 1) m' acc H4)) := by
  refine ⟨fun i m acc H => m = n - i ∧ i ≤ n ∧ Pv i acc H, ⟨n, by simp, Nat.zero_le _, h0⟩, ?_⟩
  rintro i m acc H2 ⟨rfl, hi, p⟩
  obtain ⟨eD, sz⟩ := hl i acc H2 hi p
  refine ⟨eD, sz, ?_⟩
  by_cases hlt : i < n
  · refine .inr ⟨hlt, fun x H3 y => ?_⟩
    obtain ⟨e, y⟩ := y
    subst e; subst y
    exact hs i acc _ (fun acc' H' => ∃ m', m' < n - i ∧ m' = n - (i + 1) ∧ i + 1 ≤ n ∧ Pv (i + 1) acc' H') hlt p fun acc' H' p' => ⟨_, by omega, rfl, hlt, p'⟩
  · have e : i = n := by omega
    subst e
    exact .inl ⟨Nat.le_refl _, hd acc H2 p⟩

theorem NewWs.same {H H' H2 : Hp} {v : V} {l : List W} (h : NewWs H H' v l) (e : Same H' H2) : NewWs H H2 v l := let ⟨a, vs, h1, h2, h3, h4⟩ := h; ⟨a, vs, h1, h2, e _ _ h3, h4.same e⟩
theorem paired_mem {α β : Type} {F G : α → β → Prop} : ∀ {l : List α} {m : List β}, Paired F l m → (∀ a b, a ∈ l → F a b → G a b) → Paired G l m
  | _, _, .nil, _ => .nil
  | _, _, .cons h t, f => .cons (f _ _ List.mem_cons_self h) (paired_mem t fun a b ha => f a b (List.mem_cons_of_mem _ ha))
/-- a new list of new lists of words -/
def NewGL (H H' : Hp) (v : V) (gs : List (List W)) : Prop := ∃ a vs, v = .ref a ∧ H a = none ∧ H' a = some (.lst vs) ∧ Paired (NewWs H H') vs gs
section
variable {P : Program} {w : World} {K : PySem.W.Frag} {mg : Str → Option Value} {base : Heap} {C : Addr}
end
end L2

end

section
set_option autoImplicit false
set_option maxRecDepth 100000
set_option linter.all false
namespace L2
open PySem PySem.Spec PyProof.Rows EoD Eo
theorem all_rep (n : Nat) : (List.replicate n true).all id = true := by
  induction n with
  | zero => rfl
  | succ n ih => rw [List.replicate_succ, List.all_cons, ih]; rfl
section
variable {P : Program} {w : World} {K : PySem.W.Frag} {mg : Str → Option Value} {base : Heap} {C : Addr}
inductive X_sp_init (C : Addr) (vs : List V) (H : Hp) (Q : VK) (E : XK) : Prop
  | mk (p dx l : Addr) (N : Nat) (us : List V) (ws : List (W × W)) (z_1 : vs = [.ref p, .int N, .ref l]) (z_2 : H p = some (.ins C dx [])) (z_3 : GoodH N ws) (z_4 : H l = some (.lst us)) (z_5 : Ps H us ws) (z_6 : ∀ H', HouseAt C H' (.ref p) N ws → (∀ b o, H b = some o → b ≠ p → H' b = some o) → Q .non H')
def sp_init (C : Addr) : Sp := fun vs H Q E => X_sp_init C vs H Q E
theorem sc_init : FnScope ["self", "names", "wishes"] ["self", "names", "wishes"] (defScope S_init) := ⟨rfl, rfl, rfl, by decide +kernel, rfl, by decide +kernel, by decide +kernel⟩
theorem ok_init {f : Addr} {fd : FuncData} (F : Fun K "__init__" "House.__init__" S_init f fd) (B : Bare mg) (T : TxtH K C) (m8 : ∃ t, mg "MOST_NAMES" = some (.int 8 t)) (m24 : ∃ t, mg "MOST_WISHES" = some (.int 24 t)) (cn : Cal P w K mg base "is_number" 1 ["value"] sp_num) (cw : Cal P w K mg base "is_wish" 3 ["names", "value"] sp_wish) :
    FnOk P w K mg base CX0 4 f fd ["self", "names", "wishes"] (sp_init C) := by
  refine F.ok sc_init (fun vs H Q E h => by obtain ⟨_, _, _, _, _, _, rfl, _⟩ := h; rfl) (fun cdv A outer s H vs Q E hr h => ?_)
  obtain ⟨p, dx, l, N, us, ws, rfl, hp, gh, el, pu, k⟩ := h
  obtain ⟨t8, m8⟩ := m8
  obtain ⟨t24, m24⟩ := m24
  have hr1 : Room 1 _ := hr.mono (by decide)
  refine ⟨_, pss_cons (ps_if (PW.pt (pw_or (pt_not (pt_val (pe_cal cn hr1 rfl (pa_cons (pv 1) pa_nil)))) (pw_or1 (pt_not (pt_chain op_le op_le pe_int (pv 1) (pe_glob (v := .int 8) rfl m8 ⟨_, rfl⟩)))))) pss_never pss_nil)
    (pss_cons (ps_if (PW.pt (pw_or (pt_not (pt_val (pe_isin B (pv 2) rfl rfl B.lst bt_list))) (pw_or1 (pt_cmpR op_gt (pe_callB call_len_seq rfl B.len bt_len (pa_cons (pv 2) pa_nil)) (pe_glob (v := .int 24) rfl m24 ⟨_, rfl⟩) (nomark _))))) pss_never pss_nil)
    (pss_cons (ps_if (pt_not (pt_val (pe_callB (call_allB rfl) rfl B.all bt_all (pa_cons (pe_comp (tc := tYes) (te := tCall sp_wish [] E0 (tCons (tVar 1) (tCons (tVar 0) tNil))) rfl ⟨rfl, by decide +kernel, rfl, by decide +kernel, AllFree.all ⟨(fun e => nomatch e), (fun e => nomatch e), (fun e => nomatch e), fun _ => rfl, trivial⟩⟩
        (ys := ["names"]) (js := [1]) ⟨rfl, rfl, rfl, trivial⟩ (by decide +kernel) (pi_list (pv 2)) (fun _ _ _ _ _ => pifs_nil) (fun _ _ _ _ _ => pe_cal cw hr rfl (pa_cons (pv 1) (pa_cons (pv 0) pa_nil)))) pa_nil)))) pss_never pss_nil)
    (pss_cons (ps_fld (pv 0) (pv 1) rfl) (pss_one (ps_fld (pv 0) (pe_callTy call_tuple_of rfl B.tup bt_tuple (pa_cons (pv 2) pa_nil)) rfl))))), ?_⟩
  have N1 := gh.lo
  have N8 := gh.hi
  have lw : us.length ≤ 24 := by rw [Paired.length pu]; exact gh.len
  refine ⟨_, rfl, N, rfl, true, rfl, iteF ⟨_, rfl, _, _, rfl, rfl, _, rfl, iteP (by omega) ⟨_, _, rfl, rfl, _, rfl, iteNS (by omega) ?_⟩⟩⟩
  refine ⟨_, rfl, _, _, _, true, rfl, .lst el, rfl, true, rfl, iteF ⟨_, rfl, l, us, rfl, .inl (SqL.of el), _, _, rfl, rfl, _, rfl, iteN (by omega) ?_⟩⟩
  refine ⟨_, rfl, l, rfl, ⟨_, SqL.of el⟩, fun Dd hD => ?_⟩
  have s1 : ∀ {acc : List V}, Same H (upd H Dd (.lst acc)) := Same.laid hD
  refine comp_list (K := K) (a := l) (xs := us) (js := [1]) (tc := tYes) (te := tCall sp_wish [] E0 (tCons (tVar 1) (tCons (tVar 0) tNil))) (σ := start ["self", "names", "wishes"] [.ref p, .int N, .ref l]) (fun j acc H6 => H6 = upd H Dd (.lst acc) ∧ acc = (List.replicate j true).map V.bl) ⟨rfl, rfl⟩ ?_ ?_ ?_
  · rintro j acc H6 hj ⟨rfl, ea⟩
    refine ⟨SqL.of (s1 _ _ el), upd_same, ?_⟩
    rw [ea, List.length_map, List.length_replicate, sizeLine_eq]
    omega
  · rintro j x' acc H6 R' hj ⟨rfl, ea⟩ hR
    obtain ⟨pr, hpr, isx⟩ := paired_get pu hj
    have g := gh.good pr (List.mem_of_getElem? hpr)
    simp only [tYes, if_true]
    refine ⟨_, rfl, _, rfl, N, x', pr, rfl, isx.same s1, g.1, g.2, upd_same, hR _ _ ⟨upd_upd, ?_⟩⟩
    rw [ea, List.replicate_succ']
    simp
  · rintro acc H6 ⟨rfl, ea⟩
    refine ⟨Dd, List.replicate us.length true, rfl, SqL.of (by rw [← ea]; exact upd_same), _, rfl, ?_⟩
    rw [all_rep]
    refine iteF ?_
    have pD : p ≠ Dd := ne_of_none hp hD
    have lD : l ≠ Dd := ne_of_none el hD
    have lp : l ≠ p := ne_of el hp (by intro z; cases z)
    refine ⟨_, rfl, _, rfl, p, C, dx, [], rfl, s1 _ _ hp, T.cl, T.nN, (by show 0 < 1000; decide), ?_⟩
    refine ⟨_, rfl, l, us, rfl, .inl ⟨SqL.of (by rw [upd_ne lp, upd_ne lD]; exact el), fun q hq => ?_⟩⟩
    have pq : p ≠ q := fun z => by rw [← z, upd_same] at hq; cases hq
    refine ⟨_, rfl, p, C, dx, _, rfl, by rw [upd_ne pq]; exact upd_same, T.cl, T.nK, (by show 1 < 1000; decide), ?_⟩
    have keep : ∀ b o, H b = some o → b ≠ p → (upd (upd (upd (upd H Dd (.lst acc)) p (.ins C dx (putF "names" (.int N) []))) q (.tup us)) p (.ins C dx (putF "kept" (.ref q) (putF "names" (.int N) [])))) b = some o := fun b o e hb => by
      have bq : b ≠ q := fun z => by
        rw [← z, upd_ne hb, s1 _ _ e] at hq
        cases hq
      rw [upd_ne hb, upd_ne bq, upd_ne hb]
      exact s1 _ _ e
    have tp : Tups H (upd (upd (upd (upd H Dd (.lst acc)) p (.ins C dx (putF "names" (.int N) []))) q (.tup us)) p (.ins C dx (putF "kept" (.ref q) (putF "names" (.int N) [])))) := fun b xs e => keep b _ e (ne_of e hp (by intro z; cases z))
    exact k _ ⟨p, dx, q, us, rfl, upd_same, by rw [upd_ne pq.symm]; exact upd_same, pu.tups tp, lw⟩ keep
end
end L2

end

section
set_option autoImplicit false
set_option maxRecDepth 100000
set_option linter.all false
namespace L2
open PySem PySem.Spec PyProof.Rows EoD Eo
theorem atI_in {xs : List V} {i : Int} (h0 : 0 ≤ i) (h1 : i < xs.length) : ∃ v, atI xs i = some v ∧ v ∈ xs := by
  obtain ⟨j, rfl⟩ := Int.eq_ofNat_of_zero_le h0
  have hj : j < xs.length := by omega
  exact ⟨xs[j], atI_nat (List.getElem?_eq_getElem hj), List.getElem_mem hj⟩
section
variable {P : Program} {w : World} {K : PySem.W.Frag} {mg : Str → Option Value} {base : Heap} {C : Addr}
inductive X_sp_cell (K : PySem.W.Frag) (vs : List V) (H : Hp) (Q : VK) (E : XK) : Prop
  | mk (a : Addr) (ns : List Int) (k : Int) (z_1 : vs = [.ref a, .int k]) (z_2 : SqL K H a (ns.map V.int)) (z_3 : 0 ≤ k) (z_4 : ∀ i, Q (.int i) H)
def sp_cell (K : PySem.W.Frag) : Sp := fun vs H Q E => X_sp_cell K vs H Q E
theorem sc_cell : FnScope ["_law_script", "_law_k"] ["_law_script", "_law_k"] (defScope S_cell) := ⟨rfl, rfl, rfl, by decide +kernel, rfl, by decide +kernel, by decide +kernel⟩
theorem ok_cell (D : Def K mg "_law_cell_at" S_cell ["_law_script", "_law_k"]) (B : Bare mg) : Cal P w K mg base "_law_cell_at" 1 ["_law_script", "_law_k"] (sp_cell K) := by
  refine D.cal (k := 0) sc_cell (fun vs H Q E h => by obtain ⟨_, _, _, rfl, _⟩ := h; rfl) (fun f cdv A outer s H vs Q E hr h => ?_)
  obtain ⟨a, ns, k, rfl, hq, hk, q⟩ := h
  refine ⟨_, pss_cons (ps_if (pt_cmpR op_lt (pv 1) (pe_callB call_len_seq rfl B.len bt_len (pa_cons (pv 0) pa_nil)) (nomark _)) (pss_one (ps_ret (pe_ix ix_list (pv 0) (pv 1) (fun _ _ => rfl)))) pss_nil) (pss_one (ps_ret pe_int)), ?_⟩
  refine ⟨_, rfl, _, rfl, a, _, rfl, .inl hq, _, _, rfl, rfl, _, rfl, iteD (fun h => ?_) (fun h => q 0)⟩
  obtain ⟨v, e, hm⟩ := atI_in (xs := ns.map V.int) hk h
  obtain ⟨n, _, rfl⟩ := List.mem_map.mp hm
  exact ⟨_, rfl, _, rfl, a, _, k, _, rfl, rfl, hq, e, q n⟩
end
end L2

end

section
set_option autoImplicit false
set_option maxRecDepth 100000
set_option linter.all false
namespace L2
open PySem PySem.Spec PyProof.Rows EoD Eo
section
variable {P : Program} {w : World} {K : PySem.W.Frag} {mg : Str → Option Value} {base : Heap} {C : Addr}
end
end L2

end

section
set_option autoImplicit false
set_option maxRecDepth 100000
set_option linter.all false
namespace L2
open PySem PySem.Spec PyProof.Rows EoD Eo
section
variable {P : Program} {w : World} {K : PySem.W.Frag} {mg : Str → Option Value} {base : Heap} {C : Addr}
end
end L2

end

section
set_option autoImplicit false
set_option maxRecDepth 100000
set_option linter.all false
namespace L2
open PySem PySem.Spec PyProof.Rows EoD Eo
section
variable {P : Program} {w : World} {K : PySem.W.Frag} {mg : Str → Option Value} {base : Heap} {C : Addr}
end
end L2

end

section
set_option autoImplicit false
set_option maxRecDepth 100000
set_option linter.all false
namespace L2
open PySem PySem.Spec PyProof.Rows EoD Eo
section
variable {P : Program} {w : World} {K : PySem.W.Frag} {mg : Str → Option Value} {base : Heap} {C : Addr}
end
end L2

end

section
set_option autoImplicit false
set_option maxRecDepth 100000
set_option linter.all false
namespace L2
open PySem PySem.Spec PyProof.Rows EoD Eo
theorem atI_map {α : Type} {f : α → V} {l : List α} {n : Int} {b : α} (h0 : 0 ≤ n) (h : l[n.toNat]? = some b) : atI (l.map f) n = some (f b) := by
  obtain ⟨i, rfl⟩ := Int.eq_ofNat_of_zero_le h0
  exact atI_nat (by rw [List.getElem?_map]; simpa using congrArg (Option.map f) h)
theorem fOf_get {c : List Bool} {N : Nat} {x : W} (hl : c.length = N) (hx : InN N x) : c[x.1.toNat]? = some (fOf c x.1) := by
  have h : x.1.toNat < c.length := by have := hx.1; have := hx.2; omega
  unfold fOf
  rw [List.getElem?_eq_getElem h, List.getD_eq_getElem?_getD, List.getElem?_eq_getElem h]
  rfl
section
variable {P : Program} {w : World} {K : PySem.W.Frag} {mg : Str → Option Value} {base : Heap} {C : Addr}
end
end L2

end

section
set_option autoImplicit false
set_option maxRecDepth 100000
set_option linter.all false
namespace L2
open PySem PySem.Spec PyProof.Rows EoD Eo
def plz (bs : List Bool) (p : W × W) : Bool := decide (Has (fOf bs) p.1 ∨ Has (fOf bs) p.2)
def disF (ws : List (W × W)) (bs : List Bool) (i : Nat) : Bool := match ws[i]? with
  | some p => !plz bs p
  | none => false
def dis (ws : List (W × W)) (bs : List Bool) : List Nat := (List.range ws.length).filter (disF ws bs)
theorem dis_nil {ws : List (W × W)} {bs : List Bool} : dis ws bs = [] ↔ Pls (fOf bs) ws := by
  unfold dis
  rw [List.filter_eq_nil_iff]
  constructor
  · intro h p hp
    obtain ⟨i, hi, e⟩ := List.mem_iff_getElem.mp hp
    have := h i (List.mem_range.2 hi)
    unfold disF at this
    rw [List.getElem?_eq_getElem hi, e] at this
    have this : ¬ Has (fOf bs) p.1 → Has (fOf bs) p.2 := by simpa [plz] using this
    by_cases c : Has (fOf bs) p.1
    · exact .inl c
    · exact .inr (this c)
  · intro h i hi
    have hi := List.mem_range.1 hi
    unfold disF
    rw [List.getElem?_eq_getElem hi]
    have := h _ (List.getElem_mem hi)
    simp [plz, this]
/-- a new list of places -/
def NewPs (H H' : Hp) (v : V) (l : List Nat) : Prop := ∃ a, v = .ref a ∧ H a = none ∧ H' a = some (.lst (plV l))
theorem reps_pl {K : PySem.W.Frag} {H : Hp} : ∀ l : List Nat, Reps K H (plV l) (l.map fun i : Nat => PyData.int i)
  | [] => .nil
  | i :: l => .cons (.int i) (reps_pl l)
theorem eqv_pn (x y : Nat) : PyData.eqv (.int (x : Int)) (.int (y : Int)) = decide (x = y) := by
  simp only [PyData.eqv]
  rw [Bool.eq_iff_iff]
  simp
  constructor <;> intro h <;> omega
theorem lay_pn (x : Nat) : (PyData.int (x : Int)).canLay0 = true := rfl
theorem dep_pn (x : Nat) : (PyData.int (x : Int)).depth ≤ 8 := by simp [PyData.depth]
/-- a list of places, compared -/
def PLs (K : PySem.W.Frag) (H : Hp) (v : V) (l : List Nat) : Prop := ∃ a, v = .ref a ∧ SqL K H a (plV l)
theorem PLs.rep {K : PySem.W.Frag} {H : Hp} {v : V} {l : List Nat} (h : PLs K H v l) : Rep K H v (.list (l.map fun i : Nat => PyData.int i)) := by
  obtain ⟨a, rfl, h1⟩ := h
  exact .lst h1 (reps_pl l)
theorem eqv_pls (l m : List Nat) : PyData.eqv (.list (l.map fun i : Nat => PyData.int i)) (.list (m.map fun i : Nat => PyData.int i)) = decide (l = m) := by
  simp only [PyData.eqv]
  exact eqvAll_map eqv_pn l m
inductive X_rEqPs (K : PySem.W.Frag) (x : V) (y : V) (H : Hp) (Q : VK) : Prop
  | mk (a : _) (b : _) (z_1 : PLs K H x a) (z_2 : PLs K H y b) (z_3 : Q (.bl (decide (a = b))) H)
def rEqPs (K : PySem.W.Frag) : R2 := fun x y H Q => X_rEqPs K x y H Q
theorem op_eqPs {X : Cx} (hu : X.A.units + 64 < cLine) : OpR X (compareOp .Eq) (rEqPs X.K) := (op_eqD hu).imp fun x y H Q ⟨a, b, h1, h2, q⟩ => ⟨_, _, h1.rep, h2.rep, shp_list lay_pn dep_pn (by decide) a, shp_list lay_pn dep_pn (by decide) b, by rw [eqv_pls]; exact q⟩
/-- more built-in names stand as they were -/
structure Bare2 (mg : Str → Option Value) : Prop where
  enu : mg "enumerate" = none
  zip : mg "zip" = none
theorem iteNT {c A B : Prop} [Decidable c] (hc : ¬ c) (h : A) : if (!decide c) = true then A else B := by rw [decide_eq_false hc]; exact iteT h
section
variable {P : Program} {w : World} {K : PySem.W.Frag} {mg : Str → Option Value} {base : Heap} {C : Addr}
inductive X_sp_isch (C : Addr) (vs : List V) (H : Hp) (Q : VK) (E : XK) : Prop
  | mk (h : V) (a : Addr) (N : Nat) (ws : List (W × W)) (bs : List Bool) (z_1 : vs = [h, .ref a]) (z_2 : HouseAt C H h N ws) (z_3 : H a = some (.lst (bs.map V.bl))) (z_4 : bs.length ≤ 1000) (z_5 : ∀ H', Same H H' → Q (.bl (decide (bs.length = N))) H')
def sp_isch (C : Addr) : Sp := fun vs H Q E => X_sp_isch C vs H Q E
theorem sc_isch : FnScope ["house", "value"] ["house", "value"] (defScope S_isch) := ⟨rfl, rfl, rfl, by decide +kernel, rfl, by decide +kernel, by decide +kernel⟩
theorem ok_isch (D : Def K mg "is_choice" S_isch ["house", "value"]) (B : Bare mg) (T : TxtH K C) : Cal P w K mg base "is_choice" 1 ["house", "value"] (sp_isch C) := by
  refine D.cal (k := 0) sc_isch (fun vs H Q E h => by obtain ⟨_, _, _, _, _, rfl, _⟩ := h; rfl) (fun f cdv A outer s H vs Q E hr h => ?_)
  obtain ⟨h, a, N, ws, bs, rfl, ⟨p, dx, q, us, rfl, hp, _⟩, ea, lb, k⟩ := h
  refine ⟨_, pss_cons (ps_if (PW.pt (pw_or (pt_not (pt_val (pe_isin B (pv 1) rfl rfl B.lst bt_list))) (pw_or1 (pt_cmpR op_ne (pe_callB call_len_seq rfl B.len bt_len (pa_cons (pv 1) pa_nil)) (pe_fld (pv 0) rfl) (nomark _))))) (pss_one (ps_ret pe_bl)) pss_nil)
    (pss_one (ps_ret (pe_callB (call_allB rfl) rfl B.all bt_all (pa_cons (pe_comp (tc := tYes) (te := tIsT K (tVar 0) "bool") rfl ⟨rfl, by decide +kernel, rfl, by decide +kernel, AllFree.all (by repeat (first | exact trivial | refine ⟨?_, ?_⟩ | (intro e; cases e <;> fail) | (intro _; rfl)))⟩
        (ys := []) (js := []) trivial (by decide +kernel) (pi_list (pv 1)) (fun _ _ _ _ _ => pifs_nil) (fun _ _ _ _ _ => pe_isin B (pv 0) rfl rfl B.bool bt_bool)) pa_nil)))), ?_⟩
  refine ⟨_, rfl, _, _, _, true, rfl, .lst ea, rfl, true, rfl, iteF ⟨_, rfl, a, _, rfl, .inl (SqL.of ea), _, rfl, p, C, dx, _, _, rfl, hp, T.cl, T.nN, flds_names _ _, rfl, _, rfl, ?_⟩⟩
  by_cases e : bs.length = N
  · refine iteNS (by rw [List.length_map, e]) ?_
    refine ⟨_, rfl, a, rfl, ⟨_, SqL.of ea⟩, fun Dd hD => ?_⟩
    refine bools1 (J := Itl K a) (n := (bs.map V.bl).length) (f := fun _ => true) hD (by rw [List.length_map, sizeLine_eq]; omega) (fun i H' hi s => itl_go s (SqL.of ea) hi) (fun H' s => itl_stop s (SqL.of ea)) ?_ ?_
    · intro i x H' H'' Q' hi s y kk
      obtain ⟨rfl, hx⟩ := itl_yld s (SqL.of ea) y
      obtain ⟨b, hb, rfl⟩ : ∃ b, bs[i]? = some b ∧ V.bl b = x := by
        rw [List.getElem?_map] at hx
        cases q : bs[i]? with
        | none => rw [q] at hx; cases hx
        | some b => rw [q] at hx; exact ⟨b, rfl, Option.some.inj hx⟩
      exact ⟨_, rfl, _, _, _, true, rfl, .bl _, rfl, kk _ (Same.refl _)⟩
    · intro H' s eD
      refine ⟨Dd, _, rfl, SqL.of eD, ?_⟩
      have : ((List.range (bs.map V.bl).length).map fun _ => true).all id = true := by simp
      rw [this]
      have z := k H' s
      rw [decide_eq_true e] at z
      exact z
  · refine iteNT (fun z => e (by have := V.int.inj z; rw [List.length_map] at this; omega)) ?_
    have z := k H (Same.refl _)
    rw [decide_eq_false e] at z
    exact z
inductive X_sp_has (K : PySem.W.Frag) (vs : List V) (H : Hp) (Q : VK) (E : XK) : Prop
  | mk (a : Addr) (v : V) (N : Nat) (bs : List Bool) (x : W) (z_1 : vs = [.ref a, v]) (z_2 : SqL K H a (bs.map V.bl)) (z_3 : bs.length = N) (z_4 : IsW H v x) (z_5 : InN N x) (z_6 : Q (.bl (decide (Has (fOf bs) x))) H)
def sp_has (K : PySem.W.Frag) : Sp := fun vs H Q E => X_sp_has K vs H Q E
theorem sc_has : FnScope ["choice", "word"] ["choice", "word"] (defScope S_has) := ⟨rfl, rfl, rfl, by decide +kernel, rfl, by decide +kernel, by decide +kernel⟩
theorem ok_has (D : Def K mg "has_word" S_has ["choice", "word"]) : Cal P w K mg base "has_word" 1 ["choice", "word"] (sp_has K) := by
  refine D.cal (k := 0) sc_has (fun vs H Q E h => by obtain ⟨_, _, _, _, _, rfl, _⟩ := h; rfl) (fun f cdv A outer s H vs Q E hr h => ?_)
  obtain ⟨a, v, N, bs, x, rfl, hq, hl, ⟨p, rfl, hp⟩, ix, k⟩ := h
  refine ⟨_, pss_one (ps_ret (pe_cmpR op_eq (pe_ix ix_list (pv 0) (pe_ix ix_tup (pv 1) pe_int (fun _ _ => rfl)) (fun _ _ => rfl)) (pe_ix ix_tup (pv 1) pe_int (fun _ _ => rfl)) (nomark _))), ?_⟩
  have a0 : atI [V.int x.1, V.bl x.2] 0 = some (V.int x.1) := rfl
  have a1 : atI [V.int x.1, V.bl x.2] 1 = some (V.bl x.2) := rfl
  have c1 := atI_map (f := V.bl) ix.1 (fOf_get hl ix)
  refine ⟨_, rfl, _, rfl, p, _, 0, _, rfl, rfl, SqT.of hp, a0, a, _, _, _, rfl, rfl, hq, c1, _, rfl, p, _, 1, _, rfl, rfl, SqT.of hp, a1, rfl, ?_⟩
  have e : decide (V.bl (fOf bs x.1) = V.bl x.2) = decide (Has (fOf bs) x) := by
    rw [Bool.eq_iff_iff]
    simp only [decide_eq_true_iff]
    exact ⟨fun z => V.bl.inj z, fun z => congrArg V.bl z⟩
  rw [e]
  exact k
inductive X_sp_pls (K : PySem.W.Frag) (vs : List V) (H : Hp) (Q : VK) (E : XK) : Prop
  | mk (a : Addr) (wv : V) (N : Nat) (bs : List Bool) (p : W × W) (z_1 : vs = [.ref a, wv]) (z_2 : SqL K H a (bs.map V.bl)) (z_3 : bs.length = N) (z_4 : IsP H wv p) (z_5 : InN N p.1) (z_6 : InN N p.2) (z_7 : Q (.bl (plz bs p)) H)
def sp_pls (K : PySem.W.Frag) : Sp := fun vs H Q E => X_sp_pls K vs H Q E
theorem sc_pls : FnScope ["choice", "wish"] ["choice", "wish"] (defScope S_pls) := ⟨rfl, rfl, rfl, by decide +kernel, rfl, by decide +kernel, by decide +kernel⟩
theorem ok_pls (D : Def K mg "pleases" S_pls ["choice", "wish"]) (ch : Cal P w K mg base "has_word" 1 ["choice", "word"] (sp_has K)) : Cal P w K mg base "pleases" 2 ["choice", "wish"] (sp_pls K) := by
  refine D.cal (k := 1) sc_pls (fun vs H Q E h => by obtain ⟨_, _, _, _, _, rfl, _⟩ := h; rfl) (fun f cdv A outer s H vs Q E hr h => ?_)
  obtain ⟨a, wv, N, bs, pr, rfl, hq, hl, ⟨q, u, v, rfl, hw, hu, hv⟩, i1, i2, k⟩ := h
  refine ⟨_, pss_one (ps_ret (pe_or (pe_cal ch hr rfl (pa_cons (pv 0) (pa_cons (pe_ix ix_tup (pv 1) pe_int (fun _ _ => rfl)) pa_nil))) (pe_one (pe_cal ch hr rfl (pa_cons (pv 0) (pa_cons (pe_ix ix_tup (pv 1) pe_int (fun _ _ => rfl)) pa_nil)))))), ?_⟩
  have w0 : atI [u, v] 0 = some u := rfl
  have w1 : atI [u, v] 1 = some v := rfl
  refine ⟨_, rfl, _, rfl, q, _, 0, _, rfl, rfl, SqT.of hw, w0, a, u, N, bs, pr.1, rfl, hq, hl, hu, i1, _, rfl, iteD (fun h => ?_) (fun h => ?_)⟩
  · have e : plz bs pr = true := decide_eq_true (.inl h)
    rw [e] at k
    exact k
  · refine ⟨_, rfl, _, rfl, q, _, 1, _, rfl, rfl, SqT.of hw, w1, a, v, N, bs, pr.2, rfl, hq, hl, hv, i2, ?_⟩
    have e : decide (Has (fOf bs) pr.2) = plz bs pr := by
      unfold plz
      rw [Bool.eq_iff_iff]
      simp only [decide_eq_true_iff]
      exact ⟨.inr, fun z => z.resolve_left h⟩
    rw [e]
    exact k
inductive X_sp_disp (C : Addr) (vs : List V) (H : Hp) (Q : VK) (E : XK) : Prop
  | mk (h : V) (a : Addr) (N : Nat) (ws : List (W × W)) (bs : List Bool) (z_1 : vs = [h, .ref a]) (z_2 : HouseAt C H h N ws) (z_3 : GoodH N ws) (z_4 : H a = some (.lst (bs.map V.bl))) (z_5 : bs.length = N) (z_6 : ∀ H' v, Same H H' → NewPs H H' v (dis ws bs) → Q v H')
def sp_disp (C : Addr) : Sp := fun vs H Q E => X_sp_disp C vs H Q E
theorem sc_disp : FnScope ["house", "choice"] ["house", "choice"] (defScope S_disp) := ⟨rfl, rfl, rfl, by decide +kernel, rfl, by decide +kernel, by decide +kernel⟩
abbrev tc_disp (K : PySem.W.Frag) : TT := tNot (tTest (tCall (sp_pls K) [] E0 (tCons (tVar 2) (tCons (tVar 1) tNil))))
theorem ok_disp (D : Def K mg "displeased" S_disp ["house", "choice"]) (B2 : Bare2 mg) (T : TxtH K C) (ci : Cal P w K mg base "is_choice" 1 ["house", "value"] (sp_isch C)) (cp : Cal P w K mg base "pleases" 2 ["choice", "wish"] (sp_pls K)) (cw : CalW P w K mg base C) :
    Cal P w K mg base "displeased" 3 ["house", "choice"] (sp_disp C) := by
  refine D.cal (k := 2) sc_disp (fun vs H Q E h => by obtain ⟨_, _, _, _, _, rfl, _⟩ := h; rfl) (fun f cdv A outer s H vs Q E hr h => ?_)
  obtain ⟨h, a, N, ws, bs, rfl, hh, gh, ea, lb, k⟩ := h
  have hr1 : Room 1 _ := hr.mono (by decide)
  have N8 := gh.hi
  refine ⟨_, pss_cons (ps_if (pt_not (pt_val (pe_cal ci hr1 rfl (pa_cons (pv 0) (pa_cons (pv 1) pa_nil))))) pss_never pss_nil)
    (pss_one (ps_ret (pe_comp2 (tc := tc_disp K) (te := tVar 0) rfl rfl ⟨rfl, by decide +kernel, rfl, by decide +kernel, AllFree.all (by repeat (first | exact trivial | refine ⟨?_, ?_⟩ | (intro e; cases e <;> fail) | (intro _; rfl)))⟩ rfl
        (ys := ["choice"]) (js := [1]) ⟨rfl, rfl, rfl, trivial⟩ (by decide +kernel) (pi_enum (pe_wishes cw T hr1 (pv 0)) rfl B2.enu) (fun _ _ _ _ _ => pifs_one (pt_not (pt_val (pe_cal cp hr rfl (pa_cons (pv 2) (pa_cons (pv 1) pa_nil)))))) (fun _ _ _ _ _ => pv 0)))), ?_⟩
  refine ⟨_, rfl, _, rfl, h, a, N, ws, bs, rfl, hh, ea, by omega, fun H1 s1 => ⟨_, rfl, ?_⟩⟩
  rw [decide_eq_true lb]
  refine iteF ?_
  have hh1 := hh.same s1
  obtain ⟨p, dx, q, us0, rfl, hp, _⟩ := id hh1
  refine ⟨_, rfl, p, dx, _, rfl, hp, flds_no _ _ (by decide +kernel) (by decide +kernel), _, N, ws, rfl, hh1, fun l us hl hu hn => ⟨l, rfl, ⟨_, SqL.of upd_same⟩, fun Dd hD => ?_⟩⟩
  have s2 : Same H1 (upd H1 l (.lst us)) := Same.laid hl
  have s12 := s1.trans s2
  have lu : us.length = ws.length := Paired.length hu
  have hul : SqL K (upd H1 l (.lst us)) l us := SqL.of upd_same
  refine places2 (K := K) (J := Ite K l) (n := us.length) (f := disF ws bs) hD (by rw [sizeLine_eq]; omega) (fun i H' hi s => ite_go s hul hi) (fun H' s => ite_stop s hul) ?_ ?_
  · intro i x H' H'' hi s y
    obtain ⟨t, v, rfl, hv, sy, eT⟩ := ite_yld s hul y
    obtain ⟨pr, hpr, isp⟩ := paired_get hu hv
    have g2 := gh.good pr (List.mem_of_getElem? hpr)
    have s3 := (s12.trans s).trans sy
    refine ⟨t, .int i, v, rfl, SqT.of eT, fun Q' kk => ?_, fun H3 Q' _ q' => ⟨_, rfl, q'⟩⟩
    refine ⟨_, rfl, _, rfl, a, v, N, bs, pr, rfl, SqL.of (s3 _ _ ea), lb, ((isp.same s2).same s).same sy, g2.1, g2.2, _, rfl, ?_⟩
    have e : disF ws bs i = !plz bs pr := by unfold disF; rw [hpr]
    have z := kk _ sy
    rw [e] at z
    exact z
  · intro H' s eD
    rw [lu] at eD
    exact k H' _ (s12.trans s) ⟨Dd, rfl, s12.free hD, eD⟩
end
end L2

end

section
set_option autoImplicit false
set_option maxRecDepth 100000
set_option linter.all false
namespace L2
open PySem PySem.Spec PyProof.Rows EoD Eo
section
variable {P : Program} {w : World} {K : PySem.W.Frag} {mg : Str → Option Value} {base : Heap} {C : Addr}
inductive X_sp_allch (C : Addr) (vs : List V) (H : Hp) (Q : VK) (E : XK) : Prop
  | mk (h : V) (N : Nat) (ws : List (W × W)) (z_1 : vs = [h]) (z_2 : HouseAt C H h N ws) (z_3 : N ≤ 8) (z_4 : ∀ H' v, Same H H' → NewCL H H' v (allC N) → Q v H')
def sp_allch (C : Addr) : Sp := fun vs H Q E => X_sp_allch C vs H Q E
theorem sc_allch : FnScope ["house", "choices", "name"] ["house"] (defScope S_allch) := ⟨rfl, rfl, rfl, by decide +kernel, rfl, by decide +kernel, by decide +kernel⟩
abbrev te_cat (b : Bool) : TE := tOp rCat (tVar 0) (tLst (tCons (tC (.bl b)) tNil))
theorem cat_step {b : Bool} {K : PySem.W.Frag} {cur Dd : Addr} {vs : List V} {cs : List (List Bool)} {H0 H : Hp} {σ : St} {Qd : Hp → Prop} (hD : H Dd = none) (ec : H cur = some (.lst vs)) (pv' : Paired (NewBs H0 H) vs cs) (s0 : Same H0 H) (l8 : ∀ c ∈ cs, c.length ≤ 8) (ln : vs.length ≤ 256)
    (hd : ∀ H' us, Same H H' → H' Dd = some (.lst us) → Paired (NewBs H0 H') us (cs.map (· ++ [b])) → Qd H') :
    ∃ W : Nat → Nat → List V → Hp → Prop, (∃ m, W 0 m [] (upd H Dd (.lst []))) ∧ ∀ i m acc H2, W i m acc H2 → H2 Dd = some (.lst acc) ∧ acc.length < sizeLine ∧ (((Itl K cur).stop i H2 ∧ Qd H2) ∨
      ((Itl K cur).go i H2 ∧ ∀ x H3, (Itl K cur).yld i H2 x H3 → tYes (some x :: look σ []) H3 fun c H4 => if c = true then te_cat b (some x :: look σ []) H4 fun v H5 => H5 Dd = some (.lst acc) ∧ ∃ m', m' < m ∧ W (i + 1) m' (acc ++ [v]) (upd H5 Dd (.lst (acc ++ [v])))
        else ∃ m', m' < m ∧ W (i + 1) m' acc H4)) := by
  have lv : vs.length = cs.length := Paired.length pv'
  refine lists1 (J := Itl K cur) (n := vs.length) (cs := fun i => (cs.getD i []) ++ [b]) hD (by rw [sizeLine_eq]; omega) (fun i H' hi s => itl_go s (SqL.of ec) hi) (fun H' s => itl_stop s (SqL.of ec)) ?_ ?_
  · intro i x H' H'' Q hi s y kk
    obtain ⟨rfl, hx⟩ := itl_yld s (SqL.of ec) y
    obtain ⟨c, hc, a, rfl, na, ea⟩ := paired_get pv' hx
    have eg : cs.getD i [] = c := by rw [List.getD_eq_getElem?_getD, hc]; rfl
    have lc := l8 c (List.mem_of_getElem? hc)
    refine ⟨_, rfl, (by show 1 ≤ sizeLine; decide), fun q hq => ?_⟩
    have s1 : Same H'' (upd H'' q (.lst [V.bl b])) := Same.laid hq
    refine ⟨a, q, c.map V.bl, [V.bl b], rfl, rfl, s1 _ _ (s _ _ ea), upd_same, by rw [List.length_map, sizeLine_eq]; show c.length + 1 ≤ _; omega, fun p hp => ?_⟩
    refine kk _ p (s1.laidT hp) (s1.free hp) ?_
    rw [upd_same, eg, List.map_append]
    rfl
  · intro H' us s eD pu
    refine hd H' us s eD ?_
    have e : (List.range vs.length).map (fun i => (cs.getD i []) ++ [b]) = cs.map (· ++ [b]) := by
      rw [lv]
      apply List.ext_getElem
      · simp
      · intro i h1 h2
        simp only [List.getElem_map, List.getElem_range]
        have hi : i < cs.length := by simpa using h2
        rw [List.getD_eq_getElem?_getD, List.getElem?_eq_getElem hi]
        rfl
    rw [e] at pu
    exact Paired.mapP pu fun _ _ z => z.old s0
theorem ok_allch (D : Def K mg "all_choices" S_allch ["house"]) (B : Bare mg) (T : TxtH K C) : Cal P w K mg base "all_choices" 1 ["house"] (sp_allch C) := by
  refine D.cal (k := 0) sc_allch (fun vs H Q E h => by obtain ⟨_, _, _, rfl, _⟩ := h; rfl) (fun f cdv A outer s H vs Q E hr h => ?_)
  obtain ⟨h, N, ws, rfl, ⟨p, dx, q, us, rfl, hp, _⟩, hN, k⟩ := h
  refine ⟨_, pss_cons (ps_set (i := 1) sc_allch.nd rfl (Or.inl rfl) (pe_lst (pa_cons (pe_lst pa_nil) pa_nil))) (pss_cons (ps_for PassesOwn.never rfl (pi_range1 rfl B.rng (pa_cons (pe_fld (pv 0) rfl) pa_nil)) (pg_name (i := 2) sc_allch.nd rfl (Or.inl rfl))
    (pss_one (ps_set (i := 1) sc_allch.nd rfl (Or.inl rfl) (pe_op op_cat
      (pe_comp (tc := tYes) (te := te_cat false) rfl ⟨rfl, by decide +kernel, rfl, by decide +kernel, AllFree.all (by repeat (first | exact trivial | refine ⟨?_, ?_⟩ | (intro e; cases e <;> fail) | (intro _; rfl)))⟩ (ys := []) (js := []) trivial (by decide +kernel) (pi_list (pv 1)) (fun _ _ _ _ _ => pifs_nil) (fun _ _ _ _ _ => pe_op op_cat (pv 0) (pe_lst (pa_cons pe_bl pa_nil))))
      (pe_comp (tc := tYes) (te := te_cat true) rfl ⟨rfl, by decide +kernel, rfl, by decide +kernel, AllFree.all (by repeat (first | exact trivial | refine ⟨?_, ?_⟩ | (intro e; cases e <;> fail) | (intro _; rfl)))⟩ (ys := []) (js := []) trivial (by decide +kernel) (pi_list (pv 1)) (fun _ _ _ _ _ => pifs_nil) (fun _ _ _ _ _ => pe_op op_cat (pv 0) (pe_lst (pa_cons pe_bl pa_nil)))))))) (pss_one (ps_ret (pv 1)))), ?_⟩
  refine ⟨Nat.zero_le _, fun e0 he0 => ⟨(by show 1 ≤ sizeLine; decide), fun l hl => ?_⟩⟩
  have s0 : Same H (upd H e0 (.lst [])) := Same.laid he0
  have s1 : Same H (upd (upd H e0 (.lst [])) l (.lst [.ref e0])) := s0.laidT hl
  have nl : H l = none := s0.free hl
  have el : e0 ≠ l := ne_of_none upd_same hl
  refine ⟨_, rfl, p, C, dx, _, _, rfl, s1 _ _ hp, T.cl, T.nN, flds_names _ _, (N : Int), rfl, by omega, by omega, for_range (n := (N : Int).toNat) (fun i σ H2 => ∃ (cur : Addr) (vs : List V) (z : Option V), σ = [some (.ref p), some (.ref cur), z] ∧ Same H H2 ∧ H cur = none ∧ H2 cur = some (.lst vs) ∧ Paired (NewBs H H2) vs (allC i))
    ⟨l, [.ref e0], none, rfl, s1, nl, upd_same, .cons ⟨e0, rfl, he0, by rw [upd_ne el]; exact upd_same⟩ .nil⟩ ?_ ?_⟩
  · rintro i σ H2 hi ⟨cur, vs, z, rfl, s2, nc, ec, pc⟩
    have hi' : i < N := by simpa using hi
    have p8 : 2 ^ i ≤ 128 := Nat.le_trans (Nat.pow_le_pow_right (n := 2) (by decide) (show i ≤ 7 by omega)) (by decide)
    have lv : vs.length = 2 ^ i := by rw [Paired.length pc, allC_len]
    have l8 : ∀ c ∈ allC i, c.length ≤ 8 := fun c hc => by have := allC_mem hc; omega
    refine ⟨_, rfl, cur, rfl, ⟨_, SqL.of ec⟩, fun D1 hD1 => cat_step (K := K) hD1 ec pc s2 l8 (by omega) fun H3 us1 s3 e1 p1 => ?_⟩
    refine ⟨_, rfl, cur, rfl, ⟨_, SqL.of (s3 _ _ ec)⟩, fun D2 hD2 => cat_step (K := K) hD2 (s3 _ _ ec) (Paired.mapP pc fun _ _ z => z.same s3) (s2.trans s3) l8 (by omega) fun H4 us2 s4 e2 p2 => ?_⟩
    have l1 : us1.length = 2 ^ i := by rw [Paired.length p1, List.length_map, allC_len]
    have l2 : us2.length = 2 ^ i := by rw [Paired.length p2, List.length_map, allC_len]
    refine ⟨D1, D2, us1, us2, rfl, rfl, s4 _ _ e1, e2, by rw [sizeLine_eq]; omega, fun q' hq' => ?_⟩
    have s5 := (s2.trans s3).trans s4
    have s6 : Same H4 (upd H4 q' (.lst (us1 ++ us2))) := Same.laid hq'
    refine ⟨q', us1 ++ us2, _, rfl, s5.trans s6, s5.free hq', upd_same, ?_⟩
    rw [allC]
    exact pairs_append (Paired.mapP p1 fun _ _ z => (z.same s4).same s6) (Paired.mapP p2 fun _ _ z => z.same s6)
  · rintro σ H2 ⟨cur, vs, z, rfl, s2, nc, ec, pc⟩
    have e : (N : Int).toNat = N := by simp
    rw [e] at pc
    exact ⟨_, rfl, k H2 _ s2 ⟨cur, vs, rfl, nc, ec, pc⟩⟩
inductive X_sp_plsch (C : Addr) (vs : List V) (H : Hp) (Q : VK) (E : XK) : Prop
  | mk (h : V) (N : Nat) (ws : List (W × W)) (z_1 : vs = [h]) (z_2 : HouseAt C H h N ws) (z_3 : GoodH N ws) (z_4 : ∀ H' v, Same H H' → NewCL H H' v (pleasing ws N) → Q v H')
def sp_plsch (C : Addr) : Sp := fun vs H Q E => X_sp_plsch C vs H Q E
theorem sc_plsch : FnScope ["house"] ["house"] (defScope S_plsch) := ⟨rfl, rfl, rfl, by decide +kernel, rfl, by decide +kernel, by decide +kernel⟩
abbrev tc_plsch (K : PySem.W.Frag) (C : Addr) : TT := tTest (tOp (rEqPs K) (tCall (sp_disp C) [] E0 (tCons (tVar 1) (tCons (tVar 0) tNil))) (tLst tNil))
theorem ok_plsch (D : Def K mg "pleasing_choices" S_plsch ["house"]) (ca : Cal P w K mg base "all_choices" 1 ["house"] (sp_allch C)) (cd : Cal P w K mg base "displeased" 3 ["house", "choice"] (sp_disp C)) : Cal P w K mg base "pleasing_choices" 4 ["house"] (sp_plsch C) := by
  refine D.cal (k := 3) sc_plsch (fun vs H Q E h => by obtain ⟨_, _, _, rfl, _⟩ := h; rfl) (fun f cdv A outer s H vs Q E hr h => ?_)
  obtain ⟨h, N, ws, rfl, hh, gh, k⟩ := h
  have hr1 : Room 1 _ := hr.mono (by decide)
  have hu := hr.units
  refine ⟨_, pss_one (ps_ret (pe_comp (tc := tc_plsch K C) (te := tVar 0) rfl ⟨rfl, by decide +kernel, rfl, by decide +kernel, AllFree.all (by repeat (first | exact trivial | refine ⟨?_, ?_⟩ | (intro e; cases e <;> fail) | (intro _; rfl)))⟩ (ys := ["house"]) (js := [0]) ⟨rfl, rfl, rfl, trivial⟩ (by decide +kernel) (pi_list (pe_cal ca hr1 rfl (pa_cons (pv 0) pa_nil)))
      (fun _ _ _ _ _ => pifs_one (pt_cmpR (op_eqPs hu) (pe_cal cd hr rfl (pa_cons (pv 1) (pa_cons (pv 0) pa_nil))) (pe_lst pa_nil) (nomark _))) (fun _ _ _ _ _ => pv 0))), ?_⟩
  refine ⟨_, rfl, h, N, ws, rfl, hh, gh.hi, fun H1 v s1 nc => ?_⟩
  obtain ⟨l, us, rfl, nl, el, pu⟩ := nc
  have p8 : 2 ^ N ≤ 256 := Nat.pow_le_pow_right (n := 2) (by decide) gh.hi
  have lu : us.length = 2 ^ N := by rw [Paired.length pu, allC_len]
  refine ⟨l, rfl, ⟨_, SqL.of el⟩, fun Dd hD => sel1 (R := NewBs H H1) (allC N) (fun c => decide (Pls (fOf c) ws)) hD (SqL.of el) (by rw [sizeLine_eq]; omega) pu ?_ ?_⟩
  · intro i x c H' Q' hx hc rx s kk
    obtain ⟨a, rfl, na, ea⟩ := rx
    have hh' := (hh.same s1).same s
    refine ⟨_, rfl, _, rfl, h, a, N, ws, c, rfl, hh', gh, s _ _ ea, allC_mem (List.mem_of_getElem? hc), fun H2 v2 s2 nw => ⟨Nat.zero_le _, fun q hq => ?_⟩⟩
    obtain ⟨b, rfl, nb, eb⟩ := nw
    have s3 : Same H2 (upd H2 q (.lst [])) := Same.laid hq
    refine ⟨dis ws c, [], ⟨b, rfl, SqL.of (s3 _ _ eb)⟩, ⟨q, rfl, SqL.of upd_same⟩, _, rfl, ?_⟩
    have e : decide (dis ws c = []) = decide (Pls (fOf c) ws) := by
      rw [Bool.eq_iff_iff]
      simp only [decide_eq_true_iff]
      exact dis_nil
    have z := kk _ (s2.trans s3)
    rw [← e] at z
    exact z
  · intro H' acc s eD pa
    rw [pleasing_all] at pa
    exact k H' _ (s1.trans s) ⟨Dd, acc, rfl, s1.free hD, eD, Paired.mapP pa fun _ _ z => z.same s⟩
inductive X_sp_many (C : Addr) (vs : List V) (H : Hp) (Q : VK) (E : XK) : Prop
  | mk (h : V) (N : Nat) (ws : List (W × W)) (z_1 : vs = [h]) (z_2 : HouseAt C H h N ws) (z_3 : GoodH N ws) (z_4 : ∀ H', Same H H' → Q (.int (pleasing ws N).length) H')
def sp_many (C : Addr) : Sp := fun vs H Q E => X_sp_many C vs H Q E
theorem sc_many : FnScope ["house"] ["house"] (defScope S_many) := ⟨rfl, rfl, rfl, by decide +kernel, rfl, by decide +kernel, by decide +kernel⟩
theorem ok_many (D : Def K mg "how_many" S_many ["house"]) (B : Bare mg) (cp : Cal P w K mg base "pleasing_choices" 4 ["house"] (sp_plsch C)) : Cal P w K mg base "how_many" 5 ["house"] (sp_many C) := by
  refine D.cal (k := 4) sc_many (fun vs H Q E h => by obtain ⟨_, _, _, rfl, _⟩ := h; rfl) (fun f cdv A outer s H vs Q E hr h => ?_)
  obtain ⟨h, N, ws, rfl, hh, gh, k⟩ := h
  refine ⟨_, pss_one (ps_ret (pe_callB call_len_seq rfl B.len bt_len (pa_cons (pe_cal cp hr rfl (pa_cons (pv 0) pa_nil)) pa_nil))), ?_⟩
  refine ⟨_, rfl, h, N, ws, rfl, hh, gh, fun H1 v s1 nc => ?_⟩
  obtain ⟨l, us, rfl, nl, el, pu⟩ := nc
  have lu : us.length = (pleasing ws N).length := Paired.length pu
  refine ⟨l, us, rfl, .inl (SqL.of el), ?_⟩
  rw [lu]
  exact k H1 s1
end
end L2

end

section
set_option autoImplicit false
set_option maxRecDepth 100000
set_option linter.all false
namespace L2
open PySem PySem.Spec PyProof.Rows EoD Eo
instance (ws : List (W × W)) (u v : W) : Decidable (Nx ws u v) := inferInstanceAs (Decidable (_ ∨ _))
def nxF (ws : List (W × W)) (cs : List W) (i : Nat) : Bool := match cs[i]?, cs[i + 1]? with
  | some a, some b => decide (Nx ws a b)
  | _, _ => true
theorem chn_iff {ws : List (W × W)} : ∀ {cs : List W}, Chn ws cs ↔ ∀ i, i + 1 < cs.length → nxF ws cs i = true
  | [] => by simp [Chn]
  | [a] => by simp [Chn]
  | a :: b :: r => by
    have ih := chn_iff (ws := ws) (cs := b :: r)
    constructor
    · rintro h i hi
      cases i with
      | zero =>
        have : Nx ws a b := h.1
        simp [nxF, this]
      | succ i =>
        have := ih.1 h.2 i (by simpa using hi)
        simpa [nxF] using this
    · intro h
      refine ⟨?_, ih.2 fun i hi => ?_⟩
      · have := h 0 (by simp)
        simpa [nxF] using this
      · have := h (i + 1) (by simpa using hi)
        simpa [nxF] using this
instance (ws : List (W × W)) (cs : List W) : Decidable (Chn ws cs) := by
  refine decidable_of_iff ((List.range (cs.length - 1)).all (nxF ws cs) = true) ?_
  rw [chn_iff, List.all_eq_true]
  constructor
  · exact fun h i hi => h i (List.mem_range.2 (by omega))
  · exact fun h i hi => h i (by have := List.mem_range.1 hi; omega)
/-- whether it leads from a word to the opposite -/
def ldB (ws : List (W × W)) (cs : List W) : Bool := decide (cs ≠ [] ∧ Chn ws cs ∧ cs.getLast? = cs.head?.map neg)
theorem pe_m1 {X : Cx} {p q : Pos} {k : Nat} : PE X (.UnaryOp .USub (.Constant (.int 1) k p) q) (tC (.int (-1))) := fun pins s σ H Q I h => pe_un un_neg pe_int pins s σ H Q I ⟨1, rfl, h⟩
section
variable {P : Program} {w : World} {K : PySem.W.Frag} {mg : Str → Option Value} {base : Heap} {C : Addr}
end
end L2

end

section
set_option autoImplicit false
set_option maxRecDepth 100000
set_option linter.all false
namespace L2
open PySem PySem.Spec PyProof.Rows EoD Eo
def CalMk (P : Program) (w : World) (K : PySem.W.Frag) (mg : Str → Option Value) (base : Heap) (C : Addr) (x : Str) (k : Nat) (ps : List Str) (sp : Sp) : Prop := ∃ f fd, Mk K C f ∧ FnOk P w K mg base CX0 k f fd ps sp ∧ mg x = some (.ref C) ∧ Binds K fd ps []
theorem pe_mk {X : Cx} {C : Addr} {x : Str} {k : Nat} {ps : List Str} {sp : Sp} {e : Expr} {es : List Expr} {t : TA} {p pos : Pos} (c : CalMk X.prog X.w X.K X.mg X.base C x k ps sp) (hr : Room (k + 1) X.A) (hg : Gl X x) (ha : PA X (e :: es) t)
    (hdb : (x == ("__debug__" : Str)) = false := by decide) (he : starEach (e :: es) X.env = (false, eval e X.env) :: starEach es X.env := by rfl) (hpl : (backTo pos (starEach es X.env)).any (·.1) = false := by rfl) : PE X (.Call (.Name x p) (e :: es) [] pos) (tMake C sp [] E0 t) :=
  let ⟨_, _, M, F, m, b⟩ := c; pe_make M F hr hg m b .nil pass0 ha hdb he hpl
def toF (a b : Addr) : List (Str × V) := putF "back" (.ref b) (putF "there" (.ref a) [])
/-- what is asked of an own class whose objects are looked at -/
structure OwnC (K : PySem.W.Frag) (C : Addr) : Prop where
  cl : Cls K C
  ha : PySem.W.findIn K (.ref C) "__class__" = some (some (.builtin "object.__class__"))
  hn : PySem.W.specialIn K (.builtin "object.__class__") "__get__" = some (some (.builtin "getset_descriptor.__get__"))
  htk : PySem.W.takesIn K (.builtin "object.__class__") = some true
  hm : PySem.W.mroIn K C (.type "object") = some true
structure TxtT (K : PySem.W.Frag) (CT : Addr) : Prop extends OwnC K CT where
  nT : NoAttr K CT "there"
  nB : NoAttr K CT "back"
def NewTo (CT : Addr) (H H' : Hp) (v : V) (cs ds : List W) : Prop := ∃ p dx a b us vs, v = .ref p ∧ H p = none ∧ H a = none ∧ H b = none ∧ a ≠ b ∧ H' p = some (.ins CT dx (toF a b)) ∧ H' a = some (.lst us) ∧ Ws H' us cs ∧ H' b = some (.lst vs) ∧ Ws H' vs ds
def toB (ws : List (W × W)) (cs ds : List W) : Bool := ldB ws cs && ldB ws ds && decide (ds.head? = cs.getLast?)
section
variable {P : Program} {w : World} {K : PySem.W.Frag} {mg : Str → Option Value} {base : Heap} {C CP CT CC : Addr}
inductive X_sp_toinit (K : PySem.W.Frag) (CT : Addr) (vs : List V) (H : Hp) (Q : VK) (E : XK) : Prop
  | mk (p dx a b : Addr) (ys zs : List V) (z_1 : vs = [.ref p, .ref a, .ref b]) (z_2 : H p = some (.ins CT dx [])) (z_3 : SqL K H a ys) (z_4 : SqL K H b zs) (z_5 : a ≠ p) (z_6 : b ≠ p) (z_7 : ∀ l m H', H l = none → H m = none → l ≠ m → H' p = some (.ins CT dx (toF l m)) → H' l = some (.lst ys) → H' m = some (.lst zs) → (∀ c o, c ≠ p → H c = some o → H' c = some o) → Q .non H')
def sp_toinit (K : PySem.W.Frag) (CT : Addr) : Sp := fun vs H Q E => X_sp_toinit K CT vs H Q E
theorem sc_toinit : FnScope ["self", "there", "back"] ["self", "there", "back"] (defScope S_toinit) := ⟨rfl, rfl, rfl, by decide +kernel, rfl, by decide +kernel, by decide +kernel⟩
theorem sq_but {H H' : Hp} {a p : Addr} {ys : List V} (h : SqL K H a ys) (ne : a ≠ p) (k : ∀ c o, c ≠ p → H c = some o → H' c = some o) : SqL K H' a ys := by
  rcases h with (h | ⟨o, h⟩) | h
  · exact .inl (.inl (k _ _ ne h))
  · exact .inl (.inr ⟨o, k _ _ ne h⟩)
  · exact .inr h
theorem ok_toinit {f : Addr} {fd : FuncData} (F : Fun K "__init__" "Torn.__init__" S_toinit f fd) (B : Bare mg) (T : TxtT K CT) : FnOk P w K mg base CX0 1 f fd ["self", "there", "back"] (sp_toinit K CT) := by
  refine F.ok sc_toinit (fun vs H Q E h => by obtain ⟨_, _, _, _, _, _, rfl, _⟩ := h; rfl) (fun cdv A outer s H vs Q E hr h => ?_)
  obtain ⟨p, dx, a, b, ys, zs, rfl, hp, hq, hq', ap, bp, k⟩ := h
  refine ⟨_, pss_cons (ps_fld (pv 0) (pe_callTy call_list_of rfl B.lst bt_list (pa_cons (pv 1) pa_nil)) rfl) (pss_one (ps_fld (pv 0) (pe_callTy call_list_of rfl B.lst bt_list (pa_cons (pv 2) pa_nil)) rfl)), ?_⟩
  refine ⟨_, rfl, a, ys, rfl, .inl hq, fun l hl => ⟨_, rfl, p, CT, dx, [], rfl, by rw [upd_ne (ne_of_none hp hl)]; exact hp, T.cl, T.nT, (by show 0 < 1000; decide), ?_⟩⟩
  have lp : l ≠ p := (ne_of_none hp hl).symm
  have k1 : ∀ c o, c ≠ p → H c = some o → (upd (upd H l (.lst ys)) p (.ins CT dx (putF "there" (.ref l) []))) c = some o := fun c o nc e => by
    rw [upd_ne nc, upd_ne (ne_of_none e hl)]
    exact e
  refine ⟨_, rfl, b, zs, rfl, .inl (sq_but hq' bp k1), fun m hm => ?_⟩
  have mp : m ≠ p := fun z => by rw [z, upd_same] at hm; cases hm
  have ml : m ≠ l := fun z => by rw [z, upd_ne lp, upd_same] at hm; cases hm
  refine ⟨_, rfl, p, CT, dx, _, rfl, by rw [upd_ne mp.symm]; exact upd_same, T.cl, T.nB, (by show 1 < 1000; decide), ?_⟩
  have nm : H m = none := by
    rw [upd_ne mp, upd_ne ml] at hm
    exact hm
  refine k l m _ hl nm ml.symm upd_same (by rw [upd_ne lp, upd_ne ml.symm, upd_ne lp]; exact upd_same) (by rw [upd_ne mp]; exact upd_same) fun c o nc e => ?_
  rw [upd_ne nc, upd_ne (ne_of_none e nm)]
  exact k1 c o nc e
theorem make_to {H1 : Hp} {a b : Addr} {ys zs : List V} {Q : VK} (hq : H1 a = some (.lst ys)) (hq' : H1 b = some (.lst zs)) (k : ∀ H' p dx l m, Same H1 H' → H1 p = none → H1 l = none → H1 m = none → l ≠ m → H' p = some (.ins CT dx (toF l m)) → H' l = some (.lst ys) → H' m = some (.lst zs) → Q (.ref p) H') :
    ∀ x dx, H1 x = none → H1 dx = none → dx ≠ x → sp_toinit K CT (.ref x :: ([.ref a, .ref b] ++ [])) (upd (upd H1 dx (.own x)) x (.ins CT dx [])) (fun v H2 => v = .non ∧ Q (.ref x) H2) E0 := by
  intro x dx hx hdx ne
  have s1 : Same H1 (upd (upd H1 dx (.own x)) x (.ins CT dx [])) := (Same.laid hdx).laidT (by rw [upd_ne ne.symm]; exact hx)
  refine ⟨x, dx, a, b, ys, zs, rfl, upd_same, SqL.of (s1 _ _ hq), SqL.of (s1 _ _ hq'), ne_of_none hq hx, ne_of_none hq' hx, fun l m H' hl hm lm e1 e2 e3 kp => ⟨rfl, ?_⟩⟩
  exact k _ x dx l m (fun c o e => kp c o (ne_of_none e hx) (s1 _ _ e)) hx (s1.free hl) (s1.free hm) lm e1 e2 e3
end
end L2

end

section
set_option autoImplicit false
set_option maxRecDepth 100000
set_option linter.all false
namespace L2
open PySem PySem.Spec PyProof.Rows EoD Eo
theorem chain_in {N : Nat} {ws : List (W × W)} {x y : W} {cs : List W} (g : Good N ws) (hx : InN N x) (h : ChainOk ws x y cs) : (∀ z ∈ cs, InN N z) ∧ cs.length ≤ 2 * N + 1 := by
  rcases h with ⟨_, rfl⟩ | ⟨k, di, ch, hh, _, hl⟩
  · exact ⟨fun z hz => by simp at hz, by simp⟩
  · refine ⟨fun z hz => ?_, by have := di.lt g hx; omega⟩
    obtain ⟨i, hi, ez⟩ := List.mem_iff_getElem.mp hz
    cases i with
    | zero =>
      have : cs[0]? = some x := by rw [← List.head?_eq_getElem?]; exact hh
      rw [List.getElem?_eq_getElem hi] at this
      have e : cs[0] = x := Option.some.inj this
      rw [← ez, e]; exact hx
    | succ i =>
      have := ch.at (k := i) (a := cs[i]'(by omega)) (b := z) (List.getElem?_eq_getElem (by omega)) (by rw [List.getElem?_eq_getElem hi, ez])
      exact this.inN g
theorem ld_of {ws : List (W × W)} {x y : W} {cs : List W} (h : Chn ws cs) (e1 : cs.head? = some x) (e2 : cs.getLast? = some y) (e : y = neg x) : ldB ws cs = true := by
  refine decide_eq_true ⟨fun z => ?_, h, ?_⟩
  · rw [z] at e1; cases e1
  · rw [e1, e2, e]; rfl
theorem chain_len {N : Nat} {ws : List (W × W)} {x y : W} {cs : List W} (g : GoodH N ws) (hx : InN N x) (h : ChainOk ws x y cs) : (∀ z ∈ cs, InN N z) ∧ cs.length ≤ 17 := by
  obtain ⟨h1, h2⟩ := chain_in g.good hx h
  have := g.hi
  exact ⟨h1, by omega⟩
section
variable {P : Program} {w : World} {K : PySem.W.Frag} {mg : Str → Option Value} {base : Heap} {C CP CT CC : Addr}
inductive X_sp_ftorn (C CT : Addr) (vs : List V) (H : Hp) (Q : VK) (E : XK) : Prop
  | mk (h : V) (N : Nat) (ws : List (W × W)) (z_1 : vs = [h]) (z_2 : HouseAt C H h N ws) (z_3 : GoodH N ws) (z_4 : (∃ x, InN N x ∧ Reach ws x (neg x) ∧ Reach ws (neg x) x)) (z_5 : ∀ H' v cs ds, Same H H' → NewTo CT H H' v cs ds → toB ws cs ds = true → (∀ x ∈ cs, InN N x) → (∀ x ∈ ds, InN N x) → cs.length ≤ 17 → ds.length ≤ 17 → Q v H')
def sp_ftorn (C CT : Addr) : Sp := fun vs H Q E => X_sp_ftorn C CT vs H Q E
theorem sc_ftorn : FnScope ["house", "name", "there", "back"] ["house"] (defScope S_ftorn) := ⟨rfl, rfl, rfl, by decide +kernel, rfl, by decide +kernel, by decide +kernel⟩
theorem ok_ftorn (D : Def K mg "find_torn" S_ftorn ["house"]) (B : Bare mg) (T : TxtH K C) (cc : Cal P w K mg base "chain" 4 ["house", "word", "other"] (sp_chain C)) (cm : CalMk P w K mg base CT "Torn" 1 ["self", "there", "back"] (sp_toinit K CT)) : Cal P w K mg base "find_torn" 5 ["house"] (sp_ftorn C CT) := by
  refine D.cal (k := 4) sc_ftorn (fun vs H Q E h => by obtain ⟨_, _, _, rfl, _⟩ := h; rfl) (fun f cdv A outer s H vs Q E hr h => ?_)
  obtain ⟨h, N, ws, rfl, hh, gh, ⟨x0, ix0, r1, r2⟩, k⟩ := h
  have hr2 : Room 2 _ := hr.mono (by decide)
  refine ⟨_, pss_cons (ps_for PassesOwn.never rfl (pi_range1 rfl B.rng (pa_cons (pe_fld (pv 0) rfl) pa_nil)) (pg_name (i := 1) sc_ftorn.nd rfl (Or.inl rfl))
    (pss_cons (ps_set (i := 2) sc_ftorn.nd rfl (Or.inl rfl) (pe_cal cc hr rfl (pa_cons (pv 0) (pa_cons (pe_tup (pa_cons (pv 1) (pa_cons pe_bl pa_nil))) (pa_cons (pe_tup (pa_cons (pv 1) (pa_cons pe_bl pa_nil))) pa_nil)))))
    (pss_cons (ps_set (i := 3) sc_ftorn.nd rfl (Or.inl rfl) (pe_cal cc hr rfl (pa_cons (pv 0) (pa_cons (pe_tup (pa_cons (pv 1) (pa_cons pe_bl pa_nil))) (pa_cons (pe_tup (pa_cons (pv 1) (pa_cons pe_bl pa_nil))) pa_nil)))))
    (pss_one (ps_if (PW.pt (pw_and (pt_truth (pv 2) (fun _ => rfl)) (pw_and1 (pt_truth (pv 3) (fun _ => rfl))))) (pss_one (ps_ret (pe_mk cm hr2 rfl (pa_cons (pv 2) (pa_cons (pv 3) pa_nil))))) pss_nil))))) (pss_one (ps_ret pe_non)), ?_⟩
  obtain ⟨p, dx, q, us, rfl, hp, _⟩ := id hh
  have N8 := gh.hi
  refine ⟨_, rfl, p, C, dx, _, _, rfl, hp, T.cl, T.nN, flds_names _ _, (N : Int), rfl, by omega, by omega, for_range (n := (N : Int).toNat) (fun i σ H2 => ∃ (z1 z2 z3 : Option V), σ = [some (.ref p), z1, z2, z3] ∧ Same H H2 ∧ ∀ j, j < i → ¬ (Reach ws ((j : Int), false) ((j : Int), true) ∧ Reach ws ((j : Int), true) ((j : Int), false)))
    ⟨none, none, none, rfl, Same.refl _, fun j hj => by omega⟩ ?_ ?_⟩
  · rintro i σ H2 hi ⟨z1, z2, z3, rfl, s2, no⟩
    have hi' : i < N := by simpa using hi
    have iF : InN N ((i : Int), false) := ⟨by show (0 : Int) ≤ i; omega, by show (i : Int) < N; omega⟩
    have iT : InN N ((i : Int), true) := iF
    refine ⟨_, rfl, _, rfl, (by show 2 ≤ sizeLine; decide), fun t1 h1 => ⟨_, rfl, (by show 2 ≤ sizeLine; decide), fun t2 h2 => ?_⟩⟩
    have s3 : Same H2 (upd H2 t1 (.tup [V.int (0 + (i : Int)), V.bl false])) := Same.laid h1
    have s4 := s3.laidT (o := .tup [V.int (0 + (i : Int)), V.bl true]) h2
    have s04 := s2.trans s4
    have n12 : t1 ≠ t2 := ne_of_none upd_same h2
    have w1 : IsW (upd (upd H2 t1 (.tup [V.int (0 + (i : Int)), V.bl false])) t2 (.tup [V.int (0 + (i : Int)), V.bl true])) (.ref t1) ((i : Int), false) := ⟨t1, rfl, by rw [upd_ne n12, upd_same]; simp⟩
    have w2 : IsW (upd (upd H2 t1 (.tup [V.int (0 + (i : Int)), V.bl false])) t2 (.tup [V.int (0 + (i : Int)), V.bl true])) (.ref t2) ((i : Int), true) := ⟨t2, rfl, by rw [upd_same]; simp⟩
    refine ⟨_, _, _, N, ws, ((i : Int), false), ((i : Int), true), rfl, hh.same s04, gh, w1, w2, iF, iT, fun H5 v5 cs s5 nw5 ok5 => ?_⟩
    have s05 := s04.trans s5
    refine ⟨_, rfl, _, rfl, (by show 2 ≤ sizeLine; decide), fun t3 h3 => ⟨_, rfl, (by show 2 ≤ sizeLine; decide), fun t4 h4 => ?_⟩⟩
    have s6 : Same H5 (upd H5 t3 (.tup [V.int (0 + (i : Int)), V.bl true])) := Same.laid h3
    have s7 := s6.laidT (o := .tup [V.int (0 + (i : Int)), V.bl false]) h4
    have s07 := s05.trans s7
    have n34 : t3 ≠ t4 := ne_of_none upd_same h4
    have w3 : IsW (upd (upd H5 t3 (.tup [V.int (0 + (i : Int)), V.bl true])) t4 (.tup [V.int (0 + (i : Int)), V.bl false])) (.ref t3) ((i : Int), true) := ⟨t3, rfl, by rw [upd_ne n34, upd_same]; simp⟩
    have w4 : IsW (upd (upd H5 t3 (.tup [V.int (0 + (i : Int)), V.bl true])) t4 (.tup [V.int (0 + (i : Int)), V.bl false])) (.ref t4) ((i : Int), false) := ⟨t4, rfl, by rw [upd_same]; simp⟩
    refine ⟨_, _, _, N, ws, ((i : Int), true), ((i : Int), false), rfl, hh.same s07, gh, w3, w4, iT, iF, fun H8 v8 ds s8 nw8 ok8 => ?_⟩
    have s08 := s07.trans s8
    have s58 := s7.trans s8
    obtain ⟨a, ua, rfl, na, ea, wa⟩ := nw5
    obtain ⟨b, ub, rfl, nb, eb, wb⟩ := nw8
    have ea8 := s58 _ _ ea
    have la : ua.length = cs.length := Paired.length wa
    have lb : ub.length = ds.length := Paired.length wb
    have next : (¬ (Reach ws ((i : Int), false) ((i : Int), true) ∧ Reach ws ((i : Int), true) ((i : Int), false))) → ∃ (z1 z2 z3 : Option V), [some (V.ref p), some (.int (0 + (i : Int))), some (.ref a), some (.ref b)] = [some (.ref p), z1, z2, z3] ∧ Same H H8 ∧ ∀ j, j < i + 1 → ¬ (Reach ws ((j : Int), false) ((j : Int), true) ∧ Reach ws ((j : Int), true) ((j : Int), false)) := fun nn => by
      refine ⟨_, _, _, rfl, s08, fun j hj => ?_⟩
      by_cases e : j = i
      · subst e; exact nn
      · exact no j (by omega)
    refine ⟨_, rfl, _, .inl ⟨ua, SqL.of ea8, rfl⟩, ?_⟩
    rcases ok5 with ⟨nr, rfl⟩ | ⟨k5, d5, c5, h5, l5, n5⟩
    · have : ua = [] := List.length_eq_zero_iff.mp la
      rw [this]
      exact iteF (next fun z => nr z.1)
    have ne5 : ua.isEmpty = false := by
      cases ua with
      | nil => simp at la; omega
      | cons _ _ => rfl
    rw [ne5]
    refine iteT ⟨_, rfl, _, .inl ⟨ub, SqL.of eb, rfl⟩, ?_⟩
    rcases ok8 with ⟨nr, rfl⟩ | ⟨k8, d8, c8, h8', l8, n8⟩
    · have : ub = [] := List.length_eq_zero_iff.mp lb
      rw [this]
      exact iteF (next fun z => nr z.2)
    have ne8 : ub.isEmpty = false := by
      cases ub with
      | nil => simp at lb; omega
      | cons _ _ => rfl
    rw [ne8]
    refine iteT ⟨_, rfl, _, rfl, make_to ea8 eb fun H9 pp dd l m s9 np nl nm lm e1 e2 e3 => ?_⟩
    have ab := chain_len gh iF (.inr ⟨k5, d5, c5, h5, l5, n5⟩)
    have ab' := chain_len gh iT (.inr ⟨k8, d8, c8, h8', l8, n8⟩)
    refine k H9 _ cs ds (s08.trans s9) ⟨pp, dd, l, m, ua, ub, rfl, s08.free np, s08.free nl, s08.free nm, lm, e1, e2, ((wa.same s58).same s9), e3, wb.same s9⟩ ?_ ab.1 ab'.1 ab.2 ab'.2
    unfold toB
    rw [ld_of c5 h5 l5 rfl, ld_of c8 h8' l8 rfl, h8', l5]
    simp
  · rintro σ H2 ⟨z1, z2, z3, rfl, s2, no⟩
    exfalso
    obtain ⟨n, b⟩ := x0
    have h0 : 0 ≤ n := ix0.1
    have h1 : n < (N : Int) := ix0.2
    obtain ⟨j, rfl⟩ := Int.eq_ofNat_of_zero_le h0
    refine no j (by simp; omega) ?_
    cases b with
    | true => exact ⟨r2, r1⟩
    | false => exact ⟨r1, r2⟩
theorem torn_of {N : Nat} {ws : List (W × W)} (g : GoodH N ws) (h : pleasing ws N = []) : ∃ x, InN N x ∧ Reach ws x (neg x) ∧ Reach ws (neg x) x :=
  (pls_or_torn g.good).resolve_left fun z => (pleasing_ne g.good).2 z h
end
end L2

end

section
set_option autoImplicit false
set_option maxRecDepth 100000
set_option linter.all false
namespace L2
open PySem PySem.Spec PyProof.Rows EoD Eo
section
variable {P : Program} {w : World} {K : PySem.W.Frag} {mg : Str → Option Value} {base : Heap} {C CP CT CC CA : Addr}
end
end L2

end

section
set_option autoImplicit false
set_option maxRecDepth 100000
set_option linter.all false
namespace L2
open PySem PySem.Spec PyProof.Rows EoD Eo
theorem kit_t {K : PySem.W.Frag} {C : Addr} {t : Value} (y : PySem.W.isClsIn K C = true) (x : PySem.W.typeIn K (.ref C) = some (.type "type")) (s : PySem.W.subIn K t (.ref C) = some true) : PySem.W.kitOne K t (.ref C) = some true := by
  unfold PySem.W.kitOne
  split
  · rfl
  · unfold PySem.W.kitCls
    have e : ((PySem.W.clsIn K C).isSome && PySem.W.typeIn K (.ref C) == some (.type "type")) = true := by
      have y : (PySem.W.clsIn K C).isSome = true := y
      rw [y, x]; rfl
    simp only [e, if_true]
    exact s
theorem kit_f {K : PySem.W.Frag} {A C : Addr} (y : PySem.W.isClsIn K C = true) (x : PySem.W.typeIn K (.ref C) = some (.type "type")) (r : PySem.W.subIn K (.ref A) (.ref A) = some true) (s : PySem.W.subIn K (.ref A) (.ref C) = some false) : PySem.W.kitOne K (.ref A) (.ref C) = some false := by
  unfold PySem.W.kitOne
  rw [if_neg]
  · unfold PySem.W.kitCls
    have e : ((PySem.W.clsIn K C).isSome && PySem.W.typeIn K (.ref C) == some (.type "type")) = true := by
      have y : (PySem.W.clsIn K C).isSome = true := y
      rw [y, x]; rfl
    simp only [e, if_true]
    exact s
  · intro z
    have z : Value.ref A = Value.ref C := by simpa using z
    cases z
    rw [r] at s
    cases s
section
variable {P : Program} {w : World} {K : PySem.W.Frag} {mg : Str → Option Value} {base : Heap} {C CP CT CC CA : Addr}
end
end L2

end

section
set_option autoImplicit false
set_option maxRecDepth 100000
set_option linter.all false
namespace L2
open PySem PySem.Spec PyProof.Rows EoD Eo
inductive X_sp_law (K : PySem.W.Frag) (vs : List V) (H : Hp) (Q : VK) (E : XK) : Prop
  | mk (a : Addr) (ns : List Int) (z_1 : vs = [.ref a]) (z_2 : SqL K H a (ns.map V.int)) (z_3 : ∀ H', Q (.bl true) H')
def sp_law (K : PySem.W.Frag) : Sp := fun vs H Q E => X_sp_law K vs H Q E
theorem made_house {C : Addr} {H1 : Hp} {l x dx : Addr} {N : Nat} {ts : List V} {ws : List (W × W)} {R : Hp → Prop} (nx : H1 x = none) (ndx : H1 dx = none) (nex : dx ≠ x) (hl : H1 l = some (.lst ts)) (pu : Ps H1 ts ws) (gh : GoodH N ws) (k : ∀ H', Same H1 H' → HouseAt C H' (.ref x) N ws → R H') :
    sp_init C (.ref x :: ([.int N, .ref l] ++ [])) (upd (upd H1 dx (.own x)) x (.ins C dx [])) (fun v H2 => v = .non ∧ R H2) E0 := by
  have s0 : Same H1 (upd (upd H1 dx (.own x)) x (.ins C dx [])) := fun b o e => by
    rw [upd_ne (ne_of_none e nx), upd_ne (ne_of_none e ndx)]
    exact e
  refine ⟨x, dx, l, N, ts, ws, rfl, upd_same, gh, s0 _ _ hl, pu.same s0, fun H3 hh kp => ⟨rfl, ?_⟩⟩
  exact k H3 (fun b o e => kp b o (s0 b o e) (ne_of_none e nx)) hh
end L2

end

section
set_option autoImplicit false
set_option maxRecDepth 100000
set_option linter.all false
namespace L2
open PySem PySem.Spec PyProof.Rows EoD Eo
/-- an exception class with an own __init__ that sets one field -/
structure ExF (K : PySem.W.Frag) (mg : Str → Option Value) (CW CU f : Addr) (x n : Str) : Prop where
  mW : mg "WishError" = some (.ref CW)
  bW : BaseOf K CW
  M : xclIn K CU (some (.ref f)) = true
  xc : PySem.W.XC K CU
  na : NoAttr K CU n
  kp : PySem.W.keepIn K (.ref CU) = true
  isf : PySem.W.isFn K (.ref f) = true
  mU : mg x = some (.ref CU)
  up : PySem.W.mroIn K CU (.ref CW) = some true
inductive X_sp_xinit (CU : Addr) (n : Str) (vs : List V) (H : Hp) (Q : VK) (E : XK) : Prop
  | mk (e : Addr) (v : V) (z_1 : vs = [.ref e, v]) (z_2 : H e = some (XE CU none e)) (z_3 : ∀ d, H d = none → d ≠ e → Q .non (upd (upd H d (.xd [(n, v)])) e (XE CU (some d) e)))
def sp_xinit (CU : Addr) (n : Str) : Sp := fun vs H Q E => X_sp_xinit CU n vs H Q E
theorem xs_same {H : Hp} {e d : Addr} {o1 o2 o3 : HO} (he : H e = none) (hd : upd H e o1 d = none) : Same H (del (upd (upd (upd H e o1) d o2) e o3) e) := fun b o h => by
  have nbe := ne_of_none h he
  have nde : d ≠ e := fun z => by rw [z, upd_same] at hd; cases hd
  rw [upd_ne nde] at hd
  rw [del_ne nbe, upd_ne nbe, upd_ne (ne_of_none h hd), upd_ne nbe]
  exact h
theorem xs_at {H : Hp} {e d : Addr} {o1 o2 o3 : HO} (nde : d ≠ e) : del (upd (upd (upd H e o1) d o2) e o3) e d = some o2 := by rw [del_ne nde, upd_ne nde, upd_same]
theorem NewTo.same {CT : Addr} {H H' H2 : Hp} {v : V} {cs ds : List W} (h : NewTo CT H H' v cs ds) (e : Same H' H2) : NewTo CT H H2 v cs ds :=
  let ⟨p, dx, a, b, us, vs, h1, h2, h3, h4, h5, h6, h7, h8, h9, h10⟩ := h; ⟨p, dx, a, b, us, vs, h1, h2, h3, h4, h5, e _ _ h6, e _ _ h7, h8.same e, e _ _ h9, h10.same e⟩
theorem NewTo.from {CT : Addr} {H0 H H' : Hp} {v : V} {cs ds : List W} (h : NewTo CT H H' v cs ds) (e : Same H0 H) : NewTo CT H0 H' v cs ds :=
  let ⟨p, dx, a, b, us, vs, h1, h2, h3, h4, r⟩ := h; ⟨p, dx, a, b, us, vs, h1, e.free h2, e.free h3, e.free h4, r⟩
/-- behind an Unpleased: its dict at d holds two chains that tear a name -/
def TornX (CT : Addr) (N : Nat) (ws : List (W × W)) (H H' : Hp) (d : Addr) : Prop := ∃ v cs ds, NewTo CT H H' v cs ds ∧ toB ws cs ds = true ∧ (∀ x ∈ cs, InN N x) ∧ (∀ x ∈ ds, InN N x) ∧ cs.length ≤ 17 ∧ ds.length ≤ 17 ∧ H' d = some (.xd [("torn", v)])
section
variable {P : Program} {w : World} {K : PySem.W.Frag} {mg : Str → Option Value} {base : Heap} {C CT CW CU fU : Addr}
theorem sc_uninit : FnScope ["self", "torn"] ["self", "torn"] (defScope S_uninit) := ⟨rfl, rfl, rfl, by decide +kernel, rfl, by decide +kernel, by decide +kernel⟩
theorem ok_uninit {fd : FuncData} (F : Fun K "__init__" "Unpleased.__init__" S_uninit fU fd) (Z : ExF K mg CW CU fU "Unpleased" "torn") : FnOk P w K mg base CX0 1 fU fd ["self", "torn"] (sp_xinit CU "torn") := by
  refine F.ok (k := 0) sc_uninit (fun vs H Q E h => by obtain ⟨_, _, rfl, _⟩ := h; rfl) (fun cdv A outer s H vs Q E hr h => ?_)
  obtain ⟨e, v, rfl, he, k⟩ := h
  refine ⟨_, pss_cons (ps_expr (pe_base rfl Z.mW Z.bW Z.M (pa_cons (pv 0) (pa_cons pe_str pa_nil)))) (pss_one (ps_xfld (pv 0) (pv 1) rfl)), ?_⟩
  exact ⟨_, rfl, e, none, _, rfl, he, _, rfl, _, rfl, e, CU, rfl, Z.xc, Z.na, he, fun d hd hn => k d hd hn⟩
inductive X_sp_cpls (C CT CU : Addr) (vs : List V) (H : Hp) (Q : VK) (E : XK) : Prop
  | mk (h : V) (N : Nat) (ws : List (W × W)) (z_1 : vs = [h]) (z_2 : HouseAt C H h N ws) (z_3 : GoodH N ws) (z_4 : (pleasing ws N ≠ [] → ∀ H', Same H H' → Q .non H')) (z_5 : (pleasing ws N = [] → ∀ H' d, Same H H' → TornX CT N ws H H' d → E (.ref CU) (some d) H'))
def sp_cpls (C CT CU : Addr) : Sp := fun vs H Q E => X_sp_cpls C CT CU vs H Q E
theorem sc_cpls : FnScope ["house"] ["house"] (defScope S_cpls) := ⟨rfl, rfl, rfl, by decide +kernel, rfl, by decide +kernel, by decide +kernel⟩
theorem ok_cpls {fd : FuncData} (D : Def K mg "check_pleased" S_cpls ["house"]) (Z : ExF K mg CW CU fU "Unpleased" "torn") (F : FnOk P w K mg base CX0 1 fU fd ["self", "torn"] (sp_xinit CU "torn")) (bn : Binds K fd ["self", "torn"] [])
    (cp : Cal P w K mg base "pleasing_choices" 4 ["house"] (sp_plsch C)) (cf : Cal P w K mg base "find_torn" 5 ["house"] (sp_ftorn C CT)) : CalX P w K mg base "check_pleased" 6 ["house"] (sp_cpls C CT CU) := by
  refine D.calX (k := 5) sc_cpls (fun vs H Q E h => by obtain ⟨_, _, _, rfl, _⟩ := h; rfl) (fun f cdv A outer s H vs Q E hr h => ?_)
  obtain ⟨h, N, ws, rfl, hh, gh, k1, k2⟩ := h
  have hr2 : Room 2 _ := hr.mono (by decide)
  have hr4 : Room 4 _ := hr.mono (by decide)
  refine ⟨_, pss_one (ps_if (pt_not (pt_truth (pe_cal cp hr4 rfl (pa_cons (pv 0) pa_nil)) (fun _ => rfl)))
    (pss_one (ps_raiseI rfl Z.M Z.kp Z.isf F hr2 rfl Z.mU bn (thr_xp _ E) (pa_cons (pe_cal cf hr rfl (pa_cons (pv 0) pa_nil)) pa_nil))) pss_nil), ?_⟩
  refine ⟨_, rfl, h, N, ws, rfl, hh, gh, fun H1 v s1 nc => ?_⟩
  obtain ⟨l, us, rfl, nl, el, pu⟩ := nc
  refine ⟨_, .inl ⟨us, SqL.of el, rfl⟩, ?_⟩
  cases us with
  | nil =>
    have e0 : pleasing ws N = [] := List.length_eq_zero_iff.mp (Paired.length pu).symm
    refine iteT ⟨_, rfl, h, N, ws, rfl, hh.same s1, gh, torn_of gh e0, fun H2 v cs ds s2 nt tb ic id lc ld => ⟨(by show 1 ≤ sizeLine; decide), fun e he => ⟨e, v, rfl, upd_same, fun d hd nd => ⟨rfl, some d, upd_same, ?_⟩⟩⟩⟩
    have s3 := xs_same (o2 := .xd [("torn", v)]) (o3 := XE CU (some d) e) he hd
    exact k2 e0 _ d ((s1.trans s2).trans s3) ⟨v, cs, ds, (nt.from s1).same s3, tb, ic, id, lc, ld, xs_at nd⟩
  | cons u r =>
    refine iteF (k1 (fun z => ?_) _ s1)
    have := Paired.length pu
    rw [z] at this
    simp at this
def SetOk (ws : List (W × W)) (n : Nat) (cs : List W) : Prop := (cs ≠ [] ∧ ChainOk ws ((n : Int), false) ((n : Int), true) cs) ∨ (¬ Reach ws ((n : Int), false) ((n : Int), true) ∧ ChainOk ws ((n : Int), true) ((n : Int), false) cs)
inductive X_sp_schain (C : Addr) (vs : List V) (H : Hp) (Q : VK) (E : XK) : Prop
  | mk (h : V) (N n : Nat) (ws : List (W × W)) (z_1 : vs = [h, .int n]) (z_2 : HouseAt C H h N ws) (z_3 : GoodH N ws) (z_4 : n < N) (z_5 : ∀ H' v cs, Same H H' → NewWs H H' v cs → SetOk ws n cs → Q v H')
def sp_schain (C : Addr) : Sp := fun vs H Q E => X_sp_schain C vs H Q E
theorem sc_schain : FnScope ["house", "name", "links"] ["house", "name"] (defScope S_schain) := ⟨rfl, rfl, rfl, by decide +kernel, rfl, by decide +kernel, by decide +kernel⟩
theorem ok_schain (D : Def K mg "settling_chain" S_schain ["house", "name"]) (cc : Cal P w K mg base "chain" 4 ["house", "word", "other"] (sp_chain C)) : Cal P w K mg base "settling_chain" 5 ["house", "name"] (sp_schain C) := by
  refine D.cal (k := 4) sc_schain (fun vs H Q E h => by obtain ⟨_, _, _, _, rfl, _⟩ := h; rfl) (fun f cdv A outer s H vs Q E hr h => ?_)
  obtain ⟨h, N, n, ws, rfl, hh, gh, hn, k⟩ := h
  have iF : InN N ((n : Int), false) := ⟨by show (0 : Int) ≤ n; omega, by show (n : Int) < N; omega⟩
  have iT : InN N ((n : Int), true) := iF
  refine ⟨_, pss_cons (ps_set (i := 2) sc_schain.nd rfl (Or.inl rfl) (pe_cal cc hr rfl (pa_cons (pv 0) (pa_cons (pe_tup (pa_cons (pv 1) (pa_cons pe_bl pa_nil))) (pa_cons (pe_tup (pa_cons (pv 1) (pa_cons pe_bl pa_nil))) pa_nil)))))
    (pss_cons (ps_if (pt_truth (pv 2) (fun _ => rfl)) (pss_one (ps_ret (pv 2))) pss_nil)
    (pss_one (ps_ret (pe_cal cc hr rfl (pa_cons (pv 0) (pa_cons (pe_tup (pa_cons (pv 1) (pa_cons pe_bl pa_nil))) (pa_cons (pe_tup (pa_cons (pv 1) (pa_cons pe_bl pa_nil))) pa_nil))))))), ?_⟩
  refine ⟨_, rfl, _, rfl, (by show 2 ≤ sizeLine; decide), fun t1 h1 => ⟨_, rfl, (by show 2 ≤ sizeLine; decide), fun t2 h2 => ?_⟩⟩
  have s1 : Same H (upd H t1 (.tup [V.int (n : Int), V.bl false])) := Same.laid h1
  have s2 := s1.laidT (o := .tup [V.int (n : Int), V.bl true]) h2
  have n12 : t1 ≠ t2 := ne_of_none upd_same h2
  have w1 : IsW (upd (upd H t1 (.tup [V.int (n : Int), V.bl false])) t2 (.tup [V.int (n : Int), V.bl true])) (.ref t1) ((n : Int), false) := ⟨t1, rfl, by rw [upd_ne n12, upd_same]⟩
  have w2 : IsW (upd (upd H t1 (.tup [V.int (n : Int), V.bl false])) t2 (.tup [V.int (n : Int), V.bl true])) (.ref t2) ((n : Int), true) := ⟨t2, rfl, upd_same⟩
  refine ⟨h, _, _, N, ws, _, _, rfl, hh.same s2, gh, w1, w2, iF, iT, fun H3 v cs s3 nw ok => ?_⟩
  obtain ⟨a, us, rfl, na, ea, wu⟩ := id nw
  have lu : us.length = cs.length := Paired.length wu
  refine ⟨_, rfl, _, .inl ⟨us, SqL.of ea, rfl⟩, ?_⟩
  cases us with
  | cons u r =>
    have nc : cs ≠ [] := fun z => by rw [z] at lu; simp at lu
    exact iteT ⟨_, rfl, k H3 _ cs (s2.trans s3) ⟨a, u :: r, rfl, s2.free na, ea, wu⟩ (.inl ⟨nc, ok⟩)⟩
  | nil =>
    have nr : ¬ Reach ws ((n : Int), false) ((n : Int), true) := by
      rcases ok with ⟨nr, _⟩ | ⟨m, _, _, hd, _⟩
      · exact nr
      · cases cs with
        | nil => cases hd
        | cons _ _ => simp at lu
    have s03 := s2.trans s3
    refine iteF ⟨_, rfl, _, rfl, (by show 2 ≤ sizeLine; decide), fun t3 h3 => ⟨_, rfl, (by show 2 ≤ sizeLine; decide), fun t4 h4 => ?_⟩⟩
    have s4 : Same H3 (upd H3 t3 (.tup [V.int (n : Int), V.bl true])) := Same.laid h3
    have s5 := s4.laidT (o := .tup [V.int (n : Int), V.bl false]) h4
    have n34 : t3 ≠ t4 := ne_of_none upd_same h4
    have w3 : IsW (upd (upd H3 t3 (.tup [V.int (n : Int), V.bl true])) t4 (.tup [V.int (n : Int), V.bl false])) (.ref t3) ((n : Int), true) := ⟨t3, rfl, by rw [upd_ne n34, upd_same]⟩
    have w4 : IsW (upd (upd H3 t3 (.tup [V.int (n : Int), V.bl true])) t4 (.tup [V.int (n : Int), V.bl false])) (.ref t4) ((n : Int), false) := ⟨t4, rfl, upd_same⟩
    have s05 := s03.trans s5
    refine ⟨h, _, _, N, ws, _, _, rfl, hh.same s05, gh, w3, w4, iT, iF, fun H6 v cs' s6 nw' ok' => ?_⟩
    exact k H6 v cs' (s05.trans s6) (let ⟨a', vs', e1, e2, r⟩ := nw'; ⟨a', vs', e1, s05.free e2, r⟩) (.inr ⟨nr, ok'⟩)
inductive X_sp_sett (C CT CU : Addr) (vs : List V) (H : Hp) (Q : VK) (E : XK) : Prop
  | mk (h : V) (N : Nat) (ws : List (W × W)) (z_1 : vs = [h]) (z_2 : HouseAt C H h N ws) (z_3 : GoodH N ws) (z_4 : (pleasing ws N ≠ [] → ∀ H' v css, Same H H' → NewGL H H' v css → css.length = N → (∀ n cs, css[n]? = some cs → SetOk ws n cs) → Q v H')) (z_5 : (pleasing ws N = [] → ∀ H' d, Same H H' → TornX CT N ws H H' d → E (.ref CU) (some d) H'))
def sp_sett (C CT CU : Addr) : Sp := fun vs H Q E => X_sp_sett C CT CU vs H Q E
theorem sc_sett : FnScope ["house"] ["house"] (defScope S_sett) := ⟨rfl, rfl, rfl, by decide +kernel, rfl, by decide +kernel, by decide +kernel⟩
abbrev te_sett (C : Addr) : TE := tCall (sp_schain C) [] E0 (tCons (tVar 1) (tCons (tVar 0) tNil))
theorem NewWs.from {H0 H H' : Hp} {v : V} {l : List W} (h : NewWs H H' v l) (e : Same H0 H) : NewWs H0 H' v l := let ⟨a, vs, h1, h2, r⟩ := h; ⟨a, vs, h1, e.free h2, r⟩
theorem newWs_chg {H H' : Hp} {v : V} {l : List W} {D : Addr} {o : HO} (h : NewWs H H' v l) (n : v ≠ .ref D) (ht : Tups H' (upd H' D o)) : NewWs H (upd H' D o) v l := by
  obtain ⟨a, vs, h1, h2, h3, h4⟩ := h
  exact ⟨a, vs, h1, h2, by rw [upd_ne (fun z => n (by rw [h1, z]))]; exact h3, h4.tups ht⟩
set_option maxHeartbeats 1000000 in
theorem ok_sett (D : Def K mg "settled" S_sett ["house"]) (B : Bare mg) (T : TxtH K C) (cp : CalX P w K mg base "check_pleased" 6 ["house"] (sp_cpls C CT CU)) (cs' : Cal P w K mg base "settling_chain" 5 ["house", "name"] (sp_schain C)) : CalX P w K mg base "settled" 7 ["house"] (sp_sett C CT CU) := by
  refine D.calX (k := 6) sc_sett (fun vs H Q E h => by obtain ⟨_, _, _, rfl, _⟩ := h; rfl) (fun f cdv A outer s H vs Q E hr h => ?_)
  obtain ⟨h, N, ws, rfl, hh, gh, k1, k2⟩ := h
  have hr5 : Room 5 _ := hr.mono (by decide)
  refine ⟨_, pss_cons (ps_expr (pe_calX cp hr rfl (thr_xp _ E) (pa_cons (pv 0) pa_nil)))
    (pss_one (ps_ret (PE.nox (pe_comp (tc := tYes) (te := te_sett C) rfl ⟨rfl, by decide +kernel, rfl, by decide +kernel, AllFree.all (by repeat (first | exact trivial | refine ⟨?_, ?_⟩ | (intro e; cases e <;> fail) | (intro _; rfl)))⟩
        (ys := ["house"]) (js := [0]) ⟨rfl, rfl, rfl, trivial⟩ (by decide +kernel) (pi_range1 rfl B.rng (pa_cons (pe_fld (pv 0) rfl) pa_nil)) (fun _ _ _ _ _ => pifs_nil)
        (fun _ _ _ _ _ => pe_cal cs' hr5 rfl (pa_cons (pv 1) (pa_cons (pv 0) pa_nil))))))), ?_⟩
  refine ⟨_, rfl, h, N, ws, rfl, hh, gh, fun ne H1 s1 => ?_, fun e0 H1 d s1 tx => k2 e0 H1 d s1 tx⟩
  have hh1 := hh.same s1
  obtain ⟨p, dx, q, us, rfl, hp, _⟩ := id hh1
  have N8 := gh.hi
  refine ⟨_, rfl, p, C, dx, _, _, rfl, hp, T.cl, T.nN, flds_names _ _, (N : Int), rfl, by omega, by omega, fun Dd hD => ?_⟩
  refine comp_range (lo := 0) (n := (N : Int).toNat) (js := [0]) (tc := tYes) (te := te_sett C) (σ := start ["house"] [.ref p])
    (fun j acc H6 => Same H1 H6 ∧ H6 Dd = some (.lst acc) ∧ ∃ css, Paired (NewWs H1 H6) acc css ∧ css.length = j ∧ (∀ v ∈ acc, v ≠ .ref Dd) ∧ ∀ n cs, css[n]? = some cs → SetOk ws n cs) ⟨Same.laid hD, upd_same, [], .nil, rfl, fun v hv => by simp at hv, fun n cs e => by simp at e⟩ ?_ ?_ ?_
  · rintro j acc H6 hj ⟨_, e6, css, pa, ln, _⟩
    refine ⟨e6, ?_⟩
    rw [Paired.length pa, ln, sizeLine_eq]
    simp at hj
    omega
  · rintro j acc H6 R' hj ⟨s6, e6, css, pa, ln, nD, so⟩ hR
    have hj' : j < N := by simpa using hj
    simp only [tYes, if_true]
    refine ⟨_, rfl, _, rfl, .ref p, N, j, ws, by simp, hh1.same s6, gh, hj', fun H7 v cs s7 nw ok => ⟨s7 _ _ e6, hR _ _ ?_⟩⟩
    have tp : Tups H7 (upd H7 Dd (.lst (acc ++ [v]))) := lst_notup (s7 _ _ e6)
    have nv : v ≠ .ref Dd := fun z => by
      obtain ⟨a, _, e, na, _⟩ := nw
      rw [z] at e
      cases e
      rw [e6] at na
      cases na
    refine ⟨(s6.trans s7).chg hD, upd_same, css ++ [cs], ?_, by simp [ln], fun u hu => ?_, fun n c e => ?_⟩
    · refine paired_app (paired_mem pa fun a b ha z => newWs_chg (z.same s7) (nD a ha) tp) (.cons (newWs_chg (nw.from s6) nv tp) .nil)
    · rcases List.mem_append.mp hu with z | z
      · exact nD u z
      · have : u = v := by simpa using z
        rw [this]; exact nv
    · by_cases z : n < css.length
      · rw [List.getElem?_append_left z] at e
        exact so n c e
      · rw [List.getElem?_append_right (by omega)] at e
        have z0 : n - css.length = 0 := by
          cases q : n - css.length with
          | zero => rfl
          | succ m => rw [q] at e; simp at e
        rw [z0] at e
        have e' : cs = c := by simpa using e
        have en : n = j := by omega
        rw [← e', en]
        exact ok
  · rintro acc H6 ⟨s6, e6, css, pa, ln, nD, so⟩
    refine k1 ne H6 _ css (s1.trans s6) ⟨Dd, acc, rfl, s1.free hD, e6, paired_mem pa fun a b _ z => z.from s1⟩ (by simpa using ln) so
end
end L2

end

section
set_option autoImplicit false
set_option maxRecDepth 100000
set_option linter.all false
namespace L2
open PySem PySem.Spec PyProof.Rows EoD Eo
section
variable {P : Program} {w : World} {K : PySem.W.Frag} {mg : Str → Option Value} {base : Heap} {C : Addr}
end
end L2

end

section
set_option autoImplicit false
set_option maxRecDepth 100000
set_option linter.all false
namespace L2
open PySem PySem.Spec PyProof.Rows EoD Eo
section
variable {P : Program} {w : World} {K : PySem.W.Frag} {mg : Str → Option Value} {base : Heap} {C CP CT CC CU : Addr}
theorem sc_cwords : FnScope ["house", "value", "word"] ["house", "value"] (defScope S_cwords) := ⟨rfl, rfl, rfl, by decide +kernel, rfl, by decide +kernel, by decide +kernel⟩
theorem sc_keep : FnScope ["house", "words", "choice"] ["house", "words"] (defScope S_keep) := ⟨rfl, rfl, rfl, by decide +kernel, rfl, by decide +kernel, by decide +kernel⟩
end
end L2

end

section
set_option autoImplicit false
set_option maxRecDepth 100000
set_option linter.all false
namespace L2
open PySem PySem.Spec PyProof.Rows EoD Eo
inductive NumB (K : PySem.W.Frag) (H : Hp) : V → Bool → Prop
  | int (i : Int) : NumB K H (.int i) true
  | bl (b : Bool) : NumB K H (.bl b) false
  | ty {v : V} {t : Value} (h : TyOf K H v t) (i : PySem.W.kitOne K t (.type "int") = some false) : NumB K H v false
inductive WordB (K : PySem.W.Frag) (H : Hp) (N : Nat) : V → Bool → Prop
  | ok {v : V} {x : W} (h : IsW H v x) (i : InN N x) : WordB K H N v true
  | ty {v : V} {t : Value} (h : TyOf K H v t) (i : PySem.W.kitOne K t (.type "tuple") = some false) : WordB K H N v false
  | len {a : Addr} {xs : List V} (h : H a = some (.tup xs)) (n : xs.length ≠ 2) : WordB K H N (.ref a) false
  | num {a : Addr} {x y : V} (h : H a = some (.tup [x, y])) (n : NumB K H x false) : WordB K H N (.ref a) false
  | out {a : Addr} {i : Int} {y : V} (h : H a = some (.tup [.int i, y])) (n : ¬ (0 ≤ i ∧ i < N)) : WordB K H N (.ref a) false
  | tru {a : Addr} {i : Int} {y : V} {t : Value} (h : H a = some (.tup [.int i, y])) (h0 : 0 ≤ i) (h1 : i < N) (ht : TyOf K H y t) (k : PySem.W.kitOne K t (.type "bool") = some false) : WordB K H N (.ref a) false
inductive WishB (K : PySem.W.Frag) (H : Hp) (N : Nat) : V → Bool → Prop
  | ty {v : V} {t : Value} (h : TyOf K H v t) (i : PySem.W.kitOne K t (.type "tuple") = some false) : WishB K H N v false
  | len {a : Addr} {xs : List V} (h : H a = some (.tup xs)) (n : xs.length ≠ 2) : WishB K H N (.ref a) false
  | two {a : Addr} {x y : V} {b c : Bool} (h : H a = some (.tup [x, y])) (hx : WordB K H N x b) (hy : WordB K H N y c) : WishB K H N (.ref a) (b && c)
theorem TyOf.same {K : PySem.W.Frag} {H H' : Hp} {v : V} {t : Value} (h : TyOf K H v t) (s : Same H H') : TyOf K H' v t := by
  cases h with
  | non => exact .non
  | bl x => exact .bl x
  | int i => exact .int i
  | str x => exact .str x
  | flt x => exact .flt x
  | lst e => exact .lst (s _ _ e)
  | frz e => exact .frz (s _ _ e)
  | tup e => exact .tup (s _ _ e)
  | dK e => exact .dK (s _ _ e)
  | dT e => exact .dT (s _ _ e)
  | ins e cl ha hn htk hm => exact .ins (s _ _ e) cl ha hn htk hm
theorem NumB.same {K : PySem.W.Frag} {H H' : Hp} {v : V} {b : Bool} (h : NumB K H v b) (s : Same H H') : NumB K H' v b := by
  cases h with
  | int i => exact .int i
  | bl b => exact .bl b
  | ty h i => exact .ty (h.same s) i
theorem WordB.same {K : PySem.W.Frag} {H H' : Hp} {N : Nat} {v : V} {b : Bool} (h : WordB K H N v b) (s : Same H H') : WordB K H' N v b := by
  cases h with
  | ok h i => exact .ok (h.same s) i
  | ty h i => exact .ty (h.same s) i
  | len h n => exact .len (s _ _ h) n
  | num h n => exact .num (s _ _ h) (n.same s)
  | out h n => exact .out (s _ _ h) n
  | tru h h0 h1 ht k => exact .tru (s _ _ h) h0 h1 (ht.same s) k
theorem WishB.same {K : PySem.W.Frag} {H H' : Hp} {N : Nat} {v : V} {b : Bool} (h : WishB K H N v b) (s : Same H H') : WishB K H' N v b := by
  cases h with
  | ty h i => exact .ty (h.same s) i
  | len h n => exact .len (s _ _ h) n
  | two h hx hy => exact .two (s _ _ h) (hx.same s) (hy.same s)
theorem len_ne {xs : List V} {k : Nat} (n : xs.length ≠ k) : ¬ (V.int (xs.length : Nat) = V.int (k : Nat)) := fun e => n (by injection e with e; exact Int.ofNat.inj e)
section
variable {P : Program} {w : World} {K : PySem.W.Frag} {mg : Str → Option Value} {base : Heap}
def sp_numG (K : PySem.W.Frag) : Sp := fun vs H Q _ => ∃ (v : V) (b : Bool), vs = [v] ∧ NumB K H v b ∧ Q (.bl b) H
theorem ok_numG (D : Def K mg "is_number" S_num ["value"]) (B : Bare mg) : Cal P w K mg base "is_number" 1 ["value"] (sp_numG K) := by
  refine D.cal (k := 0) sc_num (fun vs H Q E h => by obtain ⟨v, b, rfl, _⟩ := h; rfl) (fun f cdv A outer s H vs Q E hr h => ?_)
  obtain ⟨v, b, rfl, n, k⟩ := h
  refine ⟨_, pss_one (ps_ret (pe_and (pe_isin B (pv 0) rfl rfl B.int bt_int) (pe_one (pe_not (pe_isin B (pv 0) rfl rfl B.bool bt_bool))))), ?_⟩
  cases n with
  | int i => exact ⟨_, rfl, _, _, _, true, rfl, .int i, rfl, true, rfl, iteT ⟨_, rfl, _, _, _, false, rfl, .int i, rfl, false, rfl, k⟩⟩
  | bl b => exact ⟨_, rfl, _, _, _, true, rfl, .bl b, rfl, true, rfl, iteT ⟨_, rfl, _, _, _, true, rfl, .bl b, rfl, true, rfl, k⟩⟩
  | ty h i => exact ⟨_, rfl, _, _, _, false, rfl, h, i, false, rfl, iteF k⟩
def sp_wordG (K : PySem.W.Frag) : Sp := fun vs H Q _ => ∃ (N : Nat) (v : V) (b : Bool), vs = [.int N, v] ∧ WordB K H N v b ∧ Q (.bl b) H
theorem ok_wordG (D : Def K mg "is_word" S_word ["names", "value"]) (B : Bare mg) (cn : Cal P w K mg base "is_number" 1 ["value"] (sp_numG K)) : Cal P w K mg base "is_word" 2 ["names", "value"] (sp_wordG K) := by
  refine D.cal (k := 1) sc_word (fun vs H Q E h => by obtain ⟨N, v, x, rfl, _⟩ := h; rfl) (fun f cdv A outer s H vs Q E hr h => ?_)
  obtain ⟨N, v, b, rfl, hb, k⟩ := h
  refine ⟨_, pss_cons (ps_if (PW.pt (pw_or (pt_not (pt_val (pe_isin B (pv 1) rfl rfl B.tup bt_tuple))) (pw_or1 (pt_cmpR op_ne (pe_callB call_len_seq rfl B.len bt_len (pa_cons (pv 1) pa_nil)) pe_int (nomark _))))) (pss_one (ps_ret pe_bl)) pss_nil)
    (pss_one (ps_ret (pe_and (pe_cal cn hr rfl (pa_cons (pe_ix ix_tup (pv 1) pe_int (fun _ _ => rfl)) pa_nil)) (pe_and (pe_chain op_le op_lt pe_int (pe_ix ix_tup (pv 1) pe_int (fun _ _ => rfl)) (pv 0)) (pe_one (pe_isin B (pe_ix ix_tup (pv 1) pe_int (fun _ _ => rfl)) rfl rfl B.bool bt_bool)))))), ?_⟩
  have i0 : ∀ x y : V, atI [x, y] 0 = some x := fun _ _ => rfl
  have i1 : ∀ x y : V, atI [x, y] 1 = some y := fun _ _ => rfl
  cases hb with
  | ty h i => exact ⟨_, rfl, _, _, _, false, rfl, h, i, false, rfl, iteT k⟩
  | len h n => exact ⟨_, rfl, _, _, _, true, rfl, .tup h, rfl, true, rfl, iteF ⟨_, rfl, _, _, rfl, .inr (SqT.of h), rfl, _, rfl, iteNT (len_ne n) k⟩⟩
  | ok h i =>
    obtain ⟨p, rfl, hp⟩ := h
    refine ⟨_, rfl, _, _, _, true, rfl, .tup hp, rfl, true, rfl, iteF ⟨_, rfl, p, _, rfl, .inr (SqT.of hp), rfl, _, rfl, iteNS rfl ?_⟩⟩
    refine ⟨_, rfl, p, _, 0, _, rfl, rfl, SqT.of hp, i0 _ _, _, true, rfl, .int _, true, rfl, iteT ?_⟩
    refine ⟨_, rfl, p, _, 0, _, rfl, rfl, SqT.of hp, i0 _ _, ?_⟩
    refine ⟨_, _, rfl, rfl, _, rfl, iteP i.1 ⟨_, rfl, _, _, rfl, rfl, _, rfl, iteP i.2 ?_⟩⟩
    exact ⟨_, rfl, p, _, 1, _, rfl, rfl, SqT.of hp, i1 _ _, _, _, _, true, rfl, .bl _, rfl, k⟩
  | num hp n =>
    refine ⟨_, rfl, _, _, _, true, rfl, .tup hp, rfl, true, rfl, iteF ⟨_, rfl, _, _, rfl, .inr (SqT.of hp), rfl, _, rfl, iteNS rfl ?_⟩⟩
    exact ⟨_, rfl, _, _, 0, _, rfl, rfl, SqT.of hp, i0 _ _, _, false, rfl, n, false, rfl, iteF k⟩
  | out hp n =>
    refine ⟨_, rfl, _, _, _, true, rfl, .tup hp, rfl, true, rfl, iteF ⟨_, rfl, _, _, rfl, .inr (SqT.of hp), rfl, _, rfl, iteNS rfl ?_⟩⟩
    refine ⟨_, rfl, _, _, 0, _, rfl, rfl, SqT.of hp, i0 _ _, _, true, rfl, .int _, true, rfl, iteT ?_⟩
    refine ⟨_, rfl, _, _, 0, _, rfl, rfl, SqT.of hp, i0 _ _, ?_⟩
    rename_i i y
    by_cases h0 : 0 ≤ i
    · exact ⟨_, _, rfl, rfl, _, rfl, iteP h0 ⟨_, rfl, _, _, rfl, rfl, _, rfl, iteN (fun h1 => n ⟨h0, h1⟩) k⟩⟩
    · exact ⟨_, _, rfl, rfl, _, rfl, iteN h0 ⟨_, rfl, iteF k⟩⟩
  | tru hp h0 h1 ht kt =>
    refine ⟨_, rfl, _, _, _, true, rfl, .tup hp, rfl, true, rfl, iteF ⟨_, rfl, _, _, rfl, .inr (SqT.of hp), rfl, _, rfl, iteNS rfl ?_⟩⟩
    refine ⟨_, rfl, _, _, 0, _, rfl, rfl, SqT.of hp, i0 _ _, _, true, rfl, .int _, true, rfl, iteT ?_⟩
    refine ⟨_, rfl, _, _, 0, _, rfl, rfl, SqT.of hp, i0 _ _, ?_⟩
    refine ⟨_, _, rfl, rfl, _, rfl, iteP h0 ⟨_, rfl, _, _, rfl, rfl, _, rfl, iteP h1 ?_⟩⟩
    exact ⟨_, rfl, _, _, 1, _, rfl, rfl, SqT.of hp, i1 _ _, _, _, _, false, rfl, ht, kt, k⟩
end
end L2

end

section
set_option autoImplicit false
set_option maxRecDepth 100000
set_option linter.all false
namespace L2
open PySem PySem.Spec PyProof.Rows EoD Eo
/-- an exception class without an own __init__ -/
structure Ex0 (K : PySem.W.Frag) (mg : Str → Option Value) (CW B : Addr) (x : Str) : Prop where
  M : xclIn K B none = true
  kp : PySem.W.keepIn K (.ref B) = true
  xc : PySem.W.XC K B
  m : mg x = some (.ref B)
  up : PySem.W.mroIn K B (.ref CW) = some true
section
variable {P : Program} {w : World} {K : PySem.W.Frag} {mg : Str → Option Value} {base : Heap} {C CT CW CU BH BW BC : Addr}
def sp_wishG (K : PySem.W.Frag) : Sp := fun vs H Q _ => ∃ (N : Nat) (v : V) (b : Bool), vs = [.int N, v] ∧ WishB K H N v b ∧ Q (.bl b) H
theorem ok_wishG (D : Def K mg "is_wish" S_wish ["names", "value"]) (B : Bare mg) (cw : Cal P w K mg base "is_word" 2 ["names", "value"] (sp_wordG K)) : Cal P w K mg base "is_wish" 3 ["names", "value"] (sp_wishG K) := by
  refine D.cal (k := 2) sc_wish (fun vs H Q E h => by obtain ⟨N, v, x, rfl, _⟩ := h; rfl) (fun f cdv A outer s H vs Q E hr h => ?_)
  obtain ⟨N, v, b, rfl, hb, k⟩ := h
  refine ⟨_, pss_cons (ps_if (PW.pt (pw_or (pt_not (pt_val (pe_isin B (pv 1) rfl rfl B.tup bt_tuple))) (pw_or1 (pt_cmpR op_ne (pe_callB call_len_seq rfl B.len bt_len (pa_cons (pv 1) pa_nil)) pe_int (nomark _))))) (pss_one (ps_ret pe_bl)) pss_nil)
    (pss_one (ps_ret (pe_and (pe_cal cw hr rfl (pa_cons (pv 0) (pa_cons (pe_ix ix_tup (pv 1) pe_int (fun _ _ => rfl)) pa_nil))) (pe_one (pe_cal cw hr rfl (pa_cons (pv 0) (pa_cons (pe_ix ix_tup (pv 1) pe_int (fun _ _ => rfl)) pa_nil))))))), ?_⟩
  have i0 : ∀ x y : V, atI [x, y] 0 = some x := fun _ _ => rfl
  have i1 : ∀ x y : V, atI [x, y] 1 = some y := fun _ _ => rfl
  cases hb with
  | ty h i => exact ⟨_, rfl, _, _, _, false, rfl, h, i, false, rfl, iteT k⟩
  | len h n => exact ⟨_, rfl, _, _, _, true, rfl, .tup h, rfl, true, rfl, iteF ⟨_, rfl, _, _, rfl, .inr (SqT.of h), rfl, _, rfl, iteNT (len_ne n) k⟩⟩
  | @two a x y b c hp hx hy =>
    refine ⟨_, rfl, _, _, _, true, rfl, .tup hp, rfl, true, rfl, iteF ⟨_, rfl, a, _, rfl, .inr (SqT.of hp), rfl, _, rfl, iteNS rfl ?_⟩⟩
    cases b with
    | false => exact ⟨_, rfl, _, rfl, a, _, 0, _, rfl, rfl, SqT.of hp, i0 _ _, N, x, false, rfl, hx, false, rfl, iteF k⟩
    | true => exact ⟨_, rfl, _, rfl, a, _, 0, _, rfl, rfl, SqT.of hp, i0 _ _, N, x, true, rfl, hx, true, rfl, iteT ⟨_, rfl, _, rfl, a, _, 1, _, rfl, rfl, SqT.of hp, i1 _ _, N, y, c, rfl, hy, k⟩⟩
def sp_checkX (K : PySem.W.Frag) (C BW : Addr) : Sp := fun vs H Q E => ∃ (h v : V) (N : Nat) (ws : List (W × W)) (b : Bool), vs = [h, v] ∧ HouseAt C H h N ws ∧ WordB K H N v b ∧ (b = true → Q .non H) ∧ (b = false → E (.ref BW) none H)
theorem ok_checkX (D : Def K mg "check_word" S_check ["house", "value"]) (T : TxtH K C) (Z : Ex0 K mg CW BW "BadWord") (cw : Cal P w K mg base "is_word" 2 ["names", "value"] (sp_wordG K)) : CalX P w K mg base "check_word" 3 ["house", "value"] (sp_checkX K C BW) := by
  refine D.calX (k := 2) sc_check (fun vs H Q E h => by obtain ⟨_, _, _, _, _, rfl, _⟩ := h; rfl) (fun f cdv A outer s H vs Q E hr h => ?_)
  obtain ⟨h, v, N, ws, b, rfl, ⟨p, dx, q, us, rfl, hp, _⟩, hb, k1, k2⟩ := h
  refine ⟨_, pss_one (ps_if (pt_not (pt_val (pe_cal cw hr rfl (pa_cons (pe_fld (pv 0) rfl) (pa_cons (pv 1) pa_nil))))) (pss_one (ps_raise0 rfl Z.M Z.kp rfl Z.m (thr_xp _ E) (pa_cons pe_str pa_nil))) pss_nil), ?_⟩
  refine ⟨_, rfl, p, C, dx, _, _, rfl, hp, T.cl, T.nN, flds_names _ _, _, rfl, N, v, b, rfl, hb, b, rfl, ?_⟩
  cases b with
  | true => exact iteF (k1 rfl)
  | false => exact iteT ⟨(by change 1 ≤ sizeLine; decide), k2 rfl⟩
def sp_folX (K : PySem.W.Frag) (C BW : Addr) : Sp := fun vs H _ E => ∃ (h v : V) (N : Nat) (ws : List (W × W)), vs = [h, v] ∧ HouseAt C H h N ws ∧ WordB K H N v false ∧ E (.ref BW) none H
theorem ok_folX (D : Def K mg "follows" S_fol ["house", "word"]) (cc : CalX P w K mg base "check_word" 3 ["house", "value"] (sp_checkX K C BW)) : CalX P w K mg base "follows" 4 ["house", "word"] (sp_folX K C BW) := by
  refine D.calX (k := 3) sc_fol (fun vs H Q E h => by obtain ⟨_, _, _, _, rfl, _⟩ := h; rfl) (fun f cdv A outer s H vs Q E hr h => ?_)
  obtain ⟨h, v, N, ws, rfl, hh, hb, k⟩ := h
  refine ⟨_, pss_cons (ps_expr (pe_calX cc hr rfl (thr_xp _ E) (pa_cons (pv 0) (pa_cons (pv 1) pa_nil)))) pss_never, ?_⟩
  exact ⟨_, rfl, _, rfl, h, v, N, ws, false, rfl, hh, hb, (fun z => nomatch z), fun _ => k⟩
def sp_chainX (K : PySem.W.Frag) (C BW : Addr) : Sp := fun vs H _ E => ∃ (h v u : V) (N : Nat) (ws : List (W × W)) (b c : Bool), vs = [h, v, u] ∧ HouseAt C H h N ws ∧ WordB K H N v b ∧ WordB K H N u c ∧ (b && c) = false ∧ E (.ref BW) none H
theorem ok_chainX (D : Def K mg "chain" S_chain ["house", "word", "other"]) (cc : CalX P w K mg base "check_word" 3 ["house", "value"] (sp_checkX K C BW)) : CalX P w K mg base "chain" 4 ["house", "word", "other"] (sp_chainX K C BW) := by
  refine D.calX (k := 3) sc_chain (fun vs H Q E h => by obtain ⟨_, _, _, _, _, _, _, rfl, _⟩ := h; rfl) (fun f cdv A outer s H vs Q E hr h => ?_)
  obtain ⟨h, v, u, N, ws, b, c, rfl, hh, hb, hc, bc, k⟩ := h
  refine ⟨_, pss_cons (ps_expr (pe_calX cc hr rfl (thr_xp _ E) (pa_cons (pv 0) (pa_cons (pv 1) pa_nil)))) (pss_cons (ps_expr (pe_calX cc hr rfl (thr_xp _ E) (pa_cons (pv 0) (pa_cons (pv 2) pa_nil)))) pss_never), ?_⟩
  refine ⟨_, rfl, _, rfl, h, v, N, ws, b, rfl, hh, hb, (fun z => ?_), fun _ => k⟩
  subst z
  exact ⟨_, rfl, _, rfl, h, u, N, ws, c, rfl, hh, hc, (fun z => by subst z; cases bc), fun _ => k⟩
inductive WdsB (K : PySem.W.Frag) (H : Hp) (N : Nat) : V → Bool → Prop
  | ty {v : V} {t : Value} (h : TyOf K H v t) (i : PySem.W.kitOne K t (.type "list") = some false) : WdsB K H N v false
  | ws {a : Addr} {us : List V} {bs : List Bool} (h : H a = some (.lst us)) (p : Paired (WordB K H N) us bs) : WdsB K H N (.ref a) (bs.all id)
def sp_cwordsX (K : PySem.W.Frag) (C BW : Addr) : Sp := fun vs H Q E => ∃ (h v : V) (N : Nat) (ws : List (W × W)) (b : Bool), vs = [h, v] ∧ HouseAt C H h N ws ∧ WdsB K H N v b ∧ (b = true → Q .non H) ∧ (b = false → E (.ref BW) none H)
theorem ok_cwordsX (D : Def K mg "check_words" S_cwords ["house", "value"]) (B : Bare mg) (Z : Ex0 K mg CW BW "BadWord") (cc : CalX P w K mg base "check_word" 3 ["house", "value"] (sp_checkX K C BW)) : CalX P w K mg base "check_words" 4 ["house", "value"] (sp_cwordsX K C BW) := by
  refine D.calX (k := 3) sc_cwords (fun vs H Q E h => by obtain ⟨_, _, _, _, _, rfl, _⟩ := h; rfl) (fun f cdv A outer s H vs Q E hr h => ?_)
  obtain ⟨h, v, N, ws, b, rfl, hh, hb, k1, k2⟩ := h
  refine ⟨_, pss_cons (ps_if (pt_not (pt_val (pe_isin B (pv 1) rfl rfl B.lst bt_list))) (pss_one (ps_raise0 rfl Z.M Z.kp rfl Z.m (thr_xp _ E) (pa_cons pe_str pa_nil))) pss_nil)
    (pss_one (ps_for (passes_own ⟨rfl, rfl⟩) rfl (pi_list (pv 1)) (pg_name (i := 2) sc_cwords.nd rfl (Or.inl rfl)) (pss_one (ps_expr (pe_calX cc hr rfl (thr_xp _ E) (pa_cons (pv 0) (pa_cons (pv 2) pa_nil))))))), ?_⟩
  cases hb with
  | ty h i => exact ⟨_, rfl, _, _, _, false, rfl, h, i, false, rfl, iteT ⟨(by change 1 ≤ sizeLine; decide), k2 rfl⟩⟩
  | @ws a us bs ea pu =>
    refine ⟨_, rfl, _, _, _, true, rfl, .lst ea, rfl, true, rfl, iteF ⟨_, rfl, a, rfl, ⟨_, SqL.of ea⟩, ?_⟩⟩
    refine for_list (K := K) (a := a) (xs := us) (fun i σ H2 => ∃ z, σ = [some h, some (.ref a), z] ∧ H2 = H ∧ (bs.take i).all id = true) ⟨none, rfl, rfl, rfl⟩ (fun i σ H2 _ ⟨_, _, z, _⟩ => by rw [z]; exact SqL.of ea) ?_ ?_
    · rintro i y σ H2 hi ⟨z, rfl, rfl, al⟩
      obtain ⟨b, hb, wb⟩ := paired_get pu hi
      refine ⟨_, rfl, _, rfl, h, y, N, ws, b, rfl, hh, wb, (fun e => ⟨_, rfl, rfl, ?_⟩), fun e => k2 ?_⟩
      · rw [List.take_succ, hb, List.all_append, al, e]
        rfl
      · rw [Bool.eq_false_iff]
        intro z
        rw [List.all_eq_true] at z
        have := z b (List.mem_of_getElem? hb)
        rw [e] at this
        cases this
    · rintro σ H2 ⟨z, rfl, rfl, al⟩
      rw [Paired.length pu, List.take_length] at al
      exact k1 al
end
end L2

end

section
set_option autoImplicit false
set_option maxRecDepth 100000
set_option linter.all false
namespace L2
open PySem PySem.Spec PyProof.Rows EoD Eo
inductive BadH (K : PySem.W.Frag) (H : Hp) : V → V → Prop
  | num {n l : V} (h : NumB K H n false) : BadH K H n l
  | out {i : Int} {l : V} (h : ¬ (1 ≤ i ∧ i ≤ 8)) : BadH K H (.int i) l
  | ty {N : Nat} {l : V} {t : Value} (h1 : 1 ≤ N) (h8 : N ≤ 8) (h : TyOf K H l t) (i : PySem.W.kitOne K t (.type "list") = some false) : BadH K H (.int (N : Int)) l
  | len {N : Nat} {a : Addr} {us : List V} (h1 : 1 ≤ N) (h8 : N ≤ 8) (h : H a = some (.lst us)) (n : 24 < us.length) : BadH K H (.int (N : Int)) (.ref a)
  | wsh {N : Nat} {a : Addr} {u : V} (h1 : 1 ≤ N) (h8 : N ≤ 8) (h : H a = some (.lst [u])) (n : WishB K H N u false) : BadH K H (.int (N : Int)) (.ref a)
theorem BadH.same {K : PySem.W.Frag} {H H' : Hp} {n l : V} (h : BadH K H n l) (s : Same H H') : BadH K H' n l := by
  cases h with
  | num h => exact .num (h.same s)
  | out h => exact .out h
  | ty h1 h8 h i => exact .ty h1 h8 (h.same s) i
  | len h1 h8 h n => exact .len h1 h8 (s _ _ h) n
  | wsh h1 h8 h n => exact .wsh h1 h8 (s _ _ h) (n.same s)
inductive ChoN (K : PySem.W.Frag) (H : Hp) (N : Nat) : V → Prop
  | ty {v : V} {t : Value} (h : TyOf K H v t) (i : PySem.W.kitOne K t (.type "list") = some false) : ChoN K H N v
  | len {a : Addr} {xs : List V} (h : H a = some (.lst xs)) (n : xs.length ≠ N) : ChoN K H N (.ref a)
  | tru {a : Addr} {xs : List V} {bs : List Bool} (h : H a = some (.lst xs)) (n : xs.length = N) (p : Paired (fun v b => ∃ t, TyOf K H v t ∧ PySem.W.kitOne K t (.type "bool") = some b) xs bs) (f : bs.all id = false) : ChoN K H N (.ref a)
theorem ChoN.same {K : PySem.W.Frag} {H H' : Hp} {N : Nat} {v : V} (h : ChoN K H N v) (s : Same H H') : ChoN K H' N v := by
  cases h with
  | ty h i => exact .ty (h.same s) i
  | len h n => exact .len (s _ _ h) n
  | tru h n p f => exact .tru (s _ _ h) n (paired_mem p fun a b _ ⟨t, z, i⟩ => ⟨t, z.same s, i⟩) f
theorem WdsB.same {K : PySem.W.Frag} {H H' : Hp} {N : Nat} {v : V} {b : Bool} (h : WdsB K H N v b) (s : Same H H') : WdsB K H' N v b := by
  cases h with
  | ty h i => exact .ty (h.same s) i
  | ws h p => exact .ws (s _ _ h) (paired_mem p fun a b _ z => z.same s)
section
variable {P : Program} {w : World} {K : PySem.W.Frag} {mg : Str → Option Value} {base : Heap} {C CT CW CU BH BW BC : Addr}
def sp_keepX (K : PySem.W.Frag) (C CT CU BW : Addr) : Sp := fun vs H _ E => ∃ (h v : V) (N : Nat) (ws : List (W × W)) (b : Bool), vs = [h, v] ∧ HouseAt C H h N ws ∧ GoodH N ws ∧ WdsB K H N v b ∧ (b = false → E (.ref BW) none H) ∧
  (b = true → pleasing ws N = [] ∧ ∀ H' d, Same H H' → TornX CT N ws H H' d → E (.ref CU) (some d) H')
theorem ok_keepX (D : Def K mg "keeping" S_keep ["house", "words"]) (cw : CalX P w K mg base "check_words" 4 ["house", "value"] (sp_cwordsX K C BW)) (cx : CalX P w K mg base "check_pleased" 6 ["house"] (sp_cpls C CT CU)) : CalX P w K mg base "keeping" 7 ["house", "words"] (sp_keepX K C CT CU BW) := by
  refine D.calX (k := 6) sc_keep (fun vs H Q E h => by obtain ⟨_, _, _, _, _, rfl, _⟩ := h; rfl) (fun f cdv A outer s H vs Q E hr h => ?_)
  obtain ⟨h, v, N, ws, b, rfl, hh, gh, hb, k1, k2⟩ := h
  have hr4 : Room 4 _ := hr.mono (by decide)
  refine ⟨_, pss_cons (ps_expr (pe_calX cw hr4 rfl (thr_xp _ E) (pa_cons (pv 0) (pa_cons (pv 1) pa_nil)))) (pss_cons (ps_expr (pe_calX cx hr rfl (thr_xp _ E) (pa_cons (pv 0) pa_nil))) pss_never), ?_⟩
  refine ⟨_, rfl, _, rfl, h, v, N, ws, b, rfl, hh, hb, fun e => ?_, k1⟩
  obtain ⟨e0, k⟩ := k2 e
  exact ⟨_, rfl, h, N, ws, rfl, hh, gh, fun ne => absurd e0 ne, fun _ H' d s t => k H' d s t⟩
def sp_initX (K : PySem.W.Frag) (BH : Addr) : Sp := fun vs H _ E => ∃ (p n l : V), vs = [p, n, l] ∧ BadH K H n l ∧ ∀ H', Same H H' → E (.ref BH) none H'
theorem ok_initX {f : Addr} {fd : FuncData} (F : Fun K "__init__" "House.__init__" S_init f fd) (B : Bare mg) (Z : Ex0 K mg CW BH "BadHouse") (m8 : ∃ t, mg "MOST_NAMES" = some (.int 8 t)) (m24 : ∃ t, mg "MOST_WISHES" = some (.int 24 t)) (cn : Cal P w K mg base "is_number" 1 ["value"] (sp_numG K)) (cw : Cal P w K mg base "is_wish" 3 ["names", "value"] (sp_wishG K)) :
    FnOk P w K mg base (CXE P w) 4 f fd ["self", "names", "wishes"] (sp_initX K BH) := by
  refine F.okX (k := 3) sc_init (fun vs H Q E h => by obtain ⟨_, _, _, rfl, _⟩ := h; rfl) (fun cdv A outer s H vs Q E hr h => ?_)
  obtain ⟨p, n, l, rfl, bad, k⟩ := h
  obtain ⟨t8, m8⟩ := m8
  obtain ⟨t24, m24⟩ := m24
  have hr1 : Room 1 _ := hr.mono (by decide)
  have s1z : 1 ≤ sizeLine := by decide
  refine ⟨_, pss_cons (ps_if (PW.pt (pw_or (pt_not (pt_val (pe_cal cn hr1 rfl (pa_cons (pv 1) pa_nil)))) (pw_or1 (pt_not (pt_chain op_le op_le pe_int (pv 1) (pe_glob (v := .int 8) rfl m8 ⟨_, rfl⟩)))))) (pss_one (ps_raise0 rfl Z.M Z.kp rfl Z.m (thr_xp _ E) (pa_cons pe_str pa_nil))) pss_nil)
    (pss_cons (ps_if (PW.pt (pw_or (pt_not (pt_val (pe_isin B (pv 2) rfl rfl B.lst bt_list))) (pw_or1 (pt_cmpR op_gt (pe_callB call_len_seq rfl B.len bt_len (pa_cons (pv 2) pa_nil)) (pe_glob (v := .int 24) rfl m24 ⟨_, rfl⟩) (nomark _))))) (pss_one (ps_raise0 rfl Z.M Z.kp rfl Z.m (thr_xp _ E) (pa_cons pe_str pa_nil))) pss_nil)
    (pss_cons (ps_if (pt_not (pt_val (PE.nox (pe_callB (call_allB rfl) rfl B.all bt_all (pa_cons (pe_comp (tc := tYes) (te := tCall (sp_wishG K) [] E0 (tCons (tVar 1) (tCons (tVar 0) tNil))) rfl ⟨rfl, by decide +kernel, rfl, by decide +kernel, AllFree.all ⟨(fun e => nomatch e), (fun e => nomatch e), (fun e => nomatch e), fun _ => rfl, trivial⟩⟩
        (ys := ["names"]) (js := [1]) ⟨rfl, rfl, rfl, trivial⟩ (by decide +kernel) (pi_list (pv 2)) (fun _ _ _ _ _ => pifs_nil) (fun _ _ _ _ _ => pe_cal cw hr rfl (pa_cons (pv 1) (pa_cons (pv 0) pa_nil)))) pa_nil))))) (pss_one (ps_raise0 rfl Z.M Z.kp rfl Z.m (thr_xp _ E) (pa_cons pe_str pa_nil))) pss_nil)
    pss_never)), ?_⟩
  cases bad with
  | num h => exact ⟨_, rfl, _, false, rfl, h, false, rfl, iteT ⟨s1z, k _ (Same.refl _)⟩⟩
  | @out i _ h =>
    refine ⟨_, rfl, _, true, rfl, .int i, true, rfl, iteF ⟨_, rfl, ?_⟩⟩
    by_cases h1 : 1 ≤ i
    · exact ⟨_, _, rfl, rfl, _, rfl, iteP h1 ⟨_, _, rfl, rfl, _, rfl, iteNT (fun z => h ⟨h1, z⟩) ⟨s1z, k _ (Same.refl _)⟩⟩⟩
    · exact ⟨_, _, rfl, rfl, _, rfl, iteN h1 ⟨_, rfl, iteT ⟨s1z, k _ (Same.refl _)⟩⟩⟩
  | @ty N _ t h1 h8 h i =>
    refine ⟨_, rfl, _, true, rfl, .int N, true, rfl, iteF ⟨_, rfl, _, _, rfl, rfl, _, rfl, iteP (by omega) ⟨_, _, rfl, rfl, _, rfl, iteNS (by omega) ?_⟩⟩⟩
    exact ⟨_, rfl, _, _, _, false, rfl, h, i, false, rfl, iteT ⟨s1z, k _ (Same.refl _)⟩⟩
  | @len N a us h1 h8 el n =>
    refine ⟨_, rfl, _, true, rfl, .int N, true, rfl, iteF ⟨_, rfl, _, _, rfl, rfl, _, rfl, iteP (by omega) ⟨_, _, rfl, rfl, _, rfl, iteNS (by omega) ?_⟩⟩⟩
    exact ⟨_, rfl, _, _, _, true, rfl, .lst el, rfl, true, rfl, iteF ⟨_, rfl, a, us, rfl, .inl (SqL.of el), _, _, rfl, rfl, _, rfl, iteP (by omega) ⟨s1z, k _ (Same.refl _)⟩⟩⟩
  | @wsh N a u h1 h8 el n =>
    refine ⟨_, rfl, _, true, rfl, .int N, true, rfl, iteF ⟨_, rfl, _, _, rfl, rfl, _, rfl, iteP (by omega) ⟨_, _, rfl, rfl, _, rfl, iteNS (by omega) ?_⟩⟩⟩
    refine ⟨_, rfl, _, _, _, true, rfl, .lst el, rfl, true, rfl, iteF ⟨_, rfl, a, _, rfl, .inl (SqL.of el), _, _, rfl, rfl, _, rfl, iteN (by change ¬ ((24 : Int) < 1); decide) ?_⟩⟩
    refine ⟨_, rfl, a, rfl, ⟨_, SqL.of el⟩, fun Dd hD => ?_⟩
    refine bools1 (J := Itl K a) (n := 1) (f := fun _ => false) hD (by decide) (fun i H' hi s => itl_go s (SqL.of el) hi) (fun H' s => itl_stop s (SqL.of el)) ?_ ?_
    · intro i x H' H'' Q' hi s y kk
      obtain ⟨rfl, hx⟩ := itl_yld s (SqL.of el) y
      have i0 : i = 0 := by omega
      subst i0
      obtain rfl : u = x := by simpa using hx
      exact ⟨_, rfl, _, rfl, N, u, false, rfl, n.same s, kk _ (Same.refl _)⟩
    · intro H' s eD
      exact ⟨Dd, [false], rfl, SqL.of eD, _, rfl, iteT ⟨s1z, k _ s⟩⟩
def sp_ischN (K : PySem.W.Frag) (C : Addr) : Sp := fun vs H Q _ => ∃ (h v : V) (N : Nat) (ws : List (W × W)), vs = [h, v] ∧ HouseAt C H h N ws ∧ N ≤ 8 ∧ ChoN K H N v ∧ ∀ H', Same H H' → Q (.bl false) H'
theorem ok_ischN (D : Def K mg "is_choice" S_isch ["house", "value"]) (B : Bare mg) (T : TxtH K C) : Cal P w K mg base "is_choice" 1 ["house", "value"] (sp_ischN K C) := by
  refine D.cal (k := 0) sc_isch (fun vs H Q E h => by obtain ⟨_, _, _, _, rfl, _⟩ := h; rfl) (fun f cdv A outer s H vs Q E hr h => ?_)
  obtain ⟨h, v, N, ws, rfl, ⟨p, dx, q, us, rfl, hp, _⟩, n8, hc, k⟩ := h
  refine ⟨_, pss_cons (ps_if (PW.pt (pw_or (pt_not (pt_val (pe_isin B (pv 1) rfl rfl B.lst bt_list))) (pw_or1 (pt_cmpR op_ne (pe_callB call_len_seq rfl B.len bt_len (pa_cons (pv 1) pa_nil)) (pe_fld (pv 0) rfl) (nomark _))))) (pss_one (ps_ret pe_bl)) pss_nil)
    (pss_one (ps_ret (pe_callB (call_allB rfl) rfl B.all bt_all (pa_cons (pe_comp (tc := tYes) (te := tIsT K (tVar 0) "bool") rfl ⟨rfl, by decide +kernel, rfl, by decide +kernel, AllFree.all (by repeat (first | exact trivial | refine ⟨?_, ?_⟩ | (intro e; cases e <;> fail) | (intro _; rfl)))⟩
        (ys := []) (js := []) trivial (by decide +kernel) (pi_list (pv 1)) (fun _ _ _ _ _ => pifs_nil) (fun _ _ _ _ _ => pe_isin B (pv 0) rfl rfl B.bool bt_bool)) pa_nil)))), ?_⟩
  cases hc with
  | ty h i => exact ⟨_, rfl, _, _, _, false, rfl, h, i, false, rfl, iteT (k _ (Same.refl _))⟩
  | @len a xs ea n => exact ⟨_, rfl, _, _, _, true, rfl, .lst ea, rfl, true, rfl, iteF ⟨_, rfl, a, _, rfl, .inl (SqL.of ea), _, rfl, p, C, dx, _, _, rfl, hp, T.cl, T.nN, flds_names _ _, rfl, _, rfl, iteNT (len_ne n) (k _ (Same.refl _))⟩⟩
  | @tru a xs bs ea n pb fb =>
    refine ⟨_, rfl, _, _, _, true, rfl, .lst ea, rfl, true, rfl, iteF ⟨_, rfl, a, _, rfl, .inl (SqL.of ea), _, rfl, p, C, dx, _, _, rfl, hp, T.cl, T.nN, flds_names _ _, rfl, _, rfl, iteNS (by rw [n]) ?_⟩⟩
    refine ⟨_, rfl, a, rfl, ⟨_, SqL.of ea⟩, fun Dd hD => ?_⟩
    refine bools1 (J := Itl K a) (n := xs.length) (f := fun i => bs.getD i false) hD (by rw [sizeLine_eq]; omega) (fun i H' hi s => itl_go s (SqL.of ea) hi) (fun H' s => itl_stop s (SqL.of ea)) ?_ ?_
    · intro i x H' H'' Q' hi s y kk
      obtain ⟨rfl, hx⟩ := itl_yld s (SqL.of ea) y
      obtain ⟨b, hb, t, ty, kt⟩ := paired_get pb hx
      have e : bs.getD i false = b := by rw [List.getD_eq_getElem?_getD, hb]; rfl
      have z := kk _ (Same.refl _)
      rw [e] at z
      exact ⟨_, rfl, _, _, _, b, rfl, ty.same s, kt, z⟩
    · intro H' s eD
      refine ⟨Dd, _, rfl, SqL.of eD, ?_⟩
      have e : (List.range xs.length).map (fun i => bs.getD i false) = bs := by
        rw [Paired.length pb]
        refine List.ext_getElem (by simp) fun i h1 h2 => ?_
        simp [List.getElem?_eq_getElem h2]
      rw [e, fb]
      exact k H' s
def sp_dispX (K : PySem.W.Frag) (C BC : Addr) : Sp := fun vs H _ E => ∃ (h v : V) (N : Nat) (ws : List (W × W)), vs = [h, v] ∧ HouseAt C H h N ws ∧ N ≤ 8 ∧ ChoN K H N v ∧ ∀ H', Same H H' → E (.ref BC) none H'
theorem ok_dispX (D : Def K mg "displeased" S_disp ["house", "choice"]) (Z : Ex0 K mg CW BC "BadChoice") (ci : Cal P w K mg base "is_choice" 1 ["house", "value"] (sp_ischN K C)) : CalX P w K mg base "displeased" 3 ["house", "choice"] (sp_dispX K C BC) := by
  refine D.calX (k := 2) sc_disp (fun vs H Q E h => by obtain ⟨_, _, _, _, rfl, _⟩ := h; rfl) (fun f cdv A outer s H vs Q E hr h => ?_)
  obtain ⟨h, v, N, ws, rfl, hh, n8, hc, k⟩ := h
  have hr1 : Room 1 _ := hr.mono (by decide)
  refine ⟨_, pss_cons (ps_if (pt_not (pt_val (pe_cal ci hr1 rfl (pa_cons (pv 0) (pa_cons (pv 1) pa_nil))))) (pss_one (ps_raise0 rfl Z.M Z.kp rfl Z.m (thr_xp _ E) (pa_cons pe_str pa_nil))) pss_nil) pss_never, ?_⟩
  exact ⟨_, rfl, _, rfl, h, v, N, ws, rfl, hh, n8, hc, fun H1 s1 => ⟨_, rfl, iteT ⟨(by change 1 ≤ sizeLine; decide), k H1 s1⟩⟩⟩
end
end L2

end

section
set_option autoImplicit false
set_option maxRecDepth 100000
set_option linter.all false
namespace L2
open PySem PySem.Spec PyProof.Rows EoD Eo
theorem bt_ve8 : bootBuiltins "ValueError" = some (.type "ValueError") := by decide +kernel
theorem kq8 {K : PySem.W.Frag} {c D : Addr} {b : Bool} (h : PySem.W.kitOne K (.ref c) (.ref D) = some b) : ∀ u, RelV (.ref D) u → PySem.W.kitOne K (.ref c) u = some b := fun u hu => by
  obtain rfl : u = Value.ref D := hu
  exact h
theorem kqT8 {K : PySem.W.Frag} {c : Addr} {T : String} {b : Bool} (h : PySem.W.kitOne K (.ref c) (.type T) = some b) : ∀ u, RelV (.ty T) u → PySem.W.kitOne K (.ref c) u = some b := fun u hu => by
  obtain rfl : u = Value.type T := hu
  exact h
/-- the class c is the j-th of the four, and no other of the five -/
structure Kd (K : PySem.W.Frag) (CW BH BW BC CU BT c : Addr) (j : Nat) : Prop where
  h0 : PySem.W.kitOne K (.ref c) (.ref BH) = some (decide (j = 0))
  h1 : PySem.W.kitOne K (.ref c) (.ref BW) = some (decide (j = 1))
  h2 : PySem.W.kitOne K (.ref c) (.ref BC) = some (decide (j = 2))
  h3 : PySem.W.kitOne K (.ref c) (.ref CU) = some (decide (j = 3))
  h4 : PySem.W.kitOne K (.ref c) (.ref BT) = some false
  hv : PySem.W.kitOne K (.ref c) (.type "ValueError") = some true
  xc : PySem.W.XC K c
  up : PySem.W.mroIn K c (.ref CW) = some true
  jl : j < 4
def due4 (j : Nat) : Str := [Str.ofString "house", Str.ofString "word", Str.ofString "choice", Str.ofString "torn"].getD j Str.empty
def oneH (j : Nat) : List Bool := [decide (j = 0), decide (j = 1), decide (j = 2), decide (j = 3), false]
def DictOk (H : Hp) (dO : Option Addr) : Prop := dO = none ∨ ∃ d fs, dO = some d ∧ H d = some (.xd fs)
theorem DictOk.same {H H' : Hp} {dO : Option Addr} (h : DictOk H dO) (s : Same H H') : DictOk H' dO := h.imp (fun z => z) fun ⟨d, fs, a, b⟩ => ⟨d, fs, a, s _ _ b⟩
/-- the names of the five classes -/
structure Nm (mg : Str → Option Value) (BH BW BC CU BT : Addr) : Prop where
  mH : mg "BadHouse" = some (.ref BH)
  mW : mg "BadWord" = some (.ref BW)
  mC : mg "BadChoice" = some (.ref BC)
  mU : mg "Unpleased" = some (.ref CU)
  mT : mg "BadText" = some (.ref BT)
section
variable {P : Program} {w : World} {K : PySem.W.Frag} {mg : Str → Option Value} {base : Heap} {C CT CW CU BH BW BC BT : Addr}
theorem sc_lsort : FnScope ["_law_error", "_law_kinds"] ["_law_error"] (defScope S_lsort) := ⟨rfl, rfl, rfl, by decide +kernel, rfl, by decide +kernel, by decide +kernel⟩
def sp_lsort (K : PySem.W.Frag) (CW BH BW BC CU BT : Addr) : Addr → Obj → Sp := fun e oe vs H Q _ => ∃ (c : Addr) (j : Nat), vs = [.ref e] ∧ oe.cls = .ref c ∧ Kd K CW BH BW BC CU BT c j ∧ DictOk H oe.dict ∧ ∀ H', Same H H' → Q (.str (due4 j)) H'
set_option maxHeartbeats 2000000 in
theorem ok_lsort (D : Def K mg "_law_sort" S_lsort ["_law_error"]) (B : Bare mg) (ve : mg "ValueError" = none) (M : Nm mg BH BW BC CU BT) : CalE P w K mg base "_law_sort" 1 ["_law_error"] (sp_lsort K CW BH BW BC CU BT) := by
  refine D.calE (k := 0) sc_lsort (fun e oe vs H Q E h => by obtain ⟨_, _, rfl, _⟩ := h; rfl) (fun f cdv A outer s H vs Q E e oe ovs hda hr h => ?_)
  obtain ⟨c, j, rfl, ec, kd, dd, k⟩ := h
  refine ⟨_, pss_cons (ps_set (i := 1) sc_lsort.nd rfl (Or.inl rfl) (pe_lst (pa_cons (pe_isX B List.mem_cons_self hda (pv 0) rfl rfl M.mH) (pa_cons (pe_isX B List.mem_cons_self hda (pv 0) rfl rfl M.mW) (pa_cons (pe_isX B List.mem_cons_self hda (pv 0) rfl rfl M.mC) pa_nil)))))
    (pss_cons (ps_set (i := 1) sc_lsort.nd rfl (Or.inl rfl) (pe_op op_cat (pv 1) (pe_lst (pa_cons (pe_isX B List.mem_cons_self hda (pv 0) rfl rfl M.mU) (pa_cons (pe_isX B List.mem_cons_self hda (pv 0) rfl rfl M.mT) pa_nil)))))
    (pss_cons (ps_if (PW.pt (pw_or (pt_cmpR op_ne (pe_cntT (pv 1) pe_bl) pe_int (nomark _)) (pw_or1 (pt_not (pt_val (pe_isXT B List.mem_cons_self hda (pv 0) rfl rfl ve bt_ve8)))))) (pss_one (ps_ret pe_str)) pss_nil)
    (pss_one (ps_ret (pe_ix ix_list (pe_lst (pa_cons pe_str (pa_cons pe_str (pa_cons pe_str (pa_cons pe_str (pa_cons pe_str pa_nil)))))) (pe_idxT (pv 1) pe_bl) (fun _ _ => rfl)))))), ?_⟩
  have L8 : ∀ n : Nat, n ≤ 20 → n ≤ sizeLine := fun n h => by rw [sizeLine_eq]; omega
  refine ⟨_, rfl, _, c, _, rfl, kq8 kd.h0, ec, kd.xc, dd, _, rfl, _, c, _, rfl, kq8 kd.h1, ec, kd.xc, dd, _, rfl, _, c, _, rfl, kq8 kd.h2, ec, kd.xc, dd, L8 3 (by decide), fun q1 hq1 => ?_⟩
  generalize hH1 : upd H q1 (HO.lst _) = H1
  have s1 : Same H H1 := by rw [← hH1]; exact Same.laid hq1
  have e1 : H1 q1 = some (.lst [V.bl (decide (j = 0)), V.bl (decide (j = 1)), V.bl (decide (j = 2))]) := by rw [← hH1, upd_same]
  clear hH1
  refine ⟨_, rfl, _, rfl, _, c, _, rfl, kq8 kd.h3, ec, kd.xc, dd.same s1, _, rfl, _, c, _, rfl, kq8 kd.h4, ec, kd.xc, dd.same s1, L8 2 (by decide), fun q2 hq2 => ?_⟩
  generalize hH2 : upd H1 q2 (HO.lst _) = H2
  have s2 : Same H1 H2 := by rw [← hH2]; exact Same.laid hq2
  have e2 : H2 q2 = some (.lst [V.bl (decide (j = 3)), V.bl false]) := by rw [← hH2, upd_same]
  clear hH2
  refine ⟨q1, q2, _, _, rfl, rfl, s2 _ _ e1, e2, L8 5 (by decide), fun q3 hq3 => ?_⟩
  generalize hH3 : upd H2 q3 (HO.lst _) = H3
  have s3 : Same H2 H3 := by rw [← hH3]; exact Same.laid hq3
  have e3 : H3 q3 = some (.lst ((oneH j).map V.bl)) := by rw [← hH3, upd_same]; rfl
  clear hH3
  have s03 := (s1.trans s2).trans s3
  have jl := kd.jl
  have cnt : (oneH j).count true = 1 := by
    have : j = 0 ∨ j = 1 ∨ j = 2 ∨ j = 3 := by omega
    rcases this with rfl | rfl | rfl | rfl <;> rfl
  have at1 : (oneH j)[j]? = some true ∧ ∀ i, i < j → (oneH j)[i]? = some (!true) := by
    have : j = 0 ∨ j = 1 ∨ j = 2 ∨ j = 3 := by omega
    rcases this with rfl | rfl | rfl | rfl
    · exact ⟨rfl, fun i h => absurd h (Nat.not_lt_zero _)⟩
    · exact ⟨rfl, fun i h => by obtain rfl : i = 0 := by omega
                                rfl⟩
    · exact ⟨rfl, fun i h => by
        have : i = 0 ∨ i = 1 := by omega
        rcases this with rfl | rfl <;> rfl⟩
    · exact ⟨rfl, fun i h => by
        have : i = 0 ∨ i = 1 ∨ i = 2 := by omega
        rcases this with rfl | rfl | rfl <;> rfl⟩
  refine ⟨_, rfl, .inl ⟨rfl, _, SqL.of e3⟩, q3, oneH j, true, rfl, rfl, e3, rfl, _, rfl, ?_⟩
  rw [cnt]
  refine iteNS rfl ⟨_, rfl, _, c, _, rfl, kqT8 kd.hv, ec, kd.xc, dd.same s03, _, rfl, iteF ?_⟩
  refine ⟨L8 5 (by decide), fun q4 hq4 => ?_⟩
  generalize hH4 : upd H3 q4 (HO.lst _) = H4
  have s4 : Same H3 H4 := by rw [← hH4]; exact Same.laid hq4
  have e4 : H4 q4 = some (.lst [V.str (Str.ofString "house"), V.str (Str.ofString "word"), V.str (Str.ofString "choice"), V.str (Str.ofString "torn"), V.str (Str.ofString "wrong")]) := by rw [← hH4, upd_same]
  clear hH4
  refine ⟨_, rfl, .inl ⟨rfl, _, SqL.of (s4 _ _ e3)⟩, q3, oneH j, true, j, rfl, rfl, s4 _ _ e3, at1.1, at1.2, q4, _, j, _, rfl, rfl, SqL.of e4, ?_, k _ (s03.trans s4)⟩
  have : j = 0 ∨ j = 1 ∨ j = 2 ∨ j = 3 := by omega
  rcases this with rfl | rfl | rfl | rfl <;> rfl
end
end L2

end

section
set_option autoImplicit false
set_option maxRecDepth 100000
set_option linter.all false
namespace L2
open PySem PySem.Spec PyProof.Rows EoD Eo
theorem made_same {H1 : Hp} {x dx : Addr} {C : Addr} (nx : H1 x = none) (ndx : H1 dx = none) : Same H1 (upd (upd H1 dx (.own x)) x (.ins C dx [])) := fun b o e => by
  rw [upd_ne (ne_of_none e nx), upd_ne (ne_of_none e ndx)]
  exact e
theorem TornX.dict {CT : Addr} {N : Nat} {ws : List (W × W)} {H H' : Hp} {d : Addr} (t : TornX CT N ws H H' d) : DictOk H' (some d) := by
  obtain ⟨v, cs, ds, _, _, _, _, _, _, e⟩ := t
  exact .inr ⟨d, _, rfl, e⟩
def w2 : List (W × W) := [((0, true), (1, true))]
def w1 : List (W × W) := [((0, true), (0, true)), ((0, false), (0, false))]
theorem g2 : GoodH 2 w2 := ⟨by decide, by decide, by decide, fun p hp => by
  have : p = ((0, true), (1, true)) := by simpa [w2] using hp
  subst this
  exact ⟨⟨by decide, by decide⟩, ⟨by decide, by decide⟩⟩⟩
theorem g1 : GoodH 1 w1 := ⟨by decide, by decide, by decide, fun p hp => by
  have : p = ((0, true), (0, true)) ∨ p = ((0, false), (0, false)) := by simpa [w1] using hp
  rcases this with rfl | rfl
  · exact ⟨⟨by decide, by decide⟩, ⟨by decide, by decide⟩⟩
  · exact ⟨⟨by decide, by decide⟩, ⟨by decide, by decide⟩⟩⟩
theorem p1 : pleasing w1 1 = [] := by decide +kernel
/-- a door, a thing, the sort of what comes -/
inductive AskB (K : PySem.W.Frag) (H : Hp) : Int → V → Nat → Prop
  | d0n {v : V} (h : NumB K H v false) : AskB K H 0 v 0
  | d0o {i : Int} (h : ¬ (1 ≤ i ∧ i ≤ 8)) : AskB K H 0 (.int i) 0
  | d1 {v : V} (h : BadH K H (.int ((2 : Nat) : Int)) v) : AskB K H 1 v 0
  | d2 {v : V} (h : WordB K H 2 v false) : AskB K H 2 v 1
  | d3 {v : V} (h : WordB K H 2 v false) : AskB K H 3 v 1
  | d4 {v : V} (h : WordB K H 2 v false) : AskB K H 4 v 1
  | d5 {v : V} (h : WordB K H 2 v false) : AskB K H 5 v 1
  | d6 {v : V} (h : WordB K H 1 v false) : AskB K H 6 v 1
  | d7w {v : V} (h : WdsB K H 1 v false) : AskB K H 7 v 1
  | d7t {v : V} (h : WdsB K H 1 v true) : AskB K H 7 v 3
  | d8 {v : V} (h : ChoN K H 2 v) : AskB K H 8 v 2
  | d9 {v : V} : AskB K H 9 v 3
theorem AskB.same {K : PySem.W.Frag} {H H' : Hp} {d : Int} {v : V} {j : Nat} (a : AskB K H d v j) (s : Same H H') : AskB K H' d v j := by
  cases a with
  | d0n h => exact .d0n (h.same s)
  | d0o h => exact .d0o h
  | d1 h => exact .d1 (h.same s)
  | d2 h => exact .d2 (h.same s)
  | d3 h => exact .d3 (h.same s)
  | d4 h => exact .d4 (h.same s)
  | d5 h => exact .d5 (h.same s)
  | d6 h => exact .d6 (h.same s)
  | d7w h => exact .d7w (h.same s)
  | d7t h => exact .d7t (h.same s)
  | d8 h => exact .d8 (h.same s)
  | d9 => exact .d9
/-- the four classes -/
structure Kds (K : PySem.W.Frag) (CW BH BW BC CU BT : Addr) : Prop where
  kH : Kd K CW BH BW BC CU BT BH 0
  kW : Kd K CW BH BW BC CU BT BW 1
  kC : Kd K CW BH BW BC CU BT BC 2
  kU : Kd K CW BH BW BC CU BT CU 3
section
variable {P : Program} {w : World} {K : PySem.W.Frag} {mg : Str → Option Value} {base : Heap} {C CT CW CU BH BW BC BT : Addr}
theorem sc_lask : FnScope ["_law_door", "_law_thing", "_law_house", "_law_torn"] ["_law_door", "_law_thing"] (defScope S_lask) := ⟨rfl, rfl, rfl, by decide +kernel, rfl, by decide +kernel, by decide +kernel⟩
def sp_lask (K : PySem.W.Frag) (CW BH BW BC CU BT : Addr) : Sp := fun vs H _ E => ∃ (d : Int) (v : V) (j : Nat), vs = [.int d, v] ∧ AskB K H d v j ∧ ∀ H' c dO, Same H H' → Kd K CW BH BW BC CU BT c j → DictOk H' dO → E (.ref c) dO H'
set_option maxHeartbeats 4000000 in
theorem ok_lask (D : Def K mg "_law_ask" S_lask ["_law_door", "_law_thing"]) (Z : Kds K CW BH BW BC CU BT) (cm : CalMk P w K mg base C "House" 4 ["self", "names", "wishes"] (sp_init C)) (cmX : CalMkX P w K mg base C "House" 4 ["self", "names", "wishes"] (sp_initX K BH))
    (cfol : CalX P w K mg base "follows" 4 ["house", "word"] (sp_folX K C BW)) (cch : CalX P w K mg base "chain" 4 ["house", "word", "other"] (sp_chainX K C BW)) (ckeep : CalX P w K mg base "keeping" 7 ["house", "words"] (sp_keepX K C CT CU BW))
    (cdisp : CalX P w K mg base "displeased" 3 ["house", "choice"] (sp_dispX K C BC)) (csett : CalX P w K mg base "settled" 7 ["house"] (sp_sett C CT CU)) : CalX P w K mg base "_law_ask" 8 ["_law_door", "_law_thing"] (sp_lask K CW BH BW BC CU BT) := by
  refine D.calX (k := 7) sc_lask (fun vs H Q E h => by obtain ⟨_, _, _, rfl, _⟩ := h; rfl) (fun f cdv A outer s H vs Q E hr h => ?_)
  obtain ⟨d, v, j, rfl, ask, kE⟩ := h
  obtain ⟨kH, kW, kC, kU⟩ := Z
  have hr3 : Room 3 _ := hr.mono (by decide)
  have hr4 : Room 4 _ := hr.mono (by decide)
  have hr5 : Room 5 _ := hr.mono (by decide)
  have L8 : ∀ n : Nat, n ≤ 20 → n ≤ sizeLine := fun n h => by rw [sizeLine_eq]; omega
  refine ⟨_, pss_cons (ps_set (i := 2) sc_lask.nd rfl (Or.inl rfl) (pe_mk cm hr5 rfl (pa_cons pe_int (pa_cons (pe_lst (pa_cons (pe_tup (pa_cons (pe_tup (pa_cons pe_int (pa_cons pe_bl pa_nil))) (pa_cons (pe_tup (pa_cons pe_int (pa_cons pe_bl pa_nil))) pa_nil))) pa_nil)) pa_nil))))
    (pss_cons (ps_set (i := 3) sc_lask.nd rfl (Or.inl rfl) (pe_mk cm hr5 rfl (pa_cons pe_int (pa_cons (pe_lst (pa_cons (pe_tup (pa_cons (pe_tup (pa_cons pe_int (pa_cons pe_bl pa_nil))) (pa_cons (pe_tup (pa_cons pe_int (pa_cons pe_bl pa_nil))) pa_nil))) (pa_cons (pe_tup (pa_cons (pe_tup (pa_cons pe_int (pa_cons pe_bl pa_nil))) (pa_cons (pe_tup (pa_cons pe_int (pa_cons pe_bl pa_nil))) pa_nil))) pa_nil))) pa_nil))))
    (pss_one (ps_if (pt_cmpR op_eq (pv 0) pe_int (nomark _)) (pss_one (ps_expr (pe_mkX cmX hr5 rfl (thr_xp _ E) (pa_cons (pv 1) (pa_cons (pe_lst pa_nil) pa_nil)))))
      (pss_one (ps_if (pt_cmpR op_eq (pv 0) pe_int (nomark _)) (pss_one (ps_expr (pe_mkX cmX hr5 rfl (thr_xp _ E) (pa_cons pe_int (pa_cons (pv 1) pa_nil)))))
      (pss_one (ps_if (pt_cmpR op_eq (pv 0) pe_int (nomark _)) (pss_one (ps_expr (pe_calX cfol hr4 rfl (thr_xp _ E) (pa_cons (pv 2) (pa_cons (pv 1) pa_nil)))))
      (pss_one (ps_if (pt_cmpR op_eq (pv 0) pe_int (nomark _)) (pss_one (ps_expr (pe_calX cch hr4 rfl (thr_xp _ E) (pa_cons (pv 2) (pa_cons (pv 1) (pa_cons (pe_tup (pa_cons pe_int (pa_cons pe_bl pa_nil))) pa_nil))))))
      (pss_one (ps_if (pt_cmpR op_eq (pv 0) pe_int (nomark _)) (pss_one (ps_expr (pe_calX cch hr4 rfl (thr_xp _ E) (pa_cons (pv 2) (pa_cons (pe_tup (pa_cons pe_int (pa_cons pe_bl pa_nil))) (pa_cons (pv 1) pa_nil))))))
      (pss_one (ps_if (pt_cmpR op_eq (pv 0) pe_int (nomark _)) (pss_one (ps_expr (pe_calX ckeep hr rfl (thr_xp _ E) (pa_cons (pv 2) (pa_cons (pe_lst (pa_cons (pe_tup (pa_cons pe_int (pa_cons pe_bl pa_nil))) (pa_cons (pv 1) pa_nil))) pa_nil)))))
      (pss_one (ps_if (pt_cmpR op_eq (pv 0) pe_int (nomark _)) (pss_one (ps_expr (pe_calX ckeep hr rfl (thr_xp _ E) (pa_cons (pv 3) (pa_cons (pe_lst (pa_cons (pv 1) pa_nil)) pa_nil)))))
      (pss_one (ps_if (pt_cmpR op_eq (pv 0) pe_int (nomark _)) (pss_one (ps_expr (pe_calX ckeep hr rfl (thr_xp _ E) (pa_cons (pv 3) (pa_cons (pv 1) pa_nil)))))
      (pss_one (ps_if (pt_cmpR op_eq (pv 0) pe_int (nomark _)) (pss_one (ps_expr (pe_calX cdisp hr3 rfl (thr_xp _ E) (pa_cons (pv 2) (pa_cons (pv 1) pa_nil)))))
      (pss_one (ps_expr (pe_calX csett hr rfl (thr_xp _ E) (pa_cons (pv 3) pa_nil))))))))))))))))))))))), ?_⟩
  refine ⟨L8 2 (by decide), fun a1 ha1 => ?_⟩
  generalize h_a1 : upd H a1 (HO.tup _) = A1
  have t_a1 : Same H A1 := by rw [← h_a1]; exact Same.laid ha1
  have e_a1 : A1 a1 = some (.tup [V.int 0, V.bl true]) := by rw [← h_a1, upd_same]
  clear h_a1
  refine ⟨L8 2 (by decide), fun a2 ha2 => ?_⟩
  generalize h_a2 : upd A1 a2 (HO.tup _) = A2
  have t_a2 : Same A1 A2 := by rw [← h_a2]; exact Same.laid ha2
  have e_a2 : A2 a2 = some (.tup [V.int 1, V.bl true]) := by rw [← h_a2, upd_same]
  clear h_a2
  refine ⟨L8 2 (by decide), fun a3 ha3 => ?_⟩
  generalize h_a3 : upd A2 a3 (HO.tup _) = A3
  have t_a3 : Same A2 A3 := by rw [← h_a3]; exact Same.laid ha3
  have e_a3 : A3 a3 = some (.tup [V.ref a1, V.ref a2]) := by rw [← h_a3, upd_same]
  clear h_a3
  refine ⟨L8 1 (by decide), fun a4 ha4 => ?_⟩
  generalize h_a4 : upd A3 a4 (HO.lst _) = A4
  have t_a4 : Same A3 A4 := by rw [← h_a4]; exact Same.laid ha4
  have e_a4 : A4 a4 = some (.lst [V.ref a3]) := by rw [← h_a4, upd_same]
  clear h_a4
  have pu : Ps A4 [V.ref a3] w2 := .cons ⟨a3, _, _, rfl, t_a4 _ _ e_a3, ⟨a1, rfl, t_a4 _ _ (t_a3 _ _ (t_a2 _ _ e_a1))⟩, ⟨a2, rfl, t_a4 _ _ (t_a3 _ _ e_a2)⟩⟩ .nil
  refine fun x dx nx ndx ne => made_house nx ndx ne e_a4 pu g2 fun B0 sB hh0 => ?_
  have s0 := (((t_a1.trans t_a2).trans t_a3).trans t_a4).trans sB
  clear e_a1 e_a2 e_a3 e_a4 pu nx ndx ne ha1 ha2 ha3 ha4
  refine ⟨L8 2 (by decide), fun b1 hb1 => ?_⟩
  generalize h_b1 : upd B0 b1 (HO.tup _) = B1
  have t_b1 : Same B0 B1 := by rw [← h_b1]; exact Same.laid hb1
  have e_b1 : B1 b1 = some (.tup [V.int 0, V.bl true]) := by rw [← h_b1, upd_same]
  clear h_b1
  refine ⟨L8 2 (by decide), fun b2 hb2 => ?_⟩
  generalize h_b2 : upd B1 b2 (HO.tup _) = B2
  have t_b2 : Same B1 B2 := by rw [← h_b2]; exact Same.laid hb2
  have e_b2 : B2 b2 = some (.tup [V.int 0, V.bl true]) := by rw [← h_b2, upd_same]
  clear h_b2
  refine ⟨L8 2 (by decide), fun b3 hb3 => ?_⟩
  generalize h_b3 : upd B2 b3 (HO.tup _) = B3
  have t_b3 : Same B2 B3 := by rw [← h_b3]; exact Same.laid hb3
  have e_b3 : B3 b3 = some (.tup [V.ref b1, V.ref b2]) := by rw [← h_b3, upd_same]
  clear h_b3
  refine ⟨L8 2 (by decide), fun b4 hb4 => ?_⟩
  generalize h_b4 : upd B3 b4 (HO.tup _) = B4
  have t_b4 : Same B3 B4 := by rw [← h_b4]; exact Same.laid hb4
  have e_b4 : B4 b4 = some (.tup [V.int 0, V.bl false]) := by rw [← h_b4, upd_same]
  clear h_b4
  refine ⟨L8 2 (by decide), fun b5 hb5 => ?_⟩
  generalize h_b5 : upd B4 b5 (HO.tup _) = B5
  have t_b5 : Same B4 B5 := by rw [← h_b5]; exact Same.laid hb5
  have e_b5 : B5 b5 = some (.tup [V.int 0, V.bl false]) := by rw [← h_b5, upd_same]
  clear h_b5
  refine ⟨L8 2 (by decide), fun b6 hb6 => ?_⟩
  generalize h_b6 : upd B5 b6 (HO.tup _) = B6
  have t_b6 : Same B5 B6 := by rw [← h_b6]; exact Same.laid hb6
  have e_b6 : B6 b6 = some (.tup [V.ref b4, V.ref b5]) := by rw [← h_b6, upd_same]
  clear h_b6
  refine ⟨L8 2 (by decide), fun b7 hb7 => ?_⟩
  generalize h_b7 : upd B6 b7 (HO.lst _) = B7
  have t_b7 : Same B6 B7 := by rw [← h_b7]; exact Same.laid hb7
  have e_b7 : B7 b7 = some (.lst [V.ref b3, V.ref b6]) := by rw [← h_b7, upd_same]
  clear h_b7
  have u6 := t_b7
  have u5 := t_b6.trans u6
  have u4 := t_b5.trans u5
  have u3 := t_b4.trans u4
  have u2 := t_b3.trans u3
  have u1 := t_b2.trans u2
  have pu : Ps B7 [V.ref b3, V.ref b6] w1 := .cons ⟨b3, _, _, rfl, u3 _ _ e_b3, ⟨b1, rfl, u1 _ _ e_b1⟩, ⟨b2, rfl, u2 _ _ e_b2⟩⟩ (.cons ⟨b6, _, _, rfl, u6 _ _ e_b6, ⟨b4, rfl, u4 _ _ e_b4⟩, ⟨b5, rfl, u5 _ _ e_b5⟩⟩ .nil)
  refine fun y dy ny ndy ne => made_house ny ndy ne e_b7 pu g1 fun H6 sH ht => ?_
  have sb := (t_b1.trans u1).trans sH
  have s6 := s0.trans sb
  have hh := hh0.same sb
  clear e_b1 e_b2 e_b3 e_b4 e_b5 e_b6 e_b7 pu ny ndy ne
  cases ask with
  | d0n h => exact ⟨_, rfl, rfl, _, rfl, iteP rfl ⟨_, rfl, Nat.zero_le _, fun l hl x dx nx ndx ne => ⟨_, _, _, rfl, .num ((h.same s6).same ((Same.laid hl).trans (made_same nx ndx))), fun H' s' => kE H' BH none (s6.trans (((Same.laid hl).trans (made_same nx ndx)).trans s')) kH (.inl rfl)⟩⟩⟩
  | d0o h => exact ⟨_, rfl, rfl, _, rfl, iteP rfl ⟨_, rfl, Nat.zero_le _, fun l hl x dx nx ndx ne => ⟨_, _, _, rfl, .out h, fun H' s' => kE H' BH none (s6.trans (((Same.laid hl).trans (made_same nx ndx)).trans s')) kH (.inl rfl)⟩⟩⟩
  | d1 h => exact ⟨_, rfl, rfl, _, rfl, iteN (by decide) ⟨_, rfl, rfl, _, rfl, iteP rfl ⟨_, rfl, fun x dx nx ndx ne => ⟨_, _, _, rfl, (h.same s6).same (made_same nx ndx), fun H' s' => kE H' BH none (s6.trans ((made_same nx ndx).trans s')) kH (.inl rfl)⟩⟩⟩⟩
  | d2 h => exact ⟨_, rfl, rfl, _, rfl, iteN (by decide) ⟨_, rfl, rfl, _, rfl, iteN (by decide) ⟨_, rfl, rfl, _, rfl, iteP rfl ⟨_, rfl, _, rfl, _, _, 2, w2, rfl, hh, h.same s6, kE H6 BW none s6 kW (.inl rfl)⟩⟩⟩⟩
  | d3 h => exact ⟨_, rfl, rfl, _, rfl, iteN (by decide) ⟨_, rfl, rfl, _, rfl, iteN (by decide) ⟨_, rfl, rfl, _, rfl, iteN (by decide) ⟨_, rfl, rfl, _, rfl, iteP rfl ⟨_, rfl, _, rfl, L8 2 (by decide), fun q hq => ⟨_, _, _, 2, w2, false, true, rfl, hh.same (Same.laid hq), (h.same s6).same (Same.laid hq), .ok (x := (0, true)) ⟨q, rfl, upd_same⟩ ⟨by decide, by decide⟩, rfl, kE _ BW none (s6.trans (Same.laid hq)) kW (.inl rfl)⟩⟩⟩⟩⟩⟩
  | d4 h => exact ⟨_, rfl, rfl, _, rfl, iteN (by decide) ⟨_, rfl, rfl, _, rfl, iteN (by decide) ⟨_, rfl, rfl, _, rfl, iteN (by decide) ⟨_, rfl, rfl, _, rfl, iteN (by decide) ⟨_, rfl, rfl, _, rfl, iteP rfl ⟨_, rfl, L8 2 (by decide), fun q hq => ⟨_, rfl, _, _, _, 2, w2, true, false, rfl, hh.same (Same.laid hq), .ok (x := (0, true)) ⟨q, rfl, upd_same⟩ ⟨by decide, by decide⟩, (h.same s6).same (Same.laid hq), rfl, kE _ BW none (s6.trans (Same.laid hq)) kW (.inl rfl)⟩⟩⟩⟩⟩⟩⟩
  | d5 h =>
    have two5 : ∀ {q l : Addr}, H6 q = none → upd H6 q (HO.tup [V.int 0, V.bl true]) l = none → sp_keepX K C CT CU BW [V.ref x, V.ref l] (upd (upd H6 q (HO.tup [V.int 0, V.bl true])) l (HO.lst [V.ref q, v])) (fun _ _ => False) E := by
      intro q l hq hl
      have s7 : Same H6 (upd H6 q (HO.tup [V.int 0, V.bl true])) := Same.laid hq
      have s8 : Same (upd H6 q (HO.tup [V.int 0, V.bl true])) (upd (upd H6 q (HO.tup [V.int 0, V.bl true])) l (HO.lst [V.ref q, v])) := Same.laid hl
      have s9 := s7.trans s8
      exact ⟨_, _, 2, w2, _, rfl, hh.same s9, g2, .ws (bs := [true, false]) upd_same (.cons (.ok (x := (0, true)) ⟨q, rfl, s8 _ _ upd_same⟩ ⟨by decide, by decide⟩) (.cons ((h.same s6).same s9) .nil)), fun _ => kE _ BW none (s6.trans s9) kW (.inl rfl), fun z => nomatch z⟩
    exact ⟨_, rfl, rfl, _, rfl, iteN (by decide) ⟨_, rfl, rfl, _, rfl, iteN (by decide) ⟨_, rfl, rfl, _, rfl, iteN (by decide) ⟨_, rfl, rfl, _, rfl, iteN (by decide) ⟨_, rfl, rfl, _, rfl, iteN (by decide) ⟨_, rfl, rfl, _, rfl, iteP rfl ⟨_, rfl, L8 2 (by decide), fun q hq => ⟨_, rfl, L8 2 (by decide), fun l hl => two5 hq hl⟩⟩⟩⟩⟩⟩⟩⟩
  | d6 h => exact ⟨_, rfl, rfl, _, rfl, iteN (by decide) ⟨_, rfl, rfl, _, rfl, iteN (by decide) ⟨_, rfl, rfl, _, rfl, iteN (by decide) ⟨_, rfl, rfl, _, rfl, iteN (by decide) ⟨_, rfl, rfl, _, rfl, iteN (by decide) ⟨_, rfl, rfl, _, rfl, iteN (by decide) ⟨_, rfl, rfl, _, rfl, iteP rfl ⟨_, rfl, _, rfl, L8 1 (by decide), fun l hl => ⟨_, _, 1, w1, _, rfl, ht.same (Same.laid hl), g1, .ws (bs := [false]) upd_same (.cons ((h.same s6).same (Same.laid hl)) .nil), fun _ => kE _ BW none (s6.trans (Same.laid hl)) kW (.inl rfl), fun z => nomatch z⟩⟩⟩⟩⟩⟩⟩⟩⟩
  | d7w h => exact ⟨_, rfl, rfl, _, rfl, iteN (by decide) ⟨_, rfl, rfl, _, rfl, iteN (by decide) ⟨_, rfl, rfl, _, rfl, iteN (by decide) ⟨_, rfl, rfl, _, rfl, iteN (by decide) ⟨_, rfl, rfl, _, rfl, iteN (by decide) ⟨_, rfl, rfl, _, rfl, iteN (by decide) ⟨_, rfl, rfl, _, rfl, iteN (by decide) ⟨_, rfl, rfl, _, rfl, iteP rfl ⟨_, rfl, _, rfl, _, _, 1, w1, false, rfl, ht, g1, h.same s6, fun _ => kE _ BW none s6 kW (.inl rfl), fun z => nomatch z⟩⟩⟩⟩⟩⟩⟩⟩⟩
  | d7t h => exact ⟨_, rfl, rfl, _, rfl, iteN (by decide) ⟨_, rfl, rfl, _, rfl, iteN (by decide) ⟨_, rfl, rfl, _, rfl, iteN (by decide) ⟨_, rfl, rfl, _, rfl, iteN (by decide) ⟨_, rfl, rfl, _, rfl, iteN (by decide) ⟨_, rfl, rfl, _, rfl, iteN (by decide) ⟨_, rfl, rfl, _, rfl, iteN (by decide) ⟨_, rfl, rfl, _, rfl, iteP rfl ⟨_, rfl, _, rfl, _, _, 1, w1, true, rfl, ht, g1, h.same s6, (fun z => nomatch z), fun _ => ⟨p1, fun H' d s' t => kE _ CU (some d) (s6.trans s') kU t.dict⟩⟩⟩⟩⟩⟩⟩⟩⟩⟩
  | d8 h => exact ⟨_, rfl, rfl, _, rfl, iteN (by decide) ⟨_, rfl, rfl, _, rfl, iteN (by decide) ⟨_, rfl, rfl, _, rfl, iteN (by decide) ⟨_, rfl, rfl, _, rfl, iteN (by decide) ⟨_, rfl, rfl, _, rfl, iteN (by decide) ⟨_, rfl, rfl, _, rfl, iteN (by decide) ⟨_, rfl, rfl, _, rfl, iteN (by decide) ⟨_, rfl, rfl, _, rfl, iteN (by decide) ⟨_, rfl, rfl, _, rfl, iteP rfl ⟨_, rfl, _, rfl, _, _, 2, w2, rfl, hh, by decide, h.same s6, fun H' s' => kE _ BC none (s6.trans s') kC (.inl rfl)⟩⟩⟩⟩⟩⟩⟩⟩⟩⟩
  | d9 => exact ⟨_, rfl, rfl, _, rfl, iteN (by decide) ⟨_, rfl, rfl, _, rfl, iteN (by decide) ⟨_, rfl, rfl, _, rfl, iteN (by decide) ⟨_, rfl, rfl, _, rfl, iteN (by decide) ⟨_, rfl, rfl, _, rfl, iteN (by decide) ⟨_, rfl, rfl, _, rfl, iteN (by decide) ⟨_, rfl, rfl, _, rfl, iteN (by decide) ⟨_, rfl, rfl, _, rfl, iteN (by decide) ⟨_, rfl, rfl, _, rfl, iteN (by decide) ⟨_, rfl, _, 1, w1, rfl, ht, g1, fun ne => absurd p1 ne, fun _ H' d s' t => kE _ CU (some d) (s6.trans s') kU t.dict⟩⟩⟩⟩⟩⟩⟩⟩⟩⟩
end
end L2

end

section
set_option autoImplicit false
set_option maxRecDepth 100000
set_option linter.all false
namespace L2
open PySem PySem.Spec PyProof.Rows EoD Eo
section
variable {P : Program} {w : World} {K : PySem.W.Frag} {mg : Str → Option Value} {base : Heap} {C CT CW CU BH BW BC BT : Addr}
theorem sc_lasked : FnScope ["_law_door", "_law_thing", "_law_error"] ["_law_door", "_law_thing"] (defScope S_lasked) := ⟨rfl, rfl, rfl, by decide +kernel, rfl, by decide +kernel, by decide +kernel⟩
def sp_lasked (K : PySem.W.Frag) : Sp := fun vs H Q _ => ∃ (d : Int) (v : V) (j : Nat), vs = [.int d, v] ∧ AskB K H d v j ∧ ∀ H', Same H H' → Q (.str (due4 j)) H'
theorem ok_lasked (D : Def K mg "_law_asked" S_lasked ["_law_door", "_law_thing"]) (mW : mg "WishError" = some (.ref CW)) (cW : PySem.W.CatchOf K CW) (ca : CalX P w K mg base "_law_ask" 8 ["_law_door", "_law_thing"] (sp_lask K CW BH BW BC CU BT)) (cs' : CalE P w K mg base "_law_sort" 1 ["_law_error"] (sp_lsort K CW BH BW BC CU BT)) :
    Cal P w K mg base "_law_asked" 9 ["_law_door", "_law_thing"] (sp_lasked K) := by
  refine D.cal (k := 8) sc_lasked (fun vs H Q E h => by obtain ⟨_, _, _, rfl, _⟩ := h; rfl) (fun f cdv A outer s H vs Q E hr h => ?_)
  obtain ⟨d, v, j, rfl, ask, k⟩ := h
  have hr1 : ∀ e : Addr, RoomH 1 ((A.deeper (envOfC "_law_asked" (defScope S_lasked) s.heap.objs.size f cdv)).mark (some (.ref e))) := fun e => (⟨hr.dp, hr.un⟩ : RoomH 8 ((A.deeper (envOfC "_law_asked" (defScope S_lasked) s.heap.objs.size f cdv)).mark (some (.ref e)))).mono (by decide)
  refine ⟨_, pss_cons (ps_try (i := 2) ca hr rfl ⟨rfl, rfl⟩ (fun _ => pa_cons (pv 0) (pa_cons (pv 1) pa_nil)) rfl mW cW sc_lasked.nd rfl rfl (fun e oe ovs hda => pss_one (ps_ret (pe_calE cs' (hr1 e) mem_hcx hda rfl (pa_cons (pv 2) pa_nil)))))
    (pss_one (ps_ret pe_str)), ?_⟩
  exact ⟨_, rfl, _, rfl, d, v, j, rfl, ask, fun H1 c dO s1 kd dk => ⟨c, rfl, kd.up, fun e oe he ec ed => ⟨_, rfl, c, j, rfl, ec, kd, by rw [ed]; exact dk, fun H2 s2 => k H2 (s1.trans s2)⟩⟩⟩
abbrev N_lall : List Str := ["_law_doors", "_law_things", "_law_due", "_law_door"]
theorem sc_lall : FnScope N_lall ["_law_doors", "_law_things", "_law_due"] (defScope S_lall) := ⟨rfl, rfl, rfl, by decide +kernel, rfl, by decide +kernel, by decide +kernel⟩
def sp_lall (K : PySem.W.Frag) : Sp := fun vs H Q _ => ∃ (a b : Addr) (ds : List Int) (us : List V) (j : Nat), vs = [.ref a, .ref b, .str (due4 j)] ∧ H a = some (.lst (ds.map V.int)) ∧ H b = some (.lst us) ∧ us.length ≤ 1000 ∧ (∀ d ∈ ds, ∀ v ∈ us, AskB K H d v j) ∧ ∀ H', Same H H' → Q (.bl true) H'
abbrev te_lall (K : PySem.W.Frag) : TE := tOp rEq (tCall (sp_lasked K) [] E0 (tCons (tVar 1) (tCons (tVar 0) tNil))) (tVar 2)
set_option maxHeartbeats 2000000 in
theorem ok_lall (D : Def K mg "_law_all" S_lall ["_law_doors", "_law_things", "_law_due"]) (B : Bare mg) (ca : Cal P w K mg base "_law_asked" 9 ["_law_door", "_law_thing"] (sp_lasked K)) : Cal P w K mg base "_law_all" 10 ["_law_doors", "_law_things", "_law_due"] (sp_lall K) := by
  refine D.cal (k := 9) sc_lall (fun vs H Q E h => by obtain ⟨_, _, _, _, _, rfl, _⟩ := h; rfl) (fun f cdv A outer s H vs Q E hr h => ?_)
  obtain ⟨a, b, ds, us, j, rfl, ea, eb, lu, ask, k⟩ := h
  refine ⟨_, pss_cons (ps_for PassesOwn.never rfl (pi_list (pv 0)) (pg_name (i := 3) sc_lall.nd rfl (Or.inr rfl))
      (pss_one (ps_if (pt_not (pt_val (pe_callB (call_allB rfl) rfl B.all bt_all (pa_cons (pe_comp (tc := tYes) (te := te_lall K) rfl ⟨rfl, by decide +kernel, rfl, by decide +kernel, AllFree.all (by repeat (first | exact trivial | refine ⟨?_, ?_⟩ | (intro e; cases e <;> fail) | (intro _; rfl)))⟩
        (ys := ["_law_door", "_law_due"]) (js := [3, 2]) ⟨rfl, rfl, rfl, rfl, rfl, rfl, trivial⟩ (by decide +kernel) (pi_list (pv 1)) (fun _ _ _ _ _ => pifs_nil) (fun _ _ _ _ _ => pe_cmpR op_eq (pe_cal ca hr rfl (pa_cons (pv 1) (pa_cons (pv 0) pa_nil))) (pv 2) (nomark _))) pa_nil)))) (pss_one (ps_ret pe_bl)) pss_nil)))
    (pss_one (ps_ret pe_bl)), ?_⟩
  refine ⟨_, rfl, a, rfl, ⟨_, SqL.of ea⟩, ?_⟩
  refine for_list (K := K) (a := a) (xs := ds.map V.int) (fun i σ H2 => Same H H2 ∧ ∃ z, σ = [some (.ref a), some (.ref b), some (.str (due4 j)), z]) ⟨Same.refl _, none, rfl⟩ (fun i σ H2 _ ⟨z, _⟩ => SqL.of (z _ _ ea)) ?_ ?_
  · rintro i y σ H2 hi ⟨s2, z, rfl⟩
    obtain ⟨d, hd, rfl⟩ : ∃ d, ds[i]? = some d ∧ V.int d = y := by
      rw [List.getElem?_map] at hi
      exact Option.map_eq_some_iff.mp hi
    have eb2 := s2 _ _ eb
    refine ⟨_, rfl, b, rfl, ⟨_, SqL.of eb2⟩, fun Dd hD => ?_⟩
    refine bools1 (J := Itl K b) (n := us.length) (f := fun _ => true) hD (by rw [sizeLine_eq]; omega) (fun i H' hi s => itl_go s (SqL.of eb2) hi) (fun H' s => itl_stop s (SqL.of eb2)) ?_ ?_
    · intro n x H' H'' Q' hn s y kk
      obtain ⟨rfl, hx⟩ := itl_yld s (SqL.of eb2) y
      refine ⟨_, rfl, _, rfl, d, x, j, rfl, (ask d (List.mem_of_getElem? hd) x (List.mem_of_getElem? hx)).same (s2.trans s), fun H3 s3 => ⟨_, rfl, rfl, ?_⟩⟩
      have z := kk H3 s3
      rw [decide_eq_true rfl]
      exact z
    · intro H' s eD
      refine ⟨Dd, _, rfl, SqL.of eD, _, rfl, ?_⟩
      have : ((List.range us.length).map fun _ => true).all id = true := by simp
      rw [this]
      exact iteF ⟨s2.trans s, _, rfl⟩
  · rintro σ H2 ⟨s2, z, rfl⟩
    exact k H2 s2
end
end L2

end

section
set_option autoImplicit false
set_option maxRecDepth 100000
set_option linter.all false
namespace L2
open PySem PySem.Spec PyProof.Rows EoD Eo
theorem ps_setE {X : Cx} {x : Str} {e : Expr} {te : TE} {pos pos' : Pos} (i : Nat) (hN : X.N.Nodup) (hi : X.N[i]? = some x) (hx : Loc X.env.scope x) (he : PE X e te) (hs : swapsWith e (some (.Name x pos')) pos.line X.env = pure false) (hf : X.fn x = true ∨ X.env.scope.names.lookup x = some .local) :
    PS X (.Assign [.Name x pos'] e pos) (tAsg te (gName i)) := ps_set (i := i) hN hi hx he hs hf
theorem pss_consD {X : Cx} {body : List Stmt} {n : Nat} {st : Stmt} {t u : TS} (e : body.drop n = st :: body.drop (n + 1)) (h1 : PS X st t) (h2 : PSs X (body.drop (n + 1)) u) : PSs X (body.drop n) (tSeq t u) := by
  rw [e]
  exact pss_cons h1 h2
abbrev N_law : List Str := ["_law_script", "_law_more", "_law_yes", "_law_wishes", "_law_words", "_law_choices"]
theorem sc_law : FnScope N_law ["_law_script"] (defScope S_law) := ⟨rfl, rfl, rfl, by decide +kernel, rfl, by decide +kernel, by decide +kernel⟩
structure Calls8 (P : Program) (w : World) (K : PySem.W.Frag) (mg : Str → Option Value) (base : Heap) (C CT CU : Addr) : Prop where
  B : Bare mg
  T : TxtH K C
  cell : Cal P w K mg base "_law_cell_at" 1 ["_law_script", "_law_k"] (sp_cell K)
  all : Cal P w K mg base "_law_all" 10 ["_law_doors", "_law_things", "_law_due"] (sp_lall K)
  make : CalMk P w K mg base C "House" 4 ["self", "names", "wishes"] (sp_init C)
  wish : CalW P w K mg base C
  many : Cal P w K mg base "how_many" 5 ["house"] (sp_many C)
  sett : CalX P w K mg base "settled" 7 ["house"] (sp_sett C CT CU)
/-- the statements from the n-th on end well -/
def Go8 (P : Program) (w : World) (K : PySem.W.Frag) (mg : Str → Option Value) (base : Heap) (f : Addr) (cdv : Value) (A : Around) (outer : List Env) (s : Shared) (H0 : Hp) (E : XK) (Q : VK) (n : Nat) : Prop :=
  ∃ u, PSs (cxOf CX0 P w K mg base N_law "law" (defScope S_law) f cdv A outer s H0 E).nox ((defBody S_law).drop n) u ∧ ∀ (H1 : Hp) (m : Int) (ay : Addr) (v0 : V) (z3 z4 z5 : Option V), 0 ≤ m → H1 ay = some (.tup [V.int 0, V.bl true]) →
    u { nx := fun _ H' => Q .non H', rt := Q } [some v0, some (.int m), some (.ref ay), z3, z4, z5] H1
section
variable {P : Program} {w : World} {K : PySem.W.Frag} {mg : Str → Option Value} {base : Heap} {C CT CU : Addr}
set_option maxHeartbeats 4000000 in
theorem l8_B (Z : Calls8 P w K mg base C CT CU) {f : Addr} {cdv : Value} {A : Around} {outer : List Env} {s : Shared} {H0 : Hp} {E : XK} {Q : VK} (hr : Room 10 (A.deeper (envOfC "law" (defScope S_law) s.heap.objs.size f cdv))) (kQ : ∀ H', Q (.bl true) H')
    (R : Go8 P w K mg base f cdv A outer s H0 E Q 8) : Go8 P w K mg base f cdv A outer s H0 E Q 3 := by
  have L8 : ∀ n : Nat, n ≤ 20 → n ≤ sizeLine := fun n h => by rw [sizeLine_eq]; omega
  have L9 : ∀ n : Nat, n ≤ 20 → n < sizeLine := fun n h => by rw [sizeLine_eq]; omega
  obtain ⟨u, pu, go⟩ := R
  refine ⟨_, (@pss_consD _ (defBody S_law) 3 _ _ _ rfl (@ps_setE _ _ _ _ _ _ 3 sc_law.nd rfl (Or.inl rfl) (@pe_lst _ _ _ _ (@pa_cons _ _ _ _ _ pe_non (@pa_cons _ _ _ _ _ (@pe_tup _ _ _ _ _ pa_nil) (@pa_cons _ _ _ _ _ pe_str (@pa_cons _ _ _ _ _ (@pe_tup _ _ _ _ _ (@pa_cons _ _ _ _ _ (@pe_tup _ _ _ _ _ (@pa_cons _ _ _ _ _ (pv 2) (@pa_cons _ _ _ _ _ (pv 2) pa_nil rfl) rfl)) pa_nil rfl)) (@pa_cons _ _ _ _ _ (@pe_lst _ _ _ _ (@pa_cons _ _ _ _ _ (pv 2) pa_nil rfl)) (@pa_cons _ _ _ _ _ (@pe_lst _ _ _ _ (@pa_cons _ _ _ _ _ (@pe_lst _ _ _ _ (@pa_cons _ _ _ _ _ (pv 2) (@pa_cons _ _ _ _ _ (pv 2) pa_nil rfl) rfl)) pa_nil rfl)) (@pa_cons _ _ _ _ _ (@pe_lst _ _ _ _ (@pa_cons _ _ _ _ _ (@pe_tup _ _ _ _ _ (@pa_cons _ _ _ _ _ (pv 2) pa_nil rfl)) pa_nil rfl)) (@pa_cons _ _ _ _ _ (@pe_lst _ _ _ _ (@pa_cons _ _ _ _ _ (@pe_tup _ _ _ _ _ (@pa_cons _ _ _ _ _ (pv 2) (@pa_cons _ _ _ _ _ (pv 2) (@pa_cons _ _ _ _ _ (pv 2) pa_nil rfl) rfl) rfl)) pa_nil rfl)) (@pa_cons _ _ _ _ _ (@pe_lst _ _ _ _ (@pa_cons _ _ _ _ _ (@pe_tup _ _ _ _ _ (@pa_cons _ _ _ _ _ (pv 2) (@pa_cons _ _ _ _ _ pe_int pa_nil rfl) rfl)) pa_nil rfl)) pa_nil rfl) rfl) rfl) rfl) rfl) rfl) rfl) rfl) rfl)) rfl (by first | exact .inl rfl | exact .inr rfl | assumption))
    (@pss_consD _ (defBody S_law) 4 _ _ _ rfl (ps_app (pv 3) (@pe_lst _ _ _ _ (@pa_cons _ _ _ _ _ (@pe_tup _ _ _ _ _ (@pa_cons _ _ _ _ _ (pv 2) (@pa_cons _ _ _ _ _ (@pe_tup _ _ _ _ _ (@pa_cons _ _ _ _ _ pe_int (@pa_cons _ _ _ _ _ pe_bl pa_nil rfl) rfl)) pa_nil rfl) rfl)) pa_nil rfl)))
    (@pss_consD _ (defBody S_law) 5 _ _ _ rfl (@ps_setE _ _ _ _ _ _ 3 sc_law.nd rfl (Or.inl rfl) (pe_op op_cat (pv 3) (@pe_lst _ _ _ _ (@pa_cons _ _ _ _ _ (@pe_lst _ _ _ _ (@pa_cons _ _ _ _ _ (@pe_tup _ _ _ _ _ (@pa_cons _ _ _ _ _ (@pe_tup _ _ _ _ _ (@pa_cons _ _ _ _ _ (pe_op op_add pe_int (pv 1)) (@pa_cons _ _ _ _ _ pe_bl pa_nil rfl) rfl)) (@pa_cons _ _ _ _ _ (pv 2) pa_nil rfl) rfl)) pa_nil rfl)) (@pa_cons _ _ _ _ _ (@pe_lst _ _ _ _ (@pa_cons _ _ _ _ _ (@pe_tup _ _ _ _ _ (@pa_cons _ _ _ _ _ (@pe_tup _ _ _ _ _ (@pa_cons _ _ _ _ _ (pe_op op_sub pe_m1 (pv 1)) (@pa_cons _ _ _ _ _ pe_bl pa_nil rfl) rfl)) (@pa_cons _ _ _ _ _ (pv 2) pa_nil rfl) rfl)) pa_nil rfl)) (@pa_cons _ _ _ _ _ (@pe_lst _ _ _ _ (@pa_cons _ _ _ _ _ (@pe_tup _ _ _ _ _ (@pa_cons _ _ _ _ _ (pv 2) (@pa_cons _ _ _ _ _ (@pe_tup _ _ _ _ _ (@pa_cons _ _ _ _ _ pe_int (@pa_cons _ _ _ _ _ pe_int pa_nil rfl) rfl)) pa_nil rfl) rfl)) pa_nil rfl)) (@pa_cons _ _ _ _ _ (@pe_lst _ _ _ _ (@pa_cons _ _ _ _ _ (@pe_tup _ _ _ _ _ (@pa_cons _ _ _ _ _ (pv 2) (@pa_cons _ _ _ _ _ (@pe_lst _ _ _ _ (@pa_cons _ _ _ _ _ pe_int (@pa_cons _ _ _ _ _ pe_bl pa_nil rfl) rfl)) pa_nil rfl) rfl)) pa_nil rfl)) pa_nil rfl) rfl) rfl) rfl))) rfl (by first | exact .inl rfl | exact .inr rfl | assumption))
    (@pss_consD _ (defBody S_law) 6 _ _ _ rfl (@ps_setE _ _ _ _ _ _ 3 sc_law.nd rfl (Or.inl rfl) (pe_op op_cat (pv 3) (@pe_lst _ _ _ _ (@pa_cons _ _ _ _ _ (@pe_lst _ _ _ _ (@pa_cons _ _ _ _ _ (@pe_tup _ _ _ _ _ (@pa_cons _ _ _ _ _ (pv 2) (@pa_cons _ _ _ _ _ (@pe_tup _ _ _ _ _ (@pa_cons _ _ _ _ _ pe_bl (@pa_cons _ _ _ _ _ pe_bl pa_nil rfl) rfl)) pa_nil rfl) rfl)) pa_nil rfl)) (@pa_cons _ _ _ _ _ (pe_op op_rep (@pe_lst _ _ _ _ (@pa_cons _ _ _ _ _ (@pe_tup _ _ _ _ _ (@pa_cons _ _ _ _ _ (pv 2) (@pa_cons _ _ _ _ _ (pv 2) pa_nil rfl) rfl)) pa_nil rfl)) pe_int) pa_nil rfl) rfl))) rfl (by first | exact .inl rfl | exact .inr rfl | assumption))
    (@pss_consD _ (defBody S_law) 7 _ _ _ rfl (ps_if (pt_not (pt_val (pe_cal Z.all hr rfl (@pa_cons _ _ _ _ _ (@pe_lst _ _ _ _ (@pa_cons _ _ _ _ _ pe_int pa_nil rfl)) (@pa_cons _ _ _ _ _ (pv 3) (@pa_cons _ _ _ _ _ pe_str pa_nil rfl) rfl) rfl)))) (pss_one (ps_ret pe_bl)) pss_nil)
    (by assumption)))))), fun H1 m ay v0 z3 z4 z5 hm ey => ?_⟩
  refine ⟨L8 0 (by decide), fun a1 h_a1 => ?_⟩
  generalize z_a1 : upd H1 a1 (HO.tup _) = G1
  have t_a1 : Same H1 G1 := by rw [← z_a1]; exact Same.laid h_a1
  have e_a1 : G1 a1 = some (.tup []) := by rw [← z_a1, upd_same]
  clear z_a1
  refine ⟨_, rfl, _, rfl, L8 2 (by decide), fun a2 h_a2 => ?_⟩
  generalize z_a2 : upd G1 a2 (HO.tup _) = G2
  have t_a2 : Same G1 G2 := by rw [← z_a2]; exact Same.laid h_a2
  have e_a2 : G2 a2 = some (.tup [V.ref ay, V.ref ay]) := by rw [← z_a2, upd_same]
  clear z_a2
  refine ⟨L8 1 (by decide), fun a3 h_a3 => ?_⟩
  generalize z_a3 : upd G2 a3 (HO.tup _) = G3
  have t_a3 : Same G2 G3 := by rw [← z_a3]; exact Same.laid h_a3
  have e_a3 : G3 a3 = some (.tup [V.ref a2]) := by rw [← z_a3, upd_same]
  clear z_a3
  refine ⟨_, rfl, L8 1 (by decide), fun a4 h_a4 => ?_⟩
  generalize z_a4 : upd G3 a4 (HO.lst _) = G4
  have t_a4 : Same G3 G4 := by rw [← z_a4]; exact Same.laid h_a4
  have e_a4 : G4 a4 = some (.lst [V.ref ay]) := by rw [← z_a4, upd_same]
  clear z_a4
  refine ⟨_, rfl, _, rfl, L8 2 (by decide), fun a5 h_a5 => ?_⟩
  generalize z_a5 : upd G4 a5 (HO.lst _) = G5
  have t_a5 : Same G4 G5 := by rw [← z_a5]; exact Same.laid h_a5
  have e_a5 : G5 a5 = some (.lst [V.ref ay, V.ref ay]) := by rw [← z_a5, upd_same]
  clear z_a5
  refine ⟨L8 1 (by decide), fun a6 h_a6 => ?_⟩
  generalize z_a6 : upd G5 a6 (HO.lst _) = G6
  have t_a6 : Same G5 G6 := by rw [← z_a6]; exact Same.laid h_a6
  have e_a6 : G6 a6 = some (.lst [V.ref a5]) := by rw [← z_a6, upd_same]
  clear z_a6
  refine ⟨_, rfl, L8 1 (by decide), fun a7 h_a7 => ?_⟩
  generalize z_a7 : upd G6 a7 (HO.tup _) = G7
  have t_a7 : Same G6 G7 := by rw [← z_a7]; exact Same.laid h_a7
  have e_a7 : G7 a7 = some (.tup [V.ref ay]) := by rw [← z_a7, upd_same]
  clear z_a7
  refine ⟨L8 1 (by decide), fun a8 h_a8 => ?_⟩
  generalize z_a8 : upd G7 a8 (HO.lst _) = G8
  have t_a8 : Same G7 G8 := by rw [← z_a8]; exact Same.laid h_a8
  have e_a8 : G8 a8 = some (.lst [V.ref a7]) := by rw [← z_a8, upd_same]
  clear z_a8
  refine ⟨_, rfl, _, rfl, _, rfl, L8 3 (by decide), fun a9 h_a9 => ?_⟩
  generalize z_a9 : upd G8 a9 (HO.tup _) = G9
  have t_a9 : Same G8 G9 := by rw [← z_a9]; exact Same.laid h_a9
  have e_a9 : G9 a9 = some (.tup [V.ref ay, V.ref ay, V.ref ay]) := by rw [← z_a9, upd_same]
  clear z_a9
  refine ⟨L8 1 (by decide), fun a10 h_a10 => ?_⟩
  generalize z_a10 : upd G9 a10 (HO.lst _) = G10
  have t_a10 : Same G9 G10 := by rw [← z_a10]; exact Same.laid h_a10
  have e_a10 : G10 a10 = some (.lst [V.ref a9]) := by rw [← z_a10, upd_same]
  clear z_a10
  refine ⟨_, rfl, L8 2 (by decide), fun a11 h_a11 => ?_⟩
  generalize z_a11 : upd G10 a11 (HO.tup _) = G11
  have t_a11 : Same G10 G11 := by rw [← z_a11]; exact Same.laid h_a11
  have e_a11 : G11 a11 = some (.tup [V.ref ay, V.int 1]) := by rw [← z_a11, upd_same]
  clear z_a11
  refine ⟨L8 1 (by decide), fun a12 h_a12 => ?_⟩
  generalize z_a12 : upd G11 a12 (HO.lst _) = G12
  have t_a12 : Same G11 G12 := by rw [← z_a12]; exact Same.laid h_a12
  have e_a12 : G12 a12 = some (.lst [V.ref a11]) := by rw [← z_a12, upd_same]
  clear z_a12
  refine ⟨L8 9 (by decide), fun a13 h_a13 => ?_⟩
  generalize z_a13 : upd G12 a13 (HO.lst _) = G13
  have t_a13 : Same G12 G13 := by rw [← z_a13]; exact Same.laid h_a13
  have e_a13 : G13 a13 = some (.lst [V.non, V.ref a1, V.str (Str.ofString ""), V.ref a3, V.ref a4, V.ref a6, V.ref a8, V.ref a10, V.ref a12]) := by rw [← z_a13, upd_same]
  clear z_a13
  refine ⟨_, rfl, .inl ⟨rfl, _, SqL.of e_a13⟩, _, rfl, L8 2 (by decide), fun a14 h_a14 => ?_⟩
  generalize z_a14 : upd G13 a14 (HO.tup _) = G14
  have t_a14 : Same G13 G14 := by rw [← z_a14]; exact Same.laid h_a14
  have e_a14 : G14 a14 = some (.tup [V.int 2, V.bl true]) := by rw [← z_a14, upd_same]
  clear z_a14
  refine ⟨L8 2 (by decide), fun a15 h_a15 => ?_⟩
  generalize z_a15 : upd G14 a15 (HO.tup _) = G15
  have t_a15 : Same G14 G15 := by rw [← z_a15]; exact Same.laid h_a15
  have e_a15 : G15 a15 = some (.tup [V.ref ay, V.ref a14]) := by rw [← z_a15, upd_same]
  clear z_a15
  refine ⟨L8 1 (by decide), fun a16 h_a16 => ?_⟩
  generalize z_a16 : upd G15 a16 (HO.lst _) = G16
  have t_a16 : Same G15 G16 := by rw [← z_a16]; exact Same.laid h_a16
  have e_a16 : G16 a16 = some (.lst [V.ref a15]) := by rw [← z_a16, upd_same]
  clear z_a16
  refine ⟨a13, _, _, rfl, rfl, (t_a16 _ _ (t_a15 _ _ (t_a14 _ _ e_a13))), L9 9 (by decide), ?_⟩
  have S_G12 : Same G12 G12 := Same.refl _
  have S_G11 : Same G11 G12 := t_a12.trans S_G12
  have S_G10 : Same G10 G12 := t_a11.trans S_G11
  have S_G9 : Same G9 G12 := t_a10.trans S_G10
  have S_G8 : Same G8 G12 := t_a9.trans S_G9
  have S_G7 : Same G7 G12 := t_a8.trans S_G8
  have S_G6 : Same G6 G12 := t_a7.trans S_G7
  have S_G5 : Same G5 G12 := t_a6.trans S_G6
  have S_G4 : Same G4 G12 := t_a5.trans S_G5
  have S_G3 : Same G3 G12 := t_a4.trans S_G4
  have S_G2 : Same G2 G12 := t_a3.trans S_G3
  have S_G1 : Same G1 G12 := t_a2.trans S_G2
  have S_H1 : Same H1 G12 := t_a1.trans S_G1
  have n_ay := ne_of_none (S_H1 _ _ ey) h_a13
  have n_a1 := ne_of_none (S_G1 _ _ e_a1) h_a13
  have n_a2 := ne_of_none (S_G2 _ _ e_a2) h_a13
  have n_a3 := ne_of_none (S_G3 _ _ e_a3) h_a13
  have n_a4 := ne_of_none (S_G4 _ _ e_a4) h_a13
  have n_a5 := ne_of_none (S_G5 _ _ e_a5) h_a13
  have n_a6 := ne_of_none (S_G6 _ _ e_a6) h_a13
  have n_a7 := ne_of_none (S_G7 _ _ e_a7) h_a13
  have n_a8 := ne_of_none (S_G8 _ _ e_a8) h_a13
  have n_a9 := ne_of_none (S_G9 _ _ e_a9) h_a13
  have n_a10 := ne_of_none (S_G10 _ _ e_a10) h_a13
  have n_a11 := ne_of_none (S_G11 _ _ e_a11) h_a13
  have n_a12 := ne_of_none e_a12 h_a13
  have n_a14 := (ne_of_none e_a13 h_a14).symm
  have n_a15 := (ne_of_none (t_a14 _ _ e_a13) h_a15).symm
  have n_a16 := (ne_of_none (t_a15 _ _ (t_a14 _ _ e_a13)) h_a16).symm
  have S_G16 : Same G16 G16 := Same.refl _
  have S_G15 : Same G15 G16 := t_a16.trans S_G16
  have S_G14 : Same G14 G16 := t_a15.trans S_G15
  have S_G13 : Same G13 G16 := t_a14.trans S_G14
  have S_G12 : Same G12 G16 := t_a13.trans S_G13
  have S_G11 : Same G11 G16 := t_a12.trans S_G12
  have S_G10 : Same G10 G16 := t_a11.trans S_G11
  have S_G9 : Same G9 G16 := t_a10.trans S_G10
  have S_G8 : Same G8 G16 := t_a9.trans S_G9
  have S_G7 : Same G7 G16 := t_a8.trans S_G8
  have S_G6 : Same G6 G16 := t_a7.trans S_G7
  have S_G5 : Same G5 G16 := t_a6.trans S_G6
  have S_G4 : Same G4 G16 := t_a5.trans S_G5
  have S_G3 : Same G3 G16 := t_a4.trans S_G4
  have S_G2 : Same G2 G16 := t_a3.trans S_G3
  have S_G1 : Same G1 G16 := t_a2.trans S_G2
  have S_H1 : Same H1 G16 := t_a1.trans S_G1
  generalize z_b : upd G16 a13 (HO.lst _) = Hb
  have ey : Hb ay = some (.tup [V.int 0, V.bl true]) := by rw [← z_b, upd_ne n_ay]; exact (S_H1 _ _ ey)
  have e_a1 : Hb a1 = some (.tup []) := by rw [← z_b, upd_ne n_a1]; exact (S_G1 _ _ e_a1)
  have e_a2 : Hb a2 = some (.tup [V.ref ay, V.ref ay]) := by rw [← z_b, upd_ne n_a2]; exact (S_G2 _ _ e_a2)
  have e_a3 : Hb a3 = some (.tup [V.ref a2]) := by rw [← z_b, upd_ne n_a3]; exact (S_G3 _ _ e_a3)
  have e_a4 : Hb a4 = some (.lst [V.ref ay]) := by rw [← z_b, upd_ne n_a4]; exact (S_G4 _ _ e_a4)
  have e_a5 : Hb a5 = some (.lst [V.ref ay, V.ref ay]) := by rw [← z_b, upd_ne n_a5]; exact (S_G5 _ _ e_a5)
  have e_a6 : Hb a6 = some (.lst [V.ref a5]) := by rw [← z_b, upd_ne n_a6]; exact (S_G6 _ _ e_a6)
  have e_a7 : Hb a7 = some (.tup [V.ref ay]) := by rw [← z_b, upd_ne n_a7]; exact (S_G7 _ _ e_a7)
  have e_a8 : Hb a8 = some (.lst [V.ref a7]) := by rw [← z_b, upd_ne n_a8]; exact (S_G8 _ _ e_a8)
  have e_a9 : Hb a9 = some (.tup [V.ref ay, V.ref ay, V.ref ay]) := by rw [← z_b, upd_ne n_a9]; exact (S_G9 _ _ e_a9)
  have e_a10 : Hb a10 = some (.lst [V.ref a9]) := by rw [← z_b, upd_ne n_a10]; exact (S_G10 _ _ e_a10)
  have e_a11 : Hb a11 = some (.tup [V.ref ay, V.int 1]) := by rw [← z_b, upd_ne n_a11]; exact (S_G11 _ _ e_a11)
  have e_a12 : Hb a12 = some (.lst [V.ref a11]) := by rw [← z_b, upd_ne n_a12]; exact (S_G12 _ _ e_a12)
  have e_a14 : Hb a14 = some (.tup [V.int 2, V.bl true]) := by rw [← z_b, upd_ne n_a14]; exact (S_G14 _ _ e_a14)
  have e_a15 : Hb a15 = some (.tup [V.ref ay, V.ref a14]) := by rw [← z_b, upd_ne n_a15]; exact (S_G15 _ _ e_a15)
  have e_a16 : Hb a16 = some (.lst [V.ref a15]) := by rw [← z_b, upd_ne n_a16]; exact e_a16
  have e_a13 : Hb a13 = some (.lst [V.non, V.ref a1, V.str (Str.ofString ""), V.ref a3, V.ref a4, V.ref a6, V.ref a8, V.ref a10, V.ref a12, V.ref a16]) := by rw [← z_b, upd_same]; rfl
  clear z_b
  refine ⟨_, rfl, _, rfl, _, _, rfl, rfl, L8 2 (by decide), fun a17 h_a17 => ?_⟩
  generalize z_a17 : upd Hb a17 (HO.tup _) = G17
  have t_a17 : Same Hb G17 := by rw [← z_a17]; exact Same.laid h_a17
  have e_a17 : G17 a17 = some (.tup [V.int (2 + m), V.bl true]) := by rw [← z_a17, upd_same]
  clear z_a17
  refine ⟨_, rfl, L8 2 (by decide), fun a18 h_a18 => ?_⟩
  generalize z_a18 : upd G17 a18 (HO.tup _) = G18
  have t_a18 : Same G17 G18 := by rw [← z_a18]; exact Same.laid h_a18
  have e_a18 : G18 a18 = some (.tup [V.ref a17, V.ref ay]) := by rw [← z_a18, upd_same]
  clear z_a18
  refine ⟨L8 1 (by decide), fun a19 h_a19 => ?_⟩
  generalize z_a19 : upd G18 a19 (HO.lst _) = G19
  have t_a19 : Same G18 G19 := by rw [← z_a19]; exact Same.laid h_a19
  have e_a19 : G19 a19 = some (.lst [V.ref a18]) := by rw [← z_a19, upd_same]
  clear z_a19
  refine ⟨_, rfl, _, _, rfl, rfl, L8 2 (by decide), fun a20 h_a20 => ?_⟩
  generalize z_a20 : upd G19 a20 (HO.tup _) = G20
  have t_a20 : Same G19 G20 := by rw [← z_a20]; exact Same.laid h_a20
  have e_a20 : G20 a20 = some (.tup [V.int (-1 - m), V.bl true]) := by rw [← z_a20, upd_same]
  clear z_a20
  refine ⟨_, rfl, L8 2 (by decide), fun a21 h_a21 => ?_⟩
  generalize z_a21 : upd G20 a21 (HO.tup _) = G21
  have t_a21 : Same G20 G21 := by rw [← z_a21]; exact Same.laid h_a21
  have e_a21 : G21 a21 = some (.tup [V.ref a20, V.ref ay]) := by rw [← z_a21, upd_same]
  clear z_a21
  refine ⟨L8 1 (by decide), fun a22 h_a22 => ?_⟩
  generalize z_a22 : upd G21 a22 (HO.lst _) = G22
  have t_a22 : Same G21 G22 := by rw [← z_a22]; exact Same.laid h_a22
  have e_a22 : G22 a22 = some (.lst [V.ref a21]) := by rw [← z_a22, upd_same]
  clear z_a22
  refine ⟨_, rfl, L8 2 (by decide), fun a23 h_a23 => ?_⟩
  generalize z_a23 : upd G22 a23 (HO.tup _) = G23
  have t_a23 : Same G22 G23 := by rw [← z_a23]; exact Same.laid h_a23
  have e_a23 : G23 a23 = some (.tup [V.int 0, V.int 1]) := by rw [← z_a23, upd_same]
  clear z_a23
  refine ⟨L8 2 (by decide), fun a24 h_a24 => ?_⟩
  generalize z_a24 : upd G23 a24 (HO.tup _) = G24
  have t_a24 : Same G23 G24 := by rw [← z_a24]; exact Same.laid h_a24
  have e_a24 : G24 a24 = some (.tup [V.ref ay, V.ref a23]) := by rw [← z_a24, upd_same]
  clear z_a24
  refine ⟨L8 1 (by decide), fun a25 h_a25 => ?_⟩
  generalize z_a25 : upd G24 a25 (HO.lst _) = G25
  have t_a25 : Same G24 G25 := by rw [← z_a25]; exact Same.laid h_a25
  have e_a25 : G25 a25 = some (.lst [V.ref a24]) := by rw [← z_a25, upd_same]
  clear z_a25
  refine ⟨_, rfl, L8 2 (by decide), fun a26 h_a26 => ?_⟩
  generalize z_a26 : upd G25 a26 (HO.lst _) = G26
  have t_a26 : Same G25 G26 := by rw [← z_a26]; exact Same.laid h_a26
  have e_a26 : G26 a26 = some (.lst [V.int 0, V.bl true]) := by rw [← z_a26, upd_same]
  clear z_a26
  refine ⟨L8 2 (by decide), fun a27 h_a27 => ?_⟩
  generalize z_a27 : upd G26 a27 (HO.tup _) = G27
  have t_a27 : Same G26 G27 := by rw [← z_a27]; exact Same.laid h_a27
  have e_a27 : G27 a27 = some (.tup [V.ref ay, V.ref a26]) := by rw [← z_a27, upd_same]
  clear z_a27
  refine ⟨L8 1 (by decide), fun a28 h_a28 => ?_⟩
  generalize z_a28 : upd G27 a28 (HO.lst _) = G28
  have t_a28 : Same G27 G28 := by rw [← z_a28]; exact Same.laid h_a28
  have e_a28 : G28 a28 = some (.lst [V.ref a27]) := by rw [← z_a28, upd_same]
  clear z_a28
  refine ⟨L8 4 (by decide), fun a29 h_a29 => ?_⟩
  generalize z_a29 : upd G28 a29 (HO.lst _) = G29
  have t_a29 : Same G28 G29 := by rw [← z_a29]; exact Same.laid h_a29
  have e_a29 : G29 a29 = some (.lst [V.ref a19, V.ref a22, V.ref a25, V.ref a28]) := by rw [← z_a29, upd_same]
  clear z_a29
  refine ⟨a13, a29, _, _, rfl, rfl, (t_a29 _ _ (t_a28 _ _ (t_a27 _ _ (t_a26 _ _ (t_a25 _ _ (t_a24 _ _ (t_a23 _ _ (t_a22 _ _ (t_a21 _ _ (t_a20 _ _ (t_a19 _ _ (t_a18 _ _ (t_a17 _ _ e_a13))))))))))))), e_a29, L8 14 (by decide), fun a30 h_a30 => ?_⟩
  generalize z_a30 : upd G29 a30 (HO.lst _) = G30
  have t_a30 : Same G29 G30 := by rw [← z_a30]; exact Same.laid h_a30
  have e_a30 : G30 a30 = some (.lst [V.non, V.ref a1, V.str (Str.ofString ""), V.ref a3, V.ref a4, V.ref a6, V.ref a8, V.ref a10, V.ref a12, V.ref a16, V.ref a19, V.ref a22, V.ref a25, V.ref a28]) := by rw [← z_a30, upd_same]; rfl
  clear z_a30
  refine ⟨_, rfl, _, rfl, L8 2 (by decide), fun a31 h_a31 => ?_⟩
  generalize z_a31 : upd G30 a31 (HO.tup _) = G31
  have t_a31 : Same G30 G31 := by rw [← z_a31]; exact Same.laid h_a31
  have e_a31 : G31 a31 = some (.tup [V.bl true, V.bl true]) := by rw [← z_a31, upd_same]
  clear z_a31
  refine ⟨L8 2 (by decide), fun a32 h_a32 => ?_⟩
  generalize z_a32 : upd G31 a32 (HO.tup _) = G32
  have t_a32 : Same G31 G32 := by rw [← z_a32]; exact Same.laid h_a32
  have e_a32 : G32 a32 = some (.tup [V.ref ay, V.ref a31]) := by rw [← z_a32, upd_same]
  clear z_a32
  refine ⟨L8 1 (by decide), fun a33 h_a33 => ?_⟩
  generalize z_a33 : upd G32 a33 (HO.lst _) = G33
  have t_a33 : Same G32 G33 := by rw [← z_a33]; exact Same.laid h_a33
  have e_a33 : G33 a33 = some (.lst [V.ref a32]) := by rw [← z_a33, upd_same]
  clear z_a33
  refine ⟨_, rfl, _, rfl, L8 2 (by decide), fun a34 h_a34 => ?_⟩
  generalize z_a34 : upd G33 a34 (HO.tup _) = G34
  have t_a34 : Same G33 G34 := by rw [← z_a34]; exact Same.laid h_a34
  have e_a34 : G34 a34 = some (.tup [V.ref ay, V.ref ay]) := by rw [← z_a34, upd_same]
  clear z_a34
  refine ⟨L8 1 (by decide), fun a35 h_a35 => ?_⟩
  generalize z_a35 : upd G34 a35 (HO.lst _) = G35
  have t_a35 : Same G34 G35 := by rw [← z_a35]; exact Same.laid h_a35
  have e_a35 : G35 a35 = some (.lst [V.ref a34]) := by rw [← z_a35, upd_same]
  clear z_a35
  have x_a36 : ∀ n : Nat, n = 25 → n ≤ sizeLine := fun n h => by rw [sizeLine_eq]; omega
  refine ⟨a35, 25, _, rfl, rfl, e_a35, by decide, by decide, x_a36 _ rfl, fun a36 h_a36 => ?_⟩
  generalize z_a36 : upd G35 a36 (HO.lst _) = G36
  have t_a36 : Same G35 G36 := by rw [← z_a36]; exact Same.laid h_a36
  have e_a36 : G36 a36 = some (.lst (List.replicate 25 (V.ref a34))) := by rw [← z_a36, upd_same]; rfl
  clear z_a36
  refine ⟨L8 2 (by decide), fun a37 h_a37 => ?_⟩
  generalize z_a37 : upd G36 a37 (HO.lst _) = G37
  have t_a37 : Same G36 G37 := by rw [← z_a37]; exact Same.laid h_a37
  have e_a37 : G37 a37 = some (.lst [V.ref a33, V.ref a36]) := by rw [← z_a37, upd_same]
  clear z_a37
  refine ⟨a30, a37, _, _, rfl, rfl, (t_a37 _ _ (t_a36 _ _ (t_a35 _ _ (t_a34 _ _ (t_a33 _ _ (t_a32 _ _ (t_a31 _ _ e_a30))))))), e_a37, L8 16 (by decide), fun a38 h_a38 => ?_⟩
  generalize z_a38 : upd G37 a38 (HO.lst _) = G38
  have t_a38 : Same G37 G38 := by rw [← z_a38]; exact Same.laid h_a38
  have e_a38 : G38 a38 = some (.lst [V.non, V.ref a1, V.str (Str.ofString ""), V.ref a3, V.ref a4, V.ref a6, V.ref a8, V.ref a10, V.ref a12, V.ref a16, V.ref a19, V.ref a22, V.ref a25, V.ref a28, V.ref a33, V.ref a36]) := by rw [← z_a38, upd_same]; rfl
  clear z_a38
  refine ⟨L8 1 (by decide), fun a39 h_a39 => ?_⟩
  generalize z_a39 : upd G38 a39 (HO.lst _) = G39
  have t_a39 : Same G38 G39 := by rw [← z_a39]; exact Same.laid h_a39
  have e_a39 : G39 a39 = some (.lst [V.int 1]) := by rw [← z_a39, upd_same]
  clear z_a39
  have S_G39 : Same G39 G39 := Same.refl _
  have S_G38 : Same G38 G39 := t_a39.trans S_G39
  have S_G37 : Same G37 G39 := t_a38.trans S_G38
  have S_G36 : Same G36 G39 := t_a37.trans S_G37
  have S_G35 : Same G35 G39 := t_a36.trans S_G36
  have S_G34 : Same G34 G39 := t_a35.trans S_G35
  have S_G33 : Same G33 G39 := t_a34.trans S_G34
  have S_G32 : Same G32 G39 := t_a33.trans S_G33
  have S_G31 : Same G31 G39 := t_a32.trans S_G32
  have S_G30 : Same G30 G39 := t_a31.trans S_G31
  have S_G29 : Same G29 G39 := t_a30.trans S_G30
  have S_G28 : Same G28 G39 := t_a29.trans S_G29
  have S_G27 : Same G27 G39 := t_a28.trans S_G28
  have S_G26 : Same G26 G39 := t_a27.trans S_G27
  have S_G25 : Same G25 G39 := t_a26.trans S_G26
  have S_G24 : Same G24 G39 := t_a25.trans S_G25
  have S_G23 : Same G23 G39 := t_a24.trans S_G24
  have S_G22 : Same G22 G39 := t_a23.trans S_G23
  have S_G21 : Same G21 G39 := t_a22.trans S_G22
  have S_G20 : Same G20 G39 := t_a21.trans S_G21
  have S_G19 : Same G19 G39 := t_a20.trans S_G20
  have S_G18 : Same G18 G39 := t_a19.trans S_G19
  have S_G17 : Same G17 G39 := t_a18.trans S_G18
  have S_Hb : Same Hb G39 := t_a17.trans S_G17
  have k_G39 : ∀ d ∈ ([1] : List Int), ∀ v ∈ ([V.non, V.ref a1, V.str (Str.ofString ""), V.ref a3, V.ref a4, V.ref a6, V.ref a8, V.ref a10, V.ref a12, V.ref a16, V.ref a19, V.ref a22, V.ref a25, V.ref a28, V.ref a33, V.ref a36] : List V), AskB K G39 d v 0 := by
    intro d hd v hv
    simp only [List.mem_cons, List.not_mem_nil, or_false] at hd hv
    rcases hd with rfl <;> rcases hv with rfl | rfl | rfl | rfl | rfl | rfl | rfl | rfl | rfl | rfl | rfl | rfl | rfl | rfl | rfl | rfl
    · exact .d1 (.ty (by decide) (by decide) .non rfl)
    · exact .d1 (.ty (by decide) (by decide) (.tup (S_Hb _ _ e_a1)) rfl)
    · exact .d1 (.ty (by decide) (by decide) (.str _) rfl)
    · exact .d1 (.ty (by decide) (by decide) (.tup (S_Hb _ _ e_a3)) rfl)
    · exact .d1 (.wsh (by decide) (by decide) (S_Hb _ _ e_a4) (.two (b := false) (c := false) (S_Hb _ _ ey) (.ty (.int _) rfl) (.ty (.bl _) rfl)))
    · exact .d1 (.wsh (by decide) (by decide) (S_Hb _ _ e_a6) (.ty (.lst (S_Hb _ _ e_a5)) rfl))
    · exact .d1 (.wsh (by decide) (by decide) (S_Hb _ _ e_a8) (.len (S_Hb _ _ e_a7) (by simp)))
    · exact .d1 (.wsh (by decide) (by decide) (S_Hb _ _ e_a10) (.len (S_Hb _ _ e_a9) (by simp)))
    · exact .d1 (.wsh (by decide) (by decide) (S_Hb _ _ e_a12) (.two (b := true) (c := false) (S_Hb _ _ e_a11) (.ok (x := (0, true)) ⟨_, rfl, (S_Hb _ _ ey)⟩ ⟨by decide, by decide⟩) (.ty (.int _) rfl)))
    · exact .d1 (.wsh (by decide) (by decide) (S_Hb _ _ e_a16) (.two (b := true) (c := false) (S_Hb _ _ e_a15) (.ok (x := (0, true)) ⟨_, rfl, (S_Hb _ _ ey)⟩ ⟨by decide, by decide⟩) (.out (S_Hb _ _ e_a14) (by omega))))
    · exact .d1 (.wsh (by decide) (by decide) (S_G19 _ _ e_a19) (.two (b := false) (c := true) (S_G18 _ _ e_a18) (.out (S_G17 _ _ e_a17) (by omega)) (.ok (x := (0, true)) ⟨_, rfl, (S_Hb _ _ ey)⟩ ⟨by decide, by decide⟩)))
    · exact .d1 (.wsh (by decide) (by decide) (S_G22 _ _ e_a22) (.two (b := false) (c := true) (S_G21 _ _ e_a21) (.out (S_G20 _ _ e_a20) (by omega)) (.ok (x := (0, true)) ⟨_, rfl, (S_Hb _ _ ey)⟩ ⟨by decide, by decide⟩)))
    · exact .d1 (.wsh (by decide) (by decide) (S_G25 _ _ e_a25) (.two (b := true) (c := false) (S_G24 _ _ e_a24) (.ok (x := (0, true)) ⟨_, rfl, (S_Hb _ _ ey)⟩ ⟨by decide, by decide⟩) (.tru (S_G23 _ _ e_a23) (by decide) (by decide) (.int _) rfl)))
    · exact .d1 (.wsh (by decide) (by decide) (S_G28 _ _ e_a28) (.two (b := true) (c := false) (S_G27 _ _ e_a27) (.ok (x := (0, true)) ⟨_, rfl, (S_Hb _ _ ey)⟩ ⟨by decide, by decide⟩) (.ty (.lst (S_G26 _ _ e_a26)) rfl)))
    · exact .d1 (.wsh (by decide) (by decide) (S_G33 _ _ e_a33) (.two (b := true) (c := false) (S_G32 _ _ e_a32) (.ok (x := (0, true)) ⟨_, rfl, (S_Hb _ _ ey)⟩ ⟨by decide, by decide⟩) (.num (S_G31 _ _ e_a31) (.bl _))))
    · exact .d1 (.len (by decide) (by decide) (S_G36 _ _ e_a36) (by simp))
  refine ⟨_, rfl, a39, a38, [1], _, 0, rfl, e_a39, (S_G38 _ _ e_a38), Nat.le_of_ble_eq_true rfl, k_G39, fun J39 t_J39 => ⟨_, rfl, iteF ?_⟩⟩
  have S_J39 : Same J39 J39 := Same.refl _
  have S_G39 : Same G39 J39 := t_J39.trans S_J39
  have S_G38 : Same G38 J39 := t_a39.trans S_G39
  have S_G37 : Same G37 J39 := t_a38.trans S_G38
  have S_G36 : Same G36 J39 := t_a37.trans S_G37
  have S_G35 : Same G35 J39 := t_a36.trans S_G36
  have S_G34 : Same G34 J39 := t_a35.trans S_G35
  have S_G33 : Same G33 J39 := t_a34.trans S_G34
  have S_G32 : Same G32 J39 := t_a33.trans S_G33
  have S_G31 : Same G31 J39 := t_a32.trans S_G32
  have S_G30 : Same G30 J39 := t_a31.trans S_G31
  have S_G29 : Same G29 J39 := t_a30.trans S_G30
  have S_G28 : Same G28 J39 := t_a29.trans S_G29
  have S_G27 : Same G27 J39 := t_a28.trans S_G28
  have S_G26 : Same G26 J39 := t_a27.trans S_G27
  have S_G25 : Same G25 J39 := t_a26.trans S_G26
  have S_G24 : Same G24 J39 := t_a25.trans S_G25
  have S_G23 : Same G23 J39 := t_a24.trans S_G24
  have S_G22 : Same G22 J39 := t_a23.trans S_G23
  have S_G21 : Same G21 J39 := t_a22.trans S_G22
  have S_G20 : Same G20 J39 := t_a21.trans S_G21
  have S_G19 : Same G19 J39 := t_a20.trans S_G20
  have S_G18 : Same G18 J39 := t_a19.trans S_G19
  have S_G17 : Same G17 J39 := t_a18.trans S_G18
  have S_Hb : Same Hb J39 := t_a17.trans S_G17
  exact go J39 m ay v0 _ _ _ hm (S_Hb _ _ ey)
set_option maxHeartbeats 4000000 in
theorem l8_C (Z : Calls8 P w K mg base C CT CU) {f : Addr} {cdv : Value} {A : Around} {outer : List Env} {s : Shared} {H0 : Hp} {E : XK} {Q : VK} (hr : Room 10 (A.deeper (envOfC "law" (defScope S_law) s.heap.objs.size f cdv))) (kQ : ∀ H', Q (.bl true) H')
    (R : Go8 P w K mg base f cdv A outer s H0 E Q 11) : Go8 P w K mg base f cdv A outer s H0 E Q 8 := by
  have L8 : ∀ n : Nat, n ≤ 20 → n ≤ sizeLine := fun n h => by rw [sizeLine_eq]; omega
  have L9 : ∀ n : Nat, n ≤ 20 → n < sizeLine := fun n h => by rw [sizeLine_eq]; omega
  obtain ⟨u, pu, go⟩ := R
  refine ⟨_, (@pss_consD _ (defBody S_law) 8 _ _ _ rfl (@ps_setE _ _ _ _ _ _ 4 sc_law.nd rfl (Or.inl rfl) (@pe_lst _ _ _ _ (@pa_cons _ _ _ _ _ pe_non (@pa_cons _ _ _ _ _ pe_int (@pa_cons _ _ _ _ _ (@pe_tup _ _ _ _ _ (@pa_cons _ _ _ _ _ pe_int pa_nil rfl)) (@pa_cons _ _ _ _ _ (@pe_tup _ _ _ _ _ (@pa_cons _ _ _ _ _ pe_int (@pa_cons _ _ _ _ _ pe_int pa_nil rfl) rfl)) (@pa_cons _ _ _ _ _ (@pe_lst _ _ _ _ (@pa_cons _ _ _ _ _ pe_int (@pa_cons _ _ _ _ _ pe_bl pa_nil rfl) rfl)) (@pa_cons _ _ _ _ _ (@pe_tup _ _ _ _ _ (@pa_cons _ _ _ _ _ pe_int (@pa_cons _ _ _ _ _ pe_bl pa_nil rfl) rfl)) (@pa_cons _ _ _ _ _ (@pe_tup _ _ _ _ _ (@pa_cons _ _ _ _ _ (pe_op op_add pe_int (pv 1)) (@pa_cons _ _ _ _ _ pe_bl pa_nil rfl) rfl)) (@pa_cons _ _ _ _ _ (@pe_tup _ _ _ _ _ (@pa_cons _ _ _ _ _ (pe_op op_sub pe_m1 (pv 1)) (@pa_cons _ _ _ _ _ pe_bl pa_nil rfl) rfl)) pa_nil rfl) rfl) rfl) rfl) rfl) rfl) rfl) rfl)) rfl (by first | exact .inl rfl | exact .inr rfl | assumption))
    (@pss_consD _ (defBody S_law) 9 _ _ _ rfl (@ps_setE _ _ _ _ _ _ 4 sc_law.nd rfl (Or.inl rfl) (pe_op op_cat (pv 4) (@pe_lst _ _ _ _ (@pa_cons _ _ _ _ _ (@pe_tup _ _ _ _ _ (@pa_cons _ _ _ _ _ pe_bl (@pa_cons _ _ _ _ _ pe_bl pa_nil rfl) rfl)) (@pa_cons _ _ _ _ _ (@pe_tup _ _ _ _ _ (@pa_cons _ _ _ _ _ pe_str (@pa_cons _ _ _ _ _ pe_bl pa_nil rfl) rfl)) pa_nil rfl) rfl))) rfl (by first | exact .inl rfl | exact .inr rfl | assumption))
    (@pss_consD _ (defBody S_law) 10 _ _ _ rfl (ps_if (PW.pt (pw_or (pt_not (pt_val (pe_cal Z.all hr rfl (@pa_cons _ _ _ _ _ (@pe_lst _ _ _ _ (@pa_cons _ _ _ _ _ pe_int (@pa_cons _ _ _ _ _ pe_int (@pa_cons _ _ _ _ _ pe_int (@pa_cons _ _ _ _ _ pe_int (@pa_cons _ _ _ _ _ pe_int pa_nil rfl) rfl) rfl) rfl) rfl)) (@pa_cons _ _ _ _ _ (pv 4) (@pa_cons _ _ _ _ _ pe_str pa_nil rfl) rfl) rfl)))) (pw_or1 (pt_not (pt_val (pe_cal Z.all hr rfl (@pa_cons _ _ _ _ _ (@pe_lst _ _ _ _ (@pa_cons _ _ _ _ _ pe_int pa_nil rfl)) (@pa_cons _ _ _ _ _ (@pe_lst _ _ _ _ (@pa_cons _ _ _ _ _ pe_non (@pa_cons _ _ _ _ _ (@pe_tup _ _ _ _ _ (@pa_cons _ _ _ _ _ (pv 2) pa_nil rfl)) (@pa_cons _ _ _ _ _ pe_str (@pa_cons _ _ _ _ _ (pv 2) (@pa_cons _ _ _ _ _ pe_dnewK pa_nil rfl) rfl) rfl) rfl) rfl)) (@pa_cons _ _ _ _ _ pe_str pa_nil rfl) rfl) rfl))))))) (pss_one (ps_ret pe_bl)) pss_nil)
    (by assumption)))), fun H1 m ay v0 z3 z4 z5 hm ey => ?_⟩
  refine ⟨L8 1 (by decide), fun a1 h_a1 => ?_⟩
  generalize z_a1 : upd H1 a1 (HO.tup _) = G1
  have t_a1 : Same H1 G1 := by rw [← z_a1]; exact Same.laid h_a1
  have e_a1 : G1 a1 = some (.tup [V.int 0]) := by rw [← z_a1, upd_same]
  clear z_a1
  refine ⟨L8 2 (by decide), fun a2 h_a2 => ?_⟩
  generalize z_a2 : upd G1 a2 (HO.tup _) = G2
  have t_a2 : Same G1 G2 := by rw [← z_a2]; exact Same.laid h_a2
  have e_a2 : G2 a2 = some (.tup [V.int 0, V.int 1]) := by rw [← z_a2, upd_same]
  clear z_a2
  refine ⟨L8 2 (by decide), fun a3 h_a3 => ?_⟩
  generalize z_a3 : upd G2 a3 (HO.lst _) = G3
  have t_a3 : Same G2 G3 := by rw [← z_a3]; exact Same.laid h_a3
  have e_a3 : G3 a3 = some (.lst [V.int 0, V.bl true]) := by rw [← z_a3, upd_same]
  clear z_a3
  refine ⟨L8 2 (by decide), fun a4 h_a4 => ?_⟩
  generalize z_a4 : upd G3 a4 (HO.tup _) = G4
  have t_a4 : Same G3 G4 := by rw [← z_a4]; exact Same.laid h_a4
  have e_a4 : G4 a4 = some (.tup [V.int 2, V.bl true]) := by rw [← z_a4, upd_same]
  clear z_a4
  refine ⟨_, rfl, _, _, rfl, rfl, L8 2 (by decide), fun a5 h_a5 => ?_⟩
  generalize z_a5 : upd G4 a5 (HO.tup _) = G5
  have t_a5 : Same G4 G5 := by rw [← z_a5]; exact Same.laid h_a5
  have e_a5 : G5 a5 = some (.tup [V.int (2 + m), V.bl true]) := by rw [← z_a5, upd_same]
  clear z_a5
  refine ⟨_, rfl, _, _, rfl, rfl, L8 2 (by decide), fun a6 h_a6 => ?_⟩
  generalize z_a6 : upd G5 a6 (HO.tup _) = G6
  have t_a6 : Same G5 G6 := by rw [← z_a6]; exact Same.laid h_a6
  have e_a6 : G6 a6 = some (.tup [V.int (-1 - m), V.bl false]) := by rw [← z_a6, upd_same]
  clear z_a6
  refine ⟨L8 8 (by decide), fun a7 h_a7 => ?_⟩
  generalize z_a7 : upd G6 a7 (HO.lst _) = G7
  have t_a7 : Same G6 G7 := by rw [← z_a7]; exact Same.laid h_a7
  have e_a7 : G7 a7 = some (.lst [V.non, V.int 0, V.ref a1, V.ref a2, V.ref a3, V.ref a4, V.ref a5, V.ref a6]) := by rw [← z_a7, upd_same]
  clear z_a7
  refine ⟨_, rfl, L8 2 (by decide), fun a8 h_a8 => ?_⟩
  generalize z_a8 : upd G7 a8 (HO.tup _) = G8
  have t_a8 : Same G7 G8 := by rw [← z_a8]; exact Same.laid h_a8
  have e_a8 : G8 a8 = some (.tup [V.bl true, V.bl true]) := by rw [← z_a8, upd_same]
  clear z_a8
  refine ⟨L8 2 (by decide), fun a9 h_a9 => ?_⟩
  generalize z_a9 : upd G8 a9 (HO.tup _) = G9
  have t_a9 : Same G8 G9 := by rw [← z_a9]; exact Same.laid h_a9
  have e_a9 : G9 a9 = some (.tup [V.str (Str.ofString "0"), V.bl true]) := by rw [← z_a9, upd_same]
  clear z_a9
  refine ⟨L8 2 (by decide), fun a10 h_a10 => ?_⟩
  generalize z_a10 : upd G9 a10 (HO.lst _) = G10
  have t_a10 : Same G9 G10 := by rw [← z_a10]; exact Same.laid h_a10
  have e_a10 : G10 a10 = some (.lst [V.ref a8, V.ref a9]) := by rw [← z_a10, upd_same]
  clear z_a10
  refine ⟨a7, a10, _, _, rfl, rfl, (t_a10 _ _ (t_a9 _ _ (t_a8 _ _ e_a7))), e_a10, L8 10 (by decide), fun a11 h_a11 => ?_⟩
  generalize z_a11 : upd G10 a11 (HO.lst _) = G11
  have t_a11 : Same G10 G11 := by rw [← z_a11]; exact Same.laid h_a11
  have e_a11 : G11 a11 = some (.lst [V.non, V.int 0, V.ref a1, V.ref a2, V.ref a3, V.ref a4, V.ref a5, V.ref a6, V.ref a8, V.ref a9]) := by rw [← z_a11, upd_same]; rfl
  clear z_a11
  refine ⟨L8 5 (by decide), fun a12 h_a12 => ?_⟩
  generalize z_a12 : upd G11 a12 (HO.lst _) = G12
  have t_a12 : Same G11 G12 := by rw [← z_a12]; exact Same.laid h_a12
  have e_a12 : G12 a12 = some (.lst [V.int 2, V.int 3, V.int 4, V.int 5, V.int 6]) := by rw [← z_a12, upd_same]
  clear z_a12
  have S_G12 : Same G12 G12 := Same.refl _
  have S_G11 : Same G11 G12 := t_a12.trans S_G12
  have S_G10 : Same G10 G12 := t_a11.trans S_G11
  have S_G9 : Same G9 G12 := t_a10.trans S_G10
  have S_G8 : Same G8 G12 := t_a9.trans S_G9
  have S_G7 : Same G7 G12 := t_a8.trans S_G8
  have S_G6 : Same G6 G12 := t_a7.trans S_G7
  have S_G5 : Same G5 G12 := t_a6.trans S_G6
  have S_G4 : Same G4 G12 := t_a5.trans S_G5
  have S_G3 : Same G3 G12 := t_a4.trans S_G4
  have S_G2 : Same G2 G12 := t_a3.trans S_G3
  have S_G1 : Same G1 G12 := t_a2.trans S_G2
  have S_H1 : Same H1 G12 := t_a1.trans S_G1
  have k_G12 : ∀ d ∈ ([2, 3, 4, 5, 6] : List Int), ∀ v ∈ ([V.non, V.int 0, V.ref a1, V.ref a2, V.ref a3, V.ref a4, V.ref a5, V.ref a6, V.ref a8, V.ref a9] : List V), AskB K G12 d v 1 := by
    intro d hd v hv
    simp only [List.mem_cons, List.not_mem_nil, or_false] at hd hv
    rcases hd with rfl | rfl | rfl | rfl | rfl <;> rcases hv with rfl | rfl | rfl | rfl | rfl | rfl | rfl | rfl | rfl | rfl
    · exact .d2 (.ty .non rfl)
    · exact .d2 (.ty (.int _) rfl)
    · exact .d2 (.len (S_G1 _ _ e_a1) (by simp))
    · exact .d2 (.tru (S_G2 _ _ e_a2) (by decide) (by decide) (.int _) rfl)
    · exact .d2 (.ty (.lst (S_G3 _ _ e_a3)) rfl)
    · exact .d2 (.out (S_G4 _ _ e_a4) (by omega))
    · exact .d2 (.out (S_G5 _ _ e_a5) (by omega))
    · exact .d2 (.out (S_G6 _ _ e_a6) (by omega))
    · exact .d2 (.num (S_G8 _ _ e_a8) (.bl _))
    · exact .d2 (.num (S_G9 _ _ e_a9) (.ty (.str _) rfl))
    · exact .d3 (.ty .non rfl)
    · exact .d3 (.ty (.int _) rfl)
    · exact .d3 (.len (S_G1 _ _ e_a1) (by simp))
    · exact .d3 (.tru (S_G2 _ _ e_a2) (by decide) (by decide) (.int _) rfl)
    · exact .d3 (.ty (.lst (S_G3 _ _ e_a3)) rfl)
    · exact .d3 (.out (S_G4 _ _ e_a4) (by omega))
    · exact .d3 (.out (S_G5 _ _ e_a5) (by omega))
    · exact .d3 (.out (S_G6 _ _ e_a6) (by omega))
    · exact .d3 (.num (S_G8 _ _ e_a8) (.bl _))
    · exact .d3 (.num (S_G9 _ _ e_a9) (.ty (.str _) rfl))
    · exact .d4 (.ty .non rfl)
    · exact .d4 (.ty (.int _) rfl)
    · exact .d4 (.len (S_G1 _ _ e_a1) (by simp))
    · exact .d4 (.tru (S_G2 _ _ e_a2) (by decide) (by decide) (.int _) rfl)
    · exact .d4 (.ty (.lst (S_G3 _ _ e_a3)) rfl)
    · exact .d4 (.out (S_G4 _ _ e_a4) (by omega))
    · exact .d4 (.out (S_G5 _ _ e_a5) (by omega))
    · exact .d4 (.out (S_G6 _ _ e_a6) (by omega))
    · exact .d4 (.num (S_G8 _ _ e_a8) (.bl _))
    · exact .d4 (.num (S_G9 _ _ e_a9) (.ty (.str _) rfl))
    · exact .d5 (.ty .non rfl)
    · exact .d5 (.ty (.int _) rfl)
    · exact .d5 (.len (S_G1 _ _ e_a1) (by simp))
    · exact .d5 (.tru (S_G2 _ _ e_a2) (by decide) (by decide) (.int _) rfl)
    · exact .d5 (.ty (.lst (S_G3 _ _ e_a3)) rfl)
    · exact .d5 (.out (S_G4 _ _ e_a4) (by omega))
    · exact .d5 (.out (S_G5 _ _ e_a5) (by omega))
    · exact .d5 (.out (S_G6 _ _ e_a6) (by omega))
    · exact .d5 (.num (S_G8 _ _ e_a8) (.bl _))
    · exact .d5 (.num (S_G9 _ _ e_a9) (.ty (.str _) rfl))
    · exact .d6 (.ty .non rfl)
    · exact .d6 (.ty (.int _) rfl)
    · exact .d6 (.len (S_G1 _ _ e_a1) (by simp))
    · exact .d6 (.tru (S_G2 _ _ e_a2) (by decide) (by decide) (.int _) rfl)
    · exact .d6 (.ty (.lst (S_G3 _ _ e_a3)) rfl)
    · exact .d6 (.out (S_G4 _ _ e_a4) (by omega))
    · exact .d6 (.out (S_G5 _ _ e_a5) (by omega))
    · exact .d6 (.out (S_G6 _ _ e_a6) (by omega))
    · exact .d6 (.num (S_G8 _ _ e_a8) (.bl _))
    · exact .d6 (.num (S_G9 _ _ e_a9) (.ty (.str _) rfl))
  refine ⟨_, rfl, a12, a11, [2, 3, 4, 5, 6], _, 1, rfl, e_a12, (S_G11 _ _ e_a11), Nat.le_of_ble_eq_true rfl, k_G12, fun J12 t_J12 => ⟨_, rfl, iteF ?_⟩⟩
  refine ⟨L8 1 (by decide), fun a13 h_a13 => ?_⟩
  generalize z_a13 : upd J12 a13 (HO.lst _) = G13
  have t_a13 : Same J12 G13 := by rw [← z_a13]; exact Same.laid h_a13
  have e_a13 : G13 a13 = some (.lst [V.int 7]) := by rw [← z_a13, upd_same]
  clear z_a13
  refine ⟨_, rfl, L8 1 (by decide), fun a14 h_a14 => ?_⟩
  generalize z_a14 : upd G13 a14 (HO.tup _) = G14
  have t_a14 : Same G13 G14 := by rw [← z_a14]; exact Same.laid h_a14
  have e_a14 : G14 a14 = some (.tup [V.ref ay]) := by rw [← z_a14, upd_same]
  clear z_a14
  refine ⟨_, rfl, fun a15 h_a15 => ?_⟩
  generalize z_a15 : upd G14 a15 (HO.dK _) = G15
  have t_a15 : Same G14 G15 := by rw [← z_a15]; exact Same.laid h_a15
  have e_a15 : G15 a15 = some (.dK []) := by rw [← z_a15, upd_same]
  clear z_a15
  refine ⟨L8 5 (by decide), fun a16 h_a16 => ?_⟩
  generalize z_a16 : upd G15 a16 (HO.lst _) = G16
  have t_a16 : Same G15 G16 := by rw [← z_a16]; exact Same.laid h_a16
  have e_a16 : G16 a16 = some (.lst [V.non, V.ref a14, V.str (Str.ofString "0+"), V.ref ay, V.ref a15]) := by rw [← z_a16, upd_same]
  clear z_a16
  have S_G16 : Same G16 G16 := Same.refl _
  have S_G15 : Same G15 G16 := t_a16.trans S_G16
  have S_G14 : Same G14 G16 := t_a15.trans S_G15
  have S_G13 : Same G13 G16 := t_a14.trans S_G14
  have S_J12 : Same J12 G16 := t_a13.trans S_G13
  have S_G12 : Same G12 G16 := t_J12.trans S_J12
  have S_G11 : Same G11 G16 := t_a12.trans S_G12
  have S_G10 : Same G10 G16 := t_a11.trans S_G11
  have S_G9 : Same G9 G16 := t_a10.trans S_G10
  have S_G8 : Same G8 G16 := t_a9.trans S_G9
  have S_G7 : Same G7 G16 := t_a8.trans S_G8
  have S_G6 : Same G6 G16 := t_a7.trans S_G7
  have S_G5 : Same G5 G16 := t_a6.trans S_G6
  have S_G4 : Same G4 G16 := t_a5.trans S_G5
  have S_G3 : Same G3 G16 := t_a4.trans S_G4
  have S_G2 : Same G2 G16 := t_a3.trans S_G3
  have S_G1 : Same G1 G16 := t_a2.trans S_G2
  have S_H1 : Same H1 G16 := t_a1.trans S_G1
  have k_G16 : ∀ d ∈ ([7] : List Int), ∀ v ∈ ([V.non, V.ref a14, V.str (Str.ofString "0+"), V.ref ay, V.ref a15] : List V), AskB K G16 d v 1 := by
    intro d hd v hv
    simp only [List.mem_cons, List.not_mem_nil, or_false] at hd hv
    rcases hd with rfl <;> rcases hv with rfl | rfl | rfl | rfl | rfl
    · exact .d7w (.ty .non rfl)
    · exact .d7w (.ty (.tup (S_G14 _ _ e_a14)) rfl)
    · exact .d7w (.ty (.str _) rfl)
    · exact .d7w (.ty (.tup (S_H1 _ _ ey)) rfl)
    · exact .d7w (.ty (.dK (S_G15 _ _ e_a15)) rfl)
  refine ⟨a13, a16, [7], _, 1, rfl, (S_G13 _ _ e_a13), e_a16, Nat.le_of_ble_eq_true rfl, k_G16, fun J16 t_J16 => ⟨_, rfl, iteF ?_⟩⟩
  have S_J16 : Same J16 J16 := Same.refl _
  have S_G16 : Same G16 J16 := t_J16.trans S_J16
  have S_G15 : Same G15 J16 := t_a16.trans S_G16
  have S_G14 : Same G14 J16 := t_a15.trans S_G15
  have S_G13 : Same G13 J16 := t_a14.trans S_G14
  have S_J12 : Same J12 J16 := t_a13.trans S_G13
  have S_G12 : Same G12 J16 := t_J12.trans S_J12
  have S_G11 : Same G11 J16 := t_a12.trans S_G12
  have S_G10 : Same G10 J16 := t_a11.trans S_G11
  have S_G9 : Same G9 J16 := t_a10.trans S_G10
  have S_G8 : Same G8 J16 := t_a9.trans S_G9
  have S_G7 : Same G7 J16 := t_a8.trans S_G8
  have S_G6 : Same G6 J16 := t_a7.trans S_G7
  have S_G5 : Same G5 J16 := t_a6.trans S_G6
  have S_G4 : Same G4 J16 := t_a5.trans S_G5
  have S_G3 : Same G3 J16 := t_a4.trans S_G4
  have S_G2 : Same G2 J16 := t_a3.trans S_G3
  have S_G1 : Same G1 J16 := t_a2.trans S_G2
  have S_H1 : Same H1 J16 := t_a1.trans S_G1
  exact go J16 m ay v0 _ _ _ hm (S_H1 _ _ ey)
set_option maxHeartbeats 4000000 in
theorem l8_D (Z : Calls8 P w K mg base C CT CU) {f : Addr} {cdv : Value} {A : Around} {outer : List Env} {s : Shared} {H0 : Hp} {E : XK} {Q : VK} (hr : Room 10 (A.deeper (envOfC "law" (defScope S_law) s.heap.objs.size f cdv))) (kQ : ∀ H', Q (.bl true) H')
    (R : Go8 P w K mg base f cdv A outer s H0 E Q 14) : Go8 P w K mg base f cdv A outer s H0 E Q 11 := by
  have L8 : ∀ n : Nat, n ≤ 20 → n ≤ sizeLine := fun n h => by rw [sizeLine_eq]; omega
  have L9 : ∀ n : Nat, n ≤ 20 → n < sizeLine := fun n h => by rw [sizeLine_eq]; omega
  obtain ⟨u, pu, go⟩ := R
  refine ⟨_, (@pss_consD _ (defBody S_law) 11 _ _ _ rfl (@ps_setE _ _ _ _ _ _ 5 sc_law.nd rfl (Or.inl rfl) (@pe_lst _ _ _ _ (@pa_cons _ _ _ _ _ pe_non (@pa_cons _ _ _ _ _ (@pe_lst _ _ _ _ pa_nil) (@pa_cons _ _ _ _ _ (@pe_lst _ _ _ _ (@pa_cons _ _ _ _ _ pe_bl pa_nil rfl)) (@pa_cons _ _ _ _ _ (pe_op op_rep (@pe_lst _ _ _ _ (@pa_cons _ _ _ _ _ pe_bl pa_nil rfl)) pe_int) (@pa_cons _ _ _ _ _ (@pe_tup _ _ _ _ _ (@pa_cons _ _ _ _ _ pe_bl (@pa_cons _ _ _ _ _ pe_bl pa_nil rfl) rfl)) (@pa_cons _ _ _ _ _ (@pe_lst _ _ _ _ (@pa_cons _ _ _ _ _ pe_bl (@pa_cons _ _ _ _ _ pe_int pa_nil rfl) rfl)) (@pa_cons _ _ _ _ _ (@pe_lst _ _ _ _ (@pa_cons _ _ _ _ _ pe_int (@pa_cons _ _ _ _ _ pe_int pa_nil rfl) rfl)) (@pa_cons _ _ _ _ _ pe_str (@pa_cons _ _ _ _ _ (@pe_lst _ _ _ _ (@pa_cons _ _ _ _ _ pe_bl (@pa_cons _ _ _ _ _ pe_non pa_nil rfl) rfl)) pa_nil rfl) rfl) rfl) rfl) rfl) rfl) rfl) rfl) rfl)) rfl (by first | exact .inl rfl | exact .inr rfl | assumption))
    (@pss_consD _ (defBody S_law) 12 _ _ _ rfl (ps_if (PW.pt (pw_or (pt_not (pt_val (pe_cal Z.all hr rfl (@pa_cons _ _ _ _ _ (@pe_lst _ _ _ _ (@pa_cons _ _ _ _ _ pe_int pa_nil rfl)) (@pa_cons _ _ _ _ _ (pv 5) (@pa_cons _ _ _ _ _ pe_str pa_nil rfl) rfl) rfl)))) (pw_or1 (pt_not (pt_val (pe_cal Z.all hr rfl (@pa_cons _ _ _ _ _ (@pe_lst _ _ _ _ (@pa_cons _ _ _ _ _ pe_int pa_nil rfl)) (@pa_cons _ _ _ _ _ (@pe_lst _ _ _ _ (@pa_cons _ _ _ _ _ pe_non pa_nil rfl)) (@pa_cons _ _ _ _ _ pe_str pa_nil rfl) rfl) rfl))))))) (pss_one (ps_ret pe_bl)) pss_nil)
    (@pss_consD _ (defBody S_law) 13 _ _ _ rfl (ps_if (pt_not (pt_val (pe_cal Z.all hr rfl (@pa_cons _ _ _ _ _ (@pe_lst _ _ _ _ (@pa_cons _ _ _ _ _ pe_int pa_nil rfl)) (@pa_cons _ _ _ _ _ (@pe_lst _ _ _ _ (@pa_cons _ _ _ _ _ (@pe_lst _ _ _ _ pa_nil) (@pa_cons _ _ _ _ _ (@pe_lst _ _ _ _ (@pa_cons _ _ _ _ _ (pv 2) pa_nil rfl)) pa_nil rfl) rfl)) (@pa_cons _ _ _ _ _ pe_str pa_nil rfl) rfl) rfl)))) (pss_one (ps_ret pe_bl)) pss_nil)
    (by assumption)))), fun H1 m ay v0 z3 z4 z5 hm ey => ?_⟩
  refine ⟨L8 0 (by decide), fun a1 h_a1 => ?_⟩
  generalize z_a1 : upd H1 a1 (HO.lst _) = G1
  have t_a1 : Same H1 G1 := by rw [← z_a1]; exact Same.laid h_a1
  have e_a1 : G1 a1 = some (.lst []) := by rw [← z_a1, upd_same]
  clear z_a1
  refine ⟨L8 1 (by decide), fun a2 h_a2 => ?_⟩
  generalize z_a2 : upd G1 a2 (HO.lst _) = G2
  have t_a2 : Same G1 G2 := by rw [← z_a2]; exact Same.laid h_a2
  have e_a2 : G2 a2 = some (.lst [V.bl true]) := by rw [← z_a2, upd_same]
  clear z_a2
  refine ⟨L8 1 (by decide), fun a3 h_a3 => ?_⟩
  generalize z_a3 : upd G2 a3 (HO.lst _) = G3
  have t_a3 : Same G2 G3 := by rw [← z_a3]; exact Same.laid h_a3
  have e_a3 : G3 a3 = some (.lst [V.bl true]) := by rw [← z_a3, upd_same]
  clear z_a3
  have x_a4 : ∀ n : Nat, n = 3 → n ≤ sizeLine := fun n h => by rw [sizeLine_eq]; omega
  refine ⟨a3, 3, _, rfl, rfl, e_a3, by decide, by decide, x_a4 _ rfl, fun a4 h_a4 => ?_⟩
  generalize z_a4 : upd G3 a4 (HO.lst _) = G4
  have t_a4 : Same G3 G4 := by rw [← z_a4]; exact Same.laid h_a4
  have e_a4 : G4 a4 = some (.lst (List.replicate 3 (V.bl true))) := by rw [← z_a4, upd_same]; rfl
  clear z_a4
  refine ⟨L8 2 (by decide), fun a5 h_a5 => ?_⟩
  generalize z_a5 : upd G4 a5 (HO.tup _) = G5
  have t_a5 : Same G4 G5 := by rw [← z_a5]; exact Same.laid h_a5
  have e_a5 : G5 a5 = some (.tup [V.bl true, V.bl false]) := by rw [← z_a5, upd_same]
  clear z_a5
  refine ⟨L8 2 (by decide), fun a6 h_a6 => ?_⟩
  generalize z_a6 : upd G5 a6 (HO.lst _) = G6
  have t_a6 : Same G5 G6 := by rw [← z_a6]; exact Same.laid h_a6
  have e_a6 : G6 a6 = some (.lst [V.bl true, V.int 1]) := by rw [← z_a6, upd_same]
  clear z_a6
  refine ⟨L8 2 (by decide), fun a7 h_a7 => ?_⟩
  generalize z_a7 : upd G6 a7 (HO.lst _) = G7
  have t_a7 : Same G6 G7 := by rw [← z_a7]; exact Same.laid h_a7
  have e_a7 : G7 a7 = some (.lst [V.int 0, V.int 1]) := by rw [← z_a7, upd_same]
  clear z_a7
  refine ⟨L8 2 (by decide), fun a8 h_a8 => ?_⟩
  generalize z_a8 : upd G7 a8 (HO.lst _) = G8
  have t_a8 : Same G7 G8 := by rw [← z_a8]; exact Same.laid h_a8
  have e_a8 : G8 a8 = some (.lst [V.bl true, V.non]) := by rw [← z_a8, upd_same]
  clear z_a8
  refine ⟨L8 9 (by decide), fun a9 h_a9 => ?_⟩
  generalize z_a9 : upd G8 a9 (HO.lst _) = G9
  have t_a9 : Same G8 G9 := by rw [← z_a9]; exact Same.laid h_a9
  have e_a9 : G9 a9 = some (.lst [V.non, V.ref a1, V.ref a2, V.ref a4, V.ref a5, V.ref a6, V.ref a7, V.str (Str.ofString "+-"), V.ref a8]) := by rw [← z_a9, upd_same]
  clear z_a9
  refine ⟨L8 1 (by decide), fun a10 h_a10 => ?_⟩
  generalize z_a10 : upd G9 a10 (HO.lst _) = G10
  have t_a10 : Same G9 G10 := by rw [← z_a10]; exact Same.laid h_a10
  have e_a10 : G10 a10 = some (.lst [V.int 8]) := by rw [← z_a10, upd_same]
  clear z_a10
  have S_G10 : Same G10 G10 := Same.refl _
  have S_G9 : Same G9 G10 := t_a10.trans S_G10
  have S_G8 : Same G8 G10 := t_a9.trans S_G9
  have S_G7 : Same G7 G10 := t_a8.trans S_G8
  have S_G6 : Same G6 G10 := t_a7.trans S_G7
  have S_G5 : Same G5 G10 := t_a6.trans S_G6
  have S_G4 : Same G4 G10 := t_a5.trans S_G5
  have S_G3 : Same G3 G10 := t_a4.trans S_G4
  have S_G2 : Same G2 G10 := t_a3.trans S_G3
  have S_G1 : Same G1 G10 := t_a2.trans S_G2
  have S_H1 : Same H1 G10 := t_a1.trans S_G1
  have k_G10 : ∀ d ∈ ([8] : List Int), ∀ v ∈ ([V.non, V.ref a1, V.ref a2, V.ref a4, V.ref a5, V.ref a6, V.ref a7, V.str (Str.ofString "+-"), V.ref a8] : List V), AskB K G10 d v 2 := by
    intro d hd v hv
    simp only [List.mem_cons, List.not_mem_nil, or_false] at hd hv
    rcases hd with rfl <;> rcases hv with rfl | rfl | rfl | rfl | rfl | rfl | rfl | rfl | rfl
    · exact .d8 (.ty .non rfl)
    · exact .d8 (.len (S_G1 _ _ e_a1) (by simp))
    · exact .d8 (.len (S_G2 _ _ e_a2) (by simp))
    · exact .d8 (.len (S_G4 _ _ e_a4) (by simp))
    · exact .d8 (.ty (.tup (S_G5 _ _ e_a5)) rfl)
    · exact .d8 (.tru (bs := [true, false]) (S_G6 _ _ e_a6) rfl (.cons ⟨_, (.bl _), rfl⟩ (.cons ⟨_, (.int _), rfl⟩ .nil)) rfl)
    · exact .d8 (.tru (bs := [false, false]) (S_G7 _ _ e_a7) rfl (.cons ⟨_, (.int _), rfl⟩ (.cons ⟨_, (.int _), rfl⟩ .nil)) rfl)
    · exact .d8 (.ty (.str _) rfl)
    · exact .d8 (.tru (bs := [true, false]) (S_G8 _ _ e_a8) rfl (.cons ⟨_, (.bl _), rfl⟩ (.cons ⟨_, .non, rfl⟩ .nil)) rfl)
  refine ⟨_, rfl, a10, a9, [8], _, 2, rfl, e_a10, (S_G9 _ _ e_a9), Nat.le_of_ble_eq_true rfl, k_G10, fun J10 t_J10 => ⟨_, rfl, iteF ?_⟩⟩
  refine ⟨L8 1 (by decide), fun a11 h_a11 => ?_⟩
  generalize z_a11 : upd J10 a11 (HO.lst _) = G11
  have t_a11 : Same J10 G11 := by rw [← z_a11]; exact Same.laid h_a11
  have e_a11 : G11 a11 = some (.lst [V.int 9]) := by rw [← z_a11, upd_same]
  clear z_a11
  refine ⟨L8 1 (by decide), fun a12 h_a12 => ?_⟩
  generalize z_a12 : upd G11 a12 (HO.lst _) = G12
  have t_a12 : Same G11 G12 := by rw [← z_a12]; exact Same.laid h_a12
  have e_a12 : G12 a12 = some (.lst [V.non]) := by rw [← z_a12, upd_same]
  clear z_a12
  have S_G12 : Same G12 G12 := Same.refl _
  have S_G11 : Same G11 G12 := t_a12.trans S_G12
  have S_J10 : Same J10 G12 := t_a11.trans S_G11
  have S_G10 : Same G10 G12 := t_J10.trans S_J10
  have S_G9 : Same G9 G12 := t_a10.trans S_G10
  have S_G8 : Same G8 G12 := t_a9.trans S_G9
  have S_G7 : Same G7 G12 := t_a8.trans S_G8
  have S_G6 : Same G6 G12 := t_a7.trans S_G7
  have S_G5 : Same G5 G12 := t_a6.trans S_G6
  have S_G4 : Same G4 G12 := t_a5.trans S_G5
  have S_G3 : Same G3 G12 := t_a4.trans S_G4
  have S_G2 : Same G2 G12 := t_a3.trans S_G3
  have S_G1 : Same G1 G12 := t_a2.trans S_G2
  have S_H1 : Same H1 G12 := t_a1.trans S_G1
  have k_G12 : ∀ d ∈ ([9] : List Int), ∀ v ∈ ([V.non] : List V), AskB K G12 d v 3 := by
    intro d hd v hv
    simp only [List.mem_cons, List.not_mem_nil, or_false] at hd hv
    rcases hd with rfl <;> rcases hv with rfl
    · exact .d9
  refine ⟨a11, a12, [9], _, 3, rfl, (S_G11 _ _ e_a11), e_a12, Nat.le_of_ble_eq_true rfl, k_G12, fun J12 t_J12 => ⟨_, rfl, iteF ?_⟩⟩
  refine ⟨L8 1 (by decide), fun a13 h_a13 => ?_⟩
  generalize z_a13 : upd J12 a13 (HO.lst _) = G13
  have t_a13 : Same J12 G13 := by rw [← z_a13]; exact Same.laid h_a13
  have e_a13 : G13 a13 = some (.lst [V.int 7]) := by rw [← z_a13, upd_same]
  clear z_a13
  refine ⟨L8 0 (by decide), fun a14 h_a14 => ?_⟩
  generalize z_a14 : upd G13 a14 (HO.lst _) = G14
  have t_a14 : Same G13 G14 := by rw [← z_a14]; exact Same.laid h_a14
  have e_a14 : G14 a14 = some (.lst []) := by rw [← z_a14, upd_same]
  clear z_a14
  refine ⟨_, rfl, L8 1 (by decide), fun a15 h_a15 => ?_⟩
  generalize z_a15 : upd G14 a15 (HO.lst _) = G15
  have t_a15 : Same G14 G15 := by rw [← z_a15]; exact Same.laid h_a15
  have e_a15 : G15 a15 = some (.lst [V.ref ay]) := by rw [← z_a15, upd_same]
  clear z_a15
  refine ⟨L8 2 (by decide), fun a16 h_a16 => ?_⟩
  generalize z_a16 : upd G15 a16 (HO.lst _) = G16
  have t_a16 : Same G15 G16 := by rw [← z_a16]; exact Same.laid h_a16
  have e_a16 : G16 a16 = some (.lst [V.ref a14, V.ref a15]) := by rw [← z_a16, upd_same]
  clear z_a16
  have S_G16 : Same G16 G16 := Same.refl _
  have S_G15 : Same G15 G16 := t_a16.trans S_G16
  have S_G14 : Same G14 G16 := t_a15.trans S_G15
  have S_G13 : Same G13 G16 := t_a14.trans S_G14
  have S_J12 : Same J12 G16 := t_a13.trans S_G13
  have S_G12 : Same G12 G16 := t_J12.trans S_J12
  have S_G11 : Same G11 G16 := t_a12.trans S_G12
  have S_J10 : Same J10 G16 := t_a11.trans S_G11
  have S_G10 : Same G10 G16 := t_J10.trans S_J10
  have S_G9 : Same G9 G16 := t_a10.trans S_G10
  have S_G8 : Same G8 G16 := t_a9.trans S_G9
  have S_G7 : Same G7 G16 := t_a8.trans S_G8
  have S_G6 : Same G6 G16 := t_a7.trans S_G7
  have S_G5 : Same G5 G16 := t_a6.trans S_G6
  have S_G4 : Same G4 G16 := t_a5.trans S_G5
  have S_G3 : Same G3 G16 := t_a4.trans S_G4
  have S_G2 : Same G2 G16 := t_a3.trans S_G3
  have S_G1 : Same G1 G16 := t_a2.trans S_G2
  have S_H1 : Same H1 G16 := t_a1.trans S_G1
  have k_G16 : ∀ d ∈ ([7] : List Int), ∀ v ∈ ([V.ref a14, V.ref a15] : List V), AskB K G16 d v 3 := by
    intro d hd v hv
    simp only [List.mem_cons, List.not_mem_nil, or_false] at hd hv
    rcases hd with rfl <;> rcases hv with rfl | rfl
    · exact .d7t (.ws (bs := []) (S_G14 _ _ e_a14) .nil)
    · exact .d7t (.ws (bs := [true]) (S_G15 _ _ e_a15) (.cons (.ok (x := (0, true)) ⟨_, rfl, (S_H1 _ _ ey)⟩ ⟨by decide, by decide⟩) .nil))
  refine ⟨a13, a16, [7], _, 3, rfl, (S_G13 _ _ e_a13), e_a16, Nat.le_of_ble_eq_true rfl, k_G16, fun J16 t_J16 => ⟨_, rfl, iteF ?_⟩⟩
  have S_J16 : Same J16 J16 := Same.refl _
  have S_G16 : Same G16 J16 := t_J16.trans S_J16
  have S_G15 : Same G15 J16 := t_a16.trans S_G16
  have S_G14 : Same G14 J16 := t_a15.trans S_G15
  have S_G13 : Same G13 J16 := t_a14.trans S_G14
  have S_J12 : Same J12 J16 := t_a13.trans S_G13
  have S_G12 : Same G12 J16 := t_J12.trans S_J12
  have S_G11 : Same G11 J16 := t_a12.trans S_G12
  have S_J10 : Same J10 J16 := t_a11.trans S_G11
  have S_G10 : Same G10 J16 := t_J10.trans S_J10
  have S_G9 : Same G9 J16 := t_a10.trans S_G10
  have S_G8 : Same G8 J16 := t_a9.trans S_G9
  have S_G7 : Same G7 J16 := t_a8.trans S_G8
  have S_G6 : Same G6 J16 := t_a7.trans S_G7
  have S_G5 : Same G5 J16 := t_a6.trans S_G6
  have S_G4 : Same G4 J16 := t_a5.trans S_G5
  have S_G3 : Same G3 J16 := t_a4.trans S_G4
  have S_G2 : Same G2 J16 := t_a3.trans S_G3
  have S_G1 : Same G1 J16 := t_a2.trans S_G2
  have S_H1 : Same H1 J16 := t_a1.trans S_G1
  exact go J16 m ay v0 _ _ _ hm (S_H1 _ _ ey)
end
end L2

end

section
set_option autoImplicit false
set_option maxRecDepth 100000
set_option linter.all false
namespace L2
open PySem PySem.Spec PyProof.Rows EoD Eo
def wy : List (W × W) := [((0, true), (0, true))]
theorem way_y : Way wy (0, false) 1 (0, true) := .step .here (by decide)
theorem set_y {cs : List W} (h : SetOk wy 0 cs) : cs = [(0, false), (0, true)] := by
  have w : Reach wy (((0 : Nat) : Int), false) (((0 : Nat) : Int), true) := ⟨1, way_y⟩
  rcases h with ⟨ne, c⟩ | ⟨nr, _⟩
  · rcases c with ⟨nr, _⟩ | ⟨k, d, ch, hd, hl, len⟩
    · exact absurd w nr
    · have k1 : k ≤ 1 := d.2 1 way_y
      have k0 : k ≠ 0 := fun z => by
        subst z
        have z := d.1
        cases z
      have l2 : cs.length = 2 := by omega
      match cs, l2 with
      | [a, b], _ =>
        have ea : a = (0, false) := Option.some.inj hd
        have eb : b = (0, true) := Option.some.inj hl
        rw [ea, eb]
  · exact absurd w nr
theorem way_nil {u v : W} {k : Nat} (h : Way [] u k v) : u = v := by
  induction h with
  | here => rfl
  | step _ n _ =>
    rcases n with n | n
    · cases n
    · cases n
theorem set_n {cs : List W} (h : SetOk [] 0 cs) : cs = [] := by
  rcases h with ⟨_, c⟩ | ⟨_, c⟩
  · rcases c with ⟨_, e⟩ | ⟨k, d, _⟩
    · exact e
    · exact absurd (way_nil d.1) (by decide)
  · rcases c with ⟨_, e⟩ | ⟨k, d, _⟩
    · exact e
    · exact absurd (way_nil d.1) (by decide)
theorem many_8 : (pleasing [] 8).length = 256 := by decide +kernel
theorem pls_y : pleasing wy 1 ≠ [] := by decide +kernel
theorem pls_n : pleasing [] 1 ≠ [] := by decide +kernel
end L2

end

section
set_option autoImplicit false
set_option maxRecDepth 100000
set_option linter.all false
namespace L2
open PySem PySem.Spec PyProof.Rows EoD Eo
theorem paired_rep {α β : Type} {R : α → β → Prop} {a : α} {b : β} (h : R a b) : ∀ n : Nat, Paired R (List.replicate n a) (List.replicate n b)
  | 0 => .nil
  | n + 1 => .cons h (paired_rep h n)
def yy : W × W := ((0, true), (0, true))
theorem g8 : GoodH 8 [] := ⟨by decide, by decide, by decide, fun p hp => by cases hp⟩
theorem g24 : GoodH 8 (List.replicate 24 yy) := ⟨by decide, by decide, by decide, fun p hp => by
  obtain rfl := List.eq_of_mem_replicate hp
  exact ⟨⟨by decide, by decide⟩, ⟨by decide, by decide⟩⟩⟩
theorem gy : GoodH 1 wy := ⟨by decide, by decide, by decide, fun p hp => by
  have : p = yy := by simpa [wy, yy] using hp
  subst this
  exact ⟨⟨by decide, by decide⟩, ⟨by decide, by decide⟩⟩⟩
theorem gn : GoodH 1 [] := ⟨by decide, by decide, by decide, fun p hp => by cases hp⟩
section
variable {P : Program} {w : World} {K : PySem.W.Frag} {mg : Str → Option Value} {base : Heap} {C CT CU : Addr}
set_option maxHeartbeats 4000000 in
theorem l8_E (Z : Calls8 P w K mg base C CT CU) {f : Addr} {cdv : Value} {A : Around} {outer : List Env} {s : Shared} {H0 : Hp} {E : XK} {Q : VK} (hr : Room 10 (A.deeper (envOfC "law" (defScope S_law) s.heap.objs.size f cdv))) (kQ : ∀ H', Q (.bl true) H') :
    Go8 P w K mg base f cdv A outer s H0 E Q 14 := by
  have L8 : ∀ n : Nat, n ≤ 30 → n ≤ sizeLine := fun n h => by rw [sizeLine_eq]; omega
  have hr1 : Room 1 _ := hr.mono (by decide)
  have hr5 : Room 5 _ := hr.mono (by decide)
  have hr7 : Room 7 _ := hr.mono (by decide)
  have hu := hr.units
  refine ⟨_, (@pss_consD _ (defBody S_law) 14 _ _ _ rfl (ps_if (PW.pt (pw_or (pt_cmpR op_ne (pe_cal Z.many hr5 rfl (pa_cons (pe_mk Z.make hr5 rfl (pa_cons pe_int (pa_cons (pe_lst pa_nil) pa_nil))) pa_nil)) pe_int (nomark _))
      (pw_or1 (pt_cmpR (op_nePL hu) (pe_wishes Z.wish Z.T hr1 (pe_mk Z.make hr5 rfl (pa_cons pe_int (pa_cons (pe_op op_rep (pe_lst (pa_cons (pe_tup (pa_cons (pv 2) (pa_cons (pv 2) pa_nil))) pa_nil)) pe_int) pa_nil)))) (pe_op op_rep (pe_lst (pa_cons (pe_tup (pa_cons (pv 2) (pa_cons (pv 2) pa_nil))) pa_nil)) pe_int) (nomark _))))) (pss_one (ps_ret pe_bl)) pss_nil)
    (@pss_consD _ (defBody S_law) 15 _ _ _ rfl (ps_ret (pe_and (pe_cmpR (op_eqGL hu) (pe_calX Z.sett hr7 rfl thr_never (pa_cons (pe_mk Z.make hr5 rfl (pa_cons pe_int (pa_cons (pe_lst (pa_cons (pe_tup (pa_cons (pv 2) (pa_cons (pv 2) pa_nil))) pa_nil)) pa_nil))) pa_nil)) (pe_lst (pa_cons (pe_lst (pa_cons (pe_tup (pa_cons pe_int (pa_cons pe_bl pa_nil))) (pa_cons (pe_tup (pa_cons pe_int (pa_cons pe_bl pa_nil))) pa_nil))) pa_nil)) (nomark _))
      (pe_one (pe_cmpR (op_eqGL hu) (pe_calX Z.sett hr7 rfl thr_never (pa_cons (pe_mk Z.make hr5 rfl (pa_cons pe_int (pa_cons (pe_lst pa_nil) pa_nil))) pa_nil)) (pe_lst (pa_cons (pe_lst pa_nil) pa_nil)) (nomark _))))) pss_nil)), fun H1 m ay v0 z3 z4 z5 hm ey => ?_⟩
  refine ⟨Nat.zero_le _, fun l hl x dx nx ndx ne => made_house nx ndx ne upd_same .nil g8 fun H2 s2 hh => ⟨_, 8, [], rfl, hh, g8, fun H3 s3 => ⟨rfl, _, rfl, iteNS (by rw [many_8]; rfl) ?_⟩⟩⟩
  have s13 : Same H1 H3 := ((Same.laid hl).trans s2).trans s3
  have ey3 := s13 _ _ ey
  refine ⟨_, rfl, _, rfl, L8 2 (by decide), fun a1 h_a1 => ?_⟩
  generalize z_a1 : upd H3 a1 (HO.tup _) = G1
  have t_a1 : Same H3 G1 := by rw [← z_a1]; exact Same.laid h_a1
  have e_a1 : G1 a1 = some (.tup [V.ref ay, V.ref ay]) := by rw [← z_a1, upd_same]
  clear z_a1
  refine ⟨L8 1 (by decide), fun a2 h_a2 => ?_⟩
  generalize z_a2 : upd G1 a2 (HO.lst _) = G2
  have t_a2 : Same G1 G2 := by rw [← z_a2]; exact Same.laid h_a2
  have e_a2 : G2 a2 = some (.lst [V.ref a1]) := by rw [← z_a2, upd_same]
  clear z_a2
  refine ⟨a2, 24, _, rfl, rfl, e_a2, by decide, by decide, L8 24 (by decide), fun a3 h_a3 => ?_⟩
  generalize z_a3 : upd G2 a3 (HO.lst _) = G3
  have t_a3 : Same G2 G3 := by rw [← z_a3]; exact Same.laid h_a3
  have e_a3 : G3 a3 = some (.lst (List.replicate 24 (V.ref a1))) := by rw [← z_a3, upd_same]; rfl
  clear z_a3
  have y1 := (t_a1.trans t_a2).trans t_a3
  have p3 : Ps G3 (List.replicate 24 (V.ref a1)) (List.replicate 24 yy) := paired_rep ⟨a1, _, _, rfl, t_a3 _ _ (t_a2 _ _ e_a1), ⟨ay, rfl, y1 _ _ ey3⟩, ⟨ay, rfl, y1 _ _ ey3⟩⟩ 24
  refine fun x' dx' nx' ndx' ne' => made_house nx' ndx' ne' e_a3 p3 g24 fun H4 s4 hh4 => ?_
  obtain ⟨p, dx2, q, us0, ep, hp, _⟩ := id hh4
  cases ep
  refine ⟨x', dx2, _, rfl, hp, flds_no _ _ (by decide +kernel) (by decide +kernel), _, 8, _, rfl, hh4, fun l2 us2 hl2 hu2 hn2 => ?_⟩
  have s5 : Same H4 (upd H4 l2 (.lst us2)) := Same.laid hl2
  have e5 : upd H4 l2 (.lst us2) l2 = some (.lst us2) := upd_same
  have pu5 := hu2.same s5
  generalize upd H4 l2 (.lst us2) = H5 at s5 e5 pu5 ⊢
  have ey5 := s5 _ _ (s4 _ _ (y1 _ _ ey3))
  refine ⟨_, rfl, _, rfl, L8 2 (by decide), fun b1 h_b1 => ?_⟩
  generalize z_b1 : upd H5 b1 (HO.tup _) = G5
  have t_b1 : Same H5 G5 := by rw [← z_b1]; exact Same.laid h_b1
  have e_b1 : G5 b1 = some (.tup [V.ref ay, V.ref ay]) := by rw [← z_b1, upd_same]
  clear z_b1
  refine ⟨L8 1 (by decide), fun b2 h_b2 => ?_⟩
  generalize z_b2 : upd G5 b2 (HO.lst _) = G6
  have t_b2 : Same G5 G6 := by rw [← z_b2]; exact Same.laid h_b2
  have e_b2 : G6 b2 = some (.lst [V.ref b1]) := by rw [← z_b2, upd_same]
  clear z_b2
  refine ⟨b2, 24, _, rfl, rfl, e_b2, by decide, by decide, L8 24 (by decide), fun b3 h_b3 => ?_⟩
  generalize z_b3 : upd G6 b3 (HO.lst _) = G7
  have t_b3 : Same G6 G7 := by rw [← z_b3]; exact Same.laid h_b3
  have e_b3 : G7 b3 = some (.lst (List.replicate 24 (V.ref b1))) := by rw [← z_b3, upd_same]; rfl
  clear z_b3
  have y2 := (t_b1.trans t_b2).trans t_b3
  have p7 : Ps G7 (List.replicate 24 (V.ref b1)) (List.replicate 24 yy) := paired_rep ⟨b1, _, _, rfl, t_b3 _ _ (t_b2 _ _ e_b1), ⟨ay, rfl, y2 _ _ ey5⟩, ⟨ay, rfl, y2 _ _ ey5⟩⟩ 24
  refine ⟨_, _, ⟨l2, us2, rfl, SqL.of (y2 _ _ e5), pu5.same y2⟩, ⟨b3, _, rfl, SqL.of e_b3, p7⟩, _, rfl, iteNS rfl ?_⟩
  have ey7 := y2 _ _ ey5
  refine ⟨_, rfl, _, rfl, L8 2 (by decide), fun c1 h_c1 => ?_⟩
  generalize z_c1 : upd G7 c1 (HO.tup _) = G8
  have t_c1 : Same G7 G8 := by rw [← z_c1]; exact Same.laid h_c1
  have e_c1 : G8 c1 = some (.tup [V.ref ay, V.ref ay]) := by rw [← z_c1, upd_same]
  clear z_c1
  refine ⟨L8 1 (by decide), fun c2 h_c2 => ?_⟩
  generalize z_c2 : upd G8 c2 (HO.lst _) = G9
  have t_c2 : Same G8 G9 := by rw [← z_c2]; exact Same.laid h_c2
  have e_c2 : G9 c2 = some (.lst [V.ref c1]) := by rw [← z_c2, upd_same]
  clear z_c2
  have y3 := t_c1.trans t_c2
  have p9 : Ps G9 [V.ref c1] wy := .cons ⟨c1, _, _, rfl, t_c2 _ _ e_c1, ⟨ay, rfl, y3 _ _ ey7⟩, ⟨ay, rfl, y3 _ _ ey7⟩⟩ .nil
  refine fun x3 dx3 nx3 ndx3 ne3 => made_house nx3 ndx3 ne3 e_c2 p9 gy fun M1 sM1 hM1 => ?_
  refine ⟨_, 1, wy, rfl, hM1, gy, fun _ M2 v css sM2 ng lc ok => ?_, fun e => absurd e pls_y⟩
  obtain rfl : css = [[(0, false), (0, true)]] := by
    match css, lc, ok with
    | [cs], _, ok => rw [set_y (ok 0 cs rfl)]
  refine ⟨L8 2 (by decide), fun d1 h_d1 => ?_⟩
  generalize z_d1 : upd M2 d1 (HO.tup _) = M3
  have t_d1 : Same M2 M3 := by rw [← z_d1]; exact Same.laid h_d1
  have e_d1 : M3 d1 = some (.tup [V.int 0, V.bl false]) := by rw [← z_d1, upd_same]
  clear z_d1
  refine ⟨L8 2 (by decide), fun d2 h_d2 => ?_⟩
  generalize z_d2 : upd M3 d2 (HO.tup _) = M4
  have t_d2 : Same M3 M4 := by rw [← z_d2]; exact Same.laid h_d2
  have e_d2 : M4 d2 = some (.tup [V.int 0, V.bl true]) := by rw [← z_d2, upd_same]
  clear z_d2
  refine ⟨L8 2 (by decide), fun d3 h_d3 => ?_⟩
  generalize z_d3 : upd M4 d3 (HO.lst _) = M5
  have t_d3 : Same M4 M5 := by rw [← z_d3]; exact Same.laid h_d3
  have e_d3 : M5 d3 = some (.lst [V.ref d1, V.ref d2]) := by rw [← z_d3, upd_same]
  clear z_d3
  refine ⟨L8 1 (by decide), fun d4 h_d4 => ?_⟩
  generalize z_d4 : upd M5 d4 (HO.lst _) = M6
  have t_d4 : Same M5 M6 := by rw [← z_d4]; exact Same.laid h_d4
  have e_d4 : M6 d4 = some (.lst [V.ref d3]) := by rw [← z_d4, upd_same]
  clear z_d4
  have y4 := ((t_d1.trans t_d2).trans t_d3).trans t_d4
  have gl1 : GL K M6 v [[(0, false), (0, true)]] := by
    obtain ⟨a, vs, rfl, _, ea, pa⟩ := ng
    exact ⟨a, vs, rfl, SqL.of (y4 _ _ ea), paired_mem pa fun a b _ ⟨a', vs', e1, e2, e3, e4⟩ => ⟨a', vs', e1, SqL.of (y4 _ _ e3), e4.same y4⟩⟩
  have gl2 : GL K M6 (V.ref d4) [[(0, false), (0, true)]] := ⟨d4, _, rfl, SqL.of e_d4, .cons ⟨d3, _, rfl, SqL.of (t_d4 _ _ e_d3), .cons ⟨d1, rfl, t_d4 _ _ (t_d3 _ _ (t_d2 _ _ e_d1))⟩ (.cons ⟨d2, rfl, t_d4 _ _ (t_d3 _ _ e_d2)⟩ .nil)⟩ .nil⟩
  refine ⟨_, _, gl1, gl2, _, rfl, iteP rfl ?_⟩
  refine ⟨Nat.zero_le _, fun f1 h_f1 => fun x5 dx5 nx5 ndx5 ne5 => made_house nx5 ndx5 ne5 upd_same .nil gn fun R1 sR1 hR1 => ?_⟩
  refine ⟨_, 1, [], rfl, hR1, gn, fun _ R2 v2 css2 sR2 ng2 lc2 ok2 => ?_, fun e => absurd e pls_n⟩
  obtain rfl : css2 = [[]] := by
    match css2, lc2, ok2 with
    | [cs], _, ok2 => rw [set_n (ok2 0 cs rfl)]
  refine ⟨Nat.zero_le _, fun k1 h_k1 => ?_⟩
  generalize z_k1 : upd R2 k1 (HO.lst _) = R3
  have t_k1 : Same R2 R3 := by rw [← z_k1]; exact Same.laid h_k1
  have e_k1 : R3 k1 = some (.lst []) := by rw [← z_k1, upd_same]
  clear z_k1
  refine ⟨L8 1 (by decide), fun k2 h_k2 => ?_⟩
  generalize z_k2 : upd R3 k2 (HO.lst _) = R4
  have t_k2 : Same R3 R4 := by rw [← z_k2]; exact Same.laid h_k2
  have e_k2 : R4 k2 = some (.lst [V.ref k1]) := by rw [← z_k2, upd_same]
  clear z_k2
  have y5 := t_k1.trans t_k2
  have gl3 : GL K R4 v2 [[]] := by
    obtain ⟨a, vs, rfl, _, ea, pa⟩ := ng2
    exact ⟨a, vs, rfl, SqL.of (y5 _ _ ea), paired_mem pa fun a b _ ⟨a', vs', e1, e2, e3, e4⟩ => ⟨a', vs', e1, SqL.of (y5 _ _ e3), e4.same y5⟩⟩
  have gl4 : GL K R4 (V.ref k2) [[]] := ⟨k2, _, rfl, SqL.of e_k2, .cons ⟨k1, _, rfl, SqL.of (t_k2 _ _ e_k1), .nil⟩ .nil⟩
  refine ⟨_, _, gl3, gl4, ?_⟩
  rw [decide_eq_true rfl]
  exact kQ _
end
end L2

end

section
set_option autoImplicit false
set_option maxRecDepth 100000
set_option linter.all false
namespace L2
open PySem PySem.Spec PyProof.Rows EoD Eo
section
variable {P : Program} {w : World} {K : PySem.W.Frag} {mg : Str → Option Value} {base : Heap} {C CT CU : Addr}
set_option maxHeartbeats 4000000 in
theorem ok_law (Z : Calls8 P w K mg base C CT CU) {f : Addr} {fd : FuncData} (F : Fun K "law" "law" S_law f fd) : FnOk P w K mg base CX0 11 f fd ["_law_script"] (sp_law K) := by
  refine F.ok (k := 10) sc_law (fun vs H Q E h => by obtain ⟨_, _, rfl, _⟩ := h; rfl) (fun cdv A outer s H vs Q E hr h => ?_)
  obtain ⟨a, ns, rfl, hq, k⟩ := h
  have hr1 : Room 1 _ := hr.mono (by decide)
  have L8 : ∀ n : Nat, n ≤ 20 → n ≤ sizeLine := fun n h => by rw [sizeLine_eq]; omega
  obtain ⟨u, pu, go⟩ : Go8 P w K mg base f cdv A outer s H E Q 3 := l8_B Z hr k (l8_C Z hr k (l8_D Z hr k (l8_E Z hr k)))
  have R : ∃ t, PSs (cxOf CX0 P w K mg base N_law "law" (defScope S_law) f cdv A outer s H E).nox ((defBody S_law).drop 0) t ∧ t { nx := fun _ H' => Q .non H', rt := Q } (start N_law [.ref a]) H := by
    refine ⟨_, (@pss_consD _ (defBody S_law) 0 _ _ _ rfl (@ps_setE _ _ _ _ _ _ 1 sc_law.nd rfl (Or.inl rfl) (pe_op op_mod (pe_cal Z.cell hr1 rfl (pa_cons (pv 0) (pa_cons pe_int pa_nil))) pe_int) rfl (by first | exact .inl rfl | exact .inr rfl | assumption))
    (@pss_consD _ (defBody S_law) 1 _ _ _ rfl (@ps_setE _ _ _ _ _ _ 2 sc_law.nd rfl (Or.inl rfl) (pe_tup (pa_cons pe_int (pa_cons pe_bl pa_nil))) rfl (by first | exact .inl rfl | exact .inr rfl | assumption))
    (@pss_consD _ (defBody S_law) 2 _ _ _ rfl (ps_if (pt_not (pt_val (pe_cal Z.all hr rfl (@pa_cons _ _ _ _ _ (@pe_lst _ _ _ _ (@pa_cons _ _ _ _ _ pe_int pa_nil rfl)) (@pa_cons _ _ _ _ _ (@pe_lst _ _ _ _ (@pa_cons _ _ _ _ _ pe_int (@pa_cons _ _ _ _ _ pe_int (@pa_cons _ _ _ _ _ (pe_op op_add pe_int (pv 1)) (@pa_cons _ _ _ _ _ (pe_op op_sub pe_m1 (pv 1)) (@pa_cons _ _ _ _ _ pe_bl (@pa_cons _ _ _ _ _ pe_str (@pa_cons _ _ _ _ _ pe_non (@pa_cons _ _ _ _ _ (@pe_lst _ _ _ _ (@pa_cons _ _ _ _ _ pe_int pa_nil rfl)) pa_nil rfl) rfl) rfl) rfl) rfl) rfl) rfl) rfl)) (@pa_cons _ _ _ _ _ pe_str pa_nil rfl) rfl) rfl)))) (pss_one (ps_ret pe_bl)) pss_nil) (by assumption)))), ?_⟩
    refine ⟨_, rfl, a, ns, 0, rfl, hq, Int.le_refl _, fun cell => ⟨_, _, rfl, rfl, by decide, ?_⟩⟩
    have hm : 0 ≤ cell % 1000000 := Int.emod_nonneg _ (by decide)
    refine ⟨L8 2 (by decide), fun ay h_ay => ?_⟩
    generalize z_ay : upd H ay (HO.tup _) = Y0
    have ey : Y0 ay = some (.tup [V.int 0, V.bl true]) := by rw [← z_ay, upd_same]
    clear z_ay
    refine ⟨L8 1 (by decide), fun a1 h_a1 => ?_⟩
    generalize z_a1 : upd Y0 a1 (HO.lst _) = G1
    have t_a1 : Same Y0 G1 := by rw [← z_a1]; exact Same.laid h_a1
    have e_a1 : G1 a1 = some (.lst [V.int 0]) := by rw [← z_a1, upd_same]
    clear z_a1
    refine ⟨_, rfl, _, _, rfl, rfl, _, rfl, _, _, rfl, rfl, L8 1 (by decide), fun a2 h_a2 => ?_⟩
    generalize z_a2 : upd G1 a2 (HO.lst _) = G2
    have t_a2 : Same G1 G2 := by rw [← z_a2]; exact Same.laid h_a2
    have e_a2 : G2 a2 = some (.lst [V.int 2]) := by rw [← z_a2, upd_same]
    clear z_a2
    refine ⟨L8 8 (by decide), fun a3 h_a3 => ?_⟩
    generalize z_a3 : upd G2 a3 (HO.lst _) = G3
    have t_a3 : Same G2 G3 := by rw [← z_a3]; exact Same.laid h_a3
    have e_a3 : G3 a3 = some (.lst [V.int 0, V.int 9, V.int (9 + (cell % 1000000)), V.int (-1 - (cell % 1000000)), V.bl true, V.str (Str.ofString "2"), V.non, V.ref a2]) := by rw [← z_a3, upd_same]
    clear z_a3
    have S_G3 : Same G3 G3 := Same.refl _
    have S_G2 : Same G2 G3 := t_a3.trans S_G3
    have S_G1 : Same G1 G3 := t_a2.trans S_G2
    have S_Y0 : Same Y0 G3 := t_a1.trans S_G1
    have k_G3 : ∀ d ∈ ([0] : List Int), ∀ v ∈ ([V.int 0, V.int 9, V.int (9 + (cell % 1000000)), V.int (-1 - (cell % 1000000)), V.bl true, V.str (Str.ofString "2"), V.non, V.ref a2] : List V), AskB K G3 d v 0 := by
      intro d hd v hv
      simp only [List.mem_cons, List.not_mem_nil, or_false] at hd hv
      rcases hd with rfl <;> rcases hv with rfl | rfl | rfl | rfl | rfl | rfl | rfl | rfl
      · exact .d0o (by omega)
      · exact .d0o (by omega)
      · exact .d0o (by omega)
      · exact .d0o (by omega)
      · exact .d0n (.bl _)
      · exact .d0n (.ty (.str _) rfl)
      · exact .d0n (.ty .non rfl)
      · exact .d0n (.ty (.lst (S_G2 _ _ e_a2)) rfl)
    refine ⟨a1, a3, [0], _, 0, rfl, (S_G1 _ _ e_a1), e_a3, Nat.le_of_ble_eq_true rfl, k_G3, fun J3 t_J3 => ⟨_, rfl, iteF ?_⟩⟩
    have S_J3 : Same J3 J3 := Same.refl _
    have S_G3 : Same G3 J3 := t_J3.trans S_J3
    have S_G2 : Same G2 J3 := t_a3.trans S_G3
    have S_G1 : Same G1 J3 := t_a2.trans S_G2
    have S_Y0 : Same Y0 J3 := t_a1.trans S_G1
    exact go J3 (cell % 1000000) ay _ _ _ _ hm (S_Y0 _ _ ey)
  rw [List.drop_zero] at R
  exact R
end
end L2

end

section
set_option autoImplicit false
set_option maxRecDepth 100000
set_option linter.all false
namespace L2
open PySem PySem.Spec PyProof.Rows EoD Eo
theorem len0 {us : List Value} (h : us.length = 0) : us = [] := List.length_eq_zero_iff.mp h
theorem len1 {us : List Value} (h : us.length = 1) : ∃ a, us = [a] := by
  cases us with
  | nil => cases h
  | cons a r => exact ⟨a, by rw [len0 (Nat.succ.inj h)]⟩
theorem len2 {us : List Value} (h : us.length = 2) : ∃ a b, us = [a, b] := by
  cases us with
  | nil => cases h
  | cons a r => obtain ⟨b, e⟩ := len1 (Nat.succ.inj h); exact ⟨a, b, by rw [e]⟩
theorem len3 {us : List Value} (h : us.length = 3) : ∃ a b c, us = [a, b, c] := by
  cases us with
  | nil => cases h
  | cons a r => obtain ⟨b, c, e⟩ := len2 (Nat.succ.inj h); exact ⟨a, b, c, by rw [e]⟩
theorem def_mk {K : PySem.W.Frag} {mg : Str → Option Value} {h : Heap} {x : Str} {st : Stmt} {ps : List Str} {f : Addr} {oc : Value} {od an : Option Addr} {osl : Array (Option Value)} {kV doc pm cdv ct : Value}
    (hb : ∀ (kV doc pm : Value) (an : Option Addr) (cdv ct : Value) (us : List Value), us.length = ps.length → bindArgs (PySem.W.fnOf x x (defArgs st) (defBody st) (defScope st) .none kV doc pm an cdv ct) ⟨us, []⟩ = pure (ps.zip us))
    (X : K.In h) (G : h.Ns mainGlobals mg) (a : PySem.W.nsIn K mainGlobals x = some (some (.ref f))) (l : K.lookup f = some ⟨oc, od, .func (PySem.W.fnOf x x (defArgs st) (defBody st) (defScope st) .none kV doc pm an cdv ct), osl⟩)
    (c : PySem.W.codeIn K cdv x = true) (k : PySem.W.keepIn K (.ref f) = true) : Def K mg x st ps :=
  ⟨f, _, fun_mk l c k, PySem.W.mg_of X G a, (fun_mk l c k).binds hb⟩
set_option maxHeartbeats 8000000 in
theorem all_mk {l : PySem.W.OpenLaw} {w : World} {K : PySem.W.Frag} {h : Heap} {mg : Str → Option Value} {fa : Addr} (X : K.In h) (G : h.Ns mainGlobals mg) (hfa : mg "law" = some (.ref fa))
    {C : Addr}
    {CT : Addr}
    {CW : Addr}
    {CU : Addr}
    {BC : Addr}
    {BH : Addr}
    {BW : Addr}
    {BT : Addr}
    {f_num : Addr} {od_num an_num : Option Addr} {sl_num : Array (Option Value)} {oc_num kV_num dc_num pm_num cd_num ct_num : Value}
    {f_word : Addr} {od_word an_word : Option Addr} {sl_word : Array (Option Value)} {oc_word kV_word dc_word pm_word cd_word ct_word : Value}
    {f_wish : Addr} {od_wish an_wish : Option Addr} {sl_wish : Array (Option Value)} {oc_wish kV_wish dc_wish pm_wish cd_wish ct_wish : Value}
    {f_check : Addr} {od_check an_check : Option Addr} {sl_check : Array (Option Value)} {oc_check kV_check dc_check pm_check cd_check ct_check : Value}
    {f_opp : Addr} {od_opp an_opp : Option Addr} {sl_opp : Array (Option Value)} {oc_opp kV_opp dc_opp pm_opp cd_opp ct_opp : Value}
    {f_said : Addr} {od_said an_said : Option Addr} {sl_said : Array (Option Value)} {oc_said kV_said dc_said pm_said cd_said ct_said : Value}
    {f_ahead : Addr} {od_ahead an_ahead : Option Addr} {sl_ahead : Array (Option Value)} {oc_ahead kV_ahead dc_ahead pm_ahead cd_ahead ct_ahead : Value}
    {f_chain : Addr} {od_chain an_chain : Option Addr} {sl_chain : Array (Option Value)} {oc_chain kV_chain dc_chain pm_chain cd_chain ct_chain : Value}
    {f_fol : Addr} {od_fol an_fol : Option Addr} {sl_fol : Array (Option Value)} {oc_fol kV_fol dc_fol pm_fol cd_fol ct_fol : Value}
    {f_isch : Addr} {od_isch an_isch : Option Addr} {sl_isch : Array (Option Value)} {oc_isch kV_isch dc_isch pm_isch cd_isch ct_isch : Value}
    {f_has : Addr} {od_has an_has : Option Addr} {sl_has : Array (Option Value)} {oc_has kV_has dc_has pm_has cd_has ct_has : Value}
    {f_pls : Addr} {od_pls an_pls : Option Addr} {sl_pls : Array (Option Value)} {oc_pls kV_pls dc_pls pm_pls cd_pls ct_pls : Value}
    {f_disp : Addr} {od_disp an_disp : Option Addr} {sl_disp : Array (Option Value)} {oc_disp kV_disp dc_disp pm_disp cd_disp ct_disp : Value}
    {f_allch : Addr} {od_allch an_allch : Option Addr} {sl_allch : Array (Option Value)} {oc_allch kV_allch dc_allch pm_allch cd_allch ct_allch : Value}
    {f_plsch : Addr} {od_plsch an_plsch : Option Addr} {sl_plsch : Array (Option Value)} {oc_plsch kV_plsch dc_plsch pm_plsch cd_plsch ct_plsch : Value}
    {f_ftorn : Addr} {od_ftorn an_ftorn : Option Addr} {sl_ftorn : Array (Option Value)} {oc_ftorn kV_ftorn dc_ftorn pm_ftorn cd_ftorn ct_ftorn : Value}
    {f_many : Addr} {od_many an_many : Option Addr} {sl_many : Array (Option Value)} {oc_many kV_many dc_many pm_many cd_many ct_many : Value}
    {f_cpls : Addr} {od_cpls an_cpls : Option Addr} {sl_cpls : Array (Option Value)} {oc_cpls kV_cpls dc_cpls pm_cpls cd_cpls ct_cpls : Value}
    {f_schain : Addr} {od_schain an_schain : Option Addr} {sl_schain : Array (Option Value)} {oc_schain kV_schain dc_schain pm_schain cd_schain ct_schain : Value}
    {f_sett : Addr} {od_sett an_sett : Option Addr} {sl_sett : Array (Option Value)} {oc_sett kV_sett dc_sett pm_sett cd_sett ct_sett : Value}
    {f_cwords : Addr} {od_cwords an_cwords : Option Addr} {sl_cwords : Array (Option Value)} {oc_cwords kV_cwords dc_cwords pm_cwords cd_cwords ct_cwords : Value}
    {f_keep : Addr} {od_keep an_keep : Option Addr} {sl_keep : Array (Option Value)} {oc_keep kV_keep dc_keep pm_keep cd_keep ct_keep : Value}
    {f_cell : Addr} {od_cell an_cell : Option Addr} {sl_cell : Array (Option Value)} {oc_cell kV_cell dc_cell pm_cell cd_cell ct_cell : Value}
    {f_lsort : Addr} {od_lsort an_lsort : Option Addr} {sl_lsort : Array (Option Value)} {oc_lsort kV_lsort dc_lsort pm_lsort cd_lsort ct_lsort : Value}
    {f_lask : Addr} {od_lask an_lask : Option Addr} {sl_lask : Array (Option Value)} {oc_lask kV_lask dc_lask pm_lask cd_lask ct_lask : Value}
    {f_lasked : Addr} {od_lasked an_lasked : Option Addr} {sl_lasked : Array (Option Value)} {oc_lasked kV_lasked dc_lasked pm_lasked cd_lasked ct_lasked : Value}
    {f_lall : Addr} {od_lall an_lall : Option Addr} {sl_lall : Array (Option Value)} {oc_lall kV_lall dc_lall pm_lall cd_lall ct_lall : Value}
    {f_init : Addr} {od_init an_init : Option Addr} {sl_init : Array (Option Value)} {oc_init kV_init dc_init pm_init cd_init ct_init : Value}
    {f_wishes : Addr} {od_wishes an_wishes : Option Addr} {sl_wishes : Array (Option Value)} {oc_wishes kV_wishes dc_wishes pm_wishes cd_wishes ct_wishes : Value}
    {f_toinit : Addr} {od_toinit an_toinit : Option Addr} {sl_toinit : Array (Option Value)} {oc_toinit kV_toinit dc_toinit pm_toinit cd_toinit ct_toinit : Value}
    {f_uninit : Addr} {od_uninit an_uninit : Option Addr} {sl_uninit : Array (Option Value)} {oc_uninit kV_uninit dc_uninit pm_uninit cd_uninit ct_uninit : Value}
    {f_law : Addr} {od_law an_law : Option Addr} {sl_law : Array (Option Value)} {oc_law kV_law dc_law pm_law cd_law ct_law : Value}
    {t8 : Tok}
    {t24 : Tok}
    (aC : PySem.W.nsIn K mainGlobals "House" = some (some (.ref C)))
    (aCT : PySem.W.nsIn K mainGlobals "Torn" = some (some (.ref CT)))
    (aCW : PySem.W.nsIn K mainGlobals "WishError" = some (some (.ref CW)))
    (aCU : PySem.W.nsIn K mainGlobals "Unpleased" = some (some (.ref CU)))
    (aBC : PySem.W.nsIn K mainGlobals "BadChoice" = some (some (.ref BC)))
    (aBH : PySem.W.nsIn K mainGlobals "BadHouse" = some (some (.ref BH)))
    (aBW : PySem.W.nsIn K mainGlobals "BadWord" = some (some (.ref BW)))
    (aBT : PySem.W.nsIn K mainGlobals "BadText" = some (some (.ref BT)))
    (a_num : PySem.W.nsIn K mainGlobals "is_number" = some (some (.ref f_num)))
    (l_num : K.lookup f_num = some ⟨oc_num, od_num, .func (PySem.W.fnOf "is_number" "is_number" (defArgs S_num) (defBody S_num) (defScope S_num) .none kV_num dc_num pm_num an_num cd_num ct_num), sl_num⟩)
    (c_num : PySem.W.codeIn K cd_num "is_number" = true)
    (k_num : PySem.W.keepIn K (.ref f_num) = true)
    (a_word : PySem.W.nsIn K mainGlobals "is_word" = some (some (.ref f_word)))
    (l_word : K.lookup f_word = some ⟨oc_word, od_word, .func (PySem.W.fnOf "is_word" "is_word" (defArgs S_word) (defBody S_word) (defScope S_word) .none kV_word dc_word pm_word an_word cd_word ct_word), sl_word⟩)
    (c_word : PySem.W.codeIn K cd_word "is_word" = true)
    (k_word : PySem.W.keepIn K (.ref f_word) = true)
    (a_wish : PySem.W.nsIn K mainGlobals "is_wish" = some (some (.ref f_wish)))
    (l_wish : K.lookup f_wish = some ⟨oc_wish, od_wish, .func (PySem.W.fnOf "is_wish" "is_wish" (defArgs S_wish) (defBody S_wish) (defScope S_wish) .none kV_wish dc_wish pm_wish an_wish cd_wish ct_wish), sl_wish⟩)
    (c_wish : PySem.W.codeIn K cd_wish "is_wish" = true)
    (k_wish : PySem.W.keepIn K (.ref f_wish) = true)
    (a_check : PySem.W.nsIn K mainGlobals "check_word" = some (some (.ref f_check)))
    (l_check : K.lookup f_check = some ⟨oc_check, od_check, .func (PySem.W.fnOf "check_word" "check_word" (defArgs S_check) (defBody S_check) (defScope S_check) .none kV_check dc_check pm_check an_check cd_check ct_check), sl_check⟩)
    (c_check : PySem.W.codeIn K cd_check "check_word" = true)
    (k_check : PySem.W.keepIn K (.ref f_check) = true)
    (a_opp : PySem.W.nsIn K mainGlobals "opposite" = some (some (.ref f_opp)))
    (l_opp : K.lookup f_opp = some ⟨oc_opp, od_opp, .func (PySem.W.fnOf "opposite" "opposite" (defArgs S_opp) (defBody S_opp) (defScope S_opp) .none kV_opp dc_opp pm_opp an_opp cd_opp ct_opp), sl_opp⟩)
    (c_opp : PySem.W.codeIn K cd_opp "opposite" = true)
    (k_opp : PySem.W.keepIn K (.ref f_opp) = true)
    (a_said : PySem.W.nsIn K mainGlobals "said_next" = some (some (.ref f_said)))
    (l_said : K.lookup f_said = some ⟨oc_said, od_said, .func (PySem.W.fnOf "said_next" "said_next" (defArgs S_said) (defBody S_said) (defScope S_said) .none kV_said dc_said pm_said an_said cd_said ct_said), sl_said⟩)
    (c_said : PySem.W.codeIn K cd_said "said_next" = true)
    (k_said : PySem.W.keepIn K (.ref f_said) = true)
    (a_ahead : PySem.W.nsIn K mainGlobals "words_ahead" = some (some (.ref f_ahead)))
    (l_ahead : K.lookup f_ahead = some ⟨oc_ahead, od_ahead, .func (PySem.W.fnOf "words_ahead" "words_ahead" (defArgs S_ahead) (defBody S_ahead) (defScope S_ahead) .none kV_ahead dc_ahead pm_ahead an_ahead cd_ahead ct_ahead), sl_ahead⟩)
    (c_ahead : PySem.W.codeIn K cd_ahead "words_ahead" = true)
    (k_ahead : PySem.W.keepIn K (.ref f_ahead) = true)
    (a_chain : PySem.W.nsIn K mainGlobals "chain" = some (some (.ref f_chain)))
    (l_chain : K.lookup f_chain = some ⟨oc_chain, od_chain, .func (PySem.W.fnOf "chain" "chain" (defArgs S_chain) (defBody S_chain) (defScope S_chain) .none kV_chain dc_chain pm_chain an_chain cd_chain ct_chain), sl_chain⟩)
    (c_chain : PySem.W.codeIn K cd_chain "chain" = true)
    (k_chain : PySem.W.keepIn K (.ref f_chain) = true)
    (a_fol : PySem.W.nsIn K mainGlobals "follows" = some (some (.ref f_fol)))
    (l_fol : K.lookup f_fol = some ⟨oc_fol, od_fol, .func (PySem.W.fnOf "follows" "follows" (defArgs S_fol) (defBody S_fol) (defScope S_fol) .none kV_fol dc_fol pm_fol an_fol cd_fol ct_fol), sl_fol⟩)
    (c_fol : PySem.W.codeIn K cd_fol "follows" = true)
    (k_fol : PySem.W.keepIn K (.ref f_fol) = true)
    (a_isch : PySem.W.nsIn K mainGlobals "is_choice" = some (some (.ref f_isch)))
    (l_isch : K.lookup f_isch = some ⟨oc_isch, od_isch, .func (PySem.W.fnOf "is_choice" "is_choice" (defArgs S_isch) (defBody S_isch) (defScope S_isch) .none kV_isch dc_isch pm_isch an_isch cd_isch ct_isch), sl_isch⟩)
    (c_isch : PySem.W.codeIn K cd_isch "is_choice" = true)
    (k_isch : PySem.W.keepIn K (.ref f_isch) = true)
    (a_has : PySem.W.nsIn K mainGlobals "has_word" = some (some (.ref f_has)))
    (l_has : K.lookup f_has = some ⟨oc_has, od_has, .func (PySem.W.fnOf "has_word" "has_word" (defArgs S_has) (defBody S_has) (defScope S_has) .none kV_has dc_has pm_has an_has cd_has ct_has), sl_has⟩)
    (c_has : PySem.W.codeIn K cd_has "has_word" = true)
    (k_has : PySem.W.keepIn K (.ref f_has) = true)
    (a_pls : PySem.W.nsIn K mainGlobals "pleases" = some (some (.ref f_pls)))
    (l_pls : K.lookup f_pls = some ⟨oc_pls, od_pls, .func (PySem.W.fnOf "pleases" "pleases" (defArgs S_pls) (defBody S_pls) (defScope S_pls) .none kV_pls dc_pls pm_pls an_pls cd_pls ct_pls), sl_pls⟩)
    (c_pls : PySem.W.codeIn K cd_pls "pleases" = true)
    (k_pls : PySem.W.keepIn K (.ref f_pls) = true)
    (a_disp : PySem.W.nsIn K mainGlobals "displeased" = some (some (.ref f_disp)))
    (l_disp : K.lookup f_disp = some ⟨oc_disp, od_disp, .func (PySem.W.fnOf "displeased" "displeased" (defArgs S_disp) (defBody S_disp) (defScope S_disp) .none kV_disp dc_disp pm_disp an_disp cd_disp ct_disp), sl_disp⟩)
    (c_disp : PySem.W.codeIn K cd_disp "displeased" = true)
    (k_disp : PySem.W.keepIn K (.ref f_disp) = true)
    (a_allch : PySem.W.nsIn K mainGlobals "all_choices" = some (some (.ref f_allch)))
    (l_allch : K.lookup f_allch = some ⟨oc_allch, od_allch, .func (PySem.W.fnOf "all_choices" "all_choices" (defArgs S_allch) (defBody S_allch) (defScope S_allch) .none kV_allch dc_allch pm_allch an_allch cd_allch ct_allch), sl_allch⟩)
    (c_allch : PySem.W.codeIn K cd_allch "all_choices" = true)
    (k_allch : PySem.W.keepIn K (.ref f_allch) = true)
    (a_plsch : PySem.W.nsIn K mainGlobals "pleasing_choices" = some (some (.ref f_plsch)))
    (l_plsch : K.lookup f_plsch = some ⟨oc_plsch, od_plsch, .func (PySem.W.fnOf "pleasing_choices" "pleasing_choices" (defArgs S_plsch) (defBody S_plsch) (defScope S_plsch) .none kV_plsch dc_plsch pm_plsch an_plsch cd_plsch ct_plsch), sl_plsch⟩)
    (c_plsch : PySem.W.codeIn K cd_plsch "pleasing_choices" = true)
    (k_plsch : PySem.W.keepIn K (.ref f_plsch) = true)
    (a_ftorn : PySem.W.nsIn K mainGlobals "find_torn" = some (some (.ref f_ftorn)))
    (l_ftorn : K.lookup f_ftorn = some ⟨oc_ftorn, od_ftorn, .func (PySem.W.fnOf "find_torn" "find_torn" (defArgs S_ftorn) (defBody S_ftorn) (defScope S_ftorn) .none kV_ftorn dc_ftorn pm_ftorn an_ftorn cd_ftorn ct_ftorn), sl_ftorn⟩)
    (c_ftorn : PySem.W.codeIn K cd_ftorn "find_torn" = true)
    (k_ftorn : PySem.W.keepIn K (.ref f_ftorn) = true)
    (a_many : PySem.W.nsIn K mainGlobals "how_many" = some (some (.ref f_many)))
    (l_many : K.lookup f_many = some ⟨oc_many, od_many, .func (PySem.W.fnOf "how_many" "how_many" (defArgs S_many) (defBody S_many) (defScope S_many) .none kV_many dc_many pm_many an_many cd_many ct_many), sl_many⟩)
    (c_many : PySem.W.codeIn K cd_many "how_many" = true)
    (k_many : PySem.W.keepIn K (.ref f_many) = true)
    (a_cpls : PySem.W.nsIn K mainGlobals "check_pleased" = some (some (.ref f_cpls)))
    (l_cpls : K.lookup f_cpls = some ⟨oc_cpls, od_cpls, .func (PySem.W.fnOf "check_pleased" "check_pleased" (defArgs S_cpls) (defBody S_cpls) (defScope S_cpls) .none kV_cpls dc_cpls pm_cpls an_cpls cd_cpls ct_cpls), sl_cpls⟩)
    (c_cpls : PySem.W.codeIn K cd_cpls "check_pleased" = true)
    (k_cpls : PySem.W.keepIn K (.ref f_cpls) = true)
    (a_schain : PySem.W.nsIn K mainGlobals "settling_chain" = some (some (.ref f_schain)))
    (l_schain : K.lookup f_schain = some ⟨oc_schain, od_schain, .func (PySem.W.fnOf "settling_chain" "settling_chain" (defArgs S_schain) (defBody S_schain) (defScope S_schain) .none kV_schain dc_schain pm_schain an_schain cd_schain ct_schain), sl_schain⟩)
    (c_schain : PySem.W.codeIn K cd_schain "settling_chain" = true)
    (k_schain : PySem.W.keepIn K (.ref f_schain) = true)
    (a_sett : PySem.W.nsIn K mainGlobals "settled" = some (some (.ref f_sett)))
    (l_sett : K.lookup f_sett = some ⟨oc_sett, od_sett, .func (PySem.W.fnOf "settled" "settled" (defArgs S_sett) (defBody S_sett) (defScope S_sett) .none kV_sett dc_sett pm_sett an_sett cd_sett ct_sett), sl_sett⟩)
    (c_sett : PySem.W.codeIn K cd_sett "settled" = true)
    (k_sett : PySem.W.keepIn K (.ref f_sett) = true)
    (a_cwords : PySem.W.nsIn K mainGlobals "check_words" = some (some (.ref f_cwords)))
    (l_cwords : K.lookup f_cwords = some ⟨oc_cwords, od_cwords, .func (PySem.W.fnOf "check_words" "check_words" (defArgs S_cwords) (defBody S_cwords) (defScope S_cwords) .none kV_cwords dc_cwords pm_cwords an_cwords cd_cwords ct_cwords), sl_cwords⟩)
    (c_cwords : PySem.W.codeIn K cd_cwords "check_words" = true)
    (k_cwords : PySem.W.keepIn K (.ref f_cwords) = true)
    (a_keep : PySem.W.nsIn K mainGlobals "keeping" = some (some (.ref f_keep)))
    (l_keep : K.lookup f_keep = some ⟨oc_keep, od_keep, .func (PySem.W.fnOf "keeping" "keeping" (defArgs S_keep) (defBody S_keep) (defScope S_keep) .none kV_keep dc_keep pm_keep an_keep cd_keep ct_keep), sl_keep⟩)
    (c_keep : PySem.W.codeIn K cd_keep "keeping" = true)
    (k_keep : PySem.W.keepIn K (.ref f_keep) = true)
    (a_cell : PySem.W.nsIn K mainGlobals "_law_cell_at" = some (some (.ref f_cell)))
    (l_cell : K.lookup f_cell = some ⟨oc_cell, od_cell, .func (PySem.W.fnOf "_law_cell_at" "_law_cell_at" (defArgs S_cell) (defBody S_cell) (defScope S_cell) .none kV_cell dc_cell pm_cell an_cell cd_cell ct_cell), sl_cell⟩)
    (c_cell : PySem.W.codeIn K cd_cell "_law_cell_at" = true)
    (k_cell : PySem.W.keepIn K (.ref f_cell) = true)
    (a_lsort : PySem.W.nsIn K mainGlobals "_law_sort" = some (some (.ref f_lsort)))
    (l_lsort : K.lookup f_lsort = some ⟨oc_lsort, od_lsort, .func (PySem.W.fnOf "_law_sort" "_law_sort" (defArgs S_lsort) (defBody S_lsort) (defScope S_lsort) .none kV_lsort dc_lsort pm_lsort an_lsort cd_lsort ct_lsort), sl_lsort⟩)
    (c_lsort : PySem.W.codeIn K cd_lsort "_law_sort" = true)
    (k_lsort : PySem.W.keepIn K (.ref f_lsort) = true)
    (a_lask : PySem.W.nsIn K mainGlobals "_law_ask" = some (some (.ref f_lask)))
    (l_lask : K.lookup f_lask = some ⟨oc_lask, od_lask, .func (PySem.W.fnOf "_law_ask" "_law_ask" (defArgs S_lask) (defBody S_lask) (defScope S_lask) .none kV_lask dc_lask pm_lask an_lask cd_lask ct_lask), sl_lask⟩)
    (c_lask : PySem.W.codeIn K cd_lask "_law_ask" = true)
    (k_lask : PySem.W.keepIn K (.ref f_lask) = true)
    (a_lasked : PySem.W.nsIn K mainGlobals "_law_asked" = some (some (.ref f_lasked)))
    (l_lasked : K.lookup f_lasked = some ⟨oc_lasked, od_lasked, .func (PySem.W.fnOf "_law_asked" "_law_asked" (defArgs S_lasked) (defBody S_lasked) (defScope S_lasked) .none kV_lasked dc_lasked pm_lasked an_lasked cd_lasked ct_lasked), sl_lasked⟩)
    (c_lasked : PySem.W.codeIn K cd_lasked "_law_asked" = true)
    (k_lasked : PySem.W.keepIn K (.ref f_lasked) = true)
    (a_lall : PySem.W.nsIn K mainGlobals "_law_all" = some (some (.ref f_lall)))
    (l_lall : K.lookup f_lall = some ⟨oc_lall, od_lall, .func (PySem.W.fnOf "_law_all" "_law_all" (defArgs S_lall) (defBody S_lall) (defScope S_lall) .none kV_lall dc_lall pm_lall an_lall cd_lall ct_lall), sl_lall⟩)
    (c_lall : PySem.W.codeIn K cd_lall "_law_all" = true)
    (k_lall : PySem.W.keepIn K (.ref f_lall) = true)
    (a_init : PySem.W.findIn K (.ref C) "__init__" = some (some (.ref f_init)))
    (i_init : PySem.W.isFn K (.ref f_init) = true)
    (l_init : K.lookup f_init = some ⟨oc_init, od_init, .func (PySem.W.fnOf "__init__" "House.__init__" (defArgs S_init) (defBody S_init) (defScope S_init) .none kV_init dc_init pm_init an_init cd_init ct_init), sl_init⟩)
    (c_init : PySem.W.codeIn K cd_init "House.__init__" = true)
    (k_init : PySem.W.keepIn K (.ref f_init) = true)
    (a_wishes : PySem.W.findIn K (.ref C) "wishes" = some (some (.ref f_wishes)))
    (i_wishes : PySem.W.isFn K (.ref f_wishes) = true)
    (l_wishes : K.lookup f_wishes = some ⟨oc_wishes, od_wishes, .func (PySem.W.fnOf "wishes" "House.wishes" (defArgs S_wishes) (defBody S_wishes) (defScope S_wishes) .none kV_wishes dc_wishes pm_wishes an_wishes cd_wishes ct_wishes), sl_wishes⟩)
    (c_wishes : PySem.W.codeIn K cd_wishes "House.wishes" = true)
    (k_wishes : PySem.W.keepIn K (.ref f_wishes) = true)
    (a_toinit : PySem.W.findIn K (.ref CT) "__init__" = some (some (.ref f_toinit)))
    (i_toinit : PySem.W.isFn K (.ref f_toinit) = true)
    (l_toinit : K.lookup f_toinit = some ⟨oc_toinit, od_toinit, .func (PySem.W.fnOf "__init__" "Torn.__init__" (defArgs S_toinit) (defBody S_toinit) (defScope S_toinit) .none kV_toinit dc_toinit pm_toinit an_toinit cd_toinit ct_toinit), sl_toinit⟩)
    (c_toinit : PySem.W.codeIn K cd_toinit "Torn.__init__" = true)
    (k_toinit : PySem.W.keepIn K (.ref f_toinit) = true)
    (a_uninit : PySem.W.findIn K (.ref CU) "__init__" = some (some (.ref f_uninit)))
    (i_uninit : PySem.W.isFn K (.ref f_uninit) = true)
    (l_uninit : K.lookup f_uninit = some ⟨oc_uninit, od_uninit, .func (PySem.W.fnOf "__init__" "Unpleased.__init__" (defArgs S_uninit) (defBody S_uninit) (defScope S_uninit) .none kV_uninit dc_uninit pm_uninit an_uninit cd_uninit ct_uninit), sl_uninit⟩)
    (c_uninit : PySem.W.codeIn K cd_uninit "Unpleased.__init__" = true)
    (k_uninit : PySem.W.keepIn K (.ref f_uninit) = true)
    (a_law : PySem.W.nsIn K mainGlobals "law" = some (some (.ref f_law)))
    (l_law : K.lookup f_law = some ⟨oc_law, od_law, .func (PySem.W.fnOf "law" "law" (defArgs S_law) (defBody S_law) (defScope S_law) .none kV_law dc_law pm_law an_law cd_law ct_law), sl_law⟩)
    (c_law : PySem.W.codeIn K cd_law "law" = true)
    (k_law : PySem.W.keepIn K (.ref f_law) = true)
    (pgC : PySem.W.plainGet K C Str.empty = true)
    (hdC : PySem.W.hasDictIn K C = true)
    (poC : PySem.W.plainOver K C = true)
    (saC : PySem.W.findIn K (.ref C) "__setattr__" = some (some (.builtin "object.__setattr__")))
    (mkC : PySem.W.makesIn K C = true)
    (kcC : PySem.W.keepIn K (.ref C) = true)
    (pgCT : PySem.W.plainGet K CT Str.empty = true)
    (hdCT : PySem.W.hasDictIn K CT = true)
    (poCT : PySem.W.plainOver K CT = true)
    (saCT : PySem.W.findIn K (.ref CT) "__setattr__" = some (some (.builtin "object.__setattr__")))
    (mkCT : PySem.W.makesIn K CT = true)
    (kcCT : PySem.W.keepIn K (.ref CT) = true)
    (haCT : PySem.W.findIn K (.ref CT) "__class__" = some (some (.builtin "object.__class__")))
    (hmCT : PySem.W.mroIn K CT (.type "object") = some true)
    (hn : PySem.W.specialIn K (.builtin "object.__class__") "__get__" = some (some (.builtin "getset_descriptor.__get__")))
    (htk : PySem.W.takesIn K (.builtin "object.__class__") = some true)
    (nC_names : PySem.W.findIn K (.ref C) "names" = some none)
    (nC_kept : PySem.W.findIn K (.ref C) "kept" = some none)
    (nCT_there : PySem.W.findIn K (.ref CT) "there" = some none)
    (nCT_back : PySem.W.findIn K (.ref CT) "back" = some none)
    (nCU_torn : PySem.W.findIn K (.ref CU) "torn" = some none)
    (y_BC : PySem.W.isClsIn K BC = true)
    (x_BC : PySem.W.typeIn K (.ref BC) = some (.type "type"))
    (y_BH : PySem.W.isClsIn K BH = true)
    (x_BH : PySem.W.typeIn K (.ref BH) = some (.type "type"))
    (y_BT : PySem.W.isClsIn K BT = true)
    (x_BT : PySem.W.typeIn K (.ref BT) = some (.type "type"))
    (y_BW : PySem.W.isClsIn K BW = true)
    (x_BW : PySem.W.typeIn K (.ref BW) = some (.type "type"))
    (y_CU : PySem.W.isClsIn K CU = true)
    (x_CU : PySem.W.typeIn K (.ref CU) = some (.type "type"))
    (t_BH_BH : PySem.W.subIn K (.ref BH) (.ref BH) = some true)
    (t_BH_BW : PySem.W.subIn K (.ref BH) (.ref BW) = some false)
    (t_BH_BC : PySem.W.subIn K (.ref BH) (.ref BC) = some false)
    (t_BH_CU : PySem.W.subIn K (.ref BH) (.ref CU) = some false)
    (t_BH_BT : PySem.W.subIn K (.ref BH) (.ref BT) = some false)
    (t_BW_BH : PySem.W.subIn K (.ref BW) (.ref BH) = some false)
    (t_BW_BW : PySem.W.subIn K (.ref BW) (.ref BW) = some true)
    (t_BW_BC : PySem.W.subIn K (.ref BW) (.ref BC) = some false)
    (t_BW_CU : PySem.W.subIn K (.ref BW) (.ref CU) = some false)
    (t_BW_BT : PySem.W.subIn K (.ref BW) (.ref BT) = some false)
    (t_BC_BH : PySem.W.subIn K (.ref BC) (.ref BH) = some false)
    (t_BC_BW : PySem.W.subIn K (.ref BC) (.ref BW) = some false)
    (t_BC_BC : PySem.W.subIn K (.ref BC) (.ref BC) = some true)
    (t_BC_CU : PySem.W.subIn K (.ref BC) (.ref CU) = some false)
    (t_BC_BT : PySem.W.subIn K (.ref BC) (.ref BT) = some false)
    (t_CU_BH : PySem.W.subIn K (.ref CU) (.ref BH) = some false)
    (t_CU_BW : PySem.W.subIn K (.ref CU) (.ref BW) = some false)
    (t_CU_BC : PySem.W.subIn K (.ref CU) (.ref BC) = some false)
    (t_CU_CU : PySem.W.subIn K (.ref CU) (.ref CU) = some true)
    (t_CU_BT : PySem.W.subIn K (.ref CU) (.ref BT) = some false)
    (m8 : PySem.W.nsIn K mainGlobals "MOST_NAMES" = some (some (.int 8 t8)))
    (m24 : PySem.W.nsIn K mainGlobals "MOST_WISHES" = some (some (.int 24 t24)))
    (z_isin : PySem.W.nsIn K mainGlobals "isinstance" = some none)
    (z_len : PySem.W.nsIn K mainGlobals "len" = some none)
    (z_all : PySem.W.nsIn K mainGlobals "all" = some none)
    (z_min : PySem.W.nsIn K mainGlobals "min" = some none)
    (z_srt : PySem.W.nsIn K mainGlobals "sorted" = some none)
    (z_int : PySem.W.nsIn K mainGlobals "int" = some none)
    (z_bool : PySem.W.nsIn K mainGlobals "bool" = some none)
    (z_tup : PySem.W.nsIn K mainGlobals "tuple" = some none)
    (z_lst : PySem.W.nsIn K mainGlobals "list" = some none)
    (z_rev : PySem.W.nsIn K mainGlobals "reversed" = some none)
    (z_rng : PySem.W.nsIn K mainGlobals "range" = some none)
    (z_enu : PySem.W.nsIn K mainGlobals "enumerate" = some none)
    (z_zip : PySem.W.nsIn K mainGlobals "zip" = some none)
    (z_ve : PySem.W.nsIn K mainGlobals "ValueError" = some none)
    (ga_CU : PySem.W.findIn K (.ref CU) "__getattribute__" = some (some (.builtin "BaseException.__getattribute__")))
    (gt_CU : PySem.W.findIn K (.ref CU) "__getattr__" = some none)
    (be_CU : PySem.W.mroIn K CU (.type "BaseException") = some true)
    (hd_CU : PySem.W.hasDictIn K CU = true)
    (sa_CU : PySem.W.findIn K (.ref CU) "__setattr__" = some (some (.builtin "object.__setattr__")))
    (cl_CU : PySem.W.findIn K (.ref CU) "__class__" = some (some (.builtin "object.__class__")))
    (kr_veCU : (PySem.W.clsIn K CU).any (fun cd => PySem.W.onlyVE cd.mro) = true)
    (up_CU : PySem.W.mroIn K CU (.ref CW) = some true)
    (kr_xrCU : xclIn K CU (some (.ref f_uninit)) = true)
    (kp_CU : PySem.W.keepIn K (.ref CU) = true)
    (ga_BH : PySem.W.findIn K (.ref BH) "__getattribute__" = some (some (.builtin "BaseException.__getattribute__")))
    (gt_BH : PySem.W.findIn K (.ref BH) "__getattr__" = some none)
    (be_BH : PySem.W.mroIn K BH (.type "BaseException") = some true)
    (hd_BH : PySem.W.hasDictIn K BH = true)
    (sa_BH : PySem.W.findIn K (.ref BH) "__setattr__" = some (some (.builtin "object.__setattr__")))
    (cl_BH : PySem.W.findIn K (.ref BH) "__class__" = some (some (.builtin "object.__class__")))
    (kr_veBH : (PySem.W.clsIn K BH).any (fun cd => PySem.W.onlyVE cd.mro) = true)
    (up_BH : PySem.W.mroIn K BH (.ref CW) = some true)
    (kr_x0BH : xclIn K BH none = true)
    (kp_BH : PySem.W.keepIn K (.ref BH) = true)
    (ga_BW : PySem.W.findIn K (.ref BW) "__getattribute__" = some (some (.builtin "BaseException.__getattribute__")))
    (gt_BW : PySem.W.findIn K (.ref BW) "__getattr__" = some none)
    (be_BW : PySem.W.mroIn K BW (.type "BaseException") = some true)
    (hd_BW : PySem.W.hasDictIn K BW = true)
    (sa_BW : PySem.W.findIn K (.ref BW) "__setattr__" = some (some (.builtin "object.__setattr__")))
    (cl_BW : PySem.W.findIn K (.ref BW) "__class__" = some (some (.builtin "object.__class__")))
    (kr_veBW : (PySem.W.clsIn K BW).any (fun cd => PySem.W.onlyVE cd.mro) = true)
    (up_BW : PySem.W.mroIn K BW (.ref CW) = some true)
    (kr_x0BW : xclIn K BW none = true)
    (kp_BW : PySem.W.keepIn K (.ref BW) = true)
    (ga_BC : PySem.W.findIn K (.ref BC) "__getattribute__" = some (some (.builtin "BaseException.__getattribute__")))
    (gt_BC : PySem.W.findIn K (.ref BC) "__getattr__" = some none)
    (be_BC : PySem.W.mroIn K BC (.type "BaseException") = some true)
    (hd_BC : PySem.W.hasDictIn K BC = true)
    (sa_BC : PySem.W.findIn K (.ref BC) "__setattr__" = some (some (.builtin "object.__setattr__")))
    (cl_BC : PySem.W.findIn K (.ref BC) "__class__" = some (some (.builtin "object.__class__")))
    (kr_veBC : (PySem.W.clsIn K BC).any (fun cd => PySem.W.onlyVE cd.mro) = true)
    (up_BC : PySem.W.mroIn K BC (.ref CW) = some true)
    (kr_x0BC : xclIn K BC none = true)
    (kp_BC : PySem.W.keepIn K (.ref BC) = true)
    (ga_CW : PySem.W.specialIn K (.ref CW) "__getattribute__" = some (some (.builtin "type.__getattribute__")))
    (rd_CW : PySem.W.readsIn K CW (.type "type") = true)
    (fi_CW : PySem.W.findCls K (.ref CW) (.type "type") "__init__" = some (.val (.builtin "ValueError.__init__")))
    (tup_CW : PySem.W.instIn K (.ref CW) (.type "tuple") = some false)
    (be_CW : PySem.W.mroIn K CW (.type "BaseException") = some true)
    (y_CW : PySem.W.isClsIn K CW = true)
    (kr_vBH : PySem.W.kitOne K (.ref BH) (.type "ValueError") = some true)
    (kr_vBW : PySem.W.kitOne K (.ref BW) (.type "ValueError") = some true)
    (kr_vBC : PySem.W.kitOne K (.ref BC) (.type "ValueError") = some true)
    (kr_vCU : PySem.W.kitOne K (.ref CU) (.type "ValueError") = some true) :
    ∃ fd : FuncData, (∀ (s : Shared) (v : Value), BindsTo s fd ⟨[v], []⟩ [("_law_script", v)]) ∧ ∀ base : Heap, K.In base → base.Ns mainGlobals mg → FnOk l.prog w K mg base CX0 11 fa fd ["_law_script"] (sp_law K) := by
  have e := hfa.symm.trans (PySem.W.mg_of X G a_law)
  cases e
  have B : Bare mg := ⟨PySem.W.mg_none_of X G z_isin, PySem.W.mg_none_of X G z_len, PySem.W.mg_none_of X G z_all, PySem.W.mg_none_of X G z_min, PySem.W.mg_none_of X G z_srt, PySem.W.mg_none_of X G z_int, PySem.W.mg_none_of X G z_bool, PySem.W.mg_none_of X G z_tup, PySem.W.mg_none_of X G z_lst, PySem.W.mg_none_of X G z_rev, PySem.W.mg_none_of X G z_rng⟩
  have D_num := def_mk (st := S_num) (ps := ["value"]) (fun _ _ _ _ _ _ us hl => by obtain ⟨v0, rfl⟩ := len1 hl; rfl) X G a_num l_num c_num k_num
  have D_word := def_mk (st := S_word) (ps := ["names", "value"]) (fun _ _ _ _ _ _ us hl => by obtain ⟨v0, v1, rfl⟩ := len2 hl; rfl) X G a_word l_word c_word k_word
  have D_wish := def_mk (st := S_wish) (ps := ["names", "value"]) (fun _ _ _ _ _ _ us hl => by obtain ⟨v0, v1, rfl⟩ := len2 hl; rfl) X G a_wish l_wish c_wish k_wish
  have D_check := def_mk (st := S_check) (ps := ["house", "value"]) (fun _ _ _ _ _ _ us hl => by obtain ⟨v0, v1, rfl⟩ := len2 hl; rfl) X G a_check l_check c_check k_check
  have D_opp := def_mk (st := S_opp) (ps := ["word"]) (fun _ _ _ _ _ _ us hl => by obtain ⟨v0, rfl⟩ := len1 hl; rfl) X G a_opp l_opp c_opp k_opp
  have D_said := def_mk (st := S_said) (ps := ["house", "word"]) (fun _ _ _ _ _ _ us hl => by obtain ⟨v0, v1, rfl⟩ := len2 hl; rfl) X G a_said l_said c_said k_said
  have D_ahead := def_mk (st := S_ahead) (ps := ["house", "word"]) (fun _ _ _ _ _ _ us hl => by obtain ⟨v0, v1, rfl⟩ := len2 hl; rfl) X G a_ahead l_ahead c_ahead k_ahead
  have D_chain := def_mk (st := S_chain) (ps := ["house", "word", "other"]) (fun _ _ _ _ _ _ us hl => by obtain ⟨v0, v1, v2, rfl⟩ := len3 hl; rfl) X G a_chain l_chain c_chain k_chain
  have D_fol := def_mk (st := S_fol) (ps := ["house", "word"]) (fun _ _ _ _ _ _ us hl => by obtain ⟨v0, v1, rfl⟩ := len2 hl; rfl) X G a_fol l_fol c_fol k_fol
  have D_isch := def_mk (st := S_isch) (ps := ["house", "value"]) (fun _ _ _ _ _ _ us hl => by obtain ⟨v0, v1, rfl⟩ := len2 hl; rfl) X G a_isch l_isch c_isch k_isch
  have D_has := def_mk (st := S_has) (ps := ["choice", "word"]) (fun _ _ _ _ _ _ us hl => by obtain ⟨v0, v1, rfl⟩ := len2 hl; rfl) X G a_has l_has c_has k_has
  have D_pls := def_mk (st := S_pls) (ps := ["choice", "wish"]) (fun _ _ _ _ _ _ us hl => by obtain ⟨v0, v1, rfl⟩ := len2 hl; rfl) X G a_pls l_pls c_pls k_pls
  have D_disp := def_mk (st := S_disp) (ps := ["house", "choice"]) (fun _ _ _ _ _ _ us hl => by obtain ⟨v0, v1, rfl⟩ := len2 hl; rfl) X G a_disp l_disp c_disp k_disp
  have D_allch := def_mk (st := S_allch) (ps := ["house"]) (fun _ _ _ _ _ _ us hl => by obtain ⟨v0, rfl⟩ := len1 hl; rfl) X G a_allch l_allch c_allch k_allch
  have D_plsch := def_mk (st := S_plsch) (ps := ["house"]) (fun _ _ _ _ _ _ us hl => by obtain ⟨v0, rfl⟩ := len1 hl; rfl) X G a_plsch l_plsch c_plsch k_plsch
  have D_ftorn := def_mk (st := S_ftorn) (ps := ["house"]) (fun _ _ _ _ _ _ us hl => by obtain ⟨v0, rfl⟩ := len1 hl; rfl) X G a_ftorn l_ftorn c_ftorn k_ftorn
  have D_many := def_mk (st := S_many) (ps := ["house"]) (fun _ _ _ _ _ _ us hl => by obtain ⟨v0, rfl⟩ := len1 hl; rfl) X G a_many l_many c_many k_many
  have D_cpls := def_mk (st := S_cpls) (ps := ["house"]) (fun _ _ _ _ _ _ us hl => by obtain ⟨v0, rfl⟩ := len1 hl; rfl) X G a_cpls l_cpls c_cpls k_cpls
  have D_schain := def_mk (st := S_schain) (ps := ["house", "name"]) (fun _ _ _ _ _ _ us hl => by obtain ⟨v0, v1, rfl⟩ := len2 hl; rfl) X G a_schain l_schain c_schain k_schain
  have D_sett := def_mk (st := S_sett) (ps := ["house"]) (fun _ _ _ _ _ _ us hl => by obtain ⟨v0, rfl⟩ := len1 hl; rfl) X G a_sett l_sett c_sett k_sett
  have D_cwords := def_mk (st := S_cwords) (ps := ["house", "value"]) (fun _ _ _ _ _ _ us hl => by obtain ⟨v0, v1, rfl⟩ := len2 hl; rfl) X G a_cwords l_cwords c_cwords k_cwords
  have D_keep := def_mk (st := S_keep) (ps := ["house", "words"]) (fun _ _ _ _ _ _ us hl => by obtain ⟨v0, v1, rfl⟩ := len2 hl; rfl) X G a_keep l_keep c_keep k_keep
  have D_cell := def_mk (st := S_cell) (ps := ["_law_script", "_law_k"]) (fun _ _ _ _ _ _ us hl => by obtain ⟨v0, v1, rfl⟩ := len2 hl; rfl) X G a_cell l_cell c_cell k_cell
  have D_lsort := def_mk (st := S_lsort) (ps := ["_law_error"]) (fun _ _ _ _ _ _ us hl => by obtain ⟨v0, rfl⟩ := len1 hl; rfl) X G a_lsort l_lsort c_lsort k_lsort
  have D_lask := def_mk (st := S_lask) (ps := ["_law_door", "_law_thing"]) (fun _ _ _ _ _ _ us hl => by obtain ⟨v0, v1, rfl⟩ := len2 hl; rfl) X G a_lask l_lask c_lask k_lask
  have D_lasked := def_mk (st := S_lasked) (ps := ["_law_door", "_law_thing"]) (fun _ _ _ _ _ _ us hl => by obtain ⟨v0, v1, rfl⟩ := len2 hl; rfl) X G a_lasked l_lasked c_lasked k_lasked
  have D_lall := def_mk (st := S_lall) (ps := ["_law_doors", "_law_things", "_law_due"]) (fun _ _ _ _ _ _ us hl => by obtain ⟨v0, v1, v2, rfl⟩ := len3 hl; rfl) X G a_lall l_lall c_lall k_lall
  have F_init := fun_mk (st := S_init) l_init c_init k_init
  have b_init := F_init.binds (ps := ["self", "names", "wishes"]) fun _ _ _ _ _ _ us hl => by obtain ⟨v0, v1, v2, rfl⟩ := len3 hl; rfl
  have m_init : Meth K C "__init__" f_init := ⟨a_init, i_init, k_init⟩
  have F_wishes := fun_mk (st := S_wishes) l_wishes c_wishes k_wishes
  have b_wishes := F_wishes.binds (ps := ["self"]) fun _ _ _ _ _ _ us hl => by obtain ⟨v0, rfl⟩ := len1 hl; rfl
  have m_wishes : Meth K C "wishes" f_wishes := ⟨a_wishes, i_wishes, k_wishes⟩
  have F_toinit := fun_mk (st := S_toinit) l_toinit c_toinit k_toinit
  have b_toinit := F_toinit.binds (ps := ["self", "there", "back"]) fun _ _ _ _ _ _ us hl => by obtain ⟨v0, v1, v2, rfl⟩ := len3 hl; rfl
  have m_toinit : Meth K CT "__init__" f_toinit := ⟨a_toinit, i_toinit, k_toinit⟩
  have F_uninit := fun_mk (st := S_uninit) l_uninit c_uninit k_uninit
  have b_uninit := F_uninit.binds (ps := ["self", "torn"]) fun _ _ _ _ _ _ us hl => by obtain ⟨v0, v1, rfl⟩ := len2 hl; rfl
  have m_uninit : Meth K CU "__init__" f_uninit := ⟨a_uninit, i_uninit, k_uninit⟩
  have F_law := fun_mk (st := S_law) l_law c_law k_law
  refine ⟨PySem.W.fnOf "law" "law" (defArgs S_law) (defBody S_law) (defScope S_law) .none kV_law dc_law pm_law an_law cd_law ct_law, fun s v => .of_eq rfl, fun base _ _ => ?_⟩
  have B2 : Bare2 mg := ⟨PySem.W.mg_none_of X G z_enu, PySem.W.mg_none_of X G z_zip⟩

  have T : TxtH K C := ⟨⟨pgC, hdC, poC, saC⟩, nC_names, nC_kept⟩
  have cnum := ok_num (P := l.prog) (w := w) (base := base) D_num B
  have cword := ok_word D_word B cnum
  have cwish := ok_wish D_wish B cword
  have cW : CalW l.prog w K mg base C := ⟨_, _, ok_wishes F_wishes B T, m_wishes, b_wishes⟩
  have cmk : CalMk l.prog w K mg base C "House" 4 ["self", "names", "wishes"] (sp_init C) := ⟨_, _, ⟨mkC, a_init, i_init, kcC⟩, ok_init F_init B T ⟨_, PySem.W.mg_of X G m8⟩ ⟨_, PySem.W.mg_of X G m24⟩ cnum cwish, PySem.W.mg_of X G aC, b_init⟩

  have ccheck := ok_check D_check T cword
  have copp := ok_opp (P := l.prog) (w := w) (base := base) D_opp
  have csaid := ok_said D_said T copp cW
  have cahead := ok_ahead D_ahead B csaid
  have cchain := ok_chain D_chain B ccheck cahead

  have cisch := ok_isch (P := l.prog) (w := w) (base := base) D_isch B T
  have chas := ok_has (P := l.prog) (w := w) (base := base) D_has
  have cpls := ok_pls D_pls chas
  have cdisp := ok_disp D_disp B2 T cisch cpls cW

  have callch := ok_allch (P := l.prog) (w := w) (base := base) D_allch B T
  have cplsch := ok_plsch D_plsch callch cdisp

  have tT : TxtT K CT := ⟨⟨⟨pgCT, hdCT, poCT, saCT⟩, haCT, hn, htk, hmCT⟩, nCT_there, nCT_back⟩
  have mT := PySem.W.mg_of X G aCT
  have kT : CalMk l.prog w K mg base CT "Torn" 1 ["self", "there", "back"] (sp_toinit K CT) := ⟨_, _, ⟨mkCT, a_toinit, i_toinit, kcCT⟩, ok_toinit F_toinit B tT, mT, b_toinit⟩
  have cft := ok_ftorn D_ftorn B T cchain kT

  have zU : ExF K mg CW CU f_uninit "Unpleased" "torn" := ⟨PySem.W.mg_of X G aCW, ⟨ga_CW, rd_CW, fi_CW⟩, kr_xrCU, ⟨ga_CU, gt_CU, be_CU, hd_CU, sa_CU, cl_CU, hn, htk, kr_veCU⟩, nCU_torn, kp_CU, i_uninit, PySem.W.mg_of X G aCU, up_CU⟩
  have fU := ok_uninit (P := l.prog) (w := w) (base := base) F_uninit zU
  have ccpls := ok_cpls D_cpls zU fU b_uninit cplsch cft
  have cschain := ok_schain D_schain cchain
  have csett := ok_sett D_sett B T ccpls cschain
  have cmany := ok_many D_many B cplsch
  have ccell := ok_cell (P := l.prog) (w := w) (base := base) D_cell B
  have zH : Ex0 K mg CW BH "BadHouse" := ⟨kr_x0BH, kp_BH, ⟨ga_BH, gt_BH, be_BH, hd_BH, sa_BH, cl_BH, hn, htk, kr_veBH⟩, PySem.W.mg_of X G aBH, up_BH⟩
  have zW : Ex0 K mg CW BW "BadWord" := ⟨kr_x0BW, kp_BW, ⟨ga_BW, gt_BW, be_BW, hd_BW, sa_BW, cl_BW, hn, htk, kr_veBW⟩, PySem.W.mg_of X G aBW, up_BW⟩
  have zC : Ex0 K mg CW BC "BadChoice" := ⟨kr_x0BC, kp_BC, ⟨ga_BC, gt_BC, be_BC, hd_BC, sa_BC, cl_BC, hn, htk, kr_veBC⟩, PySem.W.mg_of X G aBC, up_BC⟩
  have Kz : Kds K CW BH BW BC CU BT := ⟨⟨kit_t y_BH x_BH t_BH_BH, kit_f y_BW x_BW t_BH_BH t_BH_BW, kit_f y_BC x_BC t_BH_BH t_BH_BC, kit_f y_CU x_CU t_BH_BH t_BH_CU, kit_f y_BT x_BT t_BH_BH t_BH_BT, kr_vBH, ⟨ga_BH, gt_BH, be_BH, hd_BH, sa_BH, cl_BH, hn, htk, kr_veBH⟩, up_BH, by decide⟩, ⟨kit_f y_BH x_BH t_BW_BW t_BW_BH, kit_t y_BW x_BW t_BW_BW, kit_f y_BC x_BC t_BW_BW t_BW_BC, kit_f y_CU x_CU t_BW_BW t_BW_CU, kit_f y_BT x_BT t_BW_BW t_BW_BT, kr_vBW, ⟨ga_BW, gt_BW, be_BW, hd_BW, sa_BW, cl_BW, hn, htk, kr_veBW⟩, up_BW, by decide⟩, ⟨kit_f y_BH x_BH t_BC_BC t_BC_BH, kit_f y_BW x_BW t_BC_BC t_BC_BW, kit_t y_BC x_BC t_BC_BC, kit_f y_CU x_CU t_BC_BC t_BC_CU, kit_f y_BT x_BT t_BC_BC t_BC_BT, kr_vBC, ⟨ga_BC, gt_BC, be_BC, hd_BC, sa_BC, cl_BC, hn, htk, kr_veBC⟩, up_BC, by decide⟩, ⟨kit_f y_BH x_BH t_CU_CU t_CU_BH, kit_f y_BW x_BW t_CU_CU t_CU_BW, kit_f y_BC x_BC t_CU_CU t_CU_BC, kit_t y_CU x_CU t_CU_CU, kit_f y_BT x_BT t_CU_CU t_CU_BT, kr_vCU, ⟨ga_CU, gt_CU, be_CU, hd_CU, sa_CU, cl_CU, hn, htk, kr_veCU⟩, up_CU, by decide⟩⟩
  have Mz : Nm mg BH BW BC CU BT := ⟨PySem.W.mg_of X G aBH, PySem.W.mg_of X G aBW, PySem.W.mg_of X G aBC, PySem.W.mg_of X G aCU, PySem.W.mg_of X G aBT⟩
  have cnumG := ok_numG (P := l.prog) (w := w) (base := base) D_num B
  have cwordG := ok_wordG D_word B cnumG
  have cwishG := ok_wishG D_wish B cwordG
  have ccheckX := ok_checkX D_check T zW cwordG
  have cfolX := ok_folX D_fol ccheckX
  have cchX := ok_chainX D_chain ccheckX
  have ccwX := ok_cwordsX D_cwords B zW ccheckX
  have ckeepX := ok_keepX D_keep ccwX ccpls
  have cmkX : CalMkX l.prog w K mg base C "House" 4 ["self", "names", "wishes"] (sp_initX K BH) := ⟨_, _, ⟨mkC, a_init, i_init, kcC⟩, ok_initX F_init B zH ⟨_, PySem.W.mg_of X G m8⟩ ⟨_, PySem.W.mg_of X G m24⟩ cnumG cwishG, PySem.W.mg_of X G aC, b_init⟩
  have cischN := ok_ischN (P := l.prog) (w := w) (base := base) D_isch B T
  have cdispX := ok_dispX D_disp zC cischN
  have csort := ok_lsort (P := l.prog) (w := w) (base := base) (CW := CW) D_lsort B (PySem.W.mg_none_of X G z_ve) Mz
  have cask := ok_lask D_lask Kz cmk cmkX cfolX cchX ckeepX cdispX csett
  have casked := ok_lasked D_lasked (PySem.W.mg_of X G aCW) ⟨tup_CW, be_CW, y_CW⟩ cask csort
  have call := ok_lall D_lall B casked
  exact ok_law ⟨B, T, ccell, call, cmk, cW, cmany, csett⟩ F_law
theorem walk {l : PySem.W.OpenLaw} {q : Program} {loose : List Str} {XP : (Str → Option Value) → Heap → Prop} {YP : World → Heap → Prop} {d : DefRec} {K : Params → PySem.W.Frag} (hn : l.most = some 63) (hdf : d.params.defaults = [])
    (hY : ∀ (w : World) (h : Heap), YP w h → (K w.params).In h)
    (F : ∀ (w : World) (mg : Str → Option Value) (fa : Addr) (h : Heap), (K w.params).In h → h.Ns mainGlobals mg → mg d.name = some (.ref fa) →
      ∃ fd : FuncData, (∀ (s : Shared) (u : Value), BindsTo s fd ⟨[u], []⟩ [("_law_script", u)]) ∧ ∀ base : Heap, (K w.params).In base → base.Ns mainGlobals mg → FnOk l.prog w (K w.params) mg base CX0 11 fa fd ["_law_script"] (sp_law (K w.params))) :
    PySem.W.WalkO q loose XP YP l.row.toRowW d [] (fun f vs => PySem.call f vs) :=
  L2.walk_of (n := 63) (k := 11) (x := "_law_script") (CX := fun _ => CX0) (sp := fun w => sp_law (K w.params)) hn (by decide) hdf ⟨rfl, by decide, by decide⟩ hY F (fun _ _ a ns _ _ hS => ⟨a, ns, rfl, hS, fun _ => rfl⟩) fun _ _ _ _ _ z => z
end L2

end

set_option Elab.async false
def PySem.W.Fast.tw17026303010003380678 : Nat := 0
def PySem.W.Fast.tw3712299308970281390 : Nat := 0
def PySem.W.Fast.tw3280747936217646325 : Nat := 0
def PySem.W.Fast.tw12969584158745889580 : Nat := 0
def PySem.W.Fast.tw11609327483447796591 : Nat := 0
def PySem.W.Fast.tw10509649375122777766 : Nat := 0
def PySem.W.Fast.tw14232921121087929886 : Nat := 0
def PySem.W.Fast.tw1756739896051284870 : Nat := 0
def PySem.W.Fast.tw18137395037997946969 : Nat := 0
def PySem.W.Fast.tw10763932664955433836 : Nat := 0
def PySem.W.Fast.tw11856343329596520361 : Nat := 0
def PySem.W.Fast.tw17807775733507221181 : Nat := 0
def PySem.W.Fast.tw11903594711049226363 : Nat := 0
def PySem.W.Fast.tw11330064044826668988 : Nat := 0
def PySem.W.Fast.tw16897278577437162682 : Nat := 0
def PySem.W.Fast.tw7131376262894734744 : Nat := 0
def PySem.W.Fast.tw10878139527192956882 : Nat := 0
def PySem.W.Fast.tw8334874704648256327 : Nat := 0
open PySem PySem.W PyProof.Rows
set_option maxRecDepth 100000 in
set_option maxHeartbeats 0 in
theorem PySem.Challenge.cw_eitheror_k08_refused_holds : PySem.Challenge.rw_eitheror_k08_refused.Holds := by
  w_on; o_law; k_head; (case hw => w_witness2)
  k_fill
  refine L2.walk (l := PySem.Challenge.rw_eitheror_k08_refused) rfl rfl (fun w h Y => PySem.W.kIn_of Y) ?F
  case F =>
    intro w mg fa h KX G hmg
    refine' L2.all_mk KX G hmg ?aC ?aCT ?aCW ?aCU ?aBC ?aBH ?aBW ?aBT ?a_num ?l_num ?c_num ?k_num ?a_word ?l_word ?c_word ?k_word ?a_wish ?l_wish ?c_wish ?k_wish ?a_check ?l_check ?c_check ?k_check ?a_opp ?l_opp ?c_opp ?k_opp ?a_said ?l_said ?c_said ?k_said ?a_ahead ?l_ahead ?c_ahead ?k_ahead ?a_chain ?l_chain ?c_chain ?k_chain ?a_fol ?l_fol ?c_fol ?k_fol ?a_isch ?l_isch ?c_isch ?k_isch ?a_has ?l_has ?c_has ?k_has ?a_pls ?l_pls ?c_pls ?k_pls ?a_disp ?l_disp ?c_disp ?k_disp ?a_allch ?l_allch ?c_allch ?k_allch ?a_plsch ?l_plsch ?c_plsch ?k_plsch ?a_ftorn ?l_ftorn ?c_ftorn ?k_ftorn ?a_many ?l_many ?c_many ?k_many ?a_cpls ?l_cpls ?c_cpls ?k_cpls ?a_schain ?l_schain ?c_schain ?k_schain ?a_sett ?l_sett ?c_sett ?k_sett ?a_cwords ?l_cwords ?c_cwords ?k_cwords ?a_keep ?l_keep ?c_keep ?k_keep ?a_cell ?l_cell ?c_cell ?k_cell ?a_lsort ?l_lsort ?c_lsort ?k_lsort ?a_lask ?l_lask ?c_lask ?k_lask ?a_lasked ?l_lasked ?c_lasked ?k_lasked ?a_lall ?l_lall ?c_lall ?k_lall ?a_init ?i_init ?l_init ?c_init ?k_init ?a_wishes ?i_wishes ?l_wishes ?c_wishes ?k_wishes ?a_toinit ?i_toinit ?l_toinit ?c_toinit ?k_toinit ?a_uninit ?i_uninit ?l_uninit ?c_uninit ?k_uninit ?a_law ?l_law ?c_law ?k_law ?pgC ?hdC ?poC ?saC ?mkC ?kcC ?pgCT ?hdCT ?poCT ?saCT ?mkCT ?kcCT ?haCT ?hmCT ?hn ?htk ?nC_names ?nC_kept ?nCT_there ?nCT_back ?nCU_torn ?y_BC ?x_BC ?y_BH ?x_BH ?y_BT ?x_BT ?y_BW ?x_BW ?y_CU ?x_CU ?t_BH_BH ?t_BH_BW ?t_BH_BC ?t_BH_CU ?t_BH_BT ?t_BW_BH ?t_BW_BW ?t_BW_BC ?t_BW_CU ?t_BW_BT ?t_BC_BH ?t_BC_BW ?t_BC_BC ?t_BC_CU ?t_BC_BT ?t_CU_BH ?t_CU_BW ?t_CU_BC ?t_CU_CU ?t_CU_BT ?m8 ?m24 ?z_isin ?z_len ?z_all ?z_min ?z_srt ?z_int ?z_bool ?z_tup ?z_lst ?z_rev ?z_rng ?z_enu ?z_zip ?z_ve ?ga_CU ?gt_CU ?be_CU ?hd_CU ?sa_CU ?cl_CU ?kr_veCU ?up_CU ?kr_xrCU ?kp_CU ?ga_BH ?gt_BH ?be_BH ?hd_BH ?sa_BH ?cl_BH ?kr_veBH ?up_BH ?kr_x0BH ?kp_BH ?ga_BW ?gt_BW ?be_BW ?hd_BW ?sa_BW ?cl_BW ?kr_veBW ?up_BW ?kr_x0BW ?kp_BW ?ga_BC ?gt_BC ?be_BC ?hd_BC ?sa_BC ?cl_BC ?kr_veBC ?up_BC ?kr_x0BC ?kp_BC ?ga_CW ?rd_CW ?fi_CW ?tup_CW ?be_CW ?y_CW ?kr_vBH ?kr_vBW ?kr_vBC ?kr_vCU
    (case aC => k_is); (case aCT => k_is); (case aCW => k_is); (case aCU => k_is); (case aBC => k_is); (case aBH => k_is)
    (case aBW => k_is); (case aBT => k_is); (case a_num => k_is); (case l_num => k_is); (case c_num => k_is); (case k_num => k_is)
    (case a_word => k_is); (case l_word => k_is); (case c_word => k_is); (case k_word => k_is); (case a_wish => k_is); (case l_wish => k_is)
    (case c_wish => k_is); (case k_wish => k_is); (case a_check => k_is); (case l_check => k_is); (case c_check => k_is); (case k_check => k_is)
    (case a_opp => k_is); (case l_opp => k_is); (case c_opp => k_is); (case k_opp => k_is); (case a_said => k_is); (case l_said => k_is)
    (case c_said => k_is); (case k_said => k_is); (case a_ahead => k_is); (case l_ahead => k_is); (case c_ahead => k_is); (case k_ahead => k_is)
    (case a_chain => k_is); (case l_chain => k_is); (case c_chain => k_is); (case k_chain => k_is); (case a_fol => k_is); (case l_fol => k_is)
    (case c_fol => k_is); (case k_fol => k_is); (case a_isch => k_is); (case l_isch => k_is); (case c_isch => k_is); (case k_isch => k_is)
    (case a_has => k_is); (case l_has => k_is); (case c_has => k_is); (case k_has => k_is); (case a_pls => k_is); (case l_pls => k_is)
    (case c_pls => k_is); (case k_pls => k_is); (case a_disp => k_is); (case l_disp => k_is); (case c_disp => k_is); (case k_disp => k_is)
    (case a_allch => k_is); (case l_allch => k_is); (case c_allch => k_is); (case k_allch => k_is); (case a_plsch => k_is); (case l_plsch => k_is)
    (case c_plsch => k_is); (case k_plsch => k_is); (case a_ftorn => k_is); (case l_ftorn => k_is); (case c_ftorn => k_is); (case k_ftorn => k_is)
    (case a_many => k_is); (case l_many => k_is); (case c_many => k_is); (case k_many => k_is); (case a_cpls => k_is); (case l_cpls => k_is)
    (case c_cpls => k_is); (case k_cpls => k_is); (case a_schain => k_is); (case l_schain => k_is); (case c_schain => k_is); (case k_schain => k_is)
    (case a_sett => k_is); (case l_sett => k_is); (case c_sett => k_is); (case k_sett => k_is); (case a_cwords => k_is); (case l_cwords => k_is)
    (case c_cwords => k_is); (case k_cwords => k_is); (case a_keep => k_is); (case l_keep => k_is); (case c_keep => k_is); (case k_keep => k_is)
    (case a_cell => k_is); (case l_cell => k_is); (case c_cell => k_is); (case k_cell => k_is); (case a_lsort => k_is); (case l_lsort => k_is)
    (case c_lsort => k_is); (case k_lsort => k_is); (case a_lask => k_is); (case l_lask => k_is); (case c_lask => k_is); (case k_lask => k_is)
    (case a_lasked => k_is); (case l_lasked => k_is); (case c_lasked => k_is); (case k_lasked => k_is); (case a_lall => k_is); (case l_lall => k_is)
    (case c_lall => k_is); (case k_lall => k_is); (case a_init => k_is); (case i_init => k_is); (case l_init => k_is); (case c_init => k_is)
    (case k_init => k_is); (case a_wishes => k_is); (case i_wishes => k_is); (case l_wishes => k_is); (case c_wishes => k_is); (case k_wishes => k_is)
    (case a_toinit => k_is); (case i_toinit => k_is); (case l_toinit => k_is); (case c_toinit => k_is); (case k_toinit => k_is); (case a_uninit => k_is)
    (case i_uninit => k_is); (case l_uninit => k_is); (case c_uninit => k_is); (case k_uninit => k_is); (case a_law => k_is); (case l_law => k_is)
    (case c_law => k_is); (case k_law => k_is); (case pgC => k_is); (case hdC => k_is); (case poC => k_is); (case saC => k_is)
    (case mkC => k_is); (case kcC => k_is); (case pgCT => k_is); (case hdCT => k_is); (case poCT => k_is); (case saCT => k_is)
    (case mkCT => k_is); (case kcCT => k_is); (case haCT => k_is); (case hmCT => k_is); (case hn => k_is); (case htk => k_is)
    (case nC_names => k_is); (case nC_kept => k_is); (case nCT_there => k_is); (case nCT_back => k_is); (case nCU_torn => k_is); (case y_BC => k_is)
    (case x_BC => k_is); (case y_BH => k_is); (case x_BH => k_is); (case y_BT => k_is); (case x_BT => k_is); (case y_BW => k_is)
    (case x_BW => k_is); (case y_CU => k_is); (case x_CU => k_is); (case t_BH_BH => k_is); (case t_BH_BW => k_is); (case t_BH_BC => k_is)
    (case t_BH_CU => k_is); (case t_BH_BT => k_is); (case t_BW_BH => k_is); (case t_BW_BW => k_is); (case t_BW_BC => k_is); (case t_BW_CU => k_is)
    (case t_BW_BT => k_is); (case t_BC_BH => k_is); (case t_BC_BW => k_is); (case t_BC_BC => k_is); (case t_BC_CU => k_is); (case t_BC_BT => k_is)
    (case t_CU_BH => k_is); (case t_CU_BW => k_is); (case t_CU_BC => k_is); (case t_CU_CU => k_is); (case t_CU_BT => k_is); (case m8 => k_is)
    (case m24 => k_is); (case z_isin => k_is); (case z_len => k_is); (case z_all => k_is); (case z_min => k_is); (case z_srt => k_is)
    (case z_int => k_is); (case z_bool => k_is); (case z_tup => k_is); (case z_lst => k_is); (case z_rev => k_is); (case z_rng => k_is)
    (case z_enu => k_is); (case z_zip => k_is); (case z_ve => k_is); (case ga_CU => k_is); (case gt_CU => k_is); (case be_CU => k_is)
    (case hd_CU => k_is); (case sa_CU => k_is); (case cl_CU => k_is); (case kr_veCU => kernel_rfl); (case up_CU => k_is); (case kr_xrCU => kernel_rfl)
    (case kp_CU => k_is); (case ga_BH => k_is); (case gt_BH => k_is); (case be_BH => k_is); (case hd_BH => k_is); (case sa_BH => k_is)
    (case cl_BH => k_is); (case kr_veBH => kernel_rfl); (case up_BH => k_is); (case kr_x0BH => kernel_rfl); (case kp_BH => k_is); (case ga_BW => k_is)
    (case gt_BW => k_is); (case be_BW => k_is); (case hd_BW => k_is); (case sa_BW => k_is); (case cl_BW => k_is); (case kr_veBW => kernel_rfl)
    (case up_BW => k_is); (case kr_x0BW => kernel_rfl); (case kp_BW => k_is); (case ga_BC => k_is); (case gt_BC => k_is); (case be_BC => k_is)
    (case hd_BC => k_is); (case sa_BC => k_is); (case cl_BC => k_is); (case kr_veBC => kernel_rfl); (case up_BC => k_is); (case kr_x0BC => kernel_rfl)
    (case kp_BC => k_is); (case ga_CW => k_is); (case rd_CW => k_is); (case fi_CW => k_is); (case tup_CW => k_is); (case be_CW => k_is)
    (case y_CW => k_is); (case kr_vBH => kernel_rfl); (case kr_vBW => kernel_rfl); (case kr_vBC => kernel_rfl); (case kr_vCU => kernel_rfl)
