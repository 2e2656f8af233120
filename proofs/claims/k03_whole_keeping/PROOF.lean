import PyProof.Rows.All
import Wide.All
import OpenK.AllK
import Wide.FinOn
import Lean
import PyProof.EqAt
import PyProof.EqKinds
import PyProof.TupleCall
import KE.KSortAsk
import PyProof.DictWalks
import PyProof.Dict
import PyProof.DictKind
import PyProof.FactsAll.bool_1
import PyProof.FactsInt
import PyProof.TupleKey
import PyProof.DictRoadsH
import PyProof.Rows.TupDisplay
import KE.KRevIter
import KE.KDictList
import PyProof.EnumMake
import PyProof.WalksEnum
import PyProof.ZipIter
import PySem.SetTable
import PySem.SetOps
import PyProof.SetScanFacts
import PyProof.SetKind
import PyProof.Walks
import PyProof.Rows.SetFrom
import PyProof.FactsAll.set
import PyProof.SetRoads
import KE.BitLaws
import PySem.Challenge.RW_eitheror_k03_whole_keeping
set_option Elab.async false
section
set_option autoImplicit false
namespace Eo

abbrev W := Int × Bool
def neg (u : W) : W := (u.1, !u.2)
def InN (N : Nat) (x : W) : Prop := 0 ≤ x.1 ∧ x.1 < (N : Int)
/-- every word of every wish is a word of the house -/
def Good (N : Nat) (ws : List (W × W)) : Prop := ∀ p ∈ ws, InN N p.1 ∧ InN N p.2

def Nx (ws : List (W × W)) (u v : W) : Prop := (neg u, v) ∈ ws ∨ (v, neg u) ∈ ws
instance (ws : List (W × W)) (u v : W) : Decidable (Nx ws u v) := inferInstanceAs (Decidable (_ ∨ _))

inductive Way (ws : List (W × W)) (u : W) : Nat → W → Prop
  | here : Way ws u 0 u
  | step {k : Nat} {v x : W} : Way ws u k v → Nx ws v x → Way ws u (k + 1) x

def Reach (ws : List (W × W)) (u v : W) : Prop := ∃ k, Way ws u k v
def Dist (ws : List (W × W)) (u v : W) (k : Nat) : Prop := Way ws u k v ∧ ∀ j, Way ws u j v → k ≤ j

theorem Nx.inN {N : Nat} {ws : List (W × W)} {u v : W} (g : Good N ws) (h : Nx ws u v) : InN N v := by
  rcases h with h | h
  · exact (g _ h).2
  · exact (g _ h).1
theorem Way.inN {N : Nat} {ws : List (W × W)} {u v : W} {k : Nat} (g : Good N ws) (hu : InN N u) (h : Way ws u k v) : InN N v := by
  cases h with
  | here => exact hu
  | step _ n => exact n.inN g
theorem Dist.uniq {ws : List (W × W)} {u v : W} {j k : Nat} (a : Dist ws u v j) (b : Dist ws u v k) : j = k :=
  Nat.le_antisymm (a.2 k b.1) (b.2 j a.1)
/-- all words of a house, in the order of tuples -/
def allW (N : Nat) : List W := (List.range (2 * N)).map fun k => (((k / 2 : Nat) : Int), k % 2 == 1)
def code (x : W) : Int := 2 * x.1 + (if x.2 then 1 else 0)

theorem allW_len (N : Nat) : (allW N).length = 2 * N := by simp [allW]
theorem mem_allW {N : Nat} {x : W} : x ∈ allW N ↔ InN N x := by
  obtain ⟨a, b⟩ := x
  unfold allW InN
  simp only [List.mem_map, List.mem_range, Prod.mk.injEq]
  constructor
  · rintro ⟨k, hk, rfl, rfl⟩
    omega
  · rintro ⟨h0, h1⟩
    cases b with
    | false => exact ⟨2 * a.toNat, by omega, by omega, by simp⟩
    | true => exact ⟨2 * a.toNat + 1, by omega, by omega, by simp⟩
theorem nodup_sub {α : Type} [DecidableEq α] : ∀ {l m : List α}, l.Nodup → (∀ x ∈ l, x ∈ m) → l.length ≤ m.length
  | [], _, _, _ => Nat.zero_le _
  | a :: r, m, hn, hs => by
    have hn' := List.nodup_cons.mp hn
    have ha : a ∈ m := hs a (by simp)
    have h := nodup_sub (l := r) (m := m.erase a) hn'.2 fun x hx => by
      have hne : x ≠ a := fun e => hn'.1 (e ▸ hx)
      exact (List.mem_erase_of_ne hne).2 (hs x (List.mem_cons_of_mem _ hx))
    have hl : (m.erase a).length = m.length - 1 := List.length_erase_of_mem ha
    have hp : 0 < m.length := List.length_pos_of_mem ha
    simp only [List.length_cons]
    omega
theorem len_words {N : Nat} {l : List W} (hn : l.Nodup) (h : ∀ x ∈ l, InN N x) : l.length ≤ 2 * N := by
  have := nodup_sub (m := allW N) hn fun x hx => mem_allW.2 (h x hx)
  rwa [allW_len] at this

/-- a shortest way passes as many words as it has steps, and one -/
theorem Dist.list {N : Nat} {ws : List (W × W)} {u : W} (g : Good N ws) (hu : InN N u) : ∀ {k : Nat} {x : W}, Dist ws u x k →
    ∃ l : List W, l.length = k + 1 ∧ l.Nodup ∧ ∀ v ∈ l, InN N v ∧ ∃ i, i ≤ k ∧ Dist ws u v i
  | 0, x, h => ⟨[x], rfl, by simp, fun v hv => by
      have e : v = x := by simpa using hv
      subst e
      exact ⟨h.1.inN g hu, 0, Nat.le_refl _, h⟩⟩
  | k + 1, x, h => by
    obtain ⟨hw, hm⟩ := h
    cases hw with
    | @step k' v x hw n =>
      have hv : Dist ws u v k := ⟨hw, fun j hj => by
        have := hm (j + 1) (.step hj n)
        omega⟩
      obtain ⟨l, h1, h2, h3⟩ := Dist.list g hu hv
      have hx : Dist ws u x (k + 1) := ⟨.step hw n, hm⟩
      refine ⟨x :: l, by simp [h1], List.nodup_cons.mpr ⟨fun hx' => ?_, h2⟩, fun y hy => ?_⟩
      · obtain ⟨_, i, hi, hd⟩ := h3 x hx'
        have := hd.uniq hx
        omega
      · rcases List.mem_cons.mp hy with e | hy
        · subst e
          exact ⟨n.inN g, k + 1, Nat.le_refl _, hx⟩
        · obtain ⟨a, i, hi, hd⟩ := h3 y hy
          exact ⟨a, i, by omega, hd⟩
theorem Dist.lt {N : Nat} {ws : List (W × W)} {u x : W} {k : Nat} (g : Good N ws) (hu : InN N u) (h : Dist ws u x k) : k < 2 * N := by
  obtain ⟨l, h1, h2, h3⟩ := h.list g hu
  have := len_words h2 fun v hv => (h3 v hv).1
  omega

/-- a word that was reached, the one ahead of it, how many steps -/
abbrev T := W × Option W × Nat
structure Core (ws : List (W × W)) (u : W) (G : List T) : Prop where
  nd : (G.map (·.1)).Nodup
  head : G.head? = some (u, none, 0)
  par : ∀ t ∈ G, t = (u, none, 0) ∨ ∃ p q d, (p, q, d) ∈ G ∧ Nx ws p t.1 ∧ t.2.1 = some p ∧ t.2.2 = d + 1
  way : ∀ t ∈ G, Way ws u t.2.2 t.1
  mono : G.Pairwise fun a b => a.2.2 ≤ b.2.2
/-- the words ahead of place i are gone on from -/
def Closed (ws : List (W × W)) (G : List T) (i : Nat) : Prop := ∀ j t, j < i → G[j]? = some t → ∀ x, Nx ws t.1 x → ∃ q d, (x, q, d) ∈ G ∧ d ≤ t.2.2 + 1
structure Bfs (ws : List (W × W)) (u : W) (i : Nat) (G : List T) : Prop extends Core ws u G where
  near : ∀ c, G[i]? = some c → ∀ t ∈ G, t.2.2 ≤ c.2.2 + 1
  done : Closed ws G i
structure BfsIn (ws : List (W × W)) (u : W) (i : Nat) (c : T) (pre : List W) (G : List T) : Prop extends Core ws u G where
  at_ : G[i]? = some c
  near : ∀ t ∈ G, t.2.2 ≤ c.2.2 + 1
  done : Closed ws G i
  part : ∀ x ∈ pre, ∃ q d, (x, q, d) ∈ G ∧ d ≤ c.2.2 + 1

theorem bfs_start (ws : List (W × W)) (u : W) : Bfs ws u 0 [(u, none, 0)] where
  nd := by simp
  head := rfl
  par := fun t ht => .inl (by simpa using ht)
  way := fun t ht => by
    have e : t = (u, none, 0) := by simpa using ht
    subst e
    exact .here
  mono := by simp
  near := fun c hc t ht => by
    have e : t = (u, none, 0) := by simpa using ht
    subst e
    exact Nat.zero_le _
  done := fun j t hj => by omega
theorem Bfs.enter {ws : List (W × W)} {u : W} {i : Nat} {G : List T} {c : T} (b : Bfs ws u i G) (h : G[i]? = some c) : BfsIn ws u i c [] G :=
  { b.toCore with at_ := h, near := b.near c h, done := b.done, part := fun _ h => by simp at h }
theorem BfsIn.old {ws : List (W × W)} {u : W} {i : Nat} {G : List T} {c : T} {pre : List W} {x : W} (b : BfsIn ws u i c pre G) (hx : x ∈ G.map (·.1)) : BfsIn ws u i c (pre ++ [x]) G :=
  { b with
    part := fun y hy => by
      rcases List.mem_append.mp hy with hy | hy
      · exact b.part y hy
      · have e : y = x := by simpa using hy
        subst e
        obtain ⟨t, ht, e⟩ := List.mem_map.mp hx
        subst e
        exact ⟨t.2.1, t.2.2, ht, b.near t ht⟩ }
theorem BfsIn.new {ws : List (W × W)} {u : W} {i : Nat} {G : List T} {c : T} {pre : List W} {x : W} (b : BfsIn ws u i c pre G) (hx : x ∉ G.map (·.1)) (n : Nx ws c.1 x) :
    BfsIn ws u i c (pre ++ [x]) (G ++ [(x, some c.1, c.2.2 + 1)]) where
  nd := by
    rw [List.map_append, List.nodup_append]
    refine ⟨b.nd, by simp, fun a ha y hy => ?_⟩
    have e : y = x := by simpa using hy
    subst e
    exact fun e => hx (e ▸ ha)
  head := by
    rw [List.head?_append, b.head]
    rfl
  par := fun t ht => by
    rcases List.mem_append.mp ht with ht | ht
    · rcases b.par t ht with e | ⟨p, q, d, h1, h2⟩
      · exact .inl e
      · exact .inr ⟨p, q, d, List.mem_append_left _ h1, h2⟩
    · have e : t = (x, some c.1, c.2.2 + 1) := by simpa using ht
      subst e
      exact .inr ⟨c.1, c.2.1, c.2.2, List.mem_append_left _ (List.mem_of_getElem? b.at_), n, rfl, rfl⟩
  way := fun t ht => by
    rcases List.mem_append.mp ht with ht | ht
    · exact b.way t ht
    · have e : t = (x, some c.1, c.2.2 + 1) := by simpa using ht
      subst e
      exact .step (b.way c (List.mem_of_getElem? b.at_)) n
  mono := by
    rw [List.pairwise_append]
    refine ⟨b.mono, by simp, fun a ha y hy => ?_⟩
    have e : y = (x, some c.1, c.2.2 + 1) := by simpa using hy
    subst e
    exact b.near a ha
  at_ := by
    have hi : i < G.length := (List.getElem?_eq_some_iff.mp b.at_).1
    rw [List.getElem?_append_left hi]
    exact b.at_
  near := fun t ht => by
    rcases List.mem_append.mp ht with ht | ht
    · exact b.near t ht
    · have e : t = (x, some c.1, c.2.2 + 1) := by simpa using ht
      subst e
      exact Nat.le_refl _
  done := fun j t hj ht y hy => by
    have hi : i < G.length := (List.getElem?_eq_some_iff.mp b.at_).1
    rw [List.getElem?_append_left (by omega)] at ht
    obtain ⟨q, d, h1, h2⟩ := b.done j t hj ht y hy
    exact ⟨q, d, List.mem_append_left _ h1, h2⟩
  part := fun y hy => by
    rcases List.mem_append.mp hy with hy | hy
    · obtain ⟨q, d, h1, h2⟩ := b.part y hy
      exact ⟨q, d, List.mem_append_left _ h1, h2⟩
    · have e : y = x := by simpa using hy
      subst e
      exact ⟨some c.1, c.2.2 + 1, by simp, Nat.le_refl _⟩
theorem BfsIn.leave {ws : List (W × W)} {u : W} {i : Nat} {G : List T} {c : T} {pre : List W} (b : BfsIn ws u i c pre G) (h : ∀ x, Nx ws c.1 x → x ∈ pre) : Bfs ws u (i + 1) G :=
  { b.toCore with
    near := fun e he t ht => by
      have h1 := b.near t ht
      have hi : i < G.length := (List.getElem?_eq_some_iff.mp b.at_).1
      have hi' : i + 1 < G.length := (List.getElem?_eq_some_iff.mp he).1
      have h2 := (List.pairwise_iff_getElem.mp b.mono) i (i + 1) hi hi' (by omega)
      have e1 : G[i] = c := (List.getElem?_eq_some_iff.mp b.at_).2
      have e2 : G[i + 1] = e := (List.getElem?_eq_some_iff.mp he).2
      rw [e1, e2] at h2
      omega
    done := fun j t hj ht x hx => by
      by_cases hji : j < i
      · exact b.done j t hji ht x hx
      · have e : j = i := by omega
        subst e
        rw [b.at_] at ht
        cases ht
        exact b.part x (h x hx) }
/-- the search is through -/
structure Found (ws : List (W × W)) (u : W) (G : List T) : Prop extends Core ws u G where
  all : ∀ k x, Way ws u k x → ∃ q d, (x, q, d) ∈ G ∧ d ≤ k
theorem Bfs.found {ws : List (W × W)} {u : W} {i : Nat} {G : List T} (b : Bfs ws u i G) (h : G.length ≤ i) : Found ws u G :=
  { b.toCore with
    all := fun k x hw => by
      induction hw with
      | here =>
        cases hG : G with
        | nil => have := b.head; rw [hG] at this; cases this
        | cons t r =>
          have := b.head
          rw [hG] at this
          have e : t = (u, none, 0) := by simpa using this
          subst e
          exact ⟨none, 0, by simp, Nat.le_refl _⟩
      | @step k v x hw n ih =>
        obtain ⟨q, d, h1, h2⟩ := ih
        obtain ⟨j, hj, e⟩ := List.mem_iff_getElem.mp h1
        obtain ⟨q', d', h3, h4⟩ := b.done j (v, q, d) (by omega) (List.getElem?_eq_some_iff.mpr ⟨hj, e⟩) x n
        exact ⟨q', d', h3, by have : d' ≤ d + 1 := h4; omega⟩ }
theorem Core.key {ws : List (W × W)} {u : W} {G : List T} (f : Core ws u G) {x : W} {p q : Option W} {d e : Nat} (h1 : (x, p, d) ∈ G) (h2 : (x, q, e) ∈ G) : p = q ∧ d = e := by
  obtain ⟨i, hi, ei⟩ := List.mem_iff_getElem.mp h1
  obtain ⟨j, hj, ej⟩ := List.mem_iff_getElem.mp h2
  have h := (List.getElem_inj (xs := G.map (·.1)) (h₀ := by simpa using hi) (h₁ := by simpa using hj) f.nd).mp (by simp [ei, ej])
  subst h
  rw [ei] at ej
  cases ej
  exact ⟨rfl, rfl⟩
theorem Found.dist {ws : List (W × W)} {u : W} {G : List T} (f : Found ws u G) {x : W} {p : Option W} {d : Nat} (h : (x, p, d) ∈ G) : Dist ws u x d :=
  ⟨f.way _ h, fun j hj => by
    obtain ⟨q, e, h1, h2⟩ := f.all j x hj
    have := (f.key h h1).2
    omega⟩
theorem Found.mem {ws : List (W × W)} {u : W} {G : List T} (f : Found ws u G) {x : W} : x ∈ G.map (·.1) ↔ Reach ws u x := by
  constructor
  · intro h
    obtain ⟨t, ht, e⟩ := List.mem_map.mp h
    subst e
    exact ⟨_, f.way t ht⟩
  · rintro ⟨k, hk⟩
    obtain ⟨q, d, h, _⟩ := f.all k x hk
    exact List.mem_map.mpr ⟨_, h, rfl⟩
theorem Core.inN {N : Nat} {ws : List (W × W)} {u : W} {G : List T} (f : Core ws u G) (g : Good N ws) (hu : InN N u) : ∀ x ∈ G.map (·.1), InN N x := fun x hx => by
  obtain ⟨t, ht, e⟩ := List.mem_map.mp hx
  subst e
  exact (f.way t ht).inN g hu
theorem Core.len {N : Nat} {ws : List (W × W)} {u : W} {G : List T} (f : Core ws u G) (g : Good N ws) (hu : InN N u) : G.length ≤ 2 * N := by
  have := len_words f.nd (f.inN g hu)
  simpa using this

def Chn (ws : List (W × W)) : List W → Prop
  | [] => True
  | [_] => True
  | a :: b :: r => Nx ws a b ∧ Chn ws (b :: r)
theorem Chn.at {ws : List (W × W)} : ∀ {l : List W} {k : Nat} {a b : W}, Chn ws l → l[k]? = some a → l[k + 1]? = some b → Nx ws a b
  | [], _, _, _, _, h, _ => by simp at h
  | [x], k, _, _, _, _, h => by simp at h
  | x :: y :: r, 0, a, b, c, h1, h2 => by
    simp at h1 h2
    subst h1; subst h2
    exact c.1
  | x :: y :: r, k + 1, a, b, c, h1, h2 => Chn.at (l := y :: r) (k := k) c.2 (by simpa using h1) (by simpa using h2)
/-- what stands in hand while a chain is walked back from x: v the next word (none: all is through), l the words taken -/
def Back (ws : List (W × W)) (u x : W) (G : List T) (n : Nat) (link : Option W) (l : List W) : Prop :=
  match link with
  | some v => ∃ q d, (v, q, d) ∈ G ∧ Chn ws (v :: l.reverse) ∧ l.length + d = n ∧ (v :: l.reverse).getLast? = some x
  | none => Chn ws l.reverse ∧ l.reverse.head? = some u ∧ l.reverse.getLast? = some x ∧ l.length = n + 1
theorem Back.start {ws : List (W × W)} {u x : W} {G : List T} {n : Nat} {q : Option W} (h : (x, q, n) ∈ G) : Back ws u x G n (some x) [] :=
  ⟨q, n, h, trivial, by simp, rfl⟩
theorem Back.turn {ws : List (W × W)} {u x v : W} {G : List T} {n : Nat} {q : Option W} {d : Nat} {l : List W} (f : Core ws u G) (b : Back ws u x G n (some v) l) (h : (v, q, d) ∈ G) :
    Back ws u x G n q (l ++ [v]) ∧ l.length ≤ n := by
  obtain ⟨q', d', h1, h2, h3, h4⟩ := b
  obtain ⟨e1, e2⟩ := f.key h h1
  subst e1; subst e2
  refine ⟨?_, by omega⟩
  rcases f.par _ h with e | ⟨p, q', d', h5, h6, h7, h8⟩
  · cases e
    refine ⟨?_, ?_, ?_, ?_⟩
    · simpa using h2
    · simp
    · simpa using h4
    · simp; omega
  · have e7 : q = some p := h7
    have e8 : d = d' + 1 := h8
    subst e7
    refine ⟨q', d', h5, ?_, ?_, ?_⟩
    · rw [List.reverse_append]
      exact ⟨h6, h2⟩
    · simp; omega
    · rw [List.reverse_append]
      show (p :: v :: l.reverse).getLast? = some x
      rw [List.getLast?_cons_cons]
      exact h4

/-- what must be said next, in the order of the wishes -/
def said (ws : List (W × W)) (u : W) : List W := ws.flatMap fun p => (if p.1 = neg u then [p.2] else []) ++ (if p.2 = neg u then [p.1] else [])
theorem mem_said {ws : List (W × W)} {u x : W} : x ∈ said ws u ↔ Nx ws u x := by
  unfold said Nx
  simp only [List.mem_flatMap, List.mem_append]
  constructor
  · rintro ⟨⟨a, b⟩, hp, h | h⟩
    · by_cases e : a = neg u
      · rw [if_pos e] at h
        have : x = b := by simpa using h
        subst this; subst e
        exact .inl hp
      · rw [if_neg e] at h; simp at h
    · by_cases e : b = neg u
      · rw [if_pos e] at h
        have : x = a := by simpa using h
        subst this; subst e
        exact .inr hp
      · rw [if_neg e] at h; simp at h
  · rintro (h | h)
    · exact ⟨_, h, .inl (by simp)⟩
    · exact ⟨_, h, .inr (by simp)⟩
end Eo

end

section
set_option autoImplicit false
set_option maxRecDepth 100000
namespace EoS
open PySem.W PyProof.Rows

/-- a run of the tree by the answers lt, all asked places below n -/
def Ok {α : Type} (n : Nat) (lt : Nat → Nat → Bool) : KasT α → (α → Prop) → Prop
  | .ret a, P => P a
  | .ask i j k, P => i < n ∧ j < n ∧ Ok n lt (k (lt i j)) P
theorem Ok.mono {α : Type} {n : Nat} {lt : Nat → Nat → Bool} {P Q : α → Prop} (h : ∀ a, P a → Q a) : ∀ {t : KasT α}, Ok n lt t P → Ok n lt t Q
  | .ret a, hp => h a hp
  | .ask _ _ _, hp => ⟨hp.1, hp.2.1, Ok.mono h hp.2.2⟩
theorem Ok.bind {α β : Type} {n : Nat} {lt : Nat → Nat → Bool} {f : α → KasT β} {Q : β → Prop} : ∀ {t : KasT α}, Ok n lt t (fun a => Ok n lt (f a) Q) → Ok n lt (t.bind f) Q
  | .ret _, hp => hp
  | .ask _ _ _, hp => ⟨hp.1, hp.2.1, Ok.bind hp.2.2⟩

/-- the run by a question cmp that gives lt's answer where J holds, and keeps J -/
theorem Ok.wp {α : Type} {n : Nat} {lt : Nat → Nat → Bool} {J : PySem.Shared → Prop} {cmp : Nat → Nat → (Bool → PySem.Shared → Prop) → PySem.Shared → Prop}
    (hc : ∀ i j (C : Bool → PySem.Shared → Prop) s, i < n → j < n → J s → (∀ s', J s' → C (lt i j) s') → cmp i j C s) {P : α → Prop} {Q : α → PySem.Shared → Prop} (hq : ∀ a s, P a → J s → Q a s) :
    ∀ (t : KasT α) (s : PySem.Shared), Ok n lt t P → J s → t.kasWp cmp Q s
  | .ret a, s, h, j => hq a s h j
  | .ask i j k, s, h, js => hc i j _ s h.1 h.2.1 js fun s' js' => Ok.wp hc hq (k (lt i j)) s' h.2.2 js'

section
variable {n : Nat} {key : Nat → Int}
abbrev at_ (p : Array Nat) (i : Nat) : Nat := p.getD i 0
/-- p is a shuffling of the places below n, whose keys differ -/
structure Sh (n : Nat) (p : Array Nat) : Prop where
  perm : p.Perm (List.range n).toArray
theorem Sh.size {p : Array Nat} (h : Sh n p) : p.size = n := by
  have := h.perm.size_eq
  simpa using this
theorem Sh.get {p : Array Nat} (h : Sh n p) {i : Nat} (hi : i < n) : p[i]? = some (at_ p i) := by
  have := h.size
  have hi' : i < p.size := by omega
  simp [at_, Array.getD, hi']
theorem Sh.lt {p : Array Nat} (h : Sh n p) {i : Nat} (hi : i < n) : at_ p i < n := by
  have hm : at_ p i ∈ p := Array.mem_of_getElem? (h.get hi)
  have : at_ p i ∈ (List.range n).toArray := h.perm.mem_iff.mp hm
  simpa using this
theorem bub_sh {p : Array Nat} (hp : Sh n p) (k d : Nat) : Sh n (bubble p k d) := ⟨(bubble_perm p k d).trans hp.perm⟩
end
end EoS

end

section
set_option autoImplicit false
set_option maxRecDepth 100000
set_option linter.all false
namespace EoH
open PySem PySem.Spec PyProof.Rows
def HdN (A : Around) (h : Heap) : Prop := A.handled = none ∨ ∃ (e C : Addr) (oe : Obj) (vs : Array Value), A.handled = some (.ref e) ∧ h.get? e = some oe ∧ oe.cls = .ref C ∧ oe.data = .fields vs ∧ vs[2]? = some Value.none
theorem entry_unchain : entryFor table "proto.unchain" = some Builtin.«proto.unchain» := entryFor_of_tree (by kernel_rfl)
section
variable {prog : Program} {w : World} {A : Around} {E : Value → Shared → Prop} {s : Shared}
theorem unchain_ok {x e : Addr} {oe : Obj} {vs : Array Value} {Q : Value → Shared → Prop} (he : s.heap.get? e = some oe) (hd : oe.data = .fields vs) (h2 : vs[2]? = some Value.none) (k : Q .none s) :
    wpAny (model prog w) A (runValue (.builtin "proto.unchain" ⟨[.ref x, .ref e, .ref e, .bool false], []⟩)) Q E s := by
  refine wpAny_runValue (codeAny_builtin entry_unchain ?_)
  show wpAny _ _ (field (.ref e) 2 >>= _) _ _ s
  refine wpAny_bind (wpAny_field he hd h2 ?_)
  rw [if_pos (show (Value.none == Value.none) = true from rfl)]
  first
    | exact wpAny_pure k
    | (wp_walk; exact k)
theorem raise_hd {α : Type} {x : Addr} {ox : Obj} {vx : Array Value} {Q : α → Shared → Prop} (hq : HdN A s.heap) (hx : s.heap.get? x = some ox) (dx : ox.data = .fields vx) (zx : 2 < vx.size) (hne : ∀ e, A.handled = some (.ref e) → e ≠ x)
    (k : ∀ h', (∀ b o, b ≠ x → s.heap.get? b = some o → h'.get? b = some o) → (∃ o', h'.get? x = some o' ∧ o'.cls = ox.cls) → E (.ref x) { s with heap := h' }) : wpAny (model prog w) A (raiseNew (.ref x) : Sem α) Q E s := by
  rcases hq with hh | ⟨e, C, oe, vs, hh, he, _, hd, h2⟩
  · exact wpAny_raiseNew_none hh (k s.heap (fun _ _ _ e => e) ⟨ox, hx, rfl⟩)
  · have ne : e ≠ x := hne e hh
    unfold raiseNew
    refine wpAny_bind (wpAny_handled ?_)
    rw [hh]
    have nb : (Value.ref e != Value.ref x) = true := by simp [ne]
    change wpAny (model prog w) A (if (Value.ref e != Value.ref x) = true then _ else _) Q E s
    rw [if_pos nb]
    refine wpAny_bind (wpAny_holding (unchain_ok he hd h2 (wpAny_bind ?_)))
    exact wpAny_setField (M := model prog w) (A := A) (E := E) (i := 2) (x := .ref e) (Q := fun _ s' => wpAny (model prog w) A (throw (Value.ref x) : Sem α) Q E s') hx dx zx (wpAny_throw (k _ (fun b o hb q => (Heap.get?_update_other _ _ (Ne.symm hb)).trans q) ⟨_, Heap.get?_update_self _ hx (Obj.isFreed_of_fields (Obj.data_mapFields dx _)), Obj.cls_mapFields _ _⟩))
theorem HdN.keep {h h' : Heap} (q : HdN A h) (k : ∀ b o, h.get? b = some o → h'.get? b = some o) : HdN A h' := by
  rcases q with q | ⟨e, C, oe, vs, a, b, c⟩
  · exact .inl q
  · exact .inr ⟨e, C, oe, vs, a, k _ _ b, c⟩
theorem HdN.lt {h : Heap} (q : HdN A h) {e : Addr} (he : A.handled = some (.ref e)) : e < h.objs.size := by
  rcases q with q | ⟨e', C, oe, vs, a, b, c⟩
  · rw [q] at he; cases he
  · rw [a] at he; cases he
    exact Heap.lt_size b
theorem HdN.but {h h' : Heap} {it : Addr} {oi : Obj} {T : String} (q : HdN A h) (hi : h.get? it = some oi) (ci : oi.cls = .type T) (k : ∀ b o, b ≠ it → h.get? b = some o → h'.get? b = some o) : HdN A h' := by
  rcases q with q | ⟨e, C, oe, vs, a, b, c, d⟩
  · exact .inl q
  · refine .inr ⟨e, C, oe, vs, a, k _ _ (fun z => ?_) b, c, d⟩
    rw [z, hi] at b
    cases b
    rw [ci] at c
    cases c
/-- a StopIteration is made and raised -/
theorem stop_hd {α : Type} {Q : α → Shared → Prop} (hq : HdN A s.heap) (k : ∀ h' x, (∀ b o, s.heap.get? b = some o → h'.get? b = some o) → (∃ o, h'.get? x = some o ∧ o.cls = .type "StopIteration") → E (.ref x) { s with heap := h' }) :
    wpAny (model prog w) A (newExc (.type "StopIteration") [] >>= fun e => (raiseNew e : Sem α)) Q E s := by
  refine wpAny_bind ?_
  simp only [newExc, newTuple]
  refine wpAny_bind (wpAny_newObj_type (wpAny_bind (m := firstArgMember _ _) (wpAny_of_eq (a := Value.none) (by first | rfl | (simp only [firstArgMember]; rfl)) (wpAny_newObj_type ?_ (by size_fits)))) (by size_fits))
  have ltx : ∀ b, b < s.heap.objs.size → b ≠ (s.heap.push { cls := Value.type "tuple", data := Data.seq ([] : List Value).toArray }).objs.size := fun b hb z => by
    rw [z, Heap.size_push] at hb
    exact absurd hb (Nat.not_lt.mpr (Nat.le_succ _))
  refine raise_hd (hq.keep fun b o e => Heap.get?_push_of_some _ (Heap.get?_push_of_some _ e)) (Heap.get?_push_size _ rfl) rfl (by rw [Array.size_append]; exact Nat.lt_of_lt_of_le (by decide : 2 < 6) (Nat.le_add_right _ _)) (fun e he => ltx e (hq.lt he)) fun h' kk ⟨o', e', c'⟩ => ?_
  exact k h' _ (fun b o e => kk b o (ltx b (Heap.lt_size e)) (Heap.get?_push_of_some _ (Heap.get?_push_of_some _ e))) ⟨o', e', c'⟩
/-- the end of a walk over a list -/
theorem list_end {it l : Addr} {i : Nat} {items : Array Value} {Q : Option Value → Shared → Prop} (hq : HdN A s.heap) (hit : s.heap.IsListIter it l i) (hl : s.heap.IsList l items) (hx : items[i]? = none)
    (k : ∀ h', Heap.ExtBut it s.heap h' → Q none { s with heap := h' }) : wpAny (model prog w) A (pyNext (.ref it)) Q E s := by
  obtain ⟨oi, hoi, ci, di⟩ := id hit
  obtain ⟨ol, hol, _, nl, dl⟩ := hl
  unfold pyNext
  refine wpAny_bind (wpAny_attempt (wpAny_callSpecial?_slot (name := Str.ofString "__next__") hit.typeIs slot_listiter_next (wpAny_call_entry slot_listiter_next hit.typeIs entry_listiter_next ?_ (args_listiter_next _))))
  change wpAny (model prog w) A.in1 (field (.ref it) 0 >>= _) _ _ s
  refine wpAny_bind (wpAny_field hoi di (x := .ref l) rfl ?_)
  change wpAny (model prog w) A.in1 (if (Value.ref l == Value.none) = true then _ else _) _ _ s
  rw [if_neg (show ¬ ((Value.ref l == Value.none) = true) from Bool.false_ne_true)]
  change wpAny (model prog w) A.in1 (field (.ref it) 1 >>= _) _ _ s
  refine wpAny_bind (wpAny_field hoi di (x := .int i 0) rfl ?_)
  change wpAny (model prog w) A.in1 (seqItems? (.ref l) >>= _) _ _ s
  refine wpAny_bind (wpAny_seqItems hol dl ?_)
  simp only [Int.toNat_natCast, hx]
  refine wpAny_bind (wpAny_rule (wpAny_bind (wpAny_setField hoi di (by simp) ?_)))
  have kp : ∀ b o, b ≠ it → s.heap.get? b = some o → (s.heap.update it (Obj.mapFields (·.setIfInBounds 0 Value.none))).get? b = some o := fun b o nb e => (Heap.get?_update_other _ _ (Ne.symm nb)).trans e
  refine stop_hd (s := { s with heap := s.heap.update it (Obj.mapFields (·.setIfInBounds 0 Value.none)) }) (hq.but hoi ci kp) fun h' x kk ts => ?_
  exact wpAny_bind (wpAny_isInstance (T := "StopIteration") (b := true) ts isSubtype_stop (wpAny_pure (k _ fun b o nb e => kk b o (kp b o nb e))))
theorem range_end {it : Addr} {x left step : Int} {Q : Option Value → Shared → Prop} (hq : HdN A s.heap) (hit : IsRangeIter s.heap it x left step) (hl : left ≤ 0)
    (k : ∀ h', Heap.ExtBut it s.heap h' → Q none { s with heap := h' }) : wpAny (model prog w) A (pyNext (.ref it)) Q E s := by
  have ty : s.TypeIs (.ref it) "range_iterator" := ⟨_, hit, rfl⟩
  unfold pyNext
  refine wpAny_bind (wpAny_attempt (wpAny_callSpecial?_slot (name := Str.ofString "__next__") ty F.slot_range_iterator_next (wpAny_call_entry F.slot_range_iterator_next ty F.entry_range_iterator_next ?_ (F.args_range_iterator_next_1 _))))
  change wpAny (model prog w) A.in1 (field (.ref it) 0 >>= _) _ _ s
  refine wpAny_bind (wpAny_field hit rfl (x := rawInt x) rfl ?_); change wpAny (model prog w) A.in1 (field (.ref it) 1 >>= _) _ _ s
  refine wpAny_bind (wpAny_field hit rfl (x := rawInt left) rfl ?_); change wpAny (model prog w) A.in1 (field (.ref it) 2 >>= _) _ _ s
  refine wpAny_bind (wpAny_field hit rfl (x := rawInt step) rfl ?_); change wpAny (model prog w) A.in1 (if left ≤ 0 then _ else _) _ _ s
  rw [if_pos hl]
  refine wpAny_bind (wpAny_rule (wpAny_bind (stop_hd (A := A.in1) hq fun h' y kk ts => ?_)))
  exact wpAny_bind (wpAny_isInstance (T := "StopIteration") (b := true) ts isSubtype_stop (wpAny_pure (k _ fun b o _ e => kk b o e)))
theorem range_item (it : Addr) (lo : Int) (n i : Nat) (s : Shared) (Q : Option Value → Shared → Prop) (E : Value → Shared → Prop) (hi : i < n) (st : IsRangeIter s.heap it (lo + (i : Nat) * 1) ((n : Int) - (i : Nat)) 1)
    (k : ∀ v h' tk, (∃ t, v = Value.int (lo + i * 1) t) → IsRangeIter h' it (lo + ((i + 1 : Nat) : Int) * 1) ((n : Int) - ((i + 1 : Nat) : Int)) 1 → (∀ b o, b ∉ [it] → s.heap.get? b = some o → h'.get? b = some o) → Q (some v) { s with heap := h', toks := tk }) : wpAny (model prog w) A (pyNext (.ref it)) Q E s := by
  refine wpAny_pyNext_range_item st (by omega) fun h' st' sb => k _ h' _ ⟨_, rfl⟩ ?_ fun b o hb e => sb.extBut b o (fun z => hb (by simp [z])) e
  have e1 : lo + ((i + 1 : Nat) : Int) * 1 = lo + (i : Int) * 1 + 1 := by omega
  have e2 : (n : Int) - ((i + 1 : Nat) : Int) = (n : Int) - (i : Int) - 1 := by omega
  rw [e1, e2]
  exact st'
/-- a list's walk, the handled exception in sight -/
theorem walk_list {e C : Addr} {oe : Obj} {vs : Array Value} (hh : A.handled = some (.ref e)) (cc : oe.cls = .ref C) (cd : oe.data = .fields vs) (c2 : vs[2]? = some Value.none) (I ax : Addr) (hne : ax ≠ I) (hie : e ≠ I) (items : Array Value) :
    Walks prog w A I [I, ax, e] [I] items.size (fun i v => items[i]? = some v) (fun i h => (h.IsListIter I ax i ∧ h.IsList ax items) ∧ h.get? e = some oe) where
  sub := fun b hb => by simp at hb; simp [hb]
  frame := fun _ _ _ st hk => ⟨⟨st.1.1.at fun o q => hk I (by simp) o q, st.1.2.at fun o q => hk ax (by simp) o q⟩, hk e (by simp) _ st.2⟩
  item := fun i s Q E hi st hQ => by
    refine wpAny_pyNext_list_item st.1.1 st.1.2 (x := items[i]) (by simp [hi]) fun h' it' sb => ?_
    exact hQ _ h' s.toks (by simp [hi]) ⟨⟨it', st.1.2.extBut sb.extBut hne⟩, sb.extBut e _ hie st.2⟩ fun b o hb q => sb.extBut b o (fun z => hb (by simp [z])) q
  done := fun s Q E st hQ => list_end (.inr ⟨e, C, oe, vs, hh, st.2, cc, cd, c2⟩) st.1.1 st.1.2 (by simp) fun h' eb => hQ h' s.toks fun b o hb q => eb b o (fun z => hb (by simp [z])) q
  self := fun _ _ _ _ st hQ => wpAny_pyIter_listiter st.1.1 hQ
end
section
variable {prog : Program} {w : World} {A : Around} {E : Value → Shared → Prop} {s : Shared} {h₀ : Heap} {L l : Addr} {m : Str → Option Value} {news : List (Addr × Obj)} {vs : List Value}
theorem all_bools {bs : List Bool} {Q : Value → Shared → Prop} (F : Fr h₀ L s.heap m) (N : News h₀ L s.heap news) (hq : HdN A s.heap) (hl : s.heap.IsList l vs.toArray) (hb : LSm.BoolsAre vs bs)
    (k : ∀ h' tk, Fr h₀ L h' m → News h₀ L h' news → Q (.bool (bs.all id)) { s with heap := h', toks := tk }) : wpAny (model prog w) A (call (.builtin "all") [.ref l]) Q E s := by
  rcases hq with hh | ⟨e, C, oe, es, hh, he, cc, cd, c2⟩
  · exact LSm.all_bools F N hh hl hb k
  · have lt : l < s.heap.objs.size := let ⟨_, q, _⟩ := hl; Heap.lt_size q
    have lte := Heap.lt_size he
    refine call_all_walk (wpAny_pyIter_list hl ?_)
    refine ⟨s.heap.objs.size, [s.heap.objs.size, l, e], [s.heap.objs.size], vs.toArray.size, _, _, fun i => (bs[i]?).getD true, rfl, walk_list (A := A.in1) hh cc cd c2 _ l (Nat.ne_of_lt lt) (Nat.ne_of_lt lte) vs.toArray, ⟨⟨⟨_, Heap.get?_push_size _ rfl, rfl, rfl⟩, hl.push _⟩, Heap.get?_push_of_some _ he⟩, fun i v s' Q' E' hP hQ => ?_, fun h' tk hk => ?_⟩
    · obtain ⟨b, q, rfl⟩ := hb.get i v (by simpa using hP)
      simp only [q, Option.getD_some] at hQ
      exact wpAny_truthy_bool hQ
    · have q : ((List.range vs.toArray.size).all fun i => (bs[i]?).getD true) = bs.all id := by rw [List.size_toArray, hb.length]; exact LSm.range_all bs
      rw [q]
      exact k h' tk (F.keeps (LSm.kept_iter hk)) (N.grown (LSm.kept_iter hk))
theorem any_bools {bs : List Bool} {Q : Value → Shared → Prop} (F : Fr h₀ L s.heap m) (N : News h₀ L s.heap news) (hq : HdN A s.heap) (hl : s.heap.IsList l vs.toArray) (hb : LSm.BoolsAre vs bs)
    (k : ∀ h' tk, Fr h₀ L h' m → News h₀ L h' news → Q (.bool (bs.any id)) { s with heap := h', toks := tk }) : wpAny (model prog w) A (call (.builtin "any") [.ref l]) Q E s := by
  rcases hq with hh | ⟨e, C, oe, es, hh, he, cc, cd, c2⟩
  · exact LSm.any_bools F N hh hl hb k
  · have lt : l < s.heap.objs.size := let ⟨_, q, _⟩ := hl; Heap.lt_size q
    have lte := Heap.lt_size he
    refine call_any_walk (wpAny_pyIter_list hl ?_)
    refine ⟨s.heap.objs.size, [s.heap.objs.size, l, e], [s.heap.objs.size], vs.toArray.size, _, _, fun i => (bs[i]?).getD false, rfl, walk_list (A := A.in1) hh cc cd c2 _ l (Nat.ne_of_lt lt) (Nat.ne_of_lt lte) vs.toArray, ⟨⟨⟨_, Heap.get?_push_size _ rfl, rfl, rfl⟩, hl.push _⟩, Heap.get?_push_of_some _ he⟩, fun i v s' Q' E' hP hQ => ?_, fun h' tk hk => ?_⟩
    · obtain ⟨b, q, rfl⟩ := hb.get i v (by simpa using hP)
      simp only [q, Option.getD_some] at hQ
      exact wpAny_truthy_bool hQ
    · have q : ((List.range vs.toArray.size).any fun i => (bs[i]?).getD false) = bs.any id := by rw [List.size_toArray, hb.length]; exact LSm.range_any bs
      rw [q]
      exact k h' tk (F.keeps (LSm.kept_iter hk)) (N.grown (LSm.kept_iter hk))
end
end EoH

end

section
set_option Elab.async false
set_option linter.all false
set_option maxRecDepth 100000
/-! THE HAND LAYER, for ints, bools, texts, own classes, LISTS and tuples (index, slices, in, append, pop ..), calls, loops. Paste it whole ahead of your own text; what your proof does not reach may be deleted. -/
namespace L2
open PySem PySem.Spec PyProof.Rows

/-- a key: an int or a str -/
abbrev Key := Sum Int Str
def keyIs : Key → Value → Bool
  | .inl k, v => Value.isInt k v
  | .inr x, v => Value.isStrOf x v
def keyH (w : World) : Key → Int
  | .inl k => hashInt k
  | .inr x => hashStr w x
theorem keyIs_shape : ∀ {k : Key} {v : Value}, keyIs k v = true → (∃ i t, k = Sum.inl i ∧ v = Value.int i t) ∨ (∃ x t, k = Sum.inr x ∧ v = Value.str x t)
  | .inl i, v, h => by
    obtain ⟨t, e⟩ := Value.isInt_shape (k := i) (v := v) h
    exact .inl ⟨i, t, rfl, e⟩
  | .inr x, v, h => by
    obtain ⟨t, e⟩ := Value.isStrOf_shape (x := x) (v := v) h
    exact .inr ⟨x, t, rfl, e⟩
theorem key_ll (a b : Int) : decide ((Sum.inl a : Key) = Sum.inl b) = (a == b) := by
  by_cases e : a = b
  · subst e; simp
  · have h : ¬ (Sum.inl a : Key) = Sum.inl b := fun q => e (Sum.inl.inj q)
    rw [decide_eq_false h]
    exact (beq_eq_false_iff_ne.mpr e).symm
theorem key_rr (a b : Str) : decide ((Sum.inr a : Key) = Sum.inr b) = decide (a = b) := by
  by_cases e : a = b
  · subst e; simp
  · have h : ¬ (Sum.inr a : Key) = Sum.inr b := fun q => e (Sum.inr.inj q)
    rw [decide_eq_false h, decide_eq_false e]
theorem key_lr (a : Int) (b : Str) : decide ((Sum.inl a : Key) = Sum.inr b) = false := decide_eq_false (fun q => nomatch q)
theorem key_rl (a : Str) (b : Int) : decide ((Sum.inr a : Key) = Sum.inl b) = false := decide_eq_false (fun q => nomatch q)

def mixKind (prog : Program) (w : World) : PySem.KeyKind prog w Key where
  is := keyIs
  hash := keyH w
  inj := fun v a b ha hb => by
    rcases keyIs_shape ha with ⟨i, t, rfl, rfl⟩ | ⟨x, t, rfl, rfl⟩
    · rcases keyIs_shape hb with ⟨j, u, rfl, e⟩ | ⟨y, u, rfl, e⟩
      · injection e with e1 _; rw [e1]
      · exact nomatch e
    · rcases keyIs_shape hb with ⟨j, u, rfl, e⟩ | ⟨y, u, rfl, e⟩
      · exact nomatch e
      · injection e with e1 _; rw [e1]
  byValue := fun k v h => by
    rcases keyIs_shape h with ⟨i, t, rfl, rfl⟩ | ⟨x, t, rfl, rfl⟩ <;> rfl
  pyHash := fun hv h => by
    rcases keyIs_shape hv with ⟨i, t, rfl, rfl⟩ | ⟨x, t, rfl, rfl⟩
    · exact wpAny_pyHash_int h
    · exact wpAny_pyHash_str h
  eqBool := fun hu hv h => by
    rcases keyIs_shape hu with ⟨i, t, rfl, rfl⟩ | ⟨x, t, rfl, rfl⟩
    · rcases keyIs_shape hv with ⟨j, u, rfl, rfl⟩ | ⟨y, u, rfl, rfl⟩
      · rw [key_ll] at h; exact wpAny_eqBool_int h
      · rw [key_lr] at h; exact SeqAt.EqAt.int_str i t y u _ _ _ _ h
    · rcases keyIs_shape hv with ⟨j, u, rfl, rfl⟩ | ⟨y, u, rfl, rfl⟩
      · rw [key_rl] at h; exact SeqAt.EqAt.str_int x t j u _ _ _ _ h
      · rw [key_rr] at h; exact wpAny_eqBool_str h
  «strs» := fun k x t v h => by
    rcases keyIs_shape h with ⟨i, u, rfl, e⟩ | ⟨y, u, rfl, e⟩
    · exact nomatch e
    · injection e with e1 _
      subst e1
      cases v <;> rfl

end L2

namespace L2
open PySem PySem.Spec PyProof.Rows

/-- a value, without the heap -/
inductive V where
  | non | bl (b : Bool) | int (i : Int) | str (x : Str) | byt (b : Array UInt8) | flt (b : UInt64) | ref (a : Addr) | ty (n : String)
  deriving DecidableEq

def RelV : V → Value → Prop
  | .non, u => u = Value.none
  | .bl b, u => u = Value.bool b
  | .int i, u => ∃ t, u = Value.int i t
  | .str x, u => ∃ t, u = Value.str x t
  | .byt b, u => ∃ t, u = Value.bytes b t
  | .flt b, u => ∃ t, u = Value.float b t
  | .ref a, u => u = Value.ref a
  | .ty n, u => u = Value.type n

abbrev Vals : List V → List Value → Prop := Paired RelV
theorem Vals.length {xs : List V} {us : List Value} (r : Vals xs us) : xs.length = us.length := Paired.length r
theorem Vals.get : ∀ {xs : List V} {us : List Value} {i : Nat} {x : V}, Vals xs us → xs[i]? = some x → ∃ u, us[i]? = some u ∧ RelV x u
  | _, _, _, _, .nil, e => by simp at e
  | _, _, 0, _, .cons r _, e => by simp at e; subst e; exact ⟨_, rfl, r⟩
  | _, _, i + 1, x, .cons _ t, e => by
    obtain ⟨u, h1, h2⟩ := Vals.get (i := i) (x := x) t (by simpa using e)
    exact ⟨u, by simpa using h1, h2⟩
theorem Vals.append : ∀ {xs ys : List V} {us ws : List Value}, Vals xs us → Vals ys ws → Vals (xs ++ ys) (us ++ ws)
  | _, _, _, _, .nil, s => s
  | _, _, _, _, .cons r t, s => .cons r (Vals.append t s)
theorem Vals.take : ∀ {xs : List V} {us : List Value} (n : Nat), Vals xs us → Vals (xs.take n) (us.take n)
  | _, _, 0, _ => .nil
  | _, _, _ + 1, .nil => .nil
  | _, _, n + 1, .cons r t => .cons r (Vals.take n t)
theorem Vals.drop : ∀ {xs : List V} {us : List Value} (n : Nat), Vals xs us → Vals (xs.drop n) (us.drop n)
  | _, _, 0, r => r
  | _, _, _ + 1, .nil => .nil
  | _, _, n + 1, .cons _ t => Vals.drop n t
def RelO : Option V → Option Value → Prop
  | some v, some u => RelV v u
  | none, none => True
  | _, _ => False
def KV {κ : Type} : List (κ × V) → List (κ × Value) → Prop := Paired fun (p : κ × V) (q : κ × Value) => p.1 = q.1 ∧ RelV p.2 q.2

/-- a key of a dict (00_mix): an int or a text -/
def kV : Key → V
  | .inl i => .int i
  | .inr x => .str x

/-- what stands at a tracked address -/
inductive HO where
  /-- a list -/
  | lst (xs : List V)
  /-- a tuple (never changes) -/
  | tup (xs : List V)
  /-- a dict whose keys are ints and texts; one whose keys are tuples of ints and texts (the empty one is both) -/
  | dK (kvs : List (Key × V)) | dT (kvs : List (List Key × V))
  /-- a set of ints: its members, its size -/
  | set (S : Int → Bool) (n : Nat)
  /-- an instance of the class at C, its dict at dx, its attributes -/
  | ins (C dx : Addr) (fs : List (Str × V))
  /-- the dict of the instance at x -/
  | own (x : Addr)
  /-- the dict of an exception -/
  | xd (fs : List (Str × V))
  /-- a bound method, f of x -/
  | met (f x : Addr)
  /-- a range object lo, lo + 1, .. below hi -/
  | rng (lo hi : Int)
  /-- a thing that is known to the object (the script; a dict while a loop walks it): read, never written while it is so -/
  | frz (o : Obj) (u : HO)
  /-- a code object's table -/
  | tbl (ps : Array Value)
  /-- any other thing, by what is true of its one object (a def of one's own: SetO a S n := HO.ext fun h => ..) -/
  | ext (φ : Heap → Prop)

abbrev Hp := Addr → Option HO
def upd (H : Hp) (a : Addr) (o : HO) : Hp := fun b => if b = a then some o else H b
theorem upd_same {H : Hp} {a : Addr} {o : HO} : upd H a o a = some o := by unfold upd; rw [if_pos rfl]
theorem upd_ne {H : Hp} {a b : Addr} {o : HO} (h : b ≠ a) : upd H a o b = H b := by unfold upd; rw [if_neg h]
theorem upd_upd {H : Hp} {a : Addr} {o u : HO} : upd (upd H a o) a u = upd H a u := by
  funext b; unfold upd; split <;> rfl
/-- two objects of different content stand apart -/
theorem ne_of {H : Hp} {a b : Addr} {o u : HO} (h : H a = some o) (h' : H b = some u) (d : o ≠ u) : a ≠ b := by
  intro e; subst e; rw [h] at h'; exact d (Option.some.inj h')
theorem ne_of_none {H : Hp} {a b : Addr} {o : HO} (h : H a = some o) (h' : H b = none) : a ≠ b := by
  intro e; subst e; rw [h] at h'; cases h'

section
variable (P : Program) (w : World)
def ObjOk (H : Hp) (h : Heap) (a : Addr) : HO → Prop
  | .lst xs => xs.length ≤ sizeLine ∧ ∃ (its : List Value) (n : Nat), Vals xs its ∧ h.get? a = some { cls := .type "list", data := .seq its.toArray n }
  | .tup xs => xs.length ≤ sizeLine ∧ ∃ its : List Value, Vals xs its ∧ IsTup h a its.toArray
  | .dK kvs => kvs.length ≤ sizeLine ∧ (a == sysModules) = false ∧ ∃ vs, KV kvs vs ∧ h.DictOf (mixKind P w) a vs
  | .dT kvs => kvs.length ≤ sizeLine ∧ (a == sysModules) = false ∧ ∃ xs : List (List Key × Addr × Value),
      Paired (fun (p : List Key × V) (q : List Key × Addr × Value) => p.1 = q.1 ∧ H q.2.1 = some (.tup (p.1.map kV)) ∧ RelV p.2 q.2.2) kvs xs ∧
      ∃ o es ep, h.get? a = some o ∧ o.ExactDict ∧ o.data = .dict es ep ∧ es.toList = xs.map (entryOfKey (tupleKind (mixKind P w))) ∧ (xs.map (·.1)).Nodup
  | .set S n => h.SetOf (intKind P w) a S n
  | .ins C dx fs => H dx = some (.own a) ∧ fs.length ≤ 1000 ∧ dx ≠ a ∧ h.get? a = some (PySem.W.instObj C dx) ∧
      ∃ mA, h.Ns1 dx mA ∧ (∀ f, RelO (fs.lookup f) (mA f)) ∧ PySem.Within mA (fs.map (·.1))
  | .own _ => ∃ o, h.get? a = some o
  | .xd fs => ∃ mA, h.Ns1 a mA ∧ ∀ f, RelO (fs.lookup f) (mA f)
  | .rng lo hi => ∃ t u v, h.get? a = some { cls := .type "range", data := .fields #[.int lo t, .int hi u, .int 1 v] }
  | .frz o u => h.get? a = some o ∧ ObjOk H h a u
  | .tbl ps => h.get? a = some { cls := .none, data := .fields ps }
  | .met f x => h.get? a = some (PySem.W.methodObj (.ref f) (.ref x))
  | .ext φ => φ h ∧ (∃ o, h.get? a = some o) ∧ ∀ h1 h2 : Heap, φ h1 → (∀ o, h1.get? a = some o → h2.get? a = some o) → φ h2
/-- the abstract heap is held -/
def HOk (H : Hp) (h : Heap) : Prop := ∀ a o, H a = some o → ObjOk P w H h a o
end

section
variable {P : Program} {w : World} {H H' : Hp} {h h' : Heap} {a : Addr} {o : HO}
theorem ObjOk.lt (x : ObjOk P w H h a o) : a < h.objs.size := by
  cases o with
  | lst xs => obtain ⟨_, _, _, _, e⟩ := x; exact Heap.lt_size e
  | tup xs => obtain ⟨_, _, _, p⟩ := x; exact p.lt
  | dK kvs => obtain ⟨_, _, _, _, o, _, _, e, _⟩ := x; exact Heap.lt_size e
  | dT kvs => obtain ⟨_, _, _, _, o, _, _, e, _⟩ := x; exact Heap.lt_size e
  | set S n => obtain ⟨o, _, _, _, e, _⟩ := x; exact Heap.lt_size e
  | ins C dx fs => obtain ⟨_, _, _, e, _⟩ := x; exact Heap.lt_size e
  | own y => obtain ⟨_, e⟩ := x; exact Heap.lt_size e
  | xd fs => obtain ⟨_, ⟨_, _, _, e, _⟩, _⟩ := x; exact Heap.lt_size e
  | rng lo hi => obtain ⟨_, _, _, e⟩ := x; exact Heap.lt_size e
  | frz ob u => obtain ⟨e, _⟩ := x; exact Heap.lt_size e
  | tbl ps => exact Heap.lt_size (show h.get? a = some _ from x)
  | met f y => exact Heap.lt_size (show h.get? a = some _ from x)
  | ext φ => obtain ⟨_, ⟨_, e⟩, _⟩ := x; exact Heap.lt_size e
theorem Paired.mapP {α β : Type} {F G : α → β → Prop} : ∀ {l₁ : List α} {l₂ : List β}, Paired F l₁ l₂ → (∀ a b, F a b → G a b) → Paired G l₁ l₂
  | _, _, .nil, _ => .nil
  | _, _, .cons r t, f => .cons (f _ _ r) (Paired.mapP t f)
/-- what an object's description leans on: its own object, its own dict, the tuples -/
theorem ObjOk.stay (x : ObjOk P w H h a o) (k : ∀ b u, (b = a ∨ H b = some (.own a)) → h.get? b = some u → h'.get? b = some u)
    (ho : ∀ b, H b = some (.own a) → H' b = some (.own a)) (ht : ∀ b xs, H b = some (.tup xs) → H' b = some (.tup xs)) : ObjOk P w H' h' a o := by
  induction o with
  | lst xs => obtain ⟨z, its, n, r, e⟩ := x; exact ⟨z, its, n, r, k _ _ (.inl rfl) e⟩
  | tup xs => obtain ⟨z, its, r, ob, e, c⟩ := x; exact ⟨z, its, r, ob, k _ _ (.inl rfl) e, c⟩
  | dK kvs => obtain ⟨z, y, vs, r, ob, es, ep, e, c⟩ := x; exact ⟨z, y, vs, r, ob, es, ep, k _ _ (.inl rfl) e, c⟩
  | dT kvs =>
    obtain ⟨z, y, xs, r, ob, es, ep, e, c⟩ := x
    exact ⟨z, y, xs, Paired.mapP r fun p q z => ⟨z.1, ht _ _ z.2.1, z.2.2⟩, ob, es, ep, k _ _ (.inl rfl) e, c⟩
  | set S n => obtain ⟨ob, es, ep, t, e, c⟩ := x; exact ⟨ob, es, ep, t, k _ _ (.inl rfl) e, c⟩
  | ins C dx fs =>
    obtain ⟨d, z, ne, e, mA, ⟨od, es, ep, e2, c⟩, r⟩ := x
    exact ⟨ho _ d, z, ne, k _ _ (.inl rfl) e, mA, ⟨od, es, ep, k _ _ (.inr d) e2, c⟩, r⟩
  | own y => obtain ⟨ob, e⟩ := x; exact ⟨ob, k _ _ (.inl rfl) e⟩
  | xd fs => obtain ⟨mA, ⟨od, es, ep, e, c⟩, r⟩ := x; exact ⟨mA, ⟨od, es, ep, k _ _ (.inl rfl) e, c⟩, r⟩
  | rng lo hi => obtain ⟨t, u, v, e⟩ := x; exact ⟨t, u, v, k _ _ (.inl rfl) e⟩
  | frz ob u ih => obtain ⟨e, q⟩ := x; exact ⟨k _ _ (.inl rfl) e, ih q⟩
  | tbl ps =>
    have e : h.get? a = some { cls := .none, data := .fields ps } := x
    show h'.get? a = some { cls := .none, data := .fields ps }
    exact k a _ (.inl rfl) e
  | met f y =>
    have e : h.get? a = some (PySem.W.methodObj (.ref f) (.ref y)) := x
    show h'.get? a = some (PySem.W.methodObj (.ref f) (.ref y))
    exact k a _ (.inl rfl) e
  | ext φ => obtain ⟨p, ⟨o, e⟩, st⟩ := x; exact ⟨st _ _ p fun o q => k _ _ (.inl rfl) q, ⟨o, k _ _ (.inl rfl) e⟩, st⟩
theorem HOk.lt (x : HOk P w H h) (e : H a = some o) : a < h.objs.size := (x a o e).lt
theorem HOk.fresh (x : HOk P w H h) (e : h.objs.size ≤ a) : H a = none := by
  cases q : H a with
  | none => rfl
  | some u => exact absurd (Nat.lt_of_lt_of_le (x.lt q) e) (Nat.lt_irrefl _)
/-- every object of the heap is kept -/
theorem HOk.kept (x : HOk P w H h) (k : ∀ b u, h.get? b = some u → h'.get? b = some u) : HOk P w H h' := fun a o e =>
  (x a o e).stay (fun b u _ q => k b u q) (fun _ q => q) fun _ _ q => q
/-- a new object is laid and tracked -/
theorem HOk.laid (x : HOk P w H h) (k : ∀ b u, h.get? b = some u → h'.get? b = some u) (hp : h.objs.size ≤ a) (new : ObjOk P w (upd H a o) h' a o) : HOk P w (upd H a o) h' := fun b u e => by
  have hn := x.fresh hp
  by_cases hb : b = a
  · subst hb; rw [upd_same] at e; cases e; exact new
  · rw [upd_ne hb] at e
    exact (x b u e).stay (fun c v _ q => k c v q) (fun c q => by rw [upd_ne (ne_of_none q hn)]; exact q) fun c xs q => by rw [upd_ne (ne_of_none q hn)]; exact q
end

/-- what may be read as u: it is u, or a known u -/
def Rd (H : Hp) (a : Addr) (u : HO) : Prop := H a = some u ∨ ∃ o, H a = some (.frz o u)
theorem Rd.ok {P : Program} {w : World} {H : Hp} {h : Heap} {a : Addr} {u : HO} (r : Rd H a u) (x : HOk P w H h) : ObjOk P w H h a u := by
  rcases r with r | ⟨o, r⟩
  · exact x a u r
  · obtain ⟨_, q⟩ := x a _ r
    exact q
/-- what may be written -/
def Mut : Option HO → Prop
  | some (.lst _) => True
  | some (.dK _) => True
  | some (.dT _) => True
  | some (.set _ _) => True
  | some (.ins _ _ _) => True
  | some (.ext _) => True
  | _ => False
section
variable {P : Program} {w : World} {H : Hp} {h h' : Heap} {x e : Addr} {o' : HO}
/-- the object at e is changed: x itself, or the dict of the instance x -/
theorem HOk.write (ok : HOk P w H h) (mu : Mut (H x)) (he : e = x ∨ H e = some (.own x)) (k : ∀ b u, b ≠ e → h.get? b = some u → h'.get? b = some u) (heo : ∃ u, h'.get? e = some u)
    (new : ObjOk P w (upd H x o') h' x o') : HOk P w (upd H x o') h' := fun b u q => by
  have nown : ∀ c y, H c = some (.own y) → c ≠ x := fun c y r z => by subst z; rw [r] at mu; exact mu
  have ntup : ∀ c xs, H c = some (.tup xs) → c ≠ x := fun c xs r z => by subst z; rw [r] at mu; exact mu
  by_cases hb : b = x
  · subst hb; rw [upd_same] at q; cases q; exact new
  · rw [upd_ne hb] at q
    by_cases hbe : b = e
    · have q' : H b = some (.own x) := by
        rcases he with z | z
        · exact absurd (hbe.trans z) hb
        · rw [hbe]; exact z
      rw [q] at q'; cases q'
      obtain ⟨v, hv⟩ := heo
      exact ⟨v, by rw [hbe]; exact hv⟩
    · refine (ok b u q).stay (fun c v hc r => k c v ?_ r) (fun c r => by rw [upd_ne (nown c b r)]; exact r) fun c xs r => by rw [upd_ne (ntup c xs r)]; exact r
      rcases hc with rfl | hc
      · exact hbe
      · rintro rfl
        rcases he with z | z
        · exact nown c b hc z
        · rw [hc] at z; cases z; exact hb rfl
end

/-! ### kept unless tracked; of the frames at fs (the callers') the slots may change (an exception that passes writes there); of the records at ex (iterators) nothing is said -/
structure Un (fs ex : List Addr) (H H' : Hp) (h h' : Heap) : Prop where
  keep : ∀ b o, h.get? b = some o → H b = none → b ∉ fs → b ∉ ex → h'.get? b = some o
  slot : ∀ b o, h.get? b = some o → H b = none → b ∈ fs → b ∉ ex → ∃ sl, h'.get? b = some { o with slots := sl }
  free : ∀ b o, h.get? b = some o → H b = none → b ∉ ex → H' b = none
  there : ∀ b o, h.get? b = some o → b ∉ ex → ∃ o', h'.get? b = some o'
  tups : ∀ b xs, H b = some (.tup xs) → H' b = some (.tup xs)
  frzs : ∀ b o u, H b = some (.frz o u) → H' b = some (.frz o u)
  tbls : ∀ b ps, H b = some (.tbl ps) → ∃ more, H' b = some (.tbl (ps ++ more))
section
variable {fs fs' ex ex' : List Addr} {H H1 H2 : Hp} {h h1 h2 h' : Heap} {a x e : Addr} {o : HO}
theorem Un.any (u : Un fs ex H H1 h h1) {b : Addr} {ob : Obj} (q : h.get? b = some ob) (n : H b = none) (hx : b ∉ ex) : ∃ sl, h1.get? b = some { ob with slots := sl } := by
  by_cases hb : b ∈ fs
  · exact u.slot b ob q n hb hx
  · exact ⟨ob.slots, u.keep b ob q n hb hx⟩
theorem Un.kept (k : ∀ b u, h.get? b = some u → h'.get? b = some u) : Un fs ex H H h h' :=
  ⟨fun b ob q _ _ _ => k b ob q, fun b ob q _ _ _ => ⟨ob.slots, k b ob q⟩, fun _ _ _ n _ => n, fun b ob q _ => ⟨ob, k b ob q⟩, fun _ _ q => q, fun _ _ _ q => q, fun _ ps q => ⟨#[], by rw [q]; simp⟩⟩
theorem Un.refl : Un fs ex H H h h := Un.kept fun _ _ q => q
theorem Un.laid (k : ∀ b u, h.get? b = some u → h'.get? b = some u) (hp : h.objs.size ≤ a) (hn : H a = none) : Un fs ex H (upd H a o) h h' where
  keep := fun b u q _ _ _ => k b u q
  slot := fun b u q _ _ _ => ⟨u.slots, k b u q⟩
  free := fun b u q n _ => by rw [upd_ne (Nat.ne_of_lt (Nat.lt_of_lt_of_le (Heap.lt_size q) hp))]; exact n
  there := fun b u q _ => ⟨u, k b u q⟩
  tups := fun b xs q => by rw [upd_ne (ne_of_none q hn)]; exact q
  frzs := fun b u xs q => by rw [upd_ne (ne_of_none q hn)]; exact q
  tbls := fun b ps q => ⟨#[], by rw [upd_ne (ne_of_none q hn), q]; simp⟩
theorem Un.write (mu : Mut (H x)) (he : e = x ∨ H e = some (.own x)) (k : ∀ b u, b ≠ e → h.get? b = some u → h'.get? b = some u) (heo : ∃ u, h'.get? e = some u) : Un fs ex H (upd H x o) h h' := by
  have hx : ∀ b, H b = none → b ≠ x := fun b n z => by subst z; rw [n] at mu; exact mu
  have hb : ∀ b, H b = none → b ≠ e := fun b n z => by
    subst z
    rcases he with r | r
    · exact hx b n r
    · rw [n] at r; cases r
  have hm : ∀ b u, H b = some u → ¬ Mut (some u) → b ≠ x := fun b u q nm z => by subst z; rw [q] at mu; exact nm mu
  refine ⟨fun b u q n _ _ => k b u (hb b n) q, fun b u q n _ _ => ⟨u.slots, k b u (hb b n) q⟩, fun b u q n _ => by rw [upd_ne (hx b n)]; exact n, fun b u q _ => ?_,
    fun b xs q => by rw [upd_ne (hm b _ q fun z => z)]; exact q, fun b u xs q => by rw [upd_ne (hm b _ q fun z => z)]; exact q, fun b ps q => ⟨#[], by rw [upd_ne (hm b _ q fun z => z), q]; simp⟩⟩
  by_cases hbe : b = e
  · subst hbe; exact heo
  · exact ⟨u, k b u hbe q⟩
end

/-! ### the heap without what is tracked -/
def trk (h : Heap) (H : Hp) : List Addr := (List.range h.objs.size).filter fun a => (H a).isSome
def hidT (h : Heap) (H : Hp) : Heap := PySem.W.hideAll h (trk h H)
theorem hidT_size (h : Heap) (H : Hp) : (hidT h H).objs.size = h.objs.size := PySem.W.hideAll_size _ _
theorem hidT_get {h : Heap} {H : Hp} {b : Addr} {o : Obj} (e : h.get? b = some o) (n : H b = none) : (hidT h H).get? b = some o :=
  PySem.W.hideAll_get _ e fun hm => by
    have q : (H b).isSome = true := (List.mem_filter.mp hm).2
    rw [n] at q; simp at q
theorem of_hidT {h : Heap} {H : Hp} {b : Addr} {o : Obj} (e : (hidT h H).get? b = some o) : h.get? b = some o ∧ H b = none := by
  have e' : h.get? b = some o := PySem.W.of_hideAll (trk h H) e
  refine ⟨e', ?_⟩
  cases q : H b with
  | none => rfl
  | some x =>
    have hm : b ∈ trk h H := List.mem_filter.mpr ⟨List.mem_range.mpr (Heap.lt_size e'), by simp [q]⟩
    have z : (hidT h H).get? b = none := PySem.W.hideAll_none (trk h H) hm
    rw [z] at e; cases e

/-! ### OpenK's ledger, filled with every new object but one -/
def allNews (g h : Heap) (L : Addr) : List (Addr × Obj) := (List.range h.objs.size).filterMap fun a => if a = L ∨ (g.get? a).isSome = true then none else (h.get? a).map fun o => (a, o)
theorem mem_allNews {g h : Heap} {L a : Addr} {o : Obj} (h1 : a ≠ L) (h2 : g.get? a = none) (h3 : h.get? a = some o) : (a, o) ∈ allNews g h L :=
  List.mem_filterMap.mpr ⟨a, List.mem_range.mpr (Heap.lt_size h3), by simp [h1, h2, h3]⟩
theorem of_mem_allNews {g h : Heap} {L : Addr} {p : Addr × Obj} (hp : p ∈ allNews g h L) : p.1 ≠ L ∧ g.get? p.1 = none ∧ h.get? p.1 = some p.2 := by
  obtain ⟨b, _, e⟩ := List.mem_filterMap.mp hp
  split at e
  · cases e
  · rename_i hn
    cases q : h.get? b with
    | none => rw [q] at e; simp at e
    | some u =>
      rw [q] at e
      simp only [Option.map_some, Option.some.injEq] at e
      subst e
      refine ⟨fun z => hn (.inl z), ?_, q⟩
      show g.get? b = none
      cases r : g.get? b with
      | none => rfl
      | some v => exact (hn (.inr (by simp [r]))).elim
theorem news_all {g h : Heap} {L : Addr} : News g L h (allNews g h L) := fun p hp => let ⟨a, b, c⟩ := of_mem_allNews hp; ⟨c, a, b⟩
end L2

namespace L2
open PySem PySem.Spec PyProof.Rows

/-- the module's facts, over the base: the heap at the law's entry without what is tracked there -/
structure Mod (K : PySem.W.Frag) (mg : Str → Option Value) (base : Heap) : Prop where
  kin : K.In base
  glob : base.Ns mainGlobals mg
  blt : ∃ mb, base.Ns builtinsNs mb ∧ ∀ x : Str, x ≠ "__name__" → mb x = bootBuiltins x
  nolimit : base.NoLimit

/-- the context: a def's body (or a comprehension's block) running. base: fixed through the whole law; s₀, H₀: the entry; outer: the frames whose slots others may change (a def's callers); stack: all frames that run;
   ex: iterators that were made ahead of the entry and are walked here (a comprehension's); fn: the names whose cells were made at the entry (a def: all; a comprehension's block: its own); calm: not within an except suite; pn: pins that every state bears; xe: what is wanted of an exception that leaves the code -/
structure Cx where
  prog : Program
  w : World
  K : PySem.W.Frag
  mg : Str → Option Value
  base : Heap
  A : Around
  N : List Str
  s₀ : Shared
  H₀ : Hp
  env : Env
  outer : List Env
  stack : List Env
  ex : List Addr
  fn : Str → Bool
  calm : Bool
  pn : List (Addr × Obj)
  xe : Value → Shared → Prop
/-- the callers' frames -/
def frs (l : List Env) : List Addr := l.filterMap (·.frame)
abbrev Cx.fs (X : Cx) : List Addr := frs X.outer
/-- an exception that is handled just now: it stands where it stood, and has none behind it -/
def HdX (A : Around) (h : Heap) (H : Hp) (fs ex : List Addr) (pn : List (Addr × Obj)) : Prop := A.handled = none ∨ ∃ (e C : Addr) (oe : Obj) (vs : Array Value), A.handled = some (.ref e) ∧ oe.cls = .ref C ∧ oe.data = .fields vs ∧ vs[2]? = some Value.none ∧ ((e, oe) ∈ pn ∨ (h.get? e = some oe ∧ H e = none ∧ e ∉ fs ∧ e ∉ ex))

def Vis (sc : Scope) (x : Str) : Prop := sc.names.lookup x = some .local ∨ sc.names.lookup x = some .cell ∨ sc.names.lookup x = some .free
def Loc (sc : Scope) (x : Str) : Prop := sc.names.lookup x = some .local ∨ sc.names.lookup x = some .cell
def Look (env : Env) (h : Heap) (m : Str → Option Value) (x : Str) (u : Value) : Prop :=
  (env.kindOf x = some .local ∧ m x = some u) ∨ ((env.kindOf x = some .cell ∨ env.kindOf x = some .free) ∧ ∃ c, env.cells.lookup x = some c ∧ h.IsCell c (some u))

structure Cx.Ok (X : Cx) : Prop where
  mod : Mod X.K X.mg X.base
  kind : X.env.scope.kind = .function
  glob : X.env.globals = mainGlobals
  blt : X.env.builtins = builtinsNs
  above : X.s₀.heap.objs.size ≤ X.env.locals
  inj : ∀ x y c, X.env.cells.lookup x = some c → X.env.cells.lookup y = some c → x = y
  has : ∀ x, (X.env.kindOf x = some .cell ∨ X.env.kindOf x = some .free) → ∃ c, X.env.cells.lookup x = some c
  cab : ∀ x c, X.fn x = true → X.env.cells.lookup x = some c → X.s₀.heap.objs.size ≤ c
  hd : X.calm = true → X.A.handled = none
  frames : X.A.frames = some X.stack
  stk : X.stack = X.outer ∨ (X.stack = X.env :: X.outer ∧ X.env.frame = some X.env.locals)
  exf : ∀ b ∈ X.ex, b ≠ X.env.locals ∧ ∀ x c, X.env.cells.lookup x = some c → c ≠ b
  bs : ∀ b o, X.base.get? b = some o → X.s₀.heap.get? b = some o ∧ X.H₀ b = none
  bsz : X.base.objs.size ≤ X.s₀.heap.objs.size
  noex : ∀ b o, X.base.get? b = some o → b ∉ X.ex
  exfs : ∀ b ∈ X.ex, b ∉ X.fs
  funs : X.s₀.heap.FunFrames X.base X.outer
  frf : ∀ b ∈ X.fs, X.H₀ b = none
  hdl : HdX X.A X.s₀.heap X.H₀ X.fs X.ex X.pn

structure Inv (X : Cx) (pins : List (Addr × Obj)) (σ : List (Option V)) (H : Hp) (s : Shared) : Prop where
  ok : X.Ok
  os : s.os = X.s₀.os
  bare : AllBare s.gens
  base : Un X.fs X.ex X.H₀ H X.s₀.heap s.heap
  loc : ∃ m, s.heap.Ns X.env.locals m ∧ ∀ (i : Nat) (x : Str) (v : V), X.N[i]? = some x → σ[i]? = some (some v) → Vis X.env.scope x → ∃ u, RelV v u ∧ Look X.env s.heap m x u
  cell : ∀ x c, X.env.cells.lookup x = some c → ∃ v, s.heap.IsCell c v
  free : H X.env.locals = none
  freeC : ∀ x c, X.env.cells.lookup x = some c → H c = none
  pin : ∀ p ∈ X.pn ++ pins, s.heap.get? p.1 = some p.2 ∧ H p.1 = none ∧ p.1 ≠ X.env.locals ∧ p.1 ∉ X.fs ∧ ∀ v, p.2.data ≠ .cell v
  hok : HOk X.prog X.w H s.heap
  len : σ.length = X.N.length

section
variable {X : Cx} {pins : List (Addr × Obj)} {σ : List (Option V)} {H H' : Hp} {s : Shared} {h' : Heap}

theorem Cx.Ok.nofr (ok : X.Ok) {b : Addr} {o : Obj} (e : X.base.get? b = some o) : b ∉ X.fs := fun hb => by
  have := (ok.funs.mem hb).1
  rw [e] at this; cases this
theorem Inv.bs (I : Inv X pins σ H s) : ∀ b o, X.base.get? b = some o → s.heap.get? b = some o ∧ H b = none := fun b o e =>
  ⟨I.base.keep b o (I.ok.bs b o e).1 (I.ok.bs b o e).2 (I.ok.nofr e) (I.ok.noex b o e), I.base.free b o (I.ok.bs b o e).1 (I.ok.bs b o e).2 (I.ok.noex b o e)⟩
theorem Inv.bk (I : Inv X pins σ H s) : ∀ b o, X.base.get? b = some o → s.heap.get? b = some o := fun b o e => (I.bs b o e).1
theorem Inv.mod (I : Inv X pins σ H s) : Mod X.K X.mg X.base := I.ok.mod
theorem Inv.kIn (I : Inv X pins σ H s) : X.K.In s.heap := I.ok.mod.kin.keeps I.bk
/-- the frame over the base: for OpenK's rules (K.In X.base is I.mod.kin) -/
theorem Inv.fr (I : Inv X pins σ H s) : ∃ m, Fr X.base X.env.locals s.heap m :=
  let ⟨m, hn, _⟩ := I.loc
  ⟨m, hn, I.bk, Nat.le_trans I.ok.bsz I.ok.above⟩
theorem Inv.lt (I : Inv X pins σ H s) : X.env.locals < s.heap.objs.size := let ⟨_, hn, _⟩ := I.loc; hn.lt
theorem Inv.sz (I : Inv X pins σ H s) : X.s₀.heap.objs.size ≤ s.heap.objs.size := Nat.le_trans I.ok.above (Nat.le_of_lt I.lt)
theorem Inv.nofs (I : Inv X pins σ H s) {a : Addr} (h : s.heap.objs.size ≤ a) : a ∉ X.fs := fun hb => by
  obtain ⟨_, o, ho, _⟩ := I.ok.funs.mem hb
  exact absurd (Nat.lt_of_lt_of_le (Heap.lt_size ho) (Nat.le_trans I.sz h)) (Nat.lt_irrefl _)
theorem Inv.cne (I : Inv X pins σ H s) : ∀ x c, X.env.cells.lookup x = some c → c ≠ X.env.locals := fun x c e z => by
  obtain ⟨v, o, ho, hd⟩ := I.cell x c e
  obtain ⟨m, ⟨o', es, ep, ho', hd', _⟩, _⟩ := I.loc
  rw [z, ho'] at ho; cases ho; rw [hd'] at hd; cases hd
theorem Inv.funs (I : Inv X pins σ H s) : s.heap.FunFrames X.base X.outer := by
  have all : ∀ (l : List Env), (∀ b ∈ frs l, b ∈ X.fs) → X.s₀.heap.FunFrames X.base l → s.heap.FunFrames X.base l := by
    intro l
    induction l with
    | nil => intro _ _; trivial
    | cons env r ih =>
      intro hs hl
      obtain ⟨hk, ⟨L, o, hf, hn, ho, hd⟩, hr⟩ := hl
      have hL : L ∈ X.fs := hs L (by unfold frs; rw [List.filterMap_cons, hf]; exact List.mem_cons_self)
      obtain ⟨sl, e⟩ := I.base.slot L o ho (I.ok.frf L hL) hL fun z => I.ok.exfs L z hL
      exact ⟨hk, ⟨L, _, hf, hn, e, hd⟩, ih (fun b hb => hs b (by unfold frs; rw [List.filterMap_cons, hf]; exact List.mem_cons_of_mem _ hb)) hr⟩
  exact all X.outer (fun _ hb => hb) I.ok.funs

/-- the frames that run, for a call -/
theorem Inv.stack (I : Inv X pins σ H s) : s.heap.FunFrames X.base X.stack := by
  rcases I.ok.stk with e | ⟨e, hf⟩
  · rw [e]; exact I.funs
  · rw [e]
    obtain ⟨m, hn, _⟩ := I.loc
    refine .cons (by rw [I.ok.kind]; decide) hf hn ?_ I.funs
    exact Heap.get?_none_of_le (Nat.le_trans I.ok.bsz I.ok.above)
theorem Inv.stkSub (I : Inv X pins σ H s) : ∀ b ∈ frs X.stack, b ∈ X.env.locals :: X.fs := fun b hb => by
  rcases I.ok.stk with e | ⟨e, hf⟩
  · rw [e] at hb; exact List.mem_cons_of_mem _ hb
  · rw [e] at hb
    unfold frs at hb
    rw [List.filterMap_cons, hf] at hb
    exact hb
theorem Inv.stkFree (I : Inv X pins σ H s) : ∀ b ∈ frs X.stack, H b = none := fun b hb => by
  rcases List.mem_cons.mp (I.stkSub b hb) with e | hb
  · rw [e]; exact I.free
  · obtain ⟨_, o, ho, _⟩ := I.ok.funs.mem hb
    exact I.base.free b o ho (I.ok.frf b hb) fun z => I.ok.exfs b z hb

theorem Inv.hde (I : Inv X pins σ H s) : HdX X.A s.heap H (frs X.stack) [] [] := by
  rcases I.ok.hdl with q | ⟨e, C, oe, vs, q1, q2, q3, q4, q5 | ⟨q5, q6, q7, q8⟩⟩
  · exact .inl q
  · obtain ⟨p1, p2, p3, p4, _⟩ := I.pin (e, oe) (List.mem_append_left _ q5)
    exact .inr ⟨e, C, oe, vs, q1, q2, q3, q4, .inr ⟨p1, p2, fun z => (List.mem_cons.mp (I.stkSub e z)).elim p3 p4, fun z => nomatch z⟩⟩
  · exact .inr ⟨e, C, oe, vs, q1, q2, q3, q4, .inr ⟨I.base.keep e oe q5 q6 q7 q8, I.base.free e oe q5 q6 q8, fun z => (List.mem_cons.mp (I.stkSub e z)).elim (Nat.ne_of_lt (Nat.lt_of_lt_of_le (Heap.lt_size q5) I.ok.above)) q7, fun z => nomatch z⟩⟩
theorem Inv.hdn (I : Inv X pins σ H s) : EoH.HdN X.A s.heap := by
  rcases I.hde with q | ⟨e, C, oe, vs, q1, q2, q3, q4, q5 | q5⟩
  · exact .inl q
  · exact nomatch q5
  · exact .inr ⟨e, C, oe, vs, q1, q5.1, q2, q3, q4⟩

/-- THE STEP: the untracked objects but the frame and the records at ch are kept (the callers' frames up to slots), the frame's map is kept, the new abstract heap is held -/
theorem Inv.step {g' : Array GenState} {t' : Nat} {d' : Drawn} {ch : List Addr} (I : Inv X pins σ H s)
    (hch : ∀ b ∈ ch, (b ∈ X.ex ∨ X.s₀.heap.get? b = none) ∧ b ≠ X.env.locals ∧ (∀ x c, X.env.cells.lookup x = some c → c ≠ b) ∧ ∀ p ∈ X.pn ++ pins, p.1 ≠ b)
    (keep : ∀ b o, b ≠ X.env.locals → b ∉ X.fs → b ∉ ch → s.heap.get? b = some o → H b = none → h'.get? b = some o)
    (slot : ∀ b o, b ≠ X.env.locals → b ∈ X.fs → b ∉ ch → s.heap.get? b = some o → H b = none → ∃ sl, h'.get? b = some { o with slots := sl }) (free : ∀ b o, b ∉ ch → s.heap.get? b = some o → H b = none → H' b = none)
    (there : ∀ b o, b ∉ ch → s.heap.get? b = some o → ∃ o', h'.get? b = some o')
    (tups : ∀ b xs, H b = some (.tup xs) → H' b = some (.tup xs)) (frzs : ∀ b o u, H b = some (.frz o u) → H' b = some (.frz o u)) (tbls : ∀ b ps, H b = some (.tbl ps) → ∃ more, H' b = some (.tbl (ps ++ more)))
    (ns : ∀ m, s.heap.Ns X.env.locals m → h'.Ns X.env.locals m) (hok : HOk X.prog X.w H' h') (hg : AllBare g') :
    Inv X pins σ H' { s with heap := h', gens := g', drawn := d', toks := t' } := by
  have neL : ∀ b o, X.s₀.heap.get? b = some o → b ≠ X.env.locals := fun b o e => Nat.ne_of_lt (Nat.lt_of_lt_of_le (Heap.lt_size e) I.ok.above)
  have neC : ∀ b o, X.s₀.heap.get? b = some o → b ∉ X.ex → b ∉ ch := fun b o e hx hb => by
    rcases (hch b hb).1 with z | z
    · exact hx z
    · rw [z] at e; cases e
  have cellK : ∀ x c, X.env.cells.lookup x = some c → ∀ v, s.heap.IsCell c v → h'.IsCell c v := fun x c e v ⟨o, ho, hd⟩ => by
    have nch : c ∉ ch := fun z => (hch c z).2.2.1 x c e rfl
    by_cases hc : c ∈ X.fs
    · obtain ⟨sl, q⟩ := slot c o (I.cne x c e) hc nch ho (I.freeC x c e)
      exact ⟨_, q, hd⟩
    · exact ⟨o, keep c o (I.cne x c e) hc nch ho (I.freeC x c e), hd⟩
  refine ⟨I.ok, I.os, hg, ⟨fun b o e n hb hx => ?_, fun b o e n hb hx => ?_, fun b o e n hx => ?_, fun b o e hx => ?_, fun b xs e => tups b xs (I.base.tups b xs e), fun b o xs e => frzs b o xs (I.base.frzs b o xs e), fun b ps e => ?_⟩, ?_, fun x c e => ?_, ?_, fun x c e => ?_, fun p hp => ?_, hok, I.len⟩
  · exact keep b o (neL b o e) hb (neC b o e hx) (I.base.keep b o e n hb hx) (I.base.free b o e n hx)
  · obtain ⟨sl, e1⟩ := I.base.slot b o e n hb hx
    obtain ⟨sl', e2⟩ := slot b _ (neL b o e) hb (neC b o e hx) e1 (I.base.free b o e n hx)
    exact ⟨sl', e2⟩
  · obtain ⟨o', e1⟩ := I.base.there b o e hx
    exact free b o' (neC b o e hx) e1 (I.base.free b o e n hx)
  · obtain ⟨o', e1⟩ := I.base.there b o e hx
    exact there b o' (neC b o e hx) e1
  · obtain ⟨m1, e1⟩ := I.base.tbls b ps e
    obtain ⟨m2, e2⟩ := tbls b _ e1
    exact ⟨m1 ++ m2, by rw [e2, Array.append_assoc]⟩
  · obtain ⟨m, hn, hl⟩ := I.loc
    refine ⟨m, ns m hn, fun i x v e1 e2 e3 => ?_⟩
    obtain ⟨u, r, l⟩ := hl i x v e1 e2 e3
    refine ⟨u, r, ?_⟩
    rcases l with l | ⟨k, c, e, z⟩
    · exact .inl l
    · exact .inr ⟨k, c, e, cellK x c e _ z⟩
  · obtain ⟨v, z⟩ := I.cell x c e
    exact ⟨v, cellK x c e v z⟩
  · obtain ⟨m, ⟨o, _, _, ho, _⟩, _⟩ := I.loc
    exact free _ o (fun z => (hch _ z).2.1 rfl) ho I.free
  · obtain ⟨v, o, ho, hd⟩ := I.cell x c e
    exact free c o (fun z => (hch c z).2.2.1 x c e rfl) ho (I.freeC x c e)
  · obtain ⟨e, n, ne, nf, d⟩ := I.pin p hp
    have nch : p.1 ∉ ch := fun z => (hch p.1 z).2.2.2 p hp rfl
    exact ⟨keep p.1 p.2 ne nf nch e n, free p.1 p.2 nch e n, ne, nf, d⟩
/-- .. where the frame's own object is kept too -/
theorem Inv.un {t' : Nat} (I : Inv X pins σ H s) (u : Un X.fs [] H H' s.heap h') (hok : HOk X.prog X.w H' h') : Inv X pins σ H' { s with heap := h', toks := t' } := by
  obtain ⟨m, ⟨o, es, ep, ho, r⟩, _⟩ := id I.loc
  obtain ⟨sl, hL⟩ := u.any ho I.free (by simp)
  exact I.step (g' := s.gens) (d' := s.drawn) (ch := []) (fun _ z => nomatch z) (fun b o _ hb _ e n => u.keep b o e n hb (by simp)) (fun b o _ hb _ e n => u.slot b o e n hb (by simp)) (fun b o _ e n => u.free b o e n (by simp)) (fun b o _ e => u.there b o e (by simp)) u.tups u.frzs u.tbls (fun m' hm => by
    obtain ⟨o', es', ep', ho', r'⟩ := hm
    rw [ho] at ho'; cases ho'
    exact ⟨_, es', ep', hL, r'⟩) hok I.bare
/-- behind a call (or a comprehension's block): the slots of this frame may have changed too, the records at ch may have turned -/
theorem Inv.call {g' : Array GenState} {t' : Nat} {d' : Drawn} {ch : List Addr} (I : Inv X pins σ H s) (u : Un (frs X.stack) ch H H' s.heap h') (hok : HOk X.prog X.w H' h') (hg : AllBare g')
    (hch : ∀ b ∈ ch, (b ∈ X.ex ∨ X.s₀.heap.get? b = none) ∧ b ≠ X.env.locals ∧ (∀ x c, X.env.cells.lookup x = some c → c ≠ b) ∧ ∀ p ∈ X.pn ++ pins, p.1 ≠ b) :
    Inv X pins σ H' { s with heap := h', gens := g', drawn := d', toks := t' } := by
  obtain ⟨m, ⟨o, es, ep, ho, r⟩, _⟩ := id I.loc
  obtain ⟨sl, hL⟩ := u.any ho I.free fun z => (hch _ z).2.1 rfl
  exact I.step (ch := ch) hch (fun b o hL hb hc e n => u.keep b o e n (fun z => (List.mem_cons.mp (I.stkSub b z)).elim hL hb) hc) (fun b o _ _ hc e n => u.any e n hc) (fun b o hc e n => u.free b o e n hc) (fun b o hc e => u.there b o e hc) u.tups u.frzs u.tbls (fun m' hm => by
    obtain ⟨o', es', ep', ho', r'⟩ := hm
    rw [ho] at ho'; cases ho'
    exact ⟨_, es', ep', hL, r'⟩) hok hg
/-- an untracked record of ours (an iterator) has turned -/
theorem Inv.turned {t' : Nat} {it : Addr} (I : Inv X pins σ H s) (k : ∀ b o, b ≠ it → s.heap.get? b = some o → h'.get? b = some o) (hn : H it = none) (hL : it ≠ X.env.locals)
    (h1 : it ∈ X.ex ∨ X.s₀.heap.get? it = none) (h2 : ∀ x c, X.env.cells.lookup x = some c → c ≠ it) (h3 : ∀ p ∈ X.pn ++ pins, p.1 ≠ it) : Inv X pins σ H { s with heap := h', toks := t' } := by
  have nit : ∀ b u, H b = some u → b ≠ it := fun b u e z => by rw [z, hn] at e; cases e
  refine I.step (g' := s.gens) (d' := s.drawn) (ch := [it]) (fun b hb => ?_) (fun b o _ _ hc e _ => k b o (fun z => hc (by simp [z])) e) (fun b o _ _ hc e _ => ⟨o.slots, k b o (fun z => hc (by simp [z])) e⟩) (fun _ _ _ _ n => n)
    (fun b o hc e => ⟨o, k b o (fun z => hc (by simp [z])) e⟩) (fun _ _ e => e) (fun _ _ _ e => e) (fun b ps e => ⟨#[], by rw [e]; simp⟩) (fun m hm => ?_) (fun b u e => ?_) I.bare
  · have e : b = it := by simpa using hb
    subst e
    exact ⟨h1, hL, h2, h3⟩
  · obtain ⟨o, es, ep, ho, r⟩ := hm
    exact ⟨o, es, ep, k _ o (Ne.symm hL) ho, r⟩
  · refine (I.hok b u e).stay (fun c v hc q => k c v ?_ q) (fun _ q => q) fun _ _ q => q
    rcases hc with z | z
    · rw [z]; exact nit b u e
    · exact nit c _ z
theorem Inv.tok (I : Inv X pins σ H s) (t : Nat) : Inv X pins σ H { s with toks := t } := I.un (h' := s.heap) (t' := t) Un.refl I.hok
/-- all objects kept -/
theorem Inv.kept {t' : Nat} (I : Inv X pins σ H s) (k : ∀ b u, s.heap.get? b = some u → h'.get? b = some u) : Inv X pins σ H { s with heap := h', toks := t' } := I.un (Un.kept k) (I.hok.kept k)
/-- a new object laid and tracked -/
theorem Inv.laid {a : Addr} {o : HO} {t' : Nat} (I : Inv X pins σ H s) (k : ∀ b u, s.heap.get? b = some u → h'.get? b = some u) (hp : s.heap.objs.size ≤ a) (new : ObjOk X.prog X.w (upd H a o) h' a o) :
    Inv X pins σ (upd H a o) { s with heap := h', toks := t' } := I.un (Un.laid k hp (I.hok.fresh hp)) (I.hok.laid k hp new)
/-- an object written -/
theorem Inv.write {x e : Addr} {o : HO} {t' : Nat} (I : Inv X pins σ H s) (mu : Mut (H x)) (he : e = x ∨ H e = some (.own x)) (k : ∀ b u, b ≠ e → s.heap.get? b = some u → h'.get? b = some u) (heo : ∃ u, h'.get? e = some u)
    (new : ObjOk X.prog X.w (upd H x o) h' x o) : Inv X pins σ (upd H x o) { s with heap := h', toks := t' } := I.un (Un.write mu he k heo) (I.hok.write mu he k heo new)
theorem Inv.pins_of {pins' : List (Addr × Obj)} (I : Inv X pins σ H s) (h : ∀ p ∈ pins', s.heap.get? p.1 = some p.2 ∧ H p.1 = none ∧ p.1 ≠ X.env.locals ∧ p.1 ∉ X.fs ∧ ∀ v, p.2.data ≠ .cell v) : Inv X pins' σ H s :=
  ⟨I.ok, I.os, I.bare, I.base, I.loc, I.cell, I.free, I.freeC, fun p hp => (List.mem_append.mp hp).elim (fun z => I.pin p (List.mem_append_left _ z)) (h p), I.hok, I.len⟩

theorem nodup_ix {N : List Str} (hN : N.Nodup) {i j : Nat} {x : Str} (a : N[i]? = some x) (b : N[j]? = some x) : i = j := by
  obtain ⟨h1, e1⟩ := List.getElem?_eq_some_iff.mp a
  obtain ⟨h2, e2⟩ := List.getElem?_eq_some_iff.mp b
  exact (List.getElem_inj hN).mp (e1.trans e2.symm)

/-- a name is stored; what changed -/
theorem store_ok2 {M : Model} {A : Around} {E : Value → Shared → Prop} {i : Nat} {x : Str} {v : V} {u : Value} {Q : Unit → Shared → Prop} (I : Inv X pins σ H s) (hN : X.N.Nodup) (hi : X.N[i]? = some x) (hx : Loc X.env.scope x) (r : RelV v u)
    (h : ∀ s', Inv X pins (σ.set i (some v)) H s' → (∃ a, Heap.SameBut a s.heap s'.heap ∧ (a = X.env.locals ∨ X.env.cells.lookup x = some a)) → Q () s') (hf : X.fn x = true ∨ X.env.scope.names.lookup x = some .local := by first | exact .inl rfl | exact .inr rfl | assumption) : wpAny M A (storeName X.env x u) Q E s := by
  obtain ⟨m, hn, hl⟩ := id I.loc
  have hcls : (X.env.scope.kind == .class || (X.env.scope.kind == .module && X.env.locals != X.env.globals)) = false := by rw [I.ok.kind]; rfl
  have hiσ : i < σ.length := by rw [I.len]; exact (List.getElem?_eq_some_iff.mp hi).1
  have cne := I.cne
  have tracked : ∀ {a : Addr} {h' : Heap}, (∃ o, s.heap.get? a = some o ∧ H a = none) → Heap.SameBut a s.heap h' → HOk X.prog X.w H h' := fun {a h'} ha hs b ob e => by
    obtain ⟨_, _, hfree⟩ := ha
    refine (I.hok b ob e).stay (fun c w' hc q => (hs.2 c ?_).trans q) (fun _ q => q) fun _ _ q => q
    rintro rfl
    rcases hc with rfl | hc
    · rw [hfree] at e; cases e
    · rw [hfree] at hc; cases hc
  rcases hx with hk | hk
  · refine wpAny_storeName_local hk hn (fun h' hn' hs => ?_) hcls
    obtain ⟨oL, _, _, hoL, _⟩ := id hn
    refine h _ ⟨I.ok, I.os, I.bare, ⟨fun b o e n hb hx => ?_, fun b o e n hb hx => ?_, I.base.free, fun b o e hx => ?_, I.base.tups, I.base.frzs, I.base.tbls⟩, ⟨_, hn', fun j y v' e1 e2 e3 => ?_⟩, fun y c e => ?_, I.free, I.freeC, fun p hp => ?_, tracked ⟨oL, hoL, I.free⟩ hs, by simpa using I.len⟩ ⟨_, hs, .inl rfl⟩
    · exact (hs.2 b (Nat.ne_of_lt (Nat.lt_of_lt_of_le (Heap.lt_size e) I.ok.above))).trans (I.base.keep b o e n hb hx)
    · obtain ⟨sl, e1⟩ := I.base.slot b o e n hb hx
      exact ⟨sl, (hs.2 b (Nat.ne_of_lt (Nat.lt_of_lt_of_le (Heap.lt_size e) I.ok.above))).trans e1⟩
    · obtain ⟨o', e1⟩ := I.base.there b o e hx
      exact ⟨o', (hs.2 b (Nat.ne_of_lt (Nat.lt_of_lt_of_le (Heap.lt_size e) I.ok.above))).trans e1⟩
    · by_cases hj : j = i
      · subst hj
        rw [hi] at e1; cases e1
        rw [List.getElem?_set_self hiσ] at e2
        cases e2
        exact ⟨u, r, .inl ⟨hk, by simp⟩⟩
      · rw [List.getElem?_set_ne (Ne.symm hj)] at e2
        obtain ⟨u', r', q⟩ := hl j y v' e1 e2 e3
        refine ⟨u', r', ?_⟩
        rcases q with ⟨k, e⟩ | ⟨k, c, e, z⟩
        · refine .inl ⟨k, ?_⟩
          have : y ≠ x := fun e => hj (nodup_ix hN e1 (e ▸ hi))
          simp [this, e]
        · exact .inr ⟨k, c, e, z.sameBut hs (cne y c e)⟩
    · obtain ⟨w', z⟩ := I.cell y c e
      exact ⟨w', z.sameBut hs (cne y c e)⟩
    · obtain ⟨e, n, ne, nf, d⟩ := I.pin p hp
      exact ⟨(hs.2 p.1 ne).trans e, n, ne, nf, d⟩
  · have hfn : X.fn x = true := by
      rcases hf with z | z
      · exact z
      · rw [z] at hk; cases hk
    obtain ⟨c, hc⟩ := I.ok.has x (.inl hk)
    obtain ⟨w', z⟩ := I.cell x c hc
    refine wpAny_storeName_cell I.ok.kind hk hc z (fun h' hc' hs => ?_)
    obtain ⟨oc, hoc, hocd⟩ := id z
    refine h { s with heap := h' } ⟨I.ok, I.os, I.bare, ⟨fun b o e n hb hx => ?_, fun b o e n hb hx => ?_, I.base.free, fun b o e hx => ?_, I.base.tups, I.base.frzs, I.base.tbls⟩, ⟨m, hn.sameBut hs (Ne.symm (cne x c hc)), fun j y v' e1 e2 e3 => ?_⟩, fun y c' e => ?_, I.free, I.freeC, fun p hp => ?_, tracked ⟨oc, hoc, I.freeC x c hc⟩ hs, by simpa using I.len⟩ ⟨c, hs, .inr hc⟩
    · exact (hs.2 b (Nat.ne_of_lt (Nat.lt_of_lt_of_le (Heap.lt_size e) (I.ok.cab x c hfn hc)))).trans (I.base.keep b o e n hb hx)
    · obtain ⟨sl, e1⟩ := I.base.slot b o e n hb hx
      exact ⟨sl, (hs.2 b (Nat.ne_of_lt (Nat.lt_of_lt_of_le (Heap.lt_size e) (I.ok.cab x c hfn hc)))).trans e1⟩
    · obtain ⟨o', e1⟩ := I.base.there b o e hx
      exact ⟨o', (hs.2 b (Nat.ne_of_lt (Nat.lt_of_lt_of_le (Heap.lt_size e) (I.ok.cab x c hfn hc)))).trans e1⟩
    · by_cases hj : j = i
      · subst hj
        rw [hi] at e1; cases e1
        rw [List.getElem?_set_self hiσ] at e2
        cases e2
        exact ⟨u, r, .inr ⟨.inl hk, c, hc, hc'⟩⟩
      · rw [List.getElem?_set_ne (Ne.symm hj)] at e2
        obtain ⟨u', r', q⟩ := hl j y v' e1 e2 e3
        refine ⟨u', r', ?_⟩
        rcases q with q | ⟨k, c', e, z'⟩
        · exact .inl q
        · refine .inr ⟨k, c', e, z'.sameBut hs ?_⟩
          rintro rfl
          exact hj (nodup_ix hN e1 (I.ok.inj _ _ _ e hc ▸ hi))
    · by_cases hcc : c' = c
      · subst hcc; exact ⟨_, hc'⟩
      · obtain ⟨w2, z2⟩ := I.cell y c' e
        exact ⟨w2, z2.sameBut hs hcc⟩
    · obtain ⟨e, n, ne, nf, d⟩ := I.pin p hp
      refine ⟨(hs.2 p.1 ?_).trans e, n, ne, nf, d⟩
      intro q
      rw [q, hoc] at e
      have q' : oc = p.2 := Option.some.inj e
      exact d w' (by rw [← q']; exact hocd)
theorem store_ok {M : Model} {A : Around} {E : Value → Shared → Prop} {i : Nat} {x : Str} {v : V} {u : Value} {Q : Unit → Shared → Prop} (I : Inv X pins σ H s) (hN : X.N.Nodup) (hi : X.N[i]? = some x) (hx : Loc X.env.scope x) (r : RelV v u)
    (h : ∀ s', Inv X pins (σ.set i (some v)) H s' → Q () s') (hf : X.fn x = true ∨ X.env.scope.names.lookup x = some .local := by first | exact .inl rfl | exact .inr rfl | assumption) : wpAny M A (storeName X.env x u) Q E s :=
  store_ok2 I hN hi hx r (fun s' I' _ => h s' I') hf
/-- behind a call or a block, the state as it is -/
theorem Inv.call' {s' : Shared} {ch : List Addr} (I : Inv X pins σ H s) (ho : s'.os = s.os) (u : Un (frs X.stack) ch H H' s.heap s'.heap) (hok : HOk X.prog X.w H' s'.heap) (hg : AllBare s'.gens)
    (hch : ∀ b ∈ ch, (b ∈ X.ex ∨ X.s₀.heap.get? b = none) ∧ b ≠ X.env.locals ∧ (∀ x c, X.env.cells.lookup x = some c → c ≠ b) ∧ ∀ p ∈ X.pn ++ pins, p.1 ≠ b) : Inv X pins σ H' s' := by
  obtain ⟨h', g', d', t', o'⟩ := s'
  have e : o' = s.os := ho
  subst e
  exact I.call (g' := g') (t' := t') (d' := d') u hok hg hch
end

inductive XVar (σ : List (Option V)) (i : Nat) (H : Hp) (Q : V → Hp → Prop) : Prop
  | mk (v : V) (e : σ[i]? = some (some v)) (q : Q v H)
inductive XB (x : V) (R : Bool → Prop) : Prop
  | mk (c : Bool) (e : x = .bl c) (q : R c)
inductive XI (x : V) (R : Int → Prop) : Prop
  | mk (i : Int) (e : x = .int i) (q : R i)
inductive XII (x y : V) (R : Int → Int → Prop) : Prop
  | mk (i j : Int) (ex : x = .int i) (ey : y = .int j) (q : R i j)
inductive XIC (C : Int → Int → Prop) (x y : V) (R : Int → Int → Prop) : Prop
  | mk (i j : Int) (ex : x = .int i) (ey : y = .int j) (c : C i j) (q : R i j)

/-! ### the judgements -/
/-- an exception: its class, its own dict's address (where it has one), the abstract heap behind it -/
abbrev XK := Value → Option Addr → Hp → Prop
abbrev St := List (Option V)
abbrev VK := V → Hp → Prop
/-- an expression's reading; a test's; an argument list's -/
abbrev TE := St → Hp → VK → Prop
abbrev TT := St → Hp → (Bool → Hp → Prop) → Prop
abbrev TA := St → Hp → (List V → Hp → Prop) → Prop
/-- what is wanted behind a statement -/
structure Ends where
  nx : St → Hp → Prop
  rt : VK
  bk : St → Hp → Prop := fun _ _ => False
  ct : St → Hp → Prop := fun _ _ => False
abbrev TS := Ends → St → Hp → Prop

def EP (X : Cx) (pins : List (Addr × Obj)) (σ : St) (Q : VK) (u : Value) (s' : Shared) : Prop := ∃ v H', Inv X pins σ H' s' ∧ RelV v u ∧ Q v H'
def TP (X : Cx) (pins : List (Addr × Obj)) (σ : St) (Q : Bool → Hp → Prop) (b : Bool) (s' : Shared) : Prop := ∃ H', Inv X pins σ H' s' ∧ Q b H'
def AP (X : Cx) (pins : List (Addr × Obj)) (σ : St) (Q : List V → Hp → Prop) (us : List Value) (s' : Shared) : Prop := ∃ vs H', Inv X pins σ H' s' ∧ Vals vs us ∧ Q vs H'
def SP (X : Cx) (pins : List (Addr × Obj)) (D : Ends) (f : Flow) (s' : Shared) : Prop :=
  match f with
  | .next => ∃ σ' H', Inv X pins σ' H' s' ∧ D.nx σ' H'
  | .brk => ∃ σ' H', Inv X pins σ' H' s' ∧ D.bk σ' H'
  | .cont => ∃ σ' H', Inv X pins σ' H' s' ∧ D.ct σ' H'
  | .ret u => ∃ v σ' H', Inv X pins σ' H' s' ∧ RelV v u ∧ D.rt v H'

def PE (X : Cx) (e : Expr) (t : TE) : Prop :=
  ∀ (pins : List (Addr × Obj)) (s : Shared) (σ : St) (H : Hp) (Q : VK), Inv X pins σ H s → t σ H Q → wpAny (model X.prog X.w) X.A (eval e X.env) (EP X pins σ Q) X.xe s
def PT (X : Cx) (e : Expr) (t : TT) : Prop :=
  ∀ (pins : List (Addr × Obj)) (s : Shared) (σ : St) (H : Hp) (Q : Bool → Hp → Prop), Inv X pins σ H s → t σ H Q → wpAny (model X.prog X.w) X.A (isTrue e X.env (eval e X.env)) (TP X pins σ Q) X.xe s
/-- a test whatever its 'whole' is (and, or) -/
def PW (X : Cx) (e : Expr) (t : TT) : Prop :=
  ∀ (whole : Sem Value) (pins : List (Addr × Obj)) (s : Shared) (σ : St) (H : Hp) (Q : Bool → Hp → Prop), Inv X pins σ H s → t σ H Q → wpAny (model X.prog X.w) X.A (isTrue e X.env whole) (TP X pins σ Q) X.xe s
theorem PW.pt {X : Cx} {e : Expr} {t : TT} (h : PW X e t) : PT X e t := h _
/-- an argument list (no star), from the left -/
def PA (X : Cx) (es : List Expr) (t : TA) : Prop :=
  ∀ (pos : Pos) (pins : List (Addr × Obj)) (s : Shared) (σ : St) (H : Hp) (Q : List V → Hp → Prop), Inv X pins σ H s → t σ H Q → wpAny (model X.prog X.w) X.A (spliced (backTo pos (starEach es X.env))) (AP X pins σ Q) X.xe s
def PS (X : Cx) (st : Stmt) (t : TS) : Prop :=
  ∀ (pins : List (Addr × Obj)) (s : Shared) (σ : St) (H : Hp) (D : Ends), Inv X pins σ H s → t D σ H → wpAny (model X.prog X.w) X.A (exec st X.env) (SP X pins D) X.xe s
def PSs (X : Cx) (st : List Stmt) (t : TS) : Prop :=
  ∀ (pins : List (Addr × Obj)) (s : Shared) (σ : St) (H : Hp) (D : Ends), Inv X pins σ H s → t D σ H → wpAny (model X.prog X.w) X.A (execs st X.env) (SP X pins D) X.xe s
/-- weaken the end -/
theorem thn {α : Type} {t : Sem α} {Q Q' : α → Shared → Prop} {M : Model} {A : Around} {E : Value → Shared → Prop} {s : Shared} (h : wpAny M A t Q E s) (hQ : ∀ a s, Q a s → Q' a s) : wpAny M A t Q' E s := wpAny_mono h hQ fun _ _ x => x
end L2

namespace L2
open PySem PySem.Spec PyProof.Rows
section
variable {X : Cx}

/-! ### names and constants -/
def tVar (i : Nat) : TE := fun σ H Q => XVar σ i H Q
def tC (v : V) : TE := fun _ H Q => Q v H
theorem pe_var {i : Nat} {x : Str} {pos : Pos} (hN : X.N[i]? = some x) (hv : Vis X.env.scope x) (hd : (x == ("__debug__" : Str)) = false := by decide) (hcd : (x == ("__classdict__" : Str)) = false := by decide) : PE X (.Name x pos) (tVar i) := by
  intro pins s σ H Q I h
  obtain ⟨v, e, h⟩ := h
  obtain ⟨m, hn, hl⟩ := I.loc
  obtain ⟨u, r, l⟩ := hl i x v hN e hv
  have fin : EP X pins σ Q u s := ⟨v, H, I, r, h⟩
  rcases l with ⟨hk, hm⟩ | ⟨hk, c, hc, hcell⟩
  · exact wpAny_Name (wpAny_loadName_local I.ok.kind hk hn hm fin) hd
  · rcases hk with hk | hk
    · exact wpAny_Name (wpAny_loadName_cell I.ok.kind hk hc hcell fin) hd
    · exact wpAny_Name (wpAny_loadName_free I.ok.kind hk hc hcell fin hcd) hd
theorem pe_int {i j pos} : PE X (.Constant (.int i) j pos) (tC (.int i)) := fun _ _ _ H _ I h => wpAny_Constant_int ⟨.int i, H, I.tok _, ⟨_, rfl⟩, h⟩
theorem pe_bl {b j pos} : PE X (.Constant (.bool b) j pos) (tC (.bl b)) := fun _ _ _ H _ I h => Constant_bool ⟨.bl b, H, I, rfl, h⟩
theorem pe_non {j pos} : PE X (.Constant .none j pos) (tC .non) := fun _ _ _ H _ I h => Constant_none ⟨.non, H, I, rfl, h⟩
theorem pe_str {x j pos} : PE X (.Constant (.str x) j pos) (tC (.str x)) := fun _ _ _ H _ I h => Calls.Constant_str ⟨.str x, H, I.tok _, ⟨_, rfl⟩, h⟩

/-- a global name of the def -/
def Gl (X : Cx) (x : Str) : Prop := X.env.kindOf x = some .globalImplicit
theorem ld_glob {E : Value → Shared → Prop} {pins : List (Addr × Obj)} {s : Shared} {σ : St} {H : Hp} {x : Str} {u : Value} {pos : Pos} {Q : Value → Shared → Prop} (I : Inv X pins σ H s) (hg : Gl X x) (hm : X.mg x = some u) (h : Q u s)
    (hd : (x == ("__debug__" : Str)) = false := by decide) : wpAny (model X.prog X.w) X.A (eval (.Name x pos) X.env) Q E s :=
  Calls.Name_function_global I.ok.kind hg (Calls.loadGlobal_global (by rw [I.ok.glob]; exact I.mod.glob.keeps I.bk) hm h) hd
theorem ld_blt {E : Value → Shared → Prop} {pins : List (Addr × Obj)} {s : Shared} {σ : St} {H : Hp} {x : Str} {u : Value} {pos : Pos} {Q : Value → Shared → Prop} (I : Inv X pins σ H s) (hg : Gl X x) (hm : X.mg x = none) (hv : bootBuiltins x = some u) (h : Q u s)
    (hn : x ≠ "__name__" := by decide) (hd : (x == ("__debug__" : Str)) = false := by decide) : wpAny (model X.prog X.w) X.A (eval (.Name x pos) X.env) Q E s := by
  obtain ⟨mb, h1, h2⟩ := I.mod.blt
  exact Calls.Name_function_global I.ok.kind hg (Calls.loadGlobal_builtin (by rw [I.ok.glob]; exact I.mod.glob.keeps I.bk) hm (by rw [I.ok.blt]; exact h1.keeps I.bk) ((h2 x hn).trans hv) h) hd
/-- a module's constant, a class, a function, as a value -/
theorem pe_glob {x : Str} {v : V} {u : Value} {pos : Pos} (hg : Gl X x) (hm : X.mg x = some u) (r : RelV v u) (hd : (x == ("__debug__" : Str)) = false := by decide) : PE X (.Name x pos) (tC v) :=
  fun _ _ _ H _ I h => ld_glob I hg hm ⟨v, H, I, r, h⟩ hd
theorem pe_bltn {x : Str} {v : V} {u : Value} {pos : Pos} (hg : Gl X x) (hm : X.mg x = none) (hv : bootBuiltins x = some u) (r : RelV v u) (hn : x ≠ "__name__" := by decide) (hd : (x == ("__debug__" : Str)) = false := by decide) : PE X (.Name x pos) (tC v) :=
  fun _ _ _ H _ I h => ld_blt I hg hm hv ⟨v, H, I, r, h⟩ hn hd

/-! ### arithmetic -/
variable {a b : Expr} {ta tb : TE} {pos : Pos}
/-! ### comparisons -/
def PC (X : Cx) (op : CmpOp) (a b : Expr) (t : TE) : Prop :=
  ∀ (pins : List (Addr × Obj)) (s : Shared) (σ : St) (H : Hp) (Q : VK), Inv X pins σ H s → t σ H Q →
    wpAny (model X.prog X.w) X.A (eval a X.env) (fun v s₁ => wpAny (model X.prog X.w) X.A (eval b X.env) (fun u s₂ => wpAny (model X.prog X.w) X.A (compareOp op v u) (EP X pins σ Q) X.xe s₂) X.xe s₁) X.xe s
theorem nobehind (b : Expr) {op : CmpOp} (h : op ≠ .In) (h2 : op ≠ .NotIn) : behindInMarks op b = false := by
  have e1 : (op == CmpOp.In) = false := by cases op <;> first | rfl | exact absurd rfl h
  have e2 : (op == CmpOp.NotIn) = false := by cases op <;> first | rfl | exact absurd rfl h2
  cases b <;> simp [behindInMarks, e1, e2]
def tNotN (ta : TE) : TE := fun σ H Q => ta σ H fun x H1 => Q (.bl (!decide (x = .non))) H1
theorem RelV.none_iff {x : V} {v : Value} (r : RelV x v) : (v == Value.none) = decide (x = .non) := by
  cases x with
  | non => cases r; rfl
  | bl _ => cases r; rfl
  | int _ => obtain ⟨t, rfl⟩ := r; rfl
  | str _ => obtain ⟨t, rfl⟩ := r; rfl
  | byt _ => obtain ⟨t, rfl⟩ := r; rfl
  | flt _ => obtain ⟨t, rfl⟩ := r; rfl
  | ref _ => cases r; rfl
  | ty _ => cases r; rfl
theorem pc_notN {j pos'} (ha : PE X a ta) : PC X .IsNot a (.Constant .none j pos') (tNotN ta) := by
  intro pins s σ H Q I h
  refine thn (ha pins s σ H _ I h) fun v s1 ⟨x, H1, I1, r1, q1⟩ => ?_
  exact Constant_none (isnot_none_gen ⟨.bl _, H1, I1, by rw [r1.none_iff]; rfl, q1⟩)
/-- a comparison as a value, as a test -/
def tB (t : TE) : TT := fun σ H Q => t σ H fun x H1 => XB x fun c => Q c H1
theorem pt_cmp {op : CmpOp} {t : TE} (h : PC X op a b t) (h1 : behindInMarks op b = false := by first | exact nobehind _ (by decide) (by decide) | rfl) : PT X (.Compare a [op] [b] pos) (tB t) := by
  intro pins s σ H Q I hw
  refine wpAny_isTrue_Compare1 (thn (h pins s σ H _ I hw) fun v s1 h1 => thn h1 fun u s2 h2 => thn h2 fun c s3 ⟨x, H1, I1, r1, q1⟩ => ?_) h1
  obtain ⟨d, rfl, q⟩ := q1
  cases r1
  exact wpAny_truthy_bool ⟨H1, I1, q⟩
/-- an expression whose value is a bool, as a test -/
theorem pt_val {e : Expr} {t : TE} (h : PE X e t) (he : ∀ whole, isTrue e X.env whole = (do let v ← whole; standAt e.pos; holding [v] (truthy v)) := by intro _; rfl) : PT X e (tB t) := by
  intro pins s σ H Q I hw
  refine isTrue_plain (thn (h pins s σ H _ I hw) fun v s1 ⟨x, H1, I1, r1, q1⟩ => ?_) (he _)
  obtain ⟨d, rfl, q⟩ := q1
  cases r1
  exact wpAny_truthy_bool ⟨H1, I1, q⟩

/-! ### and, or, not -/
variable {tA tB' : TT} {rest : List Expr}
def tAnd (t u : TT) : TT := fun σ H Q => t σ H fun c H1 => if c = true then u σ H1 Q else Q false H1
def tOr (t u : TT) : TT := fun σ H Q => t σ H fun c H1 => if c = true then Q true H1 else u σ H1 Q
def tNot (t : TT) : TT := fun σ H Q => t σ H fun c H1 => Q (!c) H1
theorem pw_and1 (ha : PT X a tA) : PW X (.BoolOp .And [a] pos) tA := by
  intro wh pins s σ H Q I h
  refine isTrue_and (thn (ha pins s σ H Q I h) fun c s1 e => ?_)
  cases c with
  | true => exact isTrue_and_nil e
  | false => exact e
theorem pw_or1 (ha : PT X a tA) : PW X (.BoolOp .Or [a] pos) tA := by
  intro wh pins s σ H Q I h
  refine isTrue_or (thn (ha pins s σ H Q I h) fun c s1 e => ?_)
  cases c with
  | false => exact isTrue_or_nil e
  | true => exact e
theorem pw_and (ha : PT X a tA) (hb : PW X (.BoolOp .And (b :: rest) pos) tB') : PW X (.BoolOp .And (a :: b :: rest) pos) (tAnd tA tB') := by
  intro wh pins s σ H Q I h
  refine isTrue_and (thn (ha pins s σ H _ I h) fun c s1 ⟨H1, I1, q1⟩ => ?_)
  cases c with
  | true => exact hb wh pins s1 σ H1 Q I1 q1
  | false => exact ⟨H1, I1, q1⟩
theorem pw_or (ha : PT X a tA) (hb : PW X (.BoolOp .Or (b :: rest) pos) tB') : PW X (.BoolOp .Or (a :: b :: rest) pos) (tOr tA tB') := by
  intro wh pins s σ H Q I h
  refine isTrue_or (thn (ha pins s σ H _ I h) fun c s1 ⟨H1, I1, q1⟩ => ?_)
  cases c with
  | true => exact ⟨H1, I1, q1⟩
  | false => exact hb wh pins s1 σ H1 Q I1 q1
theorem pt_not (ha : PT X a tA) : PT X (.UnaryOp .Not a pos) (tNot tA) := by
  intro pins s σ H Q I h
  exact isTrue_not (ha pins s σ H (fun c H1 => Q (!c) H1) I h)
/-- .. as values (bools) -/
def tAndV (ta tb : TE) : TE := fun σ H Q => ta σ H fun x H1 => XB x fun c => if c = true then tb σ H1 Q else Q (.bl false) H1
def tOrV (ta tb : TE) : TE := fun σ H Q => ta σ H fun x H1 => XB x fun c => if c = true then Q (.bl true) H1 else tb σ H1 Q
def tNotV (ta : TE) : TE := fun σ H Q => ta σ H fun x H1 => XB x fun c => Q (.bl (!c)) H1
theorem pe_one {op} {t : TE} (h : PE X a t) : PE X (.BoolOp op [a] pos) t := fun pins s σ H Q I hw => BoolOp_one (h pins s σ H Q I hw)
theorem pe_and (ha : PE X a ta) (hb : PE X (.BoolOp .And (b :: rest) pos) tb) : PE X (.BoolOp .And (a :: b :: rest) pos) (tAndV ta tb) := by
  intro pins s σ H Q I h
  refine BoolOp_and (thn (ha pins s σ H _ I h) fun v s1 ⟨x, H1, I1, r1, q1⟩ => ?_)
  obtain ⟨c, rfl, q1⟩ := q1
  cases r1
  refine wpAny_truthy_bool ?_
  cases c with
  | true => exact hb pins s1 σ H1 Q I1 q1
  | false => exact ⟨.bl false, H1, I1, rfl, q1⟩
theorem pe_or (ha : PE X a ta) (hb : PE X (.BoolOp .Or (b :: rest) pos) tb) : PE X (.BoolOp .Or (a :: b :: rest) pos) (tOrV ta tb) := by
  intro pins s σ H Q I h
  refine BoolOp_or (thn (ha pins s σ H _ I h) fun v s1 ⟨x, H1, I1, r1, q1⟩ => ?_)
  obtain ⟨c, rfl, q1⟩ := q1
  cases r1
  refine wpAny_truthy_bool ?_
  cases c with
  | false => exact hb pins s1 σ H1 Q I1 q1
  | true => exact ⟨.bl true, H1, I1, rfl, q1⟩
theorem pe_not (ha : PE X a ta) : PE X (.UnaryOp .Not a pos) (tNotV ta) := by
  intro pins s σ H Q I h
  refine UnaryOp_ (thn (ha pins s σ H _ I h) fun v s1 ⟨x, H1, I1, r1, q1⟩ => ?_)
  obtain ⟨c, rfl, q1⟩ := q1
  cases r1
  exact not_of (wpAny_truthy_bool ⟨.bl (!c), H1, I1, rfl, q1⟩)
end
end L2

namespace L2
open PySem PySem.Spec PyProof.Rows

/-! ### a list, a tuple that is read: tracked, frozen, or an object of the module -/
def SqL (K : PySem.W.Frag) (H : Hp) (a : Addr) (xs : List V) : Prop :=
  Rd H a (.lst xs) ∨
    ∃ (o : Obj) (its : Array Value) (n : Nat), K.lookup a = some o ∧ o.cls = .type "list" ∧ o.dict = none ∧ o.data = .seq its n ∧ its.size ≤ sizeLine ∧ Vals xs its.toList
def SqT (K : PySem.W.Frag) (H : Hp) (a : Addr) (xs : List V) : Prop :=
  Rd H a (.tup xs) ∨
    ∃ (o : Obj) (its : Array Value) (n : Nat), K.lookup a = some o ∧ o.cls = .type "tuple" ∧ o.data = .seq its n ∧ its.size ≤ sizeLine ∧ Vals xs its.toList
def absV : Value → Option V
  | .none => some .non
  | .bool b => some (.bl b)
  | .int i _ => some (.int i)
  | .str x _ => some (.str x)
  | .bytes b _ => some (.byt b)
  | .float b _ => some (.flt b)
  | .ref a => some (.ref a)
  | .type n => some (.ty n)
  | _ => none
theorem RelV.abs {x : V} {u : Value} (r : RelV x u) : absV u = some x := by
  cases x with
  | non => cases r; rfl
  | bl _ => cases r; rfl
  | int _ => obtain ⟨t, rfl⟩ := r; rfl
  | str _ => obtain ⟨t, rfl⟩ := r; rfl
  | byt _ => obtain ⟨t, rfl⟩ := r; rfl
  | flt _ => obtain ⟨t, rfl⟩ := r; rfl
  | ref _ => cases r; rfl
  | ty _ => cases r; rfl
theorem RelV.inj {x y : V} {u : Value} (r : RelV x u) (q : RelV y u) : x = y := Option.some.inj (r.abs.symm.trans q.abs)
theorem Vals.inj : ∀ {xs ys : List V} {us : List Value}, Vals xs us → Vals ys us → xs = ys
  | _, _, _, .nil, .nil => rfl
  | _, _, _, .cons r t, .cons r' t' => by rw [r.inj r', Vals.inj t t']
section
variable {X : Cx} {pins : List (Addr × Obj)} {σ : St} {H : Hp} {s : Shared} {a : Addr} {xs ys : List V}
theorem SqL.of {K : PySem.W.Frag} (h : H a = some (.lst xs)) : SqL K H a xs := .inl (.inl h)
theorem SqT.of {K : PySem.W.Frag} (h : H a = some (.tup xs)) : SqT K H a xs := .inl (.inl h)
theorem Inv.list (I : Inv X pins σ H s) (h : SqL X.K H a xs) : ∃ its : List Value, Vals xs its ∧ PlainL s.heap a its.toArray ∧ xs.length ≤ sizeLine := by
  rcases h with h | ⟨o, its, n, hk, hc, hd, hs, hz, r⟩
  · obtain ⟨z, its, n, r, e⟩ := h.ok I.hok
    exact ⟨its, r, ⟨_, n, e, rfl, rfl, rfl⟩, z⟩
  · refine ⟨its.toList, r, ⟨o, n, I.kIn a o hk, hc, hd, by simpa using hs⟩, ?_⟩
    have e := r.length
    simp only [Array.length_toList] at e
    omega
theorem Inv.tuple (I : Inv X pins σ H s) (h : SqT X.K H a xs) : ∃ its : List Value, Vals xs its ∧ IsTup s.heap a its.toArray ∧ xs.length ≤ sizeLine := by
  rcases h with h | ⟨o, its, n, hk, hc, hs, hz, r⟩
  · obtain ⟨z, its, r, p⟩ := h.ok I.hok
    exact ⟨its, r, p, z⟩
  · refine ⟨its.toList, r, ⟨o, I.kIn a o hk, hc, n, by simpa using hs⟩, ?_⟩
    have e := r.length
    simp only [Array.length_toList] at e
    omega
theorem Inv.list_inj (I : Inv X pins σ H s) (h : SqL X.K H a xs) (h' : SqL X.K H a ys) : xs = ys := by
  obtain ⟨its, r, ⟨o, n, e, _, _, d⟩, _⟩ := I.list h
  obtain ⟨its', r', ⟨o', n', e', _, _, d'⟩, _⟩ := I.list h'
  rw [e] at e'; cases e'
  rw [d] at d'
  injection d' with d1 _
  have : its = its' := by simpa using congrArg Array.toList d1
  subst this
  exact r.inj r'
end

/-! ### another wish about exceptions -/
abbrev Cx.wish (X : Cx) (E : Value → Shared → Prop) : Cx := { X with xe := E }
/-- no exception leaves -/
abbrev Cx.nox (X : Cx) : Cx := X.wish fun _ _ => False
theorem Cx.Ok.wish {X : Cx} (ok : X.Ok) (E : Value → Shared → Prop) : (X.wish E).Ok :=
  ⟨ok.mod, ok.kind, ok.glob, ok.blt, ok.above, ok.inj, ok.has, ok.cab, ok.hd, ok.frames, ok.stk, ok.exf, ok.bs, ok.bsz, ok.noex, ok.exfs, ok.funs, ok.frf, ok.hdl⟩
theorem Cx.Ok.unwish {X : Cx} {E : Value → Shared → Prop} (ok : (X.wish E).Ok) : X.Ok :=
  ⟨ok.mod, ok.kind, ok.glob, ok.blt, ok.above, ok.inj, ok.has, ok.cab, ok.hd, ok.frames, ok.stk, ok.exf, ok.bs, ok.bsz, ok.noex, ok.exfs, ok.funs, ok.frf, ok.hdl⟩
section
variable {X : Cx} {pins : List (Addr × Obj)} {σ : St} {H : Hp} {s : Shared} {E : Value → Shared → Prop}
theorem Inv.wish (I : Inv X pins σ H s) (E : Value → Shared → Prop) : Inv (X.wish E) pins σ H s := ⟨I.ok.wish E, I.os, I.bare, I.base, I.loc, I.cell, I.free, I.freeC, I.pin, I.hok, I.len⟩
theorem Inv.unwish (I : Inv (X.wish E) pins σ H s) : Inv X pins σ H s := ⟨I.ok.unwish, I.os, I.bare, I.base, I.loc, I.cell, I.free, I.freeC, I.pin, I.hok, I.len⟩
theorem SP.unwish {D : Ends} {f : Flow} {s' : Shared} (h : SP (X.wish E) pins D f s') : SP X pins D f s' := by
  cases f with
  | next => obtain ⟨σ', H', I, q⟩ := h; exact ⟨σ', H', I.unwish, q⟩
  | brk => obtain ⟨σ', H', I, q⟩ := h; exact ⟨σ', H', I.unwish, q⟩
  | cont => obtain ⟨σ', H', I, q⟩ := h; exact ⟨σ', H', I.unwish, q⟩
  | ret u => obtain ⟨v, σ', H', I, r, q⟩ := h; exact ⟨v, σ', H', I.unwish, r, q⟩
theorem PE.nox {e : Expr} {t : TE} (h : PE X.nox e t) : PE X e t := fun pins s σ H Q I hw =>
  wpAny_mono (h pins s σ H Q (I.wish _) hw) (fun _ _ ⟨v, H', I', r, q⟩ => ⟨v, H', I'.unwish, r, q⟩) fun _ _ z => False.elim z
theorem PSs.nox {st : List Stmt} {t : TS} (h : PSs X.nox st t) : PSs X st t := fun pins s σ H D I hw =>
  wpAny_mono (h pins s σ H D (I.wish _) hw) (fun _ _ q => q.unwish) fun _ _ z => False.elim z
end

/-! ### blocks and small statements -/
section
variable {X : Cx} {st : Stmt} {rest : List Stmt} {t u : TS} {e : Expr} {te : TE} {pos : Pos}
def tNext : TS := fun D σ H => D.nx σ H
def tSeq (t u : TS) : TS := fun D σ H => t { D with nx := u D } σ H
theorem pss_nil : PSs X [] tNext := fun _ _ σ H _ I h => wpAny_execs_nil ⟨σ, H, I, h⟩
theorem pss_cons (h1 : PS X st t) (h2 : PSs X rest u) : PSs X (st :: rest) (tSeq t u) := by
  intro pins s σ H D I h
  refine wpAny_execs_cons (thn (h1 pins s σ H { D with nx := u D } I h) fun f s1 q => ?_)
  cases f with
  | next =>
    obtain ⟨σ', H', I', q⟩ := q
    exact h2 pins s1 σ' H' D I' q
  | ret v => exact q
  | brk => exact q
  | cont => exact q
theorem pss_one (h1 : PS X st t) : PSs X [st] t := by
  intro pins s σ H D I h
  refine wpAny_execs_cons (thn (h1 pins s σ H D I h) fun f s1 q => ?_)
  cases f with
  | next => exact wpAny_execs_nil q
  | ret v => exact q
  | brk => exact q
  | cont => exact q
def tCont : TS := fun D σ H => D.ct σ H
theorem ps_continue : PS X (.Continue pos) tCont := fun _ _ σ H _ I h => wpAny_Continue ⟨σ, H, I, h⟩
/-- in a def's body nothing is shown -/
theorem Inv.quiet {pins : List (Addr × Obj)} {σ : St} {H : Hp} {s : Shared} (I : Inv X pins σ H s) : interactive X.env = false := by simp [interactive, I.ok.kind]
/-- an expression whose value is dropped -/
def tDrop (te : TE) : TS := fun D σ H => te σ H fun _ H1 => D.nx σ H1
theorem ps_expr (he : PE X e te) (hs : swapsWith e none pos.line X.env = pure false := by rfl) : PS X (.Expr e pos) (tDrop te) := by
  intro pins s σ H D I h
  exact wpAny_Expr_any (thn (he pins s σ H _ I h) fun v s1 ⟨x, H1, I1, r1, q1⟩ => ⟨σ, H1, I1, q1⟩) I.quiet hs
def tRet (te : TE) : TS := fun D σ H => te σ H D.rt
theorem ps_ret (he : PE X e te) : PS X (.Return (some e) pos) (tRet te) := by
  intro pins s σ H D I h
  exact wpAny_Return_some (thn (he pins s σ H _ I h) fun v s1 ⟨x, H1, I1, r1, q1⟩ => ⟨x, σ, H1, I1, r1, q1⟩)
def tIfS (c : TT) (t u : TS) : TS := fun D σ H => c σ H fun b H1 => if b = true then t D σ H1 else u D σ H1
theorem ps_if {c : Expr} {a b : List Stmt} {tc : TT} (hc : PT X c tc) (ha : PSs X a t) (hb : PSs X b u) : PS X (.If c a b pos) (tIfS tc t u) := by
  intro pins s σ H D I h
  refine wpAny_If (thn (hc pins s σ H _ I h) fun d s1 ⟨H1, I1, q1⟩ => ?_)
  cases d with
  | true => exact ha pins s1 σ H1 D I1 q1
  | false => exact hb pins s1 σ H1 D I1 q1
/-- code that the proof never comes to -/
def tNever : TS := fun _ _ _ => False
theorem pss_never {sts : List Stmt} : PSs X sts tNever := fun _ _ _ _ _ _ h => h.elim
end

/-! ### targets -/
abbrev TG := V → St → Hp → (St → Hp → Prop) → Prop
abbrev TGs := List V → St → Hp → (St → Hp → Prop) → Prop
def PG (X : Cx) (target : Expr) (t : TG) : Prop :=
  ∀ (pins : List (Addr × Obj)) (s : Shared) (σ : St) (H : Hp) (v : V) (u : Value) (Q : St → Hp → Prop), Inv X pins σ H s → RelV v u → t v σ H Q →
    wpAny (model X.prog X.w) X.A (assign target X.env u) (fun _ s' => ∃ σ' H', Inv X pins σ' H' s' ∧ Q σ' H') X.xe s
/-- several targets, one after another -/
def PGs (X : Cx) (ts : List Expr) (t : TGs) : Prop :=
  ∀ (pins : List (Addr × Obj)) (s : Shared) (σ : St) (H : Hp) (vs : List V) (us : List Value) (Q : St → Hp → Prop), Inv X pins σ H s → Vals vs us → t vs σ H Q →
    wpAny (model X.prog X.w) X.A (assignInOrder ((assignEach ts X.env).map (·.2)) us) (fun _ s' => ∃ σ' H', Inv X pins σ' H' s' ∧ Q σ' H') X.xe s
section
variable {X : Cx} {pos : Pos}
def gName (i : Nat) : TG := fun v σ H Q => Q (σ.set i (some v)) H
theorem pg_name {i : Nat} {x : Str} (hN : X.N.Nodup) (hi : X.N[i]? = some x) (hx : Loc X.env.scope x) (hf : X.fn x = true ∨ X.env.scope.names.lookup x = some .local := by first | exact .inl rfl | exact .inr rfl | assumption) : PG X (.Name x pos) (gName i) := by
  intro pins s σ H v u Q I r h
  exact wpAny_assign_Name (store_ok I hN hi hx r (fun s' I' => ⟨_, H, I', h⟩) hf)
def gNil : TGs := fun vs σ H Q => vs = [] ∧ Q σ H
def gCons (t : TG) (u : TGs) : TGs := fun vs σ H Q => ∃ v r, vs = v :: r ∧ t v σ H fun σ' H' => u r σ' H' Q
theorem pgs_nil : PGs X [] gNil := by
  intro pins s σ H vs us Q I r h
  obtain ⟨e, h⟩ := h
  subst e
  cases r
  exact assignInOrder_nil ⟨σ, H, I, h⟩
theorem pgs_cons {e : Expr} {es : List Expr} {t : TG} {u : TGs} (h1 : PG X e t) (h2 : PGs X es u)
    (hs : (assignEach (e :: es) X.env).map (·.2) = assign e X.env :: (assignEach es X.env).map (·.2) := by rfl) : PGs X (e :: es) (gCons t u) := by
  intro pins s σ H vs us Q I r h
  obtain ⟨v, vr, e1, h⟩ := h
  subst e1
  cases r with
  | cons r rr =>
    rw [hs]
    refine assignInOrder_cons (thn (h1 pins s σ H _ _ _ I r h) fun _ s1 ⟨σ1, H1, I1, q1⟩ => ?_)
    exact h2 pins s1 σ1 H1 _ _ Q I1 rr q1
/-- (a, b, ..) = a tuple of that length -/
def gTup (K : PySem.W.Frag) (n : Nat) (t : TGs) : TG := fun v σ H Q => ∃ a xs, v = .ref a ∧ SqT K H a xs ∧ xs.length = n ∧ t xs σ H Q
theorem pg_tup {es : List Expr} {k : Nat} {t : TGs} {n : Nat} (hc : X.calm = true) (h : PGs X es t)
    (hn : (assignEach es X.env).length = n := by rfl) (hst : (assignEach es X.env).findIdx? (·.1) = none := by rfl) : PG X (.Tuple es k pos) (gTup X.K n t) := by
  intro pins s σ H v u Q I r hw
  obtain ⟨a, xs, e1, hq, hl, hw⟩ := hw
  subst e1
  cases r
  obtain ⟨its, rv, ht, hz⟩ := I.tuple hq
  refine assign_Tuple_tuple (I.ok.hd hc) ht (by simp [hn, ← hl, rv.length]) hst fun h' hx => ?_
  have I1 : Inv X pins σ H { s with heap := h' } := I.kept (t' := s.toks) fun b o e => hx b o (Nat.ne_of_lt (Heap.lt_size e)) e
  exact h pins _ σ H xs _ Q I1 (by simpa using rv) hw
/-- target = value -/
def tAsg (te : TE) (g : TG) : TS := fun D σ H => te σ H fun x H1 => g x σ H1 D.nx
/-- name = value -/
theorem ps_set {i : Nat} {x : Str} {e : Expr} {te : TE} {pos' : Pos} (hN : X.N.Nodup) (hi : X.N[i]? = some x) (hx : Loc X.env.scope x) (he : PE X e te) (hs : swapsWith e (some (.Name x pos')) pos.line X.env = pure false := by rfl) (hf : X.fn x = true ∨ X.env.scope.names.lookup x = some .local := by first | exact .inl rfl | exact .inr rfl | assumption) :
    PS X (.Assign [.Name x pos'] e pos) (tAsg te (gName i)) := by
  intro pins s σ H D I h
  refine wpAny_Assign_Name (thn (he pins s σ H _ I h) fun v s1 ⟨y, H1, I1, r1, q1⟩ => ?_) hs
  exact store_ok I1 hN hi hx r1 (fun s2 I2 => ⟨_, H1, I2, q1⟩) hf
end

/-! ### while -/
section
variable {X : Cx} {pos : Pos}
/-- the invariant W with its measure -/
def tWhile (c : TT) (tb : TS) : TS := fun D σ H => ∃ W : Nat → St → Hp → Prop, (∃ m, W m σ H) ∧ ∀ m σ H, W m σ H →
  c σ H fun b H1 => if b = true then ∃ N : St → Hp → Prop, (∀ σ' H', N σ' H' → ∃ m', m' < m ∧ W m' σ' H') ∧ tb { D with nx := N, ct := N, bk := D.nx } σ H1 else D.nx σ H1
theorem ps_while {c : Expr} {body : List Stmt} {tc : TT} {tb : TS} (hp : PassesOwn (model X.prog X.w) X.A X.env X.xe) (hc : PT X c tc) (hb : PSs X body tb) : PS X (.While c body [] pos) (tWhile tc tb) := by
  intro pins s σ H D I h
  obtain ⟨W, ⟨m0, w0⟩, turn⟩ := h
  refine wpAny_While (codeAny_whileLoop (fun n s' => ∃ σ' H', Inv X pins σ' H' s' ∧ W n σ' H') ?_ m0 ⟨σ, H, I, w0⟩)
  rintro n s1 ⟨σ1, H1, I1, w1⟩
  refine wpAny_passesOwn hp (thn (hc pins s1 σ1 H1 _ I1 (turn n σ1 H1 w1)) fun b s2 ⟨H2, I2, q2⟩ => ?_)
  cases b with
  | true =>
    obtain ⟨N, hN, q2⟩ := q2
    rw [if_pos rfl]
    refine wpAny_passesOwn hp (thn (hb pins s2 σ1 H2 _ I2 q2) fun f s3 q3 => ?_)
    cases f with
    | next =>
      obtain ⟨σ3, H3, I3, n3⟩ := q3
      obtain ⟨m', hm, w3⟩ := hN σ3 H3 n3
      exact ⟨m', hm, σ3, H3, I3, w3⟩
    | cont =>
      obtain ⟨σ3, H3, I3, n3⟩ := q3
      obtain ⟨m', hm, w3⟩ := hN σ3 H3 n3
      exact ⟨m', hm, σ3, H3, I3, w3⟩
    | brk => exact q3
    | ret v => exact q3
  | false =>
    rw [if_neg Bool.false_ne_true]
    exact wpAny_execs_nil ⟨σ1, H2, I2, q2⟩
end

/-! ### what a loop or a comprehension walks -/
/-- at turn i: it yields x (the heap may grow), or it stops -/
structure It where
  go : Nat → Hp → Prop
  yld : Nat → Hp → V → Hp → Prop
  stop : Nat → Hp → Prop
/-- the iterator's own objects may turn: they are not the frame's, not pinned, younger than the entry (or a comprehension's own) -/
def FpOk (X : Cx) (pins : List (Addr × Obj)) (H : Hp) (b : Addr) : Prop :=
  H b = none ∧ b ≠ X.env.locals ∧ b ∉ X.fs ∧ (b ∈ X.ex ∨ X.s₀.heap.get? b = none) ∧ (∀ x c, X.env.cells.lookup x = some c → c ≠ b) ∧ ∀ p ∈ X.pn ++ pins, p.1 ≠ b
theorem Inv.fpOk {X : Cx} {pins : List (Addr × Obj)} {σ : St} {H H' : Hp} {s : Shared} {b : Addr} (I : Inv X pins σ H s) (hb : s.heap.objs.size ≤ b) (hn : H' b = none) : FpOk X pins H' b := by
  refine ⟨hn, Nat.ne_of_gt (Nat.lt_of_lt_of_le I.lt hb), I.nofs hb, .inr (Heap.get?_none_of_le (Nat.le_trans I.sz hb)), fun x c e z => ?_, fun p hp z => ?_⟩
  · obtain ⟨v, q⟩ := I.cell x c e
    exact absurd (Nat.lt_of_lt_of_le q.lt (by rw [z]; exact hb)) (Nat.lt_irrefl _)
  · exact absurd (Nat.lt_of_lt_of_le (Heap.lt_size (I.pin p hp).1) (by rw [z]; exact hb)) (Nat.lt_irrefl _)
/-- .. of an address where nothing stood -/
theorem Inv.fpNew {X : Cx} {pins : List (Addr × Obj)} {σ : St} {H H' : Hp} {s : Shared} {b : Addr} (I : Inv X pins σ H s) (hb : s.heap.get? b = none) (hn : H' b = none) : FpOk X pins H' b := by
  refine ⟨hn, fun z => ?_, fun z => ?_, ?_, fun x c e z => ?_, fun p hp z => ?_⟩
  · obtain ⟨m, ⟨o, _, _, ho, _⟩, _⟩ := I.loc
    rw [← z, hb] at ho; cases ho
  · obtain ⟨_, o, ho, _⟩ := I.funs.mem z
    rw [hb] at ho; cases ho
  · by_cases hx : b ∈ X.ex
    · exact .inl hx
    · refine .inr ?_
      cases q : X.s₀.heap.get? b with
      | none => rfl
      | some o =>
        obtain ⟨o', ho⟩ := I.base.there b o q hx
        rw [hb] at ho; cases ho
  · obtain ⟨v, o, ho, _⟩ := I.cell x c e
    rw [z, hb] at ho; cases ho
  · have := (I.pin p hp).1
    rw [z, hb] at this; cases this
structure Turn (P : Program) (w : World) (K : PySem.W.Frag) (tg : Expr) (J : It) (fp : List Addr) (it : Addr) (tn : Nat → Heap → Prop) : Prop where
  mem : it ∈ fp
  obj : ∀ i h, tn i h → ∀ b ∈ fp, ∃ o, h.get? b = some o ∧ ∀ v, o.data ≠ .cell v
  keep : ∀ i h h', tn i h → (∀ b ∈ fp, ∀ o, h.get? b = some o → h'.get? b = some o) → tn i h'
  item : ∀ (X : Cx), X.prog = P → X.w = w → X.K = K → (0 : Nat) = 0 → ∀ (i : Nat) (pins : List (Addr × Obj)) (s : Shared) (σ : St) (H : Hp) (E : Value → Shared → Prop), Inv X pins σ H s → (∀ b ∈ fp, FpOk X pins H b) → tn i s.heap → J.go i H →
    wpAny (model P w) X.A (pyNext (.ref it)) (fun r s1 => ∃ u, r = some u ∧
      wpAny (model P w) X.A (letOwnedTupleGo tg (.ref it) u) (fun _ s2 => ∃ x H', Inv X pins σ H' s2 ∧ RelV x u ∧ J.yld i H x H' ∧ tn (i + 1) s2.heap ∧ ∀ b ∈ fp, H' b = none) E s1) E s
  done : ∀ (X : Cx), X.prog = P → X.w = w → X.K = K → (0 : Nat) = 0 → ∀ (i : Nat) (pins : List (Addr × Obj)) (s : Shared) (σ : St) (H : Hp) (E : Value → Shared → Prop), Inv X pins σ H s → (∀ b ∈ fp, FpOk X pins H b) → tn i s.heap → J.stop i H →
    wpAny (model P w) X.A (pyNext (.ref it)) (fun r s1 => r = none ∧ Inv X pins σ H s1) E s
  self : ∀ (A : Around) (i : Nat) (s : Shared) (Q : Value → Shared → Prop) (E : Value → Shared → Prop), tn i s.heap → Q (.ref it) s → wpAny (model P w) A (pyIter (.ref it)) Q E s
abbrev TI := St → Hp → (It → Hp → Prop) → Prop
/-- an iterator has come -/
def PIE (X : Cx) (pins : List (Addr × Obj)) (σ : St) (tg : Expr) (R : It → Hp → Prop) (itv : Value) (s2 : Shared) : Prop :=
  ∃ (it : Addr) (fp : List Addr) (tn : Nat → Heap → Prop) (J : It) (H' : Hp), itv = .ref it ∧ Inv X pins σ H' s2 ∧ Turn X.prog X.w X.K tg J fp it tn ∧ tn 0 s2.heap ∧ (∀ b ∈ fp, FpOk X pins H' b) ∧ R J H'
def PI (X : Cx) (tg iter : Expr) (wi : TI) : Prop :=
  ∀ (pins : List (Addr × Obj)) (s : Shared) (σ : St) (H : Hp) (R : It → Hp → Prop), Inv X pins σ H s → wi σ H R →
    wpAny (model X.prog X.w) X.A (eval iter X.env) (fun v s1 => wpAny (model X.prog X.w) X.A (pyIter v) (PIE X pins σ tg R) X.xe s1) X.xe s

/-- the step ahead of the store is nothing for an iterator that keeps no tuple -/
theorem go_of {M : Model} {A : Around} {E : Value → Shared → Prop} {s : Shared} {tg : Expr} {it : Addr} {u : Value} {o : Obj} {n : String} {vs : Array Value} {Q : Unit → Shared → Prop} (ho : s.heap.get? it = some o) (hc : o.cls = .type n) (hd : o.data = .fields vs)
    (hn : ["enumerate", "zip", "dict_itemiterator", "dict_reverseitemiterator", "odict_iterator", "itertools.zip_longest", "itertools.pairwise"].contains n = false) (hQ : Q () s) : wpAny M A (letOwnedTupleGo tg (.ref it) u) Q E s := by
  unfold letOwnedTupleGo
  cases tg <;> first
    | exact wpAny_pure hQ
    | (cases u <;> first
        | exact wpAny_pure hQ
        | (refine wpAny_bind (wpAny_load ho ?_)
           rw [hc, hd]
           show wpAny M A (if (["enumerate", "zip", "dict_itemiterator", "dict_reverseitemiterator", "odict_iterator", "itertools.zip_longest", "itertools.pairwise"].contains n && vs[0]? == some (rawInt _)) = true then _ else _) Q E s
           rw [if_neg (by intro h; rw [hn, Bool.false_and] at h; cases h)]
           exact wpAny_pure hQ))

/-- the list at a, as it stands at each turn (a loop may append to it) -/
def Itl (K : PySem.W.Frag) (a : Addr) : It :=
  ⟨fun i H => ∃ xs x, SqL K H a xs ∧ xs[i]? = some x, fun i H x H' => H' = H ∧ ∀ xs, SqL K H a xs → xs[i]? = some x, fun i H => ∃ xs, SqL K H a xs ∧ xs.length ≤ i⟩
/-- lo, lo + 1, .. (n of them) -/
def Itr (lo : Int) (n : Nat) : It := ⟨fun i _ => i < n, fun i H x H' => H' = H ∧ x = .int (lo + i), fun i _ => n ≤ i⟩
theorem turn_list {P : Program} {w : World} {K : PySem.W.Frag} {tg : Expr} (a it : Addr) : Turn P w K tg (Itl K a) [it] it (fun i h => h.IsListIter it a i) where
  mem := by simp
  obj := fun i h st b hb => by
    have e : b = it := by simpa using hb
    subst e
    obtain ⟨o, e, c, d⟩ := st
    exact ⟨o, e, fun v z => by rw [d] at z; cases z⟩
  keep := fun i h h' st k => st.at fun o e => k it (by simp) o e
  item := by
    intro X hP hw hK hc i pins s σ H E I hf st hg
    subst hP hw hK
    obtain ⟨xs, x, hq, hx⟩ := hg
    obtain ⟨its, rv, p, hz⟩ := I.list hq
    obtain ⟨u, hu, ru⟩ := rv.get hx
    obtain ⟨f0, f1, f2, f3, f4, f5⟩ := hf it (by simp)
    refine wpAny_pyNext_list_item st p.isList (x := u) (by simpa using hu) fun h' st' sb => ?_
    have I1 : Inv X pins σ H { s with heap := h' } := I.turned (t' := s.toks) (fun b o hb e => (sb.2 b hb).trans e) f0 f1 f3 f4 f5
    obtain ⟨o, e, c, d⟩ := id st'
    exact ⟨u, rfl, go_of (s := { s with heap := h' }) e c d (by decide) ⟨x, H, I1, ru, ⟨rfl, fun ys hy => by rw [I.list_inj hy hq]; exact hx⟩, st', fun b hb => (hf b hb).1⟩⟩
  done := by
    intro X hP hw hK hc i pins s σ H E I hf st hg
    subst hP hw hK
    obtain ⟨xs, hq, hx⟩ := hg
    obtain ⟨its, rv, p, hz⟩ := I.list hq
    obtain ⟨f0, f1, f2, f3, f4, f5⟩ := hf it (by simp)
    have hl := rv.length
    exact EoH.list_end I.hdn st p.isList (by simp; omega) fun h' eb => ⟨rfl, I.turned (t' := s.toks) (fun b o hb e => eb b o hb e) f0 f1 f3 f4 f5⟩
  self := fun _ _ _ _ _ st h => wpAny_pyIter_listiter st h
theorem turn_range {P : Program} {w : World} {K : PySem.W.Frag} {tg : Expr} (it : Addr) (lo : Int) (n : Nat) : Turn P w K tg (Itr lo n) [it] it (fun i h => IsRangeIter h it (lo + (i : Nat) * 1) ((n : Int) - (i : Nat)) 1) where
  mem := by simp
  obj := fun i h st b hb => by
    have e : b = it := by simpa using hb
    subst e
    exact ⟨_, st, fun v z => by
      have z' : Data.fields _ = Data.cell v := z
      cases z'⟩
  keep := fun i h h' st k => k it (by simp) _ st
  item := by
    intro X hP hw hK hc i pins s σ H E I hf st hg
    subst hP hw hK
    obtain ⟨f0, f1, f2, f3, f4, f5⟩ := hf it (by simp)
    refine EoH.range_item (prog := X.prog) (w := X.w) (A := X.A) it lo n i s _ _ hg st fun v h' tk hv st' kk => ?_
    obtain ⟨t, rfl⟩ := hv
    have I1 : Inv X pins σ H { s with heap := h', toks := tk } := I.turned (fun b o hb e => kk b o (by simpa using hb) e) f0 f1 f3 f4 f5
    refine ⟨_, rfl, go_of (s := { s with heap := h', toks := tk }) (n := "range_iterator") st' rfl rfl (by decide) ⟨.int (lo + i), H, I1, ⟨t, ?_⟩, ⟨rfl, rfl⟩, st', fun b hb => (hf b hb).1⟩⟩
    rw [Int.mul_one]
  done := by
    intro X hP hw hK hc i pins s σ H E I hf st hg
    subst hP hw hK
    obtain ⟨f0, f1, f2, f3, f4, f5⟩ := hf it (by simp)
    exact EoH.range_end I.hdn st (by have : n ≤ i := hg; omega) fun h' eb => ⟨rfl, I.turned (t' := s.toks) (fun b o hb e => eb b o hb e) f0 f1 f3 f4 f5⟩
  self := fun _ _ _ _ _ st h => wpAny_pyIter_rangeiter st h
end L2

namespace L2
open PySem PySem.Spec PyProof.Rows
section
variable {X : Cx} {tg : Expr}
inductive XItL (K : PySem.W.Frag) (x : V) (H : Hp) (R : It → Hp → Prop) : Prop
  | mk (a : Addr) (e : x = .ref a) (s : ∃ xs, SqL K H a xs) (q : R (Itl K a) H)
def iList (K : PySem.W.Frag) (tl : TE) : TI := fun σ H R => tl σ H fun x H1 => XItL K x H1 R
theorem pi_list {l : Expr} {tl : TE} (hl : PE X l tl) : PI X tg l (iList X.K tl) := by
  intro pins s σ H R I h
  refine thn (hl pins s σ H _ I h) fun v s1 ⟨x, H1, I1, r1, q1⟩ => ?_
  obtain ⟨a, e, ⟨xs, hq⟩, q⟩ := q1
  subst e
  cases r1
  obtain ⟨its, rv, p, hz⟩ := I1.list hq
  refine wpAny_pyIter_list p.isList ?_
  refine ⟨s1.heap.objs.size, [s1.heap.objs.size], _, _, H1, rfl, I1.kept (t' := s1.toks) fun b o e => Heap.get?_push_of_some _ e, turn_list a _, ⟨_, Heap.get?_push_size _ rfl, rfl, rfl⟩, fun b hb => ?_, q⟩
  have e : b = s1.heap.objs.size := by simpa using hb
  subst e
  exact I1.fpOk (Nat.le_refl _) (I1.hok.fresh (Nat.le_refl _))
/-- a range object just made, walked -/
theorem range_it {pins : List (Addr × Obj)} {σ : St} {H : Hp} {s : Shared} {R : It → Hp → Prop} {E : Value → Shared → Prop} {lo hi : Int} {t u v : Tok} {tk : Nat} (I : Inv X pins σ H s) (h1 : -(2 ^ 62) ≤ lo) (h2 : lo < 2 ^ 62) (h3 : -(2 ^ 62) ≤ hi) (h4 : hi < 2 ^ 62)
    (q : R (Itr lo (hi - lo).toNat) H) : wpAny (model X.prog X.w) X.A (pyIter (.ref s.heap.objs.size)) (PIE X pins σ tg R) E { s with heap := s.heap.push { cls := .type "range", data := .fields #[.int lo t, .int hi u, .int 1 v] }, toks := tk } := by
  refine wpAny_pyIter_range (IsRange.new ..) (small_one h1 h2 h3 h4) ?_
  have I1 : Inv X pins σ H { s with heap := s.heap.push { cls := .type "range", data := .fields #[.int lo t, .int hi u, .int 1 v] }, toks := tk } := I.kept fun b o e => Heap.get?_push_of_some _ e
  refine ⟨(s.heap.push { cls := .type "range", data := .fields #[.int lo t, .int hi u, .int 1 v] }).objs.size, [(s.heap.push { cls := .type "range", data := .fields #[.int lo t, .int hi u, .int 1 v] }).objs.size], _, _, H, rfl,
    I1.kept (t' := tk) fun b o e => Heap.get?_push_of_some _ e, turn_range _ lo (hi - lo).toNat, ?_, fun b hb => ?_, q⟩
  · have e1 : lo + ((0 : Nat) : Int) * 1 = lo := by simp
    have e2 : (((hi - lo).toNat : Nat) : Int) - ((0 : Nat) : Int) = Builtin.Range.rangeSize lo hi 1 := by rw [rangeSize_one]; split <;> omega
    show IsRangeIter _ _ (lo + ((0 : Nat) : Int) * 1) ((((hi - lo).toNat : Nat) : Int) - ((0 : Nat) : Int)) 1
    rw [e1, e2]
    exact Heap.get?_push_size _ rfl
  · have e : b = (s.heap.push { cls := .type "range", data := .fields #[.int lo t, .int hi u, .int 1 v] }).objs.size := by simpa using hb
    subst e
    exact I1.fpOk (Nat.le_refl _) (I1.hok.fresh (Nat.le_refl _))
inductive XRn1 (vs : List V) (H : Hp) (R : It → Hp → Prop) : Prop
  | mk (j : Int) (e : vs = [.int j]) (lo : -(2 ^ 62) ≤ j) (hi : j < 2 ^ 62) (q : R (Itr 0 j.toNat) H)
def iRng1 (ta : TA) : TI := fun σ H R => ta σ H fun vs H1 => XRn1 vs H1 R
def iRng2 (ta : TA) : TI := fun σ H R => ta σ H fun vs H1 => ∃ i j : Int, vs = [.int i, .int j] ∧ (-(2 ^ 62) ≤ i ∧ i < 2 ^ 62 ∧ -(2 ^ 62) ≤ j ∧ j < 2 ^ 62) ∧ R (Itr i (j - i).toNat) H1
theorem pi_range1 {a : Expr} {ta : TA} {p pos : Pos} (hg : Gl X "range") (hm : X.mg "range" = none) (ha : PA X [a] ta) (hs : starEach [a] X.env = [(false, eval a X.env)] := by rfl) : PI X tg (.Call (.Name "range" p) [a] [] pos) (iRng1 ta) := by
  intro pins s σ H R I h
  refine Call_ (ld_blt I hg hm boot_range (PyProof.Rows.callWith_type1 (thn (ha pos pins s σ H _ I h) fun us s1 ⟨vs, H1, I1, r1, q1⟩ => ?_) hs rfl))
  obtain ⟨j, e, q1, q2, q⟩ := q1
  subst e
  cases r1 with
  | cons r rr =>
    cases rr
    obtain ⟨t, rfl⟩ := r
    exact call_range_1 (range_it I1 (by omega) (by omega) q1 q2 (by simpa using q))
theorem pi_range2 {a b : Expr} {ta : TA} {p pos : Pos} (hg : Gl X "range") (hm : X.mg "range" = none) (ha : PA X [a, b] ta) (hs : starEach [a, b] X.env = [(false, eval a X.env), (false, eval b X.env)] := by rfl) (hs2 : starEach [b] X.env = [(false, eval b X.env)] := by rfl) :
    PI X tg (.Call (.Name "range" p) [a, b] [] pos) (iRng2 ta) := by
  intro pins s σ H R I h
  refine Call_ (ld_blt I hg hm boot_range (PyProof.Rows.callWith_type1 (thn (ha pos pins s σ H _ I h) fun us s1 ⟨vs, H1, I1, r1, q1⟩ => ?_) (by rw [hs, hs2]) (by rw [hs2]; rfl)))
  obtain ⟨i, j, e, ⟨q1, q2, q3, q4⟩, q⟩ := q1
  subst e
  cases r1 with
  | cons r rr =>
    cases rr with
    | cons r' rr =>
      cases rr
      obtain ⟨t, rfl⟩ := r
      obtain ⟨t', rfl⟩ := r'
      exact call_range_2 (range_it I1 q1 q2 q3 q4 q)

/-! ### for -/
/-- W: the invariant by the turn and a measure; N: what the body is to reach -/
def tFor (wi : TI) (g : TG) (tb : TS) : TS := fun D σ H => wi σ H fun J H1 => ∃ W : Nat → Nat → St → Hp → Prop, (∃ m, W 0 m σ H1) ∧ ∀ i m σ H, W i m σ H →
  (J.stop i H ∧ D.nx σ H) ∨ (J.go i H ∧ ∃ N : St → Hp → Prop, (∀ σ' H', N σ' H' → ∃ m', m' < m ∧ W (i + 1) m' σ' H') ∧ ∀ x H', J.yld i H x H' → g x σ H' fun σ2 H2 => tb { D with nx := N, ct := N, bk := D.nx } σ2 H2)
/-- the records at fp as they stand -/
def pinsAt (fp : List Addr) (h : Heap) : List (Addr × Obj) := fp.filterMap fun b => (h.get? b).map fun o => (b, o)
theorem mem_pinsAt {fp : List Addr} {h : Heap} {b : Addr} {o : Obj} (hb : b ∈ fp) (e : h.get? b = some o) : (b, o) ∈ pinsAt fp h := List.mem_filterMap.mpr ⟨b, hb, by rw [e]; rfl⟩
theorem of_pinsAt {fp : List Addr} {h : Heap} {p : Addr × Obj} (hp : p ∈ pinsAt fp h) : p.1 ∈ fp ∧ h.get? p.1 = some p.2 := by
  obtain ⟨b, hb, e⟩ := List.mem_filterMap.mp hp
  cases q : h.get? b with
  | none => rw [q] at e; cases e
  | some o =>
    rw [q] at e
    have e' : (b, o) = p := Option.some.inj e
    subst e'
    exact ⟨hb, q⟩
theorem Inv.pinned {pins : List (Addr × Obj)} {σ : St} {H : Hp} {s : Shared} {fp : List Addr} (I : Inv X pins σ H s) (hf : ∀ b ∈ fp, FpOk X pins H b) (ho : ∀ b ∈ fp, ∃ o, s.heap.get? b = some o ∧ ∀ v, o.data ≠ .cell v) : Inv X (pins ++ pinsAt fp s.heap) σ H s :=
  I.pins_of fun p hp => (List.mem_append.mp hp).elim (fun z => I.pin p (List.mem_append_right _ z)) fun z => by
    obtain ⟨hb, e⟩ := of_pinsAt z
    obtain ⟨f0, f1, f2, _⟩ := hf p.1 hb
    obtain ⟨o, e', d⟩ := ho p.1 hb
    rw [e] at e'; cases e'
    exact ⟨e, f0, f1, f2, d⟩
theorem Inv.unpinned {pins pl : List (Addr × Obj)} {σ : St} {H : Hp} {s : Shared} (I : Inv X (pins ++ pl) σ H s) : Inv X pins σ H s := I.pins_of fun p hp => I.pin p (List.mem_append_right _ (List.mem_append_left _ hp))
theorem ps_for {iter : Expr} {body : List Stmt} {wi : TI} {g : TG} {tb : TS} {pos : Pos} (hp : PassesOwn (model X.prog X.w) X.A X.env X.xe) (hc : (0 : Nat) = 0) (hi : PI X tg iter wi) (hg : PG X tg g) (hb : PSs X body tb)
    (hs : ∀ x, foldedSetIterable iter X.env x = pure x := by intro _; rfl) : PS X (.For tg iter body [] pos) (tFor wi g tb) := by
  intro pins s σ H D I h
  refine wpAny_For (thn (hi pins s σ H _ I h) fun v s1 h1 => thn h1 fun itv s2 h2 => ?_) hs
  obtain ⟨it, fp, tn, J, H2, e, I2, T, st2, f2, W, ⟨m0, w0⟩, turn⟩ := h2
  subst e
  -- what stays true of the iterator's objects through the loop
  have stat : ∀ {H' : Hp}, (∀ b ∈ fp, H' b = none) → ∀ b ∈ fp, FpOk X pins H' b := fun hn b hb => ⟨hn b hb, (f2 b hb).2⟩
  refine codeAny_forLoop_any (fun n s' => ∃ i σ' H', Inv X pins σ' H' s' ∧ tn i s'.heap ∧ (∀ b ∈ fp, H' b = none) ∧ W i n σ' H') ?_ m0 ⟨0, σ, H2, I2, st2, fun b hb => (f2 b hb).1, w0⟩
  rintro n s3 ⟨i, σ3, H3, I3, st3, fr3, w3⟩
  rcases turn i n σ3 H3 w3 with ⟨stop, qn⟩ | ⟨go, N, hN, step⟩
  · refine wpAny_passesOwn hp (thn (T.done X rfl rfl rfl hc i pins s3 σ3 H3 X.xe I3 (stat fr3) st3 stop) fun r s4 ⟨hr, I4⟩ => ?_)
    subst hr
    exact wpAny_execs_nil ⟨σ3, H3, I4, qn⟩
  · refine wpAny_passesOwn hp (thn (T.item X rfl rfl rfl hc i pins s3 σ3 H3 X.xe I3 (stat fr3) st3 go) fun r s4 ⟨u, hr, h4⟩ => ?_)
    subst hr
    refine wpAny_passesOwn hp (thn h4 fun _ s5 ⟨x, H5, I5, r5, y5, st5, fr5⟩ => ?_)
    have I5' := I5.pinned (stat fr5) (T.obj _ _ st5)
    refine wpAny_passesOwn hp (thn (hg _ s5 σ3 H5 x u _ I5' r5 (step x H5 y5)) fun _ s6 ⟨σ6, H6, I6, q6⟩ => ?_)
    refine wpAny_passesOwn hp (thn (hb _ s6 σ6 H6 _ I6 q6) fun f s7 q7 => ?_)
    have again : ∀ {σ7 : St} {H7 : Hp}, Inv X (pins ++ pinsAt fp s5.heap) σ7 H7 s7 → N σ7 H7 → ∃ m, m < n ∧ ∃ i σ' H', Inv X pins σ' H' s7 ∧ tn i s7.heap ∧ (∀ b ∈ fp, H' b = none) ∧ W i m σ' H' := fun {σ7 H7} I7 n7 => by
      obtain ⟨m', hm, w7⟩ := hN σ7 H7 n7
      refine ⟨m', hm, i + 1, σ7, H7, I7.unpinned, T.keep _ _ _ st5 fun b hb o e => (I7.pin (b, o) (List.mem_append_right _ (List.mem_append_right _ (mem_pinsAt hb e)))).1, fun b hb => ?_, w7⟩
      obtain ⟨o, e, d⟩ := T.obj _ _ st5 b hb
      exact (I7.pin (b, o) (List.mem_append_right _ (List.mem_append_right _ (mem_pinsAt hb e)))).2.1
    cases f with
    | next => obtain ⟨σ7, H7, I7, n7⟩ := q7; exact again I7 n7
    | cont => obtain ⟨σ7, H7, I7, n7⟩ := q7; exact again I7 n7
    | brk => obtain ⟨σ7, H7, I7, q7⟩ := q7; exact ⟨σ7, H7, I7.unpinned, q7⟩
    | ret v => obtain ⟨x7, σ7, H7, I7, r7, q7⟩ := q7; exact ⟨x7, σ7, H7, I7.unpinned, r7, q7⟩
end

/-! ### the forms one uses -/
/-- over a list that the body leaves as it is -/
theorem for_list {K : PySem.W.Frag} {a : Addr} {xs : List V} {g : TG} {tb : TS} {D : Ends} {σ : St} {H : Hp} (Pv : Nat → St → Hp → Prop) (h0 : Pv 0 σ H) (hl : ∀ i σ H, i ≤ xs.length → Pv i σ H → SqL K H a xs)
    (hs : ∀ i x σ H, xs[i]? = some x → Pv i σ H → g x σ H fun σ2 H2 => tb { D with nx := Pv (i + 1), ct := Pv (i + 1), bk := D.nx } σ2 H2) (hd : ∀ σ H, Pv xs.length σ H → D.nx σ H) :
    ∃ W : Nat → Nat → St → Hp → Prop, (∃ m, W 0 m σ H) ∧ ∀ i m σ H, W i m σ H →
      ((Itl K a).stop i H ∧ D.nx σ H) ∨ ((Itl K a).go i H ∧ ∃ N : St → Hp → Prop, (∀ σ' H', N σ' H' → ∃ m', m' < m ∧ W (i + 1) m' σ' H') ∧ ∀ x H', (Itl K a).yld i H x H' → g x σ H' fun σ2 H2 => tb { D with nx := N, ct := N, bk := D.nx } σ2 H2) := by
  refine ⟨fun i m σ H => m = xs.length - i ∧ i ≤ xs.length ∧ Pv i σ H, ⟨xs.length, by simp, Nat.zero_le _, h0⟩, ?_⟩
  rintro i m σ H ⟨rfl, hi, p⟩
  have q := hl i σ H hi p
  by_cases hlt : i < xs.length
  · refine .inr ⟨⟨xs, xs[i], q, by simp [hlt]⟩, Pv (i + 1), fun σ' H' p' => ⟨xs.length - (i + 1), by omega, rfl, hlt, p'⟩, fun x H' y => ?_⟩
    obtain ⟨e, y⟩ := y
    subst e
    exact hs i x σ _ (y xs q) p
  · have e : i = xs.length := by omega
    subst e
    exact .inl ⟨⟨xs, q, Nat.le_refl _⟩, hd σ H p⟩
theorem for_range {lo : Int} {n : Nat} {g : TG} {tb : TS} {D : Ends} {σ : St} {H : Hp} (Pv : Nat → St → Hp → Prop) (h0 : Pv 0 σ H)
    (hs : ∀ i σ H, i < n → Pv i σ H → g (.int (lo + i)) σ H fun σ2 H2 => tb { D with nx := Pv (i + 1), ct := Pv (i + 1), bk := D.nx } σ2 H2) (hd : ∀ σ H, Pv n σ H → D.nx σ H) :
    ∃ W : Nat → Nat → St → Hp → Prop, (∃ m, W 0 m σ H) ∧ ∀ i m σ H, W i m σ H →
      ((Itr lo n).stop i H ∧ D.nx σ H) ∨ ((Itr lo n).go i H ∧ ∃ N : St → Hp → Prop, (∀ σ' H', N σ' H' → ∃ m', m' < m ∧ W (i + 1) m' σ' H') ∧ ∀ x H', (Itr lo n).yld i H x H' → g x σ H' fun σ2 H2 => tb { D with nx := N, ct := N, bk := D.nx } σ2 H2) := by
  refine ⟨fun i m σ H => m = n - i ∧ i ≤ n ∧ Pv i σ H, ⟨n, by simp, Nat.zero_le _, h0⟩, ?_⟩
  rintro i m σ H ⟨rfl, hi, p⟩
  by_cases hlt : i < n
  · refine .inr ⟨hlt, Pv (i + 1), fun σ' H' p' => ⟨n - (i + 1), by omega, rfl, hlt, p'⟩, fun x H' y => ?_⟩
    obtain ⟨e, y⟩ := y
    subst e y
    exact hs i σ _ hlt p
  · have e : i = n := by omega
    subst e
    exact .inl ⟨Nat.le_refl _, hd σ H p⟩
end L2

namespace L2
open PySem PySem.Spec PyProof.Rows

abbrev R2 := V → V → Hp → VK → Prop
/-- a two-place operation on values: f is binaryOp op, inplaceOp op or compareOp op -/
def OpR (X : Cx) (f : Value → Value → Sem Value) (r : R2) : Prop :=
  ∀ (pins : List (Addr × Obj)) (s : Shared) (σ : St) (H : Hp) (x y : V) (v u : Value) (Q : VK), Inv X pins σ H s → RelV x v → RelV y u → r x y H Q →
    wpAny (model X.prog X.w) X.A (f v u) (EP X pins σ Q) X.xe s
/-- a one-place operation -/
def UnR (X : Cx) (f : Value → Sem Value) (r : V → Hp → VK → Prop) : Prop :=
  ∀ (pins : List (Addr × Obj)) (s : Shared) (σ : St) (H : Hp) (x : V) (v : Value) (Q : VK), Inv X pins σ H s → RelV x v → r x H Q →
    wpAny (model X.prog X.w) X.A (f v) (EP X pins σ Q) X.xe s
/-- a call of a value that is known (a builtin, a type) with values -/
def CallR (X : Cx) (f : Value) (r : List V → Hp → VK → Prop) : Prop :=
  ∀ (pins : List (Addr × Obj)) (s : Shared) (σ : St) (H : Hp) (xs : List V) (us : List Value) (Q : VK), Inv X pins σ H s → Vals xs us → r xs H Q →
    wpAny (model X.prog X.w) X.A (call f us) (EP X pins σ Q) X.xe s
/-- a value's truth -/
def TruR (X : Cx) (r : V → Hp → (Bool → Hp → Prop) → Prop) : Prop :=
  ∀ (pins : List (Addr × Obj)) (s : Shared) (σ : St) (H : Hp) (x : V) (v : Value) (Q : Bool → Hp → Prop), Inv X pins σ H s → RelV x v → r x H Q →
    wpAny (model X.prog X.w) X.A (truthy v) (TP X pins σ Q) X.xe s

def tOp (r : R2) (ta tb : TE) : TE := fun σ H Q => ta σ H fun x H1 => tb σ H1 fun y H2 => r x y H2 Q
def tUn (r : V → Hp → VK → Prop) (ta : TE) : TE := fun σ H Q => ta σ H fun x H1 => r x H1 Q
/-- ints in, under C, and a value out -/
def rI (C : Int → Int → Prop) (g : Int → Int → V) : R2 := fun x y H Q => XIC C x y fun i j => Q (g i j) H
def rI0 (g : Int → Int → V) : R2 := fun x y H Q => XII x y fun i j => Q (g i j) H
def rU (g : Int → V) : V → Hp → VK → Prop := fun x H Q => XI x fun i => Q (g i) H

section
variable {X : Cx} {a b c : Expr} {ta tb tc : TE} {pos : Pos}

theorem binT (ha : PE X a ta) (hb : PE X b tb) {pins : List (Addr × Obj)} {s : Shared} {σ : St} {H : Hp} {R : V → V → Hp → Prop} (I : Inv X pins σ H s)
    (h : ta σ H fun x H1 => tb σ H1 fun y H2 => R x y H2) {Q : Value → Shared → Prop} {f : Value → Value → Sem Value}
    (hf : ∀ v u s2 x y H2, Inv X pins σ H2 s2 → RelV x v → RelV y u → R x y H2 → wpAny (model X.prog X.w) X.A (f v u) Q X.xe s2) :
    wpAny (model X.prog X.w) X.A (eval a X.env) (fun v s₁ => wpAny (model X.prog X.w) X.A (eval b X.env) (fun u s₂ => wpAny (model X.prog X.w) X.A (f v u) Q X.xe s₂) X.xe s₁) X.xe s := by
  refine thn (ha pins s σ H _ I h) fun v s1 ⟨x, H1, I1, r1, q1⟩ => ?_
  refine thn (hb pins s1 σ H1 _ I1 q1) fun u s2 ⟨y, H2, I2, r2, q2⟩ => ?_
  exact hf v u s2 x y H2 I2 r1 r2 q2

theorem pe_op {op : Operator} {r : R2} (ho : OpR X (binaryOp op) r) (ha : PE X a ta) (hb : PE X b tb) : PE X (.BinOp a op b pos) (tOp r ta tb) := by
  intro pins s σ H Q I h
  exact wpAny_BinOp (binT ha hb I h fun v u s2 x y H2 I2 rx ry q => ho pins s2 σ H2 x y v u Q I2 rx ry q)
theorem pe_un {op : UnaryOp} {r : V → Hp → VK → Prop} (ho : UnR X (unaryOp op) r) (ha : PE X a ta) : PE X (.UnaryOp op a pos) (tUn r ta) := by
  intro pins s σ H Q I h
  exact UnaryOp_ (thn (ha pins s σ H _ I h) fun v s1 ⟨x, H1, I1, r1, q1⟩ => ho pins s1 σ H1 x v Q I1 r1 q1)
/-! ### ints -/
theorem opI {f : Value → Value → Sem Value} {C : Int → Int → Prop} {g : Int → Int → Int}
    (rule : ∀ (i j : Int) (t u : Tok) (s : Shared) (Q : Value → Shared → Prop) (E : Value → Shared → Prop), C i j → Q (.int (g i j) s.toks) { s with toks := s.toks + 1 } → wpAny (model X.prog X.w) X.A (f (.int i t) (.int j u)) Q E s) :
    OpR X f (rI C fun i j => .int (g i j)) := by
  intro pins s σ H x y v u Q I rx ry h
  obtain ⟨i, j, rfl, rfl, hc, q⟩ := h
  obtain ⟨t, rfl⟩ := rx
  obtain ⟨t', rfl⟩ := ry
  exact rule i j t t' s _ _ hc ⟨.int (g i j), H, I.tok _, ⟨_, rfl⟩, q⟩
theorem opI0 {f : Value → Value → Sem Value} {g : Int → Int → Int}
    (rule : ∀ (i j : Int) (t u : Tok) (s : Shared) (Q : Value → Shared → Prop) (E : Value → Shared → Prop), Q (.int (g i j) s.toks) { s with toks := s.toks + 1 } → wpAny (model X.prog X.w) X.A (f (.int i t) (.int j u)) Q E s) :
    OpR X f (rI0 fun i j => .int (g i j)) := by
  intro pins s σ H x y v u Q I rx ry h
  obtain ⟨i, j, rfl, rfl, q⟩ := h
  obtain ⟨t, rfl⟩ := rx
  obtain ⟨t', rfl⟩ := ry
  exact rule i j t t' s _ _ ⟨.int (g i j), H, I.tok _, ⟨_, rfl⟩, q⟩
theorem opB0 {f : Value → Value → Sem Value} {g : Int → Int → Bool}
    (rule : ∀ (i j : Int) (t u : Tok) (s : Shared) (Q : Value → Shared → Prop) (E : Value → Shared → Prop), Q (.bool (g i j)) s → wpAny (model X.prog X.w) X.A (f (.int i t) (.int j u)) Q E s) :
    OpR X f (rI0 fun i j => .bl (g i j)) := by
  intro pins s σ H x y v u Q I rx ry h
  obtain ⟨i, j, rfl, rfl, q⟩ := h
  obtain ⟨t, rfl⟩ := rx
  obtain ⟨t', rfl⟩ := ry
  exact rule i j t t' s _ _ ⟨.bl (g i j), H, I, rfl, q⟩

def CDiv (i j : Int) : Prop := 0 < j ∧ j < 1073741824
def CPow (i j : Int) : Prop := 0 ≤ j ∧ j ≤ 1000000 ∧ i.natAbs < 2 ^ 64
def CMul (i j : Int) : Prop := (-(2 ^ 64) < i ∧ i < 2 ^ 64) ∨ (-(2 ^ 64) < j ∧ j < 2 ^ 64)
theorem CMul.ok {i j : Int} (h : CMul i j) : IntMulOk i j := by
  rcases h with ⟨h1, h2⟩ | ⟨h1, h2⟩
  · exact .of_left (intBits_le_64 h1 h2)
  · exact .of_right (intBits_le_64 h1 h2)
theorem two_pow_nn (k : Nat) : (0 : Int) ≤ 2 ^ k := by
  rw [two_pow_cast]
  exact Int.natCast_nonneg _

theorem op_add : OpR X (binaryOp .Add) (rI0 fun i j => .int (i + j)) := opI0 fun _ _ _ _ _ _ _ q => add_int q
theorem op_sub : OpR X (binaryOp .Sub) (rI0 fun i j => .int (i - j)) := opI0 fun _ _ _ _ _ _ _ q => sub_int q
theorem op_mul : OpR X (binaryOp .Mult) (rI CMul fun i j => .int (i * j)) := opI fun _ _ _ _ _ _ _ hc q => mul_int q hc.ok
/-- // by a positive divisor -/
theorem op_fdiv : OpR X (binaryOp .FloorDiv) (rI CDiv fun i j => .int (i / j)) := opI fun i j _ _ _ _ _ hc q => by
  have h1 : (0 : Int) < j := hc.1
  have h2 : j < 1073741824 := hc.2
  exact floordiv_int (by omega) (by rw [Int.fdiv_eq_ediv_of_nonneg i (by omega)]; exact q) (.inl (PyProof.noPylong_small (by omega)))
/-- % by a positive divisor of any size -/
theorem op_mod : OpR X (binaryOp .Mod) (rI (fun _ j => 0 < j) fun i j => .int (i % j)) := opI fun i j _ _ _ _ _ hc q => by
  have h1 : (0 : Int) < j := hc
  exact mod_int' (by omega) (by rw [Int.fmod_eq_emod_of_nonneg i (by omega)]; exact q)
theorem op_shl : OpR X (binaryOp .LShift) (rI CPow fun i j => .int (i * 2 ^ j.toNat)) := opI fun _ _ _ _ _ _ _ hc q => lshift_int_small hc.1 hc.2.1 hc.2.2 q
theorem op_shr : OpR X (binaryOp .RShift) (rI (fun _ j => 0 ≤ j) fun i j => .int (i / 2 ^ j.toNat)) := opI fun i j _ _ _ _ _ hc q =>
  rshift_int hc (by rw [Int.fdiv_eq_ediv_of_nonneg i (two_pow_nn _)]; exact q)
theorem op_and : OpR X (binaryOp .BitAnd) (rI0 fun i j => .int (Builtin.bitAnd i j)) := opI0 fun _ _ _ _ _ _ _ q => and_int q
theorem unI {f : Value → Sem Value} {g : Int → Int}
    (rule : ∀ (i : Int) (t : Tok) (s : Shared) (Q : Value → Shared → Prop) (E : Value → Shared → Prop), Q (.int (g i) s.toks) { s with toks := s.toks + 1 } → wpAny (model X.prog X.w) X.A (f (.int i t)) Q E s) :
    UnR X f (rU fun i => .int (g i)) := by
  intro pins s σ H x v Q I rx h
  obtain ⟨i, rfl, q⟩ := h
  obtain ⟨t, rfl⟩ := rx
  exact rule i t s _ _ ⟨.int (g i), H, I.tok _, ⟨_, rfl⟩, q⟩
theorem un_neg : UnR X (unaryOp .USub) (rU fun i => .int (-i)) := unI fun _ _ _ _ _ q => neg_int q
/-! ### bools among ints: n += (a < b) -/
end

/-! ### comparisons -/
/-- the scalars that == tells apart as data does -/
def scal : V → V → Bool
  | .non, .non => true | .non, .int _ => true | .int _, .non => true | .non, .bl _ => true | .bl _, .non => true | .non, .str _ => true | .str _, .non => true
  | .int _, .int _ => true | .bl _, .bl _ => true | .str _, .str _ => true | .byt _, .byt _ => true
  | .int _, .str _ => true | .str _, .int _ => true | .bl _, .str _ => true | .str _, .bl _ => true
  | _, _ => false
def rEq : R2 := fun x y H Q => scal x y = true ∧ Q (.bl (decide (x = y))) H
def rNe : R2 := fun x y H Q => scal x y = true ∧ Q (.bl (!decide (x = y))) H

theorem dec_int {i j : Int} : decide (V.int i = V.int j) = (i == j) := by
  rw [Bool.eq_iff_iff]
  simp
theorem dec_bl {i j : Bool} : decide (V.bl i = V.bl j) = (i == j) := by
  rw [Bool.eq_iff_iff]
  simp
theorem dec_str {i j : Str} : decide (V.str i = V.str j) = (i == j) := by
  rw [Bool.eq_iff_iff]
  simp
theorem dec_byt {i j : Array UInt8} : decide (V.byt i = V.byt j) = (i.toList == j.toList) := by
  rw [Bool.eq_iff_iff]
  cases i
  cases j
  simp

section
variable {X : Cx} {a b c : Expr} {ta tb tc : TE} {pos : Pos}
theorem fin_bl {pins : List (Addr × Obj)} {σ : St} {H : Hp} {s : Shared} {Q : VK} {k k' : Bool} (I : Inv X pins σ H s) (q : Q (.bl k) H) (e : k = k') : EP X pins σ Q (.bool k') s := by
  subst e
  exact ⟨.bl k, H, I, rfl, q⟩
theorem op_eq : OpR X (compareOp .Eq) rEq := by
  intro pins s σ H x y v u Q I rx ry h
  obtain ⟨hs, q⟩ := h
  cases x with
  | non =>
    cases rx
    cases y with
    | non => cases ry; exact PySem.EqNone.eq_none_none (fin_bl I q (by simp))
    | bl j => cases ry; exact PySem.EqNone.eq_none_bool (fin_bl I q (by simp))
    | int j => obtain ⟨t', rfl⟩ := ry; exact PySem.EqNone.eq_none_int (fin_bl I q (by simp))
    | str j => obtain ⟨t', rfl⟩ := ry; exact PySem.EqNone.eq_none_str (fin_bl I q (by simp))
    | _ => exact absurd (show false = true from hs) Bool.false_ne_true
  | bl i =>
    cases rx
    cases y with
    | non => cases ry; exact PySem.EqNone.eq_bool_none (fin_bl I q (by simp))
    | bl j => cases ry; exact eq_bool (fin_bl I q dec_bl)
    | str j => obtain ⟨t', rfl⟩ := ry; exact PySem.EqMixed.eq_bool_str (fin_bl I q (by simp))
    | _ => exact absurd (show false = true from hs) Bool.false_ne_true
  | int i =>
    obtain ⟨t, rfl⟩ := rx
    cases y with
    | non => cases ry; exact PySem.EqNone.eq_int_none (fin_bl I q (by simp))
    | int j => obtain ⟨t', rfl⟩ := ry; exact eq_int (fin_bl I q dec_int)
    | str j => obtain ⟨t', rfl⟩ := ry; exact PySem.EqMixed.eq_int_str (fin_bl I q (by simp))
    | _ => exact absurd (show false = true from hs) Bool.false_ne_true
  | str i =>
    obtain ⟨t, rfl⟩ := rx
    cases y with
    | non => cases ry; exact PySem.EqNone.eq_str_none (fin_bl I q (by simp))
    | bl j => cases ry; exact PySem.EqMixed.eq_str_bool (fin_bl I q (by simp))
    | int j => obtain ⟨t', rfl⟩ := ry; exact PySem.EqMixed.eq_str_int (fin_bl I q (by simp))
    | str j => obtain ⟨t', rfl⟩ := ry; exact eq_str (fin_bl I q dec_str)
    | _ => exact absurd (show false = true from hs) Bool.false_ne_true
  | byt i =>
    obtain ⟨t, rfl⟩ := rx
    cases y with
    | byt j => obtain ⟨t', rfl⟩ := ry; exact PySem.W.eq_bytes (fin_bl I q dec_byt)
    | _ => exact absurd (show false = true from hs) Bool.false_ne_true
  | _ => cases y <;> exact absurd (show false = true from hs) Bool.false_ne_true
theorem op_ne : OpR X (compareOp .NotEq) rNe := by
  intro pins s σ H x y v u Q I rx ry h
  obtain ⟨hs, q⟩ := h
  cases x with
  | non =>
    cases rx
    cases y with
    | non => cases ry; exact PySem.EqNone.ne_none_none (fin_bl I q (by simp))
    | bl j => cases ry; exact PySem.EqNone.ne_none_bool (fin_bl I q (by simp))
    | int j => obtain ⟨t', rfl⟩ := ry; exact PySem.EqNone.ne_none_int (fin_bl I q (by simp))
    | str j => obtain ⟨t', rfl⟩ := ry; exact PySem.EqNone.ne_none_str (fin_bl I q (by simp))
    | _ => exact absurd (show false = true from hs) Bool.false_ne_true
  | bl i =>
    cases rx
    cases y with
    | non => cases ry; exact PySem.EqNone.ne_bool_none (fin_bl I q (by simp))
    | bl j => cases ry; exact ne_bool (fin_bl I q (congrArg not dec_bl))
    | str j => obtain ⟨t', rfl⟩ := ry; exact PySem.EqMixed.ne_bool_str (fin_bl I q (by simp))
    | _ => exact absurd (show false = true from hs) Bool.false_ne_true
  | int i =>
    obtain ⟨t, rfl⟩ := rx
    cases y with
    | non => cases ry; exact PySem.EqNone.ne_int_none (fin_bl I q (by simp))
    | int j => obtain ⟨t', rfl⟩ := ry; exact ne_int (fin_bl I q (congrArg not dec_int))
    | str j => obtain ⟨t', rfl⟩ := ry; exact PySem.EqMixed.ne_int_str (fin_bl I q (by simp))
    | _ => exact absurd (show false = true from hs) Bool.false_ne_true
  | str i =>
    obtain ⟨t, rfl⟩ := rx
    cases y with
    | non => cases ry; exact PySem.EqNone.ne_str_none (fin_bl I q (by simp))
    | bl j => cases ry; exact PySem.EqMixed.ne_str_bool (fin_bl I q (by simp))
    | int j => obtain ⟨t', rfl⟩ := ry; exact PySem.EqMixed.ne_str_int (fin_bl I q (by simp))
    | str j => obtain ⟨t', rfl⟩ := ry; exact ne_str (fin_bl I q (congrArg not dec_str))
    | _ => exact absurd (show false = true from hs) Bool.false_ne_true
  | byt i =>
    obtain ⟨t, rfl⟩ := rx
    cases y with
    | byt j => obtain ⟨t', rfl⟩ := ry; exact PySem.W.ne_bytes (fin_bl I q (congrArg not dec_byt))
    | _ => exact absurd (show false = true from hs) Bool.false_ne_true
  | _ => cases y <;> exact absurd (show false = true from hs) Bool.false_ne_true

theorem op_lt : OpR X (compareOp .Lt) (rI0 fun i j => .bl (decide (i < j))) := opB0 fun _ _ _ _ _ _ _ q => lt_int q
theorem op_le : OpR X (compareOp .LtE) (rI0 fun i j => .bl (decide (i ≤ j))) := opB0 fun _ _ _ _ _ _ _ q => le_int q
theorem op_gt : OpR X (compareOp .Gt) (rI0 fun i j => .bl (decide (j < i))) := opB0 fun _ _ _ _ _ _ _ q => gt_int q
theorem nomark (b : Expr) {op : CmpOp} (h : op ≠ .In := by decide) (h2 : op ≠ .NotIn := by decide) : behindInMarks op b = false := by
  have e1 : (op == CmpOp.In) = false := by cases op <;> first | rfl | exact absurd rfl h
  have e2 : (op == CmpOp.NotIn) = false := by cases op <;> first | rfl | exact absurd rfl h2
  cases b <;> simp [behindInMarks, e1, e2]
/-- a comparison as a value; hm: nomark b, or (for in, not in) by with_unfolding_all rfl -/
theorem pe_cmpR {op : CmpOp} {r : R2} (ho : OpR X (compareOp op) r) (ha : PE X a ta) (hb : PE X b tb) (hm : behindInMarks op b = false) : PE X (.Compare a [op] [b] pos) (tOp r ta tb) := by
  intro pins s σ H Q I h
  exact wpAny_Compare1 (binT ha hb I h fun v u s2 x y H2 I2 rx ry q => ho pins s2 σ H2 x y v u Q I2 rx ry q) hm
/-- a reading of a value as a test -/
def tTest (t : TE) : TT := fun σ H Q => t σ H fun x H' => XB x fun k => Q k H'
theorem pt_cmpR {op : CmpOp} {r : R2} (ho : OpR X (compareOp op) r) (ha : PE X a ta) (hb : PE X b tb) (hm : behindInMarks op b = false) : PT X (.Compare a [op] [b] pos) (tTest (tOp r ta tb)) := by
  intro pins s σ H Q I h
  refine wpAny_isTrue_Compare1 (thn (ha pins s σ H _ I h) fun v s1 ⟨x, H1, I1, r1, q1⟩ => thn (hb pins s1 σ H1 _ I1 q1) fun u s2 ⟨y, H2, I2, r2, q2⟩ =>
    thn (ho pins s2 σ H2 x y v u _ I2 r1 r2 q2) fun c s3 ⟨z, H3, I3, r3, k, e, q3⟩ => ?_) hm
  subst e
  cases r3
  exact wpAny_truthy_bool ⟨H3, I3, q3⟩
/-- a op1 b op2 c -/
def tChain (r r' : R2) (ta tb tc : TE) : TE := fun σ H Q => ta σ H fun x H1 => tb σ H1 fun y H2 => r x y H2 fun z H3 => XB z fun k =>
  (if k = true then tc σ H3 fun w' H4 => r' y w' H4 Q else Q (.bl false) H3)
theorem pe_chain {op op' : CmpOp} {r r' : R2} (ho : OpR X (compareOp op) r) (ho' : OpR X (compareOp op') r') (ha : PE X a ta) (hb : PE X b tb) (hc : PE X c tc)
    (hm : lastMarks [op, op'] [b, c] = false := by with_unfolding_all rfl) : PE X (.Compare a [op, op'] [b, c] pos) (tChain r r' ta tb tc) := by
  intro pins s σ H Q I h
  refine Compare_chain (thn (ha pins s σ H _ I h) fun v s1 ⟨x, H1, I1, r1, q1⟩ => chain_link (thn (hb pins s1 σ H1 _ I1 q1) fun u s2 ⟨y, H2, I2, r2, q2⟩ =>
    thn (ho pins s2 σ H2 x y v u _ I2 r1 r2 q2) fun d s3 ⟨z, H3, I3, r3, k, e, q3⟩ => ?_)) hm
  subst e
  cases r3
  refine wpAny_truthy_bool ?_
  cases k with
  | false => exact ite_ff ⟨.bl false, H3, I3, rfl, q3⟩
  | true => exact ite_tt (chain_last (thn (hc pins s3 σ H3 _ I3 q3) fun w' s4 ⟨z', H4, I4, r4, q4⟩ => ho' pins s4 σ H4 y z' u w' Q I4 r2 r4 q4))
theorem pt_chain {op op' : CmpOp} {r r' : R2} (ho : OpR X (compareOp op) r) (ho' : OpR X (compareOp op') r') (ha : PE X a ta) (hb : PE X b tb) (hc : PE X c tc)
    (hm : lastMarks [op, op'] [b, c] = false := by with_unfolding_all rfl) : PT X (.Compare a [op, op'] [b, c] pos) (tTest (tChain r r' ta tb tc)) := by
  intro pins s σ H Q I h
  refine isTrue_chain (thn (ha pins s σ H _ I h) fun v s1 ⟨x, H1, I1, r1, q1⟩ => test_link (thn (hb pins s1 σ H1 _ I1 q1) fun u s2 ⟨y, H2, I2, r2, q2⟩ =>
    thn (ho pins s2 σ H2 x y v u _ I2 r1 r2 q2) fun d s3 ⟨z, H3, I3, r3, k, e, q3⟩ => ?_)) hm
  subst e
  cases r3
  refine wpAny_truthy_bool ?_
  cases k with
  | false =>
    obtain ⟨k', e', q'⟩ := q3
    cases e'
    exact ite_ff ⟨H3, I3, q'⟩
  | true =>
    refine ite_tt (test_last (thn (hc pins s3 σ H3 _ I3 q3) fun w' s4 ⟨z', H4, I4, r4, q4⟩ => thn (ho' pins s4 σ H4 y z' u w' _ I4 r2 r4 q4) fun d' s5 ⟨z2, H5, I5, r5, k2, e2, q5⟩ => ?_))
    subst e2
    cases r5
    exact wpAny_truthy_bool ⟨H5, I5, q5⟩

/-! ### truth -/
/-- a value's truth by the abstract heap -/
def TruV (K : PySem.W.Frag) (x : V) (H : Hp) (k : Bool) : Prop :=
  match x with
  | .non => k = false
  | .bl b => k = b
  | .int i => k = (i != 0)
  | .str y => y.length ≤ sizeLine ∧ k = ((y.length : Int) != 0)
  | .byt y => y.size ≤ sizeLine ∧ k = ((y.size : Int) != 0)
  | .ref p => (∃ xs, SqL K H p xs ∧ k = !xs.isEmpty) ∨ (∃ xs, SqT K H p xs ∧ k = !xs.isEmpty) ∨ ∃ kvs, H p = some (.dK kvs) ∧ k = !kvs.isEmpty
  | _ => False
theorem isEmpty_kv {κ : Type} {kvs : List (κ × V)} {vs : List (κ × Value)} (r : KV kvs vs) : (!vs.isEmpty) = !kvs.isEmpty := by
  cases r <;> rfl
theorem isEmpty_of {xs : List V} {its : List Value} (r : Vals xs its) : (!its.toArray.isEmpty) = !xs.isEmpty := by
  cases r <;> simp
theorem line63 : (sizeLine : Nat) < 2 ^ 63 := by rw [sizeLine_eq]; decide
theorem tru_ok : TruR X (fun x H Q => ∃ k, TruV X.K x H k ∧ Q k H) := by
  intro pins s σ H x v Q I rx h
  obtain ⟨k, e, q⟩ := h
  have hl := line63
  have hs : sizeLine = 16777216 := sizeLine_eq
  cases x with
  | non =>
    cases rx
    have e' : k = false := e
    subst e'
    exact truthy_none ⟨H, I, q⟩
  | bl b =>
    cases rx
    have e' : k = b := e
    subst e'
    exact wpAny_truthy_bool ⟨H, I, q⟩
  | int i =>
    obtain ⟨t, rfl⟩ := rx
    have e' : k = (i != 0) := e
    subst e'
    exact PySem.P.truthy_int ⟨H, I, q⟩
  | str y =>
    obtain ⟨t, rfl⟩ := rx
    obtain ⟨hy, e'⟩ : y.length ≤ sizeLine ∧ k = ((y.length : Int) != 0) := e
    subst e'
    exact PySem.P.truthy_str (by omega) ⟨H, I.tok _, q⟩
  | byt y =>
    obtain ⟨t, rfl⟩ := rx
    obtain ⟨hy, e'⟩ : y.size ≤ sizeLine ∧ k = ((y.size : Int) != 0) := e
    subst e'
    exact PySem.W.truthy_bytes (by omega) ⟨H, I.tok _, q⟩
  | ref p =>
    cases rx
    have e' : (∃ xs, SqL X.K H p xs ∧ k = !xs.isEmpty) ∨ (∃ xs, SqT X.K H p xs ∧ k = !xs.isEmpty) ∨ ∃ kvs, H p = some (.dK kvs) ∧ k = !kvs.isEmpty := e
    rcases e' with ⟨xs, hx, e'⟩ | ⟨xs, hx, e'⟩ | ⟨kvs, hx, e'⟩
    · subst e'
      obtain ⟨its, r, pl, hz⟩ := I.list hx
      have hlen := r.length
      exact wpAny_truthy_list pl.isList (by simp only [List.size_toArray]; omega) ⟨H, I.tok _, by rw [isEmpty_of r]; exact q⟩
    · subst e'
      obtain ⟨its, r, pl, hz⟩ := I.tuple hx
      have hlen := r.length
      exact truthy_tuple pl (by simp only [List.size_toArray]; omega) ⟨H, I.tok _, by rw [isEmpty_of r]; exact q⟩
    · subst e'
      obtain ⟨hz, hS, vs, r, m⟩ : kvs.length ≤ sizeLine ∧ (p == sysModules) = false ∧ ∃ vs, KV kvs vs ∧ s.heap.DictOf (mixKind X.prog X.w) p vs := I.hok p _ hx
      have hlen : kvs.length = vs.length := Paired.length r
      exact wpAny_truthy_dict hS m (by omega) ⟨H, I.tok _, by rw [isEmpty_kv r]; exact q⟩
  | _ => exact (show False from e).elim
/-- any expression whose test is its value's truth (a name, a call, a subscript, a field ..: he by fun _ => rfl) -/
theorem pt_truth (ha : PE X a ta) (he : ∀ whole, isTrue a X.env whole = (do let v ← whole; standAt a.pos; holding [v] (truthy v))) :
    PT X a (fun σ H Q => ta σ H fun x H' => ∃ k, TruV X.K x H' k ∧ Q k H') := by
  intro pins s σ H Q I h
  exact isTrue_plain (thn (ha pins s σ H _ I h) fun v s1 ⟨x, H1, I1, r1, q1⟩ => tru_ok pins s1 σ H1 x v Q I1 r1 q1) (he _)

/-! ### strs and bytes -/
/-! ### scalar builtins, by CallR -/
theorem vals1 {x : V} {us : List Value} (r : Vals [x] us) : ∃ u, us = [u] ∧ RelV x u := by
  cases r with
  | cons r1 r2 => cases r2; exact ⟨_, rfl, r1⟩
theorem vals2 {x y : V} {us : List Value} (r : Vals [x, y] us) : ∃ u w', us = [u, w'] ∧ RelV x u ∧ RelV y w' := by
  cases r with
  | cons r1 r2 =>
    cases r2 with
    | cons r3 r4 => cases r4; exact ⟨_, _, rfl, r1, r3⟩
theorem call_min2 (hc : X.calm = true) : CallR X (.builtin "min") (fun xs H Q => ∃ i j, xs = [.int i, .int j] ∧ Q (.int (if j < i then j else i)) H) := by
  intro pins s σ H xs us Q I r h
  obtain ⟨i, j, rfl, q⟩ := h
  obtain ⟨u, w', rfl, ⟨t, rfl⟩, ⟨t', rfl⟩⟩ := vals2 r
  refine min_two_ints (I.ok.hd hc) fun h' tk k => ⟨_, H, I.kept k, ?_, q⟩
  by_cases hj : j < i
  · rw [if_pos hj, if_pos hj]; exact ⟨_, rfl⟩
  · rw [if_neg hj, if_neg hj]; exact ⟨_, rfl⟩
end
end L2

namespace L2
open PySem PySem.Spec PyProof.Rows

/-! ### an instance, its attributes a map -/
structure ObjM (h : Heap) (x dx C : Addr) (mA : Str → Option Value) : Prop where
  obj : h.get? x = some (PySem.W.instObj C dx)
  ns : h.Ns1 dx mA
  ne : dx ≠ x

theorem lookIn_ns {h : Heap} {dx : Addr} {mA : Str → Option Value} (n : h.Ns1 dx mA) : ∃ od, h.get? dx = some od ∧ ∀ name, PySem.W.lookIn name od = some (mA name) := by
  obtain ⟨o, es, ep, ho, hd, hk, _, hm⟩ := n
  refine ⟨o, ho, fun name => ?_⟩
  have e := hm name
  unfold nsFind findBy at e
  rw [← Array.find?_toList] at e
  unfold PySem.W.lookIn
  rw [hd]
  dsimp only
  split
  · rename_i y q
    rw [q] at e
    exact congrArg some e
  · rename_i q
    rw [q] at e
    have a : es.toList.any (·.refKey) = false := by
      rw [List.any_eq_false]
      intro y hy
      obtain ⟨z, t, hkey⟩ := hk y (Array.mem_toList_iff.mp hy)
      simp [DictEntry.refKey, hkey]
    have a' : ¬ es.toList.any (·.refKey) = true := by rw [a]; exact Bool.false_ne_true
    rw [if_neg a']
    exact congrArg some e

theorem ObjM.look {h : Heap} {x dx C : Addr} {mA : Str → Option Value} (I : ObjM h x dx C mA) : ∃ od, PySem.W.InstAt h x (PySem.W.instObj C dx) C (some od) ∧ ∀ name, PySem.W.lookIn name od = some (mA name) :=
  let ⟨od, ho, hl⟩ := lookIn_ns I.ns
  ⟨od, ⟨I.obj, rfl, rfl, ho⟩, hl⟩

section
variable {prog : Program} {w : World} {A : Around} {E : Value → Shared → Prop} {s : Shared} {K : PySem.W.Frag} {x dx C f : Addr} {mA : Str → Option Value} {name : Str} {v : Value}

theorem get_map {expr : Bool} {Q : Value → Shared → Prop} (X : K.In s.heap) (I : ObjM s.heap x dx C mA) (hg : PySem.W.plainGet K C name = true) (hh : PySem.W.hasDictIn K C = true)
    (ha : PySem.W.findIn K (.ref C) name = some none) (hv : mA name = some v) (hv' : PySem.W.handedIn v = true) (h : Q v { s with toks := s.toks + 1 }) :
    wpAny (model prog w) A (getAttr (.ref x) name expr) Q E s := by
  obtain ⟨od, J, hl⟩ := I.look
  exact PySem.W.get_value X J (PySem.W.plainGet_of hg).1 (PySem.W.findObj_own hh ha rfl (by rw [hl, hv])) hv' h

theorem get_meth {pl : Sem Bool} {Q : Value × List Value → Shared → Prop} (X : K.In s.heap) (I : ObjM s.heap x dx C mA) (hg : PySem.W.plainGet K C name = true)
    (hf : PySem.W.findIn K (.ref C) name = some (some (.ref f))) (ht : PySem.W.isFn K (.ref f) = true) (hv : mA name = none) (h : Q (.ref f, [.ref x]) s) :
    wpAny (model prog w) A (getMethod (.ref x) name pl) Q E s := by
  obtain ⟨od, J, hl⟩ := I.look
  exact PySem.W.method_fn X J (PySem.W.plainGet_of hg).1 (PySem.W.plainGet_of hg).2 hf (beq_iff_eq.mp ht) (by show (PySem.W.lookIn name od).map (·.isSome) = some false; rw [hl, hv]; rfl) h

theorem set_map {ns : List Str} {Q : Unit → Shared → Prop} (X : K.In s.heap) (I : ObjM s.heap x dx C mA)
    (hs : PySem.W.findIn K (.ref C) "__setattr__" = some (some (.builtin "object.__setattr__"))) (hp : PySem.W.plainOver K C = true) (ht : PySem.W.takerIn K C name = some none) (hh : PySem.W.hasDictIn K C = true)
    (hw : PySem.Within mA ns) (hsz : ns.length ≤ sizeLine)
    (h : ∀ h', ObjM h' x dx C (fun y => if y = name then some v else mA y) → Heap.SameBut dx s.heap h' → Q () { s with heap := h', toks := s.toks + 2 }) :
    wpAny (model prog w) A (setAttr (.ref x) name v) Q E s := by
  obtain ⟨od, J, hl⟩ := I.look
  refine PySem.W.set_plain X J hs (PySem.W.osa_open (s := { s with toks := s.toks + 1 }) (r := none) X J hp ht fun b => ?_)
  obtain ⟨cd, hc, hd'⟩ := PySem.W.any_some hh
  have hx : s.heap.get? x = some ⟨.ref C, some dx, .plain, #[]⟩ := I.obj
  refine wpAny_bind (wpAny_pure (wpAny_bind (wpAny_bind (wpAny_loadPart hx (wpAny_bind (PySem.W.Looks.here (s := { s with toks := s.toks + 1 }) (PySem.W.looks_clsIn X hc) ?_))))))
  rw [hd']
  refine wpAny_pure (a := some dx) (wpAny_bind (wpAny_pure (wpAny_bind ?_)))
  refine wpAny_nsSet1 (s := { s with toks := s.toks + 1 }) I.ns fun h' hn2 hs2 => ?_
  obtain ⟨oD, esD, epD, hoD, hdD, hcD⟩ := hn2.count (PySem.Within.cons name v hw)
  refine wpAny_bind (wpAny_lookBehind hoD (by rw [hdD]; exact pastItsLine_dict (Nat.le_trans hcD (by rw [List.length_cons]; omega))) ?_)
  exact wpAny_pure (h _ ⟨(hs2.2 _ (Ne.symm I.ne)).trans I.obj, hn2, I.ne⟩ hs2)

/-- C(..): the dict at the heap's end, the instance behind it; then its __init__ -/
theorem make_map {R : Result → Shared → Prop} {vs : List Value} {kw : List (Str × Value)} (X : K.In s.heap) (hm : PySem.W.makesIn K C = true)
    (hi : PySem.W.findIn K (.ref C) "__init__" = some (some (.ref f))) (hf : PySem.W.typeIn K (.ref f) = some (.type "function"))
    (h : codeAny (model prog w) (A.under (.builtin "type.__call__" ⟨.ref C :: vs, kw⟩)) (.call (.ref f) ⟨.ref (s.heap.objs.size + 1) :: vs, kw⟩) (PySem.W.InitBack (s.heap.objs.size + 1) R)
      { s with heap := (s.heap.push PySem.W.emptyDict).push (PySem.W.instObj C s.heap.objs.size) }) :
    codeAny (model prog w) A (.call (.ref C) ⟨vs, kw⟩) R s := by
  obtain ⟨hh, g, d, t, os⟩ := s
  exact PySem.W.make_core (PySem.W.makes_of X hm) (PySem.W.looks_findIn X hi) (fun self => PySem.W.bind_fn X self hf) (.inl rfl) h
end

/-! ### the attributes as a list of pairs -/
def putF (f : Str) (v : V) : List (Str × V) → List (Str × V)
  | [] => [(f, v)]
  | (g, x) :: r => if g = f then (g, v) :: r else (g, x) :: putF f v r
theorem lookup_putF (f g : Str) (v : V) : ∀ fs : List (Str × V), (putF f v fs).lookup g = if g = f then some v else fs.lookup g
  | [] => by
    show List.lookup g [(f, v)] = _
    by_cases h : g = f
    · have hb : (g == f) = true := beq_iff_eq.mpr h
      simp only [List.lookup, hb, if_pos h]
    · have hb : (g == f) = false := beq_eq_false_iff_ne.mpr h
      simp only [List.lookup, hb, if_neg h]
  | (k, x) :: r => by
    have ih := lookup_putF f g v r
    rw [show putF f v ((k, x) :: r) = (if k = f then (k, v) :: r else (k, x) :: putF f v r) from rfl]
    by_cases hk : k = f
    · rw [if_pos hk]
      by_cases h : g = k
      · have hb : (g == k) = true := beq_iff_eq.mpr h
        simp only [List.lookup, hb, if_pos (h.trans hk)]
      · have hb : (g == k) = false := beq_eq_false_iff_ne.mpr h
        simp only [List.lookup, hb, if_neg (fun e : g = f => h (e.trans hk.symm))]
    · rw [if_neg hk]
      by_cases h : g = k
      · have hb : (g == k) = true := beq_iff_eq.mpr h
        simp only [List.lookup, hb, if_neg (fun e : g = f => hk (h.symm.trans e))]
      · have hb : (g == k) = false := beq_eq_false_iff_ne.mpr h
        simp only [List.lookup, hb]
        exact ih
theorem keys_putF (f : Str) (v : V) : ∀ fs : List (Str × V), f ∈ (putF f v fs).map (·.1) ∧ ∀ g, g ∈ fs.map (·.1) → g ∈ (putF f v fs).map (·.1)
  | [] => ⟨by simp [putF], fun g h => by simp at h⟩
  | (k, x) :: r => by
    obtain ⟨i1, i2⟩ := keys_putF f v r
    rw [show putF f v ((k, x) :: r) = (if k = f then (k, v) :: r else (k, x) :: putF f v r) from rfl]
    by_cases hk : k = f
    · rw [if_pos hk]
      subst hk
      exact ⟨by simp, fun g h => by simpa using h⟩
    · rw [if_neg hk]
      refine ⟨?_, fun g h => ?_⟩
      · rw [List.map_cons]
        exact List.mem_cons_of_mem _ i1
      · rw [List.map_cons] at h ⊢
        rcases List.mem_cons.mp h with e | e
        · exact List.mem_cons.mpr (.inl e)
        · exact List.mem_cons_of_mem _ (i2 g e)
theorem length_putF (f : Str) (v : V) : ∀ fs : List (Str × V), (putF f v fs).length ≤ fs.length + 1
  | [] => by simp [putF]
  | (k, x) :: r => by
    have ih := length_putF f v r
    rw [show putF f v ((k, x) :: r) = (if k = f then (k, v) :: r else (k, x) :: putF f v r) from rfl]
    by_cases hk : k = f
    · rw [if_pos hk, List.length_cons, List.length_cons]; omega
    · rw [if_neg hk, List.length_cons, List.length_cons]; omega

theorem RelO.some_of {v : V} {o : Option Value} (r : RelO (some v) o) : ∃ u, o = some u ∧ RelV v u := by
  cases o with
  | none => exact (show False from r).elim
  | some u => exact ⟨u, rfl, r⟩
theorem RelO.none_of {o : Option Value} (r : RelO none o) : o = none := by
  cases o with
  | none => rfl
  | some u => exact (show False from r).elim
theorem handed_of {v : V} {u : Value} (r : RelV v u) : PySem.W.handedIn u = true := by
  cases v with
  | non => cases (show u = Value.none from r); rfl
  | bl b => cases (show u = Value.bool b from r); rfl
  | int i => obtain ⟨t, e⟩ := (show ∃ t, u = Value.int i t from r); cases e; rfl
  | str x => obtain ⟨t, e⟩ := (show ∃ t, u = Value.str x t from r); cases e; rfl
  | byt b => obtain ⟨t, e⟩ := (show ∃ t, u = Value.bytes b t from r); cases e; rfl
  | flt b => obtain ⟨t, e⟩ := (show ∃ t, u = Value.float b t from r); cases e; rfl
  | ref a => cases (show u = Value.ref a from r); rfl
  | ty n => cases (show u = Value.type n from r); rfl

section
variable {P : Program} {w : World} {H H' : Hp} {h h' : Heap} {a C dx : Addr} {fs fs' : List (Str × V)}
theorem ins_get (hok : HOk P w H h) (e : H a = some (.ins C dx fs)) : ∃ mA, ObjM h a dx C mA ∧ (∀ f, RelO (fs.lookup f) (mA f)) ∧ PySem.Within mA (fs.map (·.1)) ∧ fs.length ≤ 1000 ∧ H dx = some (.own a) := by
  obtain ⟨d, z, ne, ob, mA, n, r, q⟩ := (show ObjOk P w H h a (.ins C dx fs) from hok a _ e)
  exact ⟨mA, ⟨ob, n, ne⟩, r, q, z, d⟩
end

/-! ### what of the text a class must have -/
structure Cls (K : PySem.W.Frag) (C : Addr) : Prop where
  pg : PySem.W.plainGet K C Str.empty = true
  hd : PySem.W.hasDictIn K C = true
  po : PySem.W.plainOver K C = true
  sa : PySem.W.findIn K (.ref C) "__setattr__" = some (some (.builtin "object.__setattr__"))
theorem Cls.get {K : PySem.W.Frag} {C : Addr} (c : Cls K C) (f : Str) : PySem.W.plainGet K C f = true := c.pg
/-- no class of it has the name -/
def NoAttr (K : PySem.W.Frag) (C : Addr) (f : Str) : Prop := PySem.W.findIn K (.ref C) f = some none
theorem NoAttr.taker {K : PySem.W.Frag} {C : Addr} {f : Str} (n : NoAttr K C f) : PySem.W.takerIn K C f = some none := by
  unfold PySem.W.takerIn
  rw [show PySem.W.findIn K (.ref C) f = some none from n]
  rfl
/-- a method: a plain def of the class or of one above it -/
structure Meth (K : PySem.W.Frag) (C : Addr) (m : Str) (f : Addr) : Prop where
  at_ : PySem.W.findIn K (.ref C) m = some (some (.ref f))
  fn : PySem.W.isFn K (.ref f) = true
  kp : PySem.W.keepIn K (.ref f) = true

section
variable {X : Cx} {pins : List (Addr × Obj)} {σ : St} {H : Hp} {s : Shared} {a C dx : Addr} {fs : List (Str × V)} {f : Str} {v : V} {A : Around} {E : Value → Shared → Prop}

theorem getattr_ok {b : Bool} {Q : Value → Shared → Prop} (I : Inv X pins σ H s) (e : H a = some (.ins C dx fs)) (c : Cls X.K C) (n : NoAttr X.K C f) (l : fs.lookup f = some v)
    (h : ∀ u s', Inv X pins σ H s' → RelV v u → Q u s') : wpAny (model X.prog X.w) A (getAttr (.ref a) f b) Q E s := by
  obtain ⟨mA, O, r, _, _, _⟩ := ins_get I.hok e
  obtain ⟨u, hu, ru⟩ := RelO.some_of (v := v) (o := mA f) (by rw [← l]; exact r f)
  exact get_map I.kIn O (c.get f) c.hd n hu (handed_of ru) (h u _ (I.tok _) ru)

theorem getmeth_ok {m : Str} {g : Addr} {pl : Sem Bool} {Q : Value × List Value → Shared → Prop} (I : Inv X pins σ H s) (e : H a = some (.ins C dx fs)) (c : Cls X.K C) (k : Meth X.K C m g) (l : fs.lookup m = none)
    (h : Q (.ref g, [.ref a]) s) : wpAny (model X.prog X.w) A (getMethod (.ref a) m pl) Q E s := by
  obtain ⟨mA, O, r, _, _, _⟩ := ins_get I.hok e
  have hn : mA m = none := RelO.none_of (by rw [← l]; exact r m)
  exact get_meth I.kIn O (c.get m) k.at_ k.fn hn h

theorem setattr_ok {y : V} {u : Value} {Q : Unit → Shared → Prop} (I : Inv X pins σ H s) (e : H a = some (.ins C dx fs)) (c : Cls X.K C) (n : NoAttr X.K C f) (hl : fs.length < 1000) (ry : RelV y u)
    (h : ∀ s', Inv X pins σ (upd H a (.ins C dx (putF f y fs))) s' → Q () s') : wpAny (model X.prog X.w) A (setAttr (.ref a) f u) Q E s := by
  obtain ⟨mA, O, r, wi, _, ho⟩ := ins_get I.hok e
  have hz : (fs.map (·.1)).length ≤ sizeLine := by rw [List.length_map, sizeLine_eq]; omega
  refine set_map I.kIn O c.sa c.po n.taker c.hd wi hz fun h' O' sb => h _ ?_
  have hd : ∃ o, h'.get? dx = some o := let ⟨o, _, _, e', _⟩ := O'.ns; ⟨o, e'⟩
  refine I.write (x := a) (e := dx) (by rw [e]; exact True.intro) (.inr ho) (fun b q hb z => (sb.2 b hb).trans z) hd ?_
  refine ⟨by rw [upd_ne O.ne]; exact ho, ?_, O.ne, O'.obj, _, O'.ns, fun g => ?_, fun g hg => ?_⟩
  · have := length_putF f y fs; omega
  · show RelO ((putF f y fs).lookup g) (if g = f then some u else mA g)
    rw [lookup_putF]
    by_cases q : g = f
    · rw [if_pos q, if_pos q]; exact ry
    · rw [if_neg q, if_neg q]; exact r g
  · by_cases q : g = f
    · rw [q]; exact (keys_putF f y fs).1
    · refine (keys_putF f y fs).2 g (wi g fun z => hg ?_)
      show (if g = f then some u else mA g) = none
      rw [if_neg q]; exact z

/-- a new instance, tracked, without attributes -/
theorem Inv.made (I : Inv X pins σ H s) : Inv X pins σ (upd (upd H s.heap.objs.size (.own (s.heap.objs.size + 1))) (s.heap.objs.size + 1) (.ins C s.heap.objs.size []))
    { s with heap := (s.heap.push PySem.W.emptyDict).push (PySem.W.instObj C s.heap.objs.size) } := by
  have e1 : (s.heap.push PySem.W.emptyDict).get? s.heap.objs.size = some PySem.W.emptyDict := Heap.get?_push_size s.heap rfl
  have e2 : ((s.heap.push PySem.W.emptyDict).push (PySem.W.instObj C s.heap.objs.size)).get? (s.heap.objs.size + 1) = some (PySem.W.instObj C s.heap.objs.size) := by
    have := Heap.get?_push_size (s.heap.push PySem.W.emptyDict) (o := PySem.W.instObj C s.heap.objs.size) rfl
    rwa [Heap.size_push] at this
  have e3 : (s.heap.push PySem.W.emptyDict).Ns s.heap.objs.size (fun _ => none) := ⟨PySem.W.emptyDict, #[], _, e1, rfl, (fun e he => absurd he (by simp)), fun _ => rfl⟩
  have I1 := I.laid (a := s.heap.objs.size) (o := .own (s.heap.objs.size + 1)) (h' := s.heap.push PySem.W.emptyDict) (t' := s.toks) (fun b u q => Heap.get?_push_of_some _ q) (Nat.le_refl _) ⟨_, e1⟩
  refine I1.laid (a := s.heap.objs.size + 1) (o := .ins C s.heap.objs.size []) (t' := s.toks) (fun b u q => Heap.get?_push_of_some _ q) (Nat.le_of_eq (Heap.size_push _ _)) ?_
  have ne : s.heap.objs.size ≠ s.heap.objs.size + 1 := Nat.ne_of_lt (Nat.lt_succ_self _)
  refine ⟨by rw [upd_ne ne, upd_same], Nat.zero_le _, ne, e2, fun _ => none, (Heap.Ns1.of_empty e3).at fun o q => Heap.get?_push_of_some _ q, fun _ => True.intro, fun y hy => absurd rfl hy⟩

/-- e.f where nothing but the object is asked: through attributeBase (super) and the last hold -/
theorem attr_of {prog : Program} {w : World} {env : Env} {e : Expr} {f : Str} {pos : Pos} {s : Shared} {Q : Value → Shared → Prop} (hb : attributeBase e f env (eval e env) = eval e env)
    (h : wpAny (model prog w) A (eval e env) (fun o s₁ => wpAny (model prog w) A (getAttr o f true) Q E s₁) E s) : wpAny (model prog w) A (eval (.Attribute e f pos) env) Q E s :=
  Attribute_any_ h (by rw [arm_eval_Attribute, hb])
end

/-! ### readings and rules -/
/-- e.f, an attribute of the instance -/
inductive XFld (K : PySem.W.Frag) (f : Str) (x : V) (H : Hp) (Q : VK) : Prop
  | mk (a C dx : Addr) (fs : List (Str × V)) (v : V) (e : x = .ref a) (h : H a = some (.ins C dx fs)) (c : Cls K C) (n : NoAttr K C f) (l : fs.lookup f = some v) (q : Q v H)
def tFld (K : PySem.W.Frag) (ta : TE) (f : Str) : TE := fun σ H Q => ta σ H fun x H1 => XFld K f x H1 Q
/-- e.f = value -/
inductive XSet (K : PySem.W.Frag) (f : Str) (x y : V) (H : Hp) (R : Hp → Prop) : Prop
  | mk (a C dx : Addr) (fs : List (Str × V)) (e : x = .ref a) (h : H a = some (.ins C dx fs)) (c : Cls K C) (n : NoAttr K C f) (l : fs.length < 1000) (q : R (upd H a (.ins C dx (putF f y fs))))
def sFld (K : PySem.W.Frag) (ta tv : TE) (f : Str) : TS := fun D σ H => tv σ H fun y H1 => ta σ H1 fun x H2 => XSet K f x y H2 (D.nx σ)
section
variable {X : Cx} {o e value : Expr} {f : Str} {pos pos' tpos : Pos} {ta tv : TE}
theorem pe_fld (he : PE X e ta) (hb : attributeBase e f X.env (eval e X.env) = eval e X.env) : PE X (.Attribute e f pos) (tFld X.K ta f) := by
  intro pins s σ H Q I h
  refine attr_of hb (thn (he pins s σ H _ I h) fun u s1 ⟨x, H1, I1, rx, a, C, dx, fs, v, ex, ea, c, n, l, q⟩ => ?_)
  subst ex
  obtain rfl : u = Value.ref a := rx
  exact getattr_ok I1 ea c n l fun u' s2 I2 ru => ⟨v, H1, I2, ru, q⟩
theorem ps_fld (ha : PE X o ta) (hv : PE X value tv) (hs : swapsWith value (some (.Attribute o f pos')) pos.line X.env = pure false) : PS X (.Assign [.Attribute o f pos'] value pos) (sFld X.K ta tv f) := by
  intro pins s σ H D I h
  refine plainObj_wpAny_Assign_Attribute (thn (hv pins s σ H _ I h) fun u s1 ⟨y, H1, I1, ry, q⟩ => thn (ha pins s1 σ H1 _ I1 q) fun ov s2 ⟨x, H2, I2, rx, a, C, dx, fs, ex, ea, c, n, l, q2⟩ => ?_) hs
  subst ex
  obtain rfl : ov = Value.ref a := rx
  exact setattr_ok I2 ea c n l ry fun s3 I3 => ⟨σ, _, I3, q2⟩
end

/-! ### isinstance -/
section
variable {X : Cx} {pins : List (Addr × Obj)} {σ : St} {H : Hp} {s : Shared} {A : Around} {E : Value → Shared → Prop} {Q : Value → Shared → Prop} {c : Value} {b : Bool}
/-- the type of a value, as the fragment's deciders take it; for an instance its class -/
inductive TyOf (K : PySem.W.Frag) (H : Hp) : V → Value → Prop where
  | non : TyOf K H .non (.type "NoneType")
  | bl (x : Bool) : TyOf K H (.bl x) (.type "bool")
  | int (i : Int) : TyOf K H (.int i) (.type "int")
  | str (x : Str) : TyOf K H (.str x) (.type "str")
  | flt (x : UInt64) : TyOf K H (.flt x) (.type "float")
  | lst {a : Addr} {xs : List V} (e : H a = some (.lst xs)) : TyOf K H (.ref a) (.type "list")
  | frz {a : Addr} {o : Obj} {xs : List V} (e : H a = some (.frz o (.lst xs))) : TyOf K H (.ref a) (.type "list")
  | tup {a : Addr} {xs : List V} (e : H a = some (.tup xs)) : TyOf K H (.ref a) (.type "tuple")
  | dK {a : Addr} {kvs : List (Key × V)} (e : H a = some (.dK kvs)) : TyOf K H (.ref a) (.type "dict")
  | dT {a : Addr} {kvs : List (List Key × V)} (e : H a = some (.dT kvs)) : TyOf K H (.ref a) (.type "dict")
  | ins {a C dx : Addr} {fs : List (Str × V)} (e : H a = some (.ins C dx fs)) (cl : Cls K C) (ha : PySem.W.findIn K (.ref C) "__class__" = some (some (.builtin "object.__class__")))
      (hn : PySem.W.specialIn K (.builtin "object.__class__") "__get__" = some (some (.builtin "getset_descriptor.__get__"))) (htk : PySem.W.takesIn K (.builtin "object.__class__") = some true)
      (hm : PySem.W.mroIn K C (.type "object") = some true) : TyOf K H (.ref a) (.ref C)
/-- isinstance(x, c) for one class c, a built-in or an own one: kitOne's answer -/
theorem isinst_ok {x : V} {u t : Value} (I : Inv X pins σ H s) (rx : RelV x u) (ty : TyOf X.K H x t) (e : PySem.W.kitOne X.K t c = some b) (h : ∀ tk, Q (.bool b) { s with toks := tk }) :
    wpAny (model X.prog X.w) A (call (.builtin "isinstance") [u, c]) Q E s := by
  cases ty with
  | non => cases (show u = Value.none from rx); exact PySem.W.kia_one PySem.W.kitx_none I.kIn True.intro e (fun z => nomatch z) h
  | bl y => cases (show u = Value.bool y from rx); exact PySem.W.kia_one PySem.W.kitx_bool I.kIn True.intro e (fun z => nomatch z) h
  | int i => obtain ⟨t, q⟩ := (show ∃ t, u = Value.int i t from rx); cases q; exact PySem.W.kia_one PySem.W.kitx_int I.kIn True.intro e (fun z => nomatch z) h
  | str y => obtain ⟨t, q⟩ := (show ∃ t, u = Value.str y t from rx); cases q; exact PySem.W.kia_one PySem.W.kitx_str I.kIn True.intro e (fun z => nomatch z) h
  | flt y => obtain ⟨t, q⟩ := (show ∃ t, u = Value.float y t from rx); cases q; exact PySem.W.kia_one PySem.W.kitx_float I.kIn True.intro e (fun z => nomatch z) h
  | @lst a xs ea =>
    cases (show u = Value.ref a from rx)
    obtain ⟨_, _, n, _, h1⟩ := (show ObjOk X.prog X.w H s.heap a (.lst xs) from I.hok a _ ea)
    exact PySem.W.kia_one PySem.W.kitx_list I.kIn ⟨_, h1, rfl⟩ e (fun z => nomatch z) h
  | @frz a ob xs ea =>
    cases (show u = Value.ref a from rx)
    obtain ⟨_, _, _, n, _, h1⟩ := (show ObjOk X.prog X.w H s.heap a (.frz ob (.lst xs)) from I.hok a _ ea)
    exact PySem.W.kia_one PySem.W.kitx_list I.kIn ⟨_, h1, rfl⟩ e (fun z => nomatch z) h
  | @tup a xs ea =>
    cases (show u = Value.ref a from rx)
    obtain ⟨_, _, _, p⟩ := (show ObjOk X.prog X.w H s.heap a (.tup xs) from I.hok a _ ea)
    obtain ⟨o, h1, h2, _⟩ := p
    exact PySem.W.kia_one PySem.W.kitx_tuple I.kIn ⟨o, h1, h2⟩ e (fun z => nomatch z) h
  | @dK a kvs ea =>
    cases (show u = Value.ref a from rx)
    obtain ⟨_, _, vs, _, p⟩ := (show ObjOk X.prog X.w H s.heap a (.dK kvs) from I.hok a _ ea)
    obtain ⟨o, es, ep, h1, h2, _⟩ := p
    exact PySem.W.kia_one PySem.W.kitx_dict I.kIn ⟨o, h1, h2.1⟩ e (fun z => nomatch z) h
  | @dT a kvs ea =>
    cases (show u = Value.ref a from rx)
    obtain ⟨_, _, xs, _, o, es, ep, h1, h2, _⟩ := (show ObjOk X.prog X.w H s.heap a (.dT kvs) from I.hok a _ ea)
    exact PySem.W.kia_one PySem.W.kitx_dict I.kIn ⟨o, h1, h2.1⟩ e (fun z => nomatch z) h
  | @ins a C dx fs ea cl ha hn htk hm =>
    cases (show u = Value.ref a from rx)
    obtain ⟨mA, O, _⟩ := ins_get I.hok ea
    obtain ⟨od, J, _⟩ := O.look
    exact PySem.W.kia_one (PySem.W.kitx_own (cl.get _) cl.hd ha hn htk hm) I.kIn J e (fun z => nomatch z) h
end
end L2

namespace L2
open PySem PySem.Spec PyProof.Rows

/-! ### room -/
structure Room (k : Nat) (A : Around) : Prop where
  hd : A.handled = none
  dp : A.depth + 3 * k + 5 < recursionLimit
  un : A.units + 16 * k + 200 < cLine
theorem Room.mono {j k : Nat} {A : Around} (r : Room k A) (h : j ≤ k) : Room j A := ⟨r.hd, by have := r.dp; omega, by have := r.un; omega⟩
theorem Room.deeper {k : Nat} {A : Around} (r : Room (k + 1) A) (env : Env) : Room k (A.deeper env) :=
  ⟨r.hd, by have := r.dp; show A.depth + 1 + 3 * k + 5 < _; omega, by have := r.un; show A.units + 3 + 16 * k + 200 < _; omega⟩
theorem make_depth {A : Around} {C : Addr} {us : List Value} {kw : List (Str × Value)} : (A.under (.builtin "type.__call__" ⟨.ref C :: us, kw⟩)).depth = A.depth + 1 := by
  first | rfl | simp [Around.under, Code.weight, Code.isCreation, Code.isGuard, Code.isCaller, Code.frames, Code.isFrame, guardIds]
theorem make_units {A : Around} {C : Addr} {us : List Value} {kw : List (Str × Value)} : (A.under (.builtin "type.__call__" ⟨.ref C :: us, kw⟩)).units = A.units + 1 := by
  first | rfl | simp [Around.under, Code.cUnits, Code.frames, Code.isFrame]
theorem Room.make {k : Nat} {A : Around} (r : Room (k + 1) A) (C : Addr) (us : List Value) (kw : List (Str × Value)) : Room k (A.under (.builtin "type.__call__" ⟨.ref C :: us, kw⟩)) :=
  ⟨r.hd, by have := r.dp; rw [make_depth]; omega, by have := r.un; rw [make_units]; omega⟩
theorem Room.depth {k : Nat} {A : Around} (r : Room k A) : A.depth < recursionLimit := by have := r.dp; omega
theorem Room.units {k : Nat} {A : Around} (r : Room k A) : A.units + 64 < cLine := by have := r.un; omega
theorem Room.units0 {k : Nat} {A : Around} (r : Room k A) : A.units < cLine := by have := r.un; omega

/-! ### argument lists and displays -/
def tNil : TA := fun _ H Q => Q [] H
def tCons (ta : TE) (tr : TA) : TA := fun σ H Q => ta σ H fun x H1 => tr σ H1 fun xs H2 => Q (x :: xs) H2
section
variable {X : Cx} {e : Expr} {es : List Expr} {te : TE} {t : TA} {pos : Pos}
theorem pa_nil : PA X [] tNil := fun _ _ _ _ H Q I h => Calls.spliced_nil ⟨[], H, I, .nil, h⟩
theorem pa_cons (ha : PE X e te) (hr : PA X es t) (hs : starEach (e :: es) X.env = (false, eval e X.env) :: starEach es X.env := by rfl) : PA X (e :: es) (tCons te t) := by
  intro pos pins s σ H Q I h
  rw [hs]
  show wpAny _ _ (spliced ((false, eval e X.env) :: backTo pos (starEach es X.env))) _ _ s
  refine Calls.spliced_cons (thn (ha pins s σ H _ I h) fun u s1 ⟨x, H1, I1, r1, q1⟩ => ?_)
  exact thn (hr pos pins s1 σ H1 _ I1 q1) fun us s2 ⟨xs, H2, I2, r2, q2⟩ => ⟨x :: xs, H2, I2, .cons r1 r2, q2⟩

/-- a tuple, a list of written items -/
def tTup (t : TA) : TE := fun σ H Q => t σ H fun xs H1 => xs.length ≤ sizeLine ∧ ∀ p, H1 p = none → Q (.ref p) (upd H1 p (.tup xs))
def tLst (t : TA) : TE := fun σ H Q => t σ H fun xs H1 => xs.length ≤ sizeLine ∧ ∀ p, H1 p = none → Q (.ref p) (upd H1 p (.lst xs))
theorem pe_tup {x1} (h : PA X es t) : PE X (.Tuple es x1 pos) (tTup t) := by
  intro pins s σ H Q I hq
  refine wpAny_Tuple_spliced (thn (h pos pins s σ H _ I hq) fun us s1 ⟨xs, H1, I1, r, z, q⟩ => ⟨by rw [← r.length]; exact z, ?_⟩)
  have hf : H1 s1.heap.objs.size = none := I1.hok.fresh (Nat.le_refl _)
  refine ⟨.ref s1.heap.objs.size, upd H1 s1.heap.objs.size (.tup xs), I1.laid (t' := s1.toks) (fun b u e => Heap.get?_push_of_some _ e) (Nat.le_refl _) ?_, rfl, q _ hf⟩
  exact ⟨z, us, r, ⟨_, Heap.get?_push_size _ rfl, rfl, _, rfl⟩⟩
theorem pe_lst (h : PA X es t) : PE X (.List es pos) (tLst t) := by
  intro pins s σ H Q I hq
  refine wpAny_List_spliced (thn (h pos pins s σ H _ I hq) fun us s1 ⟨xs, H1, I1, r, z, q⟩ => ⟨by rw [← r.length]; exact z, ?_⟩)
  have hf : H1 s1.heap.objs.size = none := I1.hok.fresh (Nat.le_refl _)
  refine ⟨.ref s1.heap.objs.size, upd H1 s1.heap.objs.size (.lst xs), I1.laid (t' := s1.toks) (fun b u e => Heap.get?_push_of_some _ e) (Nat.le_refl _) ?_, rfl, q _ hf⟩
  exact ⟨z, us, 0, r, Heap.get?_push_size _ rfl⟩
end

/-! ### what a def promises -/
/-- a def's promise: the bound arguments in the parameters' order, the heap, the wanted end, the wanted exception -/
abbrev Sp := List V → Hp → VK → XK → Prop
/-- how an exception lies behind a call (file 08 gives it): the callers' frames, abstract heap and state ahead of the call, the wish, the exception, the state -/
abbrev CXT := List Env → Hp → Shared → XK → Value → Shared → Prop

/-- the state at a call -/
structure Env0 (P : Program) (w : World) (K : PySem.W.Frag) (mg : Str → Option Value) (base : Heap) (A : Around) (outer : List Env) (s : Shared) (H : Hp) : Prop where
  frames : A.frames = some outer
  mod : Mod K mg base
  bs : ∀ b o, base.get? b = some o → s.heap.get? b = some o ∧ H b = none
  bsz : base.objs.size ≤ s.heap.objs.size
  funs : s.heap.FunFrames base outer
  frf : ∀ b ∈ frs outer, H b = none
  hok : HOk P w H s.heap
  bare : AllBare s.gens
/-- a call's end -/
def CE (outer : List Env) (P : Program) (w : World) (H : Hp) (s : Shared) (Q : VK) (u : Value) (s' : Shared) : Prop :=
  ∃ v H', s'.os = s.os ∧ AllBare s'.gens ∧ Un (frs outer) [] H H' s.heap s'.heap ∧ HOk P w H' s'.heap ∧ RelV v u ∧ Q v H'
def CR (CX : CXT) (outer : List Env) (P : Program) (w : World) (H : Hp) (s : Shared) (Q : VK) (E : XK) (r : Result) (s' : Shared) : Prop :=
  match r with
  | .ok (.ret u) => CE outer P w H s Q u s'
  | .ok _ => False
  | .error e => CX outer H s E e s'
structure FnOk (P : Program) (w : World) (K : PySem.W.Frag) (mg : Str → Option Value) (base : Heap) (CX : CXT) (k : Nat) (f : Addr) (fd : FuncData) (ps : List Str) (sp : Sp) : Prop where
  len : ∀ vs H Q E, sp vs H Q E → vs.length = ps.length
  run : ∀ (A : Around) (outer : List Env) (s : Shared) (H : Hp) (args : Args) (us : List Value) (vs : List V) (Q : VK) (E : XK), Room k A → Env0 P w K mg base A outer s H → BindsTo s fd args (ps.zip us) → Vals vs us → sp vs H Q E →
    codeAny (model P w) A (.call (.ref f) args) (CR CX outer P w H s Q E) s
theorem Env0.make {P : Program} {w : World} {K : PySem.W.Frag} {mg : Str → Option Value} {base : Heap} {A : Around} {outer : List Env} {s : Shared} {H : Hp} (e : Env0 P w K mg base A outer s H) (C : Addr) (us : List Value) (kw : List (Str × Value)) :
    Env0 P w K mg base (A.under (.builtin "type.__call__" ⟨.ref C :: us, kw⟩)) outer s H := ⟨by first | exact e.frames | (simpa [Around.under, Code.envs, Code.isFrame, pushEnvs] using e.frames), e.mod, e.bs, e.bsz, e.funs, e.frf, e.hok, e.bare⟩
section
variable {X : Cx} {pins : List (Addr × Obj)} {σ : St} {H : Hp} {s s' : Shared}
/-- from a body: what a callee wants -/
theorem Inv.env0 (I : Inv X pins σ H s) : Env0 X.prog X.w X.K X.mg X.base X.A X.stack s H :=
  ⟨I.ok.frames, I.ok.mod, I.bs, Nat.le_trans I.ok.bsz I.sz, I.stack, I.stkFree, I.hok, I.bare⟩
/-- behind a call -/
theorem Inv.after {Q : VK} {u : Value} (I : Inv X pins σ H s) (h : CE X.stack X.prog X.w H s Q u s') : EP X pins σ Q u s' := by
  obtain ⟨v, H', os, bare, un, hok, r, q⟩ := h
  obtain ⟨hh, g, d, t, os'⟩ := s'
  obtain rfl : os' = s.os := os
  exact ⟨v, H', I.call (h' := hh) (g' := g) (d' := d) (t' := t) (ch := []) un hok bare (fun b z => absurd z (by simp)), r, q⟩
end

/-! ### calls -/
/-- f(..): the written arguments, then the defaults dvs; E: what is wanted of an exception -/
def tCall (sp : Sp) (dvs : List V) (E : XK) (t : TA) : TE := fun σ H Q => t σ H fun vs H1 => sp (vs ++ dvs) H1 Q E
inductive XMeth (C : Addr) (m : Str) (x : V) (H : Hp) (R : Prop) : Prop
  | mk (a dx : Addr) (fs : List (Str × V)) (e : x = .ref a) (h : H a = some (.ins C dx fs)) (l : fs.lookup m = none) (q : R)
/-- o.m(..) of an instance of the class at C -/
def tMeth (C : Addr) (m : Str) (sp : Sp) (dvs : List V) (E : XK) (ta : TE) (t : TA) : TE := fun σ H Q => ta σ H fun x H1 => XMeth C m x H1 (t σ H1 fun vs H2 => sp (x :: (vs ++ dvs)) H2 Q E)
/-- C(..): a new instance and its dict, then __init__ -/
def tMake (C : Addr) (sp : Sp) (dvs : List V) (E : XK) (t : TA) : TE := fun σ H Q => t σ H fun vs H1 => ∀ x dx, H1 x = none → H1 dx = none → dx ≠ x →
  sp (.ref x :: (vs ++ dvs)) (upd (upd H1 dx (.own x)) x (.ins C dx [])) (fun v H2 => v = .non ∧ Q (.ref x) H2) E

/-- how the parameters are bound: us the positional arguments, kw the keywords' values by name, ds the defaults that fill up -/
def Binds (K : PySem.W.Frag) (fd : FuncData) (ps : List Str) (ds : List Value) : Prop :=
  ∀ (s : Shared) (us : List Value), K.In s.heap → (us ++ ds).length = ps.length → BindsTo s fd ⟨us, []⟩ (ps.zip (us ++ ds))
/-- every parameter is given -/
theorem Binds.all {K : PySem.W.Frag} {fd : FuncData} {ps : List Str} (h : ∀ us : List Value, us.length = ps.length → bindArgs fd ⟨us, []⟩ = pure (ps.zip us)) : Binds K fd ps [] := fun s us _ hl => by
  rw [List.append_nil] at hl ⊢
  exact .of_eq (h us hl)

/-- an exception of a callee reaches what this body wants of exceptions -/
def Passes (CX : CXT) (X : Cx) (E : XK) : Prop := ∀ (pins : List (Addr × Obj)) (σ : St) (H : Hp) (s : Shared) (e : Value) (s' : Shared), Inv X pins σ H s → CX X.stack H s E e s' → X.xe e s'

section
variable {X : Cx} {CX : CXT} {k : Nat} {f C : Addr} {fd : FuncData} {ps : List Str} {sp : Sp} {dvs : List V} {ds : List Value} {E : XK} {x m : Str} {p pos apos : Pos} {e o : Expr} {es : List Expr} {ta : TE} {t : TA}

/-- the callee runs -/
theorem run_fn {pins : List (Addr × Obj)} {σ : St} {H : Hp} {s : Shared} {Q : VK} {us : List Value} {vs : List V} (F : FnOk X.prog X.w X.K X.mg X.base CX k f fd ps sp) (hr : Room k X.A) (hb : Binds X.K fd ps ds) (hd : Vals dvs ds) (hx : Passes CX X E)
    (I : Inv X pins σ H s) (r : Vals vs us) (h : sp (vs ++ dvs) H Q E) : wpAny (model X.prog X.w) X.A (call (.ref f) us) (EP X pins σ Q) X.xe s := by
  have r2 : Vals (vs ++ dvs) (us ++ ds) := r.append hd
  have hl : (us ++ ds).length = ps.length := by rw [← r2.length]; exact F.len _ _ _ _ h
  refine wpAny_call (codeAny_mono (F.run X.A X.stack s H ⟨us, []⟩ (us ++ ds) (vs ++ dvs) Q E hr I.env0 (hb s us I.kIn hl) r2 h) fun r s' hq => ?_)
  cases r with
  | error e => exact hx pins σ H s e s' I hq
  | ok fl =>
    cases fl with
    | ret u => exact I.after hq
    | next => exact False.elim hq
    | brk => exact False.elim hq
    | cont => exact False.elim hq

theorem pe_call (F : FnOk X.prog X.w X.K X.mg X.base CX k f fd ps sp) (hr : Room k X.A) (hg : Gl X x) (hm : X.mg x = some (.ref f)) (hk : PySem.W.keepIn X.K (.ref f) = true) (hb : Binds X.K fd ps ds) (hd : Vals dvs ds) (hx : Passes CX X E)
    (ha : PA X (e :: es) t) (hdb : (x == ("__debug__" : Str)) = false := by decide) (he : starEach (e :: es) X.env = (false, eval e X.env) :: starEach es X.env := by rfl) (hpl : (backTo pos (starEach es X.env)).any (·.1) = false := by rfl) :
    PE X (.Call (.Name x p) (e :: es) [] pos) (tCall sp dvs E t) := by
  intro pins s σ H Q I h
  refine wpAny_Call_Name_kw (ld_glob I hg hm ?_ hdb)
  refine PySem.W.callWith_K (h₀ := X.base) I.ok.mod.kin hk (thn (ha pos pins s σ H _ I h) fun us s1 ⟨vs, H1, I1, r, q⟩ => ⟨I1.kIn, ?_⟩) he hpl
  exact run_fn F hr hb hd hx I1 r q
/-- o.m(e, ..) -/
theorem pe_meth {pl : Sem Bool} (he : PE X o ta) (c : Cls X.K C) (hm : Meth X.K C m f) (F : FnOk X.prog X.w X.K X.mg X.base CX k f fd ps sp) (hr : Room k X.A) (hb : Binds X.K fd ps ds) (hd : Vals dvs ds) (hx : Passes CX X E) (ha : PA X (e :: es) t)
    (hst : starEach (e :: es) X.env = (false, eval e X.env) :: starEach es X.env := by rfl) (hpl : (backTo pos (starEach es X.env)).any (·.1) = false := by rfl)
    (ht : eval (.Call (.Attribute o m apos) (e :: es) [] pos) X.env = (do
      let ov ← eval o X.env
      standAt apos.atName
      let (f, first) ← holding [ov] (getMethod ov m pl)
      callWith pos f first (backTo pos (starEach (e :: es) X.env)) (backToKw pos (keywordEach [] X.env))) := by rfl) :
    PE X (.Call (.Attribute o m apos) (e :: es) [] pos) (tMeth C m sp dvs E ta t) := by
  intro pins s σ H Q I h
  refine PySem.W.methodCall_KW (pl := pl) (thn (he pins s σ H _ I h) fun u s1 ⟨x, H1, I1, rx, a, dx, fs, ex, ea, l, q⟩ => ?_) ht
  subst ex
  obtain rfl : u = Value.ref a := rx
  refine getmeth_ok I1 ea c hm l ?_
  refine PySem.W.callWith_K (first := [.ref a]) (h₀ := X.base) I.ok.mod.kin hm.kp (thn (ha pos pins s1 σ H1 _ I1 q) fun us s2 ⟨vs, H2, I2, r, q2⟩ => ⟨I2.kIn, ?_⟩) hst hpl
  exact run_fn (us := .ref a :: us) (vs := .ref a :: vs) F hr hb hd hx I2 (.cons rfl r) q2
/-- o.m() -/
theorem pe_meth0 {pl : Sem Bool} (he : PE X o ta) (c : Cls X.K C) (hm : Meth X.K C m f) (F : FnOk X.prog X.w X.K X.mg X.base CX k f fd ps sp) (hr : Room k X.A) (hb : Binds X.K fd ps ds) (hd : Vals dvs ds) (hx : Passes CX X E)
    (ht : eval (.Call (.Attribute o m apos) [] [] pos) X.env = (do
      let ov ← eval o X.env
      standAt apos.atName
      let (f, first) ← holding [ov] (getMethod ov m pl)
      callWith pos f first (backTo pos (starEach [] X.env)) (backToKw pos (keywordEach [] X.env))) := by rfl) :
    PE X (.Call (.Attribute o m apos) [] [] pos) (tMeth C m sp dvs E ta tNil) := by
  intro pins s σ H Q I h
  refine PySem.W.methodCall_KW (pl := pl) (thn (he pins s σ H _ I h) fun u s1 ⟨x, H1, I1, rx, a, dx, fs, ex, ea, l, q⟩ => ?_) ht
  subst ex
  obtain rfl : u = Value.ref a := rx
  refine getmeth_ok I1 ea c hm l ?_
  exact PySem.W.callWith_K0 (first := [.ref a]) I1.kIn hm.kp (run_fn (us := [.ref a]) (vs := [.ref a]) F hr hb hd hx I1 (.cons rfl .nil) q)

/-- what a class must have to be made -/
structure Mk (K : PySem.W.Frag) (C f : Addr) : Prop where
  makes : PySem.W.makesIn K C = true
  init : PySem.W.findIn K (.ref C) "__init__" = some (some (.ref f))
  fn : PySem.W.isFn K (.ref f) = true
  kp : PySem.W.keepIn K (.ref C) = true

theorem run_make {pins : List (Addr × Obj)} {σ : St} {H : Hp} {s : Shared} {Q : VK} {us : List Value} {vs : List V} (M : Mk X.K C f) (F : FnOk X.prog X.w X.K X.mg X.base CX k f fd ps sp) (hr : Room (k + 1) X.A) (hb : Binds X.K fd ps ds) (hd : Vals dvs ds)
    (hx : Passes CX X E) (I : Inv X pins σ H s) (r : Vals vs us)
    (h : ∀ x dx, H x = none → H dx = none → dx ≠ x → sp (.ref x :: (vs ++ dvs)) (upd (upd H dx (.own x)) x (.ins C dx [])) (fun v H2 => v = .non ∧ Q (.ref x) H2) E) :
    wpAny (model X.prog X.w) X.A (call (.ref C) us) (EP X pins σ Q) X.xe s := by
  have hq := h (s.heap.objs.size + 1) s.heap.objs.size (I.hok.fresh (Nat.le_succ _)) (I.hok.fresh (Nat.le_refl _)) (Nat.ne_of_lt (Nat.lt_succ_self _))
  have I2 := Inv.made (C := C) I
  have r2 : Vals (V.ref (s.heap.objs.size + 1) :: (vs ++ dvs)) (Value.ref (s.heap.objs.size + 1) :: (us ++ ds)) := .cons rfl (r.append hd)
  have hl : (Value.ref (s.heap.objs.size + 1) :: us ++ ds).length = ps.length := by
    have e := r2.length
    rw [F.len _ _ _ _ hq] at e
    exact e.symm
  refine wpAny_call (make_map (f := f) I.kIn M.makes M.init (beq_iff_eq.mp M.fn) (codeAny_mono (F.run _ X.stack _ _ ⟨Value.ref (s.heap.objs.size + 1) :: us, []⟩ (Value.ref (s.heap.objs.size + 1) :: (us ++ ds)) _ _ E (hr.make C us [])
    (I2.env0.make C us []) (hb _ (Value.ref (s.heap.objs.size + 1) :: us) I2.kIn hl) r2 hq) fun r s' hq' => ?_))
  cases r with
  | error e => exact hx pins σ _ _ e s' I2 hq'
  | ok fl =>
    cases fl with
    | ret u =>
      obtain ⟨v, H', I3, rv, ev, q3⟩ := I2.after hq'
      subst ev
      exact ⟨rv, ⟨V.ref (s.heap.objs.size + 1), H', I3, rfl, q3⟩⟩
    | next => exact False.elim hq'
    | brk => exact False.elim hq'
    | cont => exact False.elim hq'
theorem pe_make (M : Mk X.K C f) (F : FnOk X.prog X.w X.K X.mg X.base CX k f fd ps sp) (hr : Room (k + 1) X.A) (hg : Gl X x) (hm : X.mg x = some (.ref C)) (hb : Binds X.K fd ps ds) (hd : Vals dvs ds) (hx : Passes CX X E)
    (ha : PA X (e :: es) t) (hdb : (x == ("__debug__" : Str)) = false := by decide) (he : starEach (e :: es) X.env = (false, eval e X.env) :: starEach es X.env := by rfl) (hpl : (backTo pos (starEach es X.env)).any (·.1) = false := by rfl) :
    PE X (.Call (.Name x p) (e :: es) [] pos) (tMake C sp dvs E t) := by
  intro pins s σ H Q I h
  refine wpAny_Call_Name_kw (ld_glob I hg hm ?_ hdb)
  refine PySem.W.callWith_K (h₀ := X.base) I.ok.mod.kin M.kp (thn (ha pos pins s σ H _ I h) fun us s1 ⟨vs, H1, I1, r, q⟩ => ⟨I1.kIn, ?_⟩) he hpl
  exact run_make M F hr hb hd hx I1 r q
end

/-! ### keywords -/
section
variable {X : Cx} {CX : CXT} {k : Nat} {f C : Addr} {fd : FuncData} {ps ks : List Str} {sp : Sp} {E : XK} {x m : Str} {p pos apos kpos : Pos} {e o : Expr} {es : List Expr} {kws : List Keyword} {te ta : TE} {t tk : TA} {nm : Option Str}
variable {g : List Value → List Value → List Value} {gV : List V → List V → List V}
end

/-! ### a def's body keeps its promise -/
/-- names: the parameters first -/
structure FnScope (N P : List Str) (sc : Scope) : Prop where
  kind : sc.kind = .function
  co : sc.isCoroutine = false
  gen : sc.isGenerator = false
  nd : N.Nodup
  pre : N.take P.length = P
  par : ∀ x ∈ P, sc.names.lookup x = some .local ∨ sc.names.lookup x = some .cell
  nofree : ∀ y ∈ sc.names, y.2 ≠ .free

theorem bindL_out {kindOf : Str → Option NameKind} {x : Str} : ∀ {binds : List (Str × Value)} {m : Str → Option Value}, (∀ v, (x, v) ∉ binds) → bindL kindOf binds m x = m x
  | [], _, _ => rfl
  | (n, v) :: r, m, h => by
    unfold bindL
    rw [bindL_out fun w hw => h w (List.mem_cons_of_mem _ hw)]
    split
    · have : x ≠ n := by rintro rfl; exact h v List.mem_cons_self
      simp [this]
    · rfl
theorem bindC_out {kindOf : Str → Option NameKind} {x : Str} : ∀ {binds : List (Str × Value)} {m : Str → Option Value}, (∀ v, (x, v) ∉ binds) → bindC kindOf binds m x = m x
  | [], _, _ => rfl
  | (n, v) :: r, m, h => by
    unfold bindC
    rw [bindC_out fun w hw => h w (List.mem_cons_of_mem _ hw)]
    split
    · rfl
    · have : x ≠ n := by rintro rfl; exact h v List.mem_cons_self
      simp [this]
theorem bindL_get {kindOf : Str → Option NameKind} {x : Str} {v : Value} : ∀ {P : List Str} {vs : List Value} {i : Nat} {m : Str → Option Value}, P.Nodup → P[i]? = some x → vs[i]? = some v → kindOf x = some .local →
    bindL kindOf (P.zip vs) m x = some v
  | [], _, _, _, _, h, _, _ => by simp at h
  | _ :: _, [], _, _, _, _, h, _ => by simp at h
  | p :: P, w :: vs, 0, m, nd, h1, h2, hk => by
    simp at h1 h2; subst h1; subst h2
    show bindL kindOf ((p, w) :: P.zip vs) m p = _
    unfold bindL
    rw [bindL_out fun v hv => (List.nodup_cons.mp nd).1 (List.of_mem_zip hv).1, if_pos hk]
    simp
  | p :: P, w :: vs, i + 1, m, nd, h1, h2, hk => by
    show bindL kindOf ((p, w) :: P.zip vs) m x = _
    unfold bindL
    exact bindL_get (i := i) (List.nodup_cons.mp nd).2 (by simpa using h1) (by simpa using h2) hk
theorem bindC_get {kindOf : Str → Option NameKind} {x : Str} {v : Value} : ∀ {P : List Str} {vs : List Value} {i : Nat} {m : Str → Option Value}, P.Nodup → P[i]? = some x → vs[i]? = some v → kindOf x ≠ some .local →
    bindC kindOf (P.zip vs) m x = some v
  | [], _, _, _, _, h, _, _ => by simp at h
  | _ :: _, [], _, _, _, _, h, _ => by simp at h
  | p :: P, w :: vs, 0, m, nd, h1, h2, hk => by
    simp at h1 h2; subst h1; subst h2
    show bindC kindOf ((p, w) :: P.zip vs) m p = _
    unfold bindC
    rw [bindC_out fun v hv => (List.nodup_cons.mp nd).1 (List.of_mem_zip hv).1, if_neg hk]
    simp
  | p :: P, w :: vs, i + 1, m, nd, h1, h2, hk => by
    show bindC kindOf ((p, w) :: P.zip vs) m x = _
    unfold bindC
    exact bindC_get (i := i) (List.nodup_cons.mp nd).2 (by simpa using h1) (by simpa using h2) hk

/-- the names' values at the entry -/
def start (N : List Str) (vs : List V) : St := vs.map some ++ List.replicate (N.length - vs.length) none

/-- the context of a def's body, at its entry; an exception leaves the frame, then lies as CX says -/
def cxOf (CX : CXT) (P : Program) (w : World) (K : PySem.W.Frag) (mg : Str → Option Value) (base : Heap) (N : List Str) (qual : Str) (scope : Scope) (f : Addr) (cd : Value) (A : Around) (outer : List Env) (s : Shared) (H : Hp) (E : XK) : Cx where
  prog := P
  w := w
  K := K
  mg := mg
  base := base
  A := A.deeper (envOfC qual scope s.heap.objs.size f cd)
  N := N
  s₀ := s
  H₀ := H
  env := envOfC qual scope s.heap.objs.size f cd
  outer := outer
  stack := envOfC qual scope s.heap.objs.size f cd :: outer
  ex := []
  calm := true
  fn := fun _ => true
  pn := []
  xe := fun e s' => wpAny (model P w) (A.deeper (envOfC qual scope s.heap.objs.size f cd)) (leaving (envOfC qual scope s.heap.objs.size f cd) e) (fun _ s'' => CX outer H s E e s'') (fun e' s'' => CX outer H s E e' s'') s'

theorem cell_has {sc : Scope} {n : Nat} {x : Str} (h : sc.names.lookup x = some .cell) : ∃ c, (cellsFrom n sc.names []).lookup x = some c := by
  have q := PySem.W.cellsFrom_some sc.names n [] (.inl h)
  exact Option.isSome_iff_exists.mp q

theorem inv_start {CX : CXT} {P : Program} {w : World} {K : PySem.W.Frag} {mg : Str → Option Value} {base : Heap} {N ps : List Str} {qual : Str} {scope : Scope} {f : Addr} {cd : Value} {A : Around} {outer : List Env} {s s1 : Shared} {H : Hp} {E : XK} {us : List Value} {vs : List V}
    {c : Bool} (S : FnScope N ps scope) (hd : c = true → A.handled = none) (hdl : HdX A s.heap H (frs outer) [] []) (e0 : Env0 P w K mg base A outer s H) (hl : vs.length = ps.length) (r : Vals vs us)
    (x : InCallC s s.heap.objs.size (bindL (envOfC qual scope s.heap.objs.size f cd).kindOf (ps.zip us) fun _ => none) (cellsFrom (s.heap.objs.size + 1) scope.names []) (bindC (envOfC qual scope s.heap.objs.size f cd).kindOf (ps.zip us) fun _ => none) s1) :
    Inv { cxOf CX P w K mg base N qual scope f cd A outer s H E with calm := c } [] (start N vs) H s1 := by
  have hpl : ps.length ≤ N.length := by have := congrArg List.length S.pre; rw [List.length_take] at this; omega
  obtain ⟨h1, tk, rfl, hk⟩ := x.done
  have noA : ∀ b : Addr, b ∉ (cxOf CX P w K mg base N qual scope f cd A outer s H E).ex := fun b z => absurd (show b ∈ ([] : List Addr) from z) (by simp)
  refine ⟨⟨e0.mod, S.kind, rfl, rfl, Nat.le_refl _, fun y z c h1 h2 => ?_, fun y hy => ?_, fun y c _ h => ?_, hd, Around.frames_deeper e0.frames, .inr ⟨rfl, rfl⟩, fun b z => absurd z (noA b), e0.bs, e0.bsz, fun b _ _ => noA b, fun b z => absurd z (noA b), e0.funs, e0.frf, hdl⟩,
    rfl, e0.bare, Un.kept hk, ⟨_, x.toInCall.ns, fun i y v h1 h2 h3 => ?_⟩, fun y c h => ⟨_, x.cell y c h⟩, e0.hok.fresh (Nat.le_refl _), fun y c h => ?_, fun p hp => absurd (show p ∈ ([] : List (Addr × Obj)) from hp) (by simp), e0.hok.kept hk, ?_⟩
  · exact name_of_addr x.apart (PySem.mem_of_lookup h1) (PySem.mem_of_lookup h2)
  · have hy : scope.names.lookup y = some .cell ∨ scope.names.lookup y = some .free := hy
    rcases hy with hy | hy
    · exact cell_has hy
    · exact absurd rfl (S.nofree _ (PySem.mem_of_lookup hy))
  · exact Nat.le_of_lt (x.above y c (PySem.mem_of_lookup h))
  · have hi : i < vs.length := by
      unfold start at h2
      by_cases hi : i < vs.length
      · exact hi
      · rw [List.getElem?_append_right (by simpa using hi)] at h2
        rw [List.getElem?_replicate] at h2
        split at h2 <;> cases h2
    have ha : vs[i]? = some v := by
      unfold start at h2
      rw [List.getElem?_append_left (by simpa using hi), List.getElem?_map] at h2
      cases e : vs[i]? with
      | none => rw [e] at h2; cases h2
      | some a => rw [e] at h2; cases h2; rfl
    obtain ⟨u, hu, rv⟩ := r.get ha
    have hp : ps[i]? = some y := by
      rw [← S.pre, List.getElem?_take_of_lt (by omega)]; exact h1
    have ndP : ps.Nodup := by rw [← S.pre]; exact S.nd.sublist (List.take_sublist _ _)
    refine ⟨u, rv, ?_⟩
    rcases S.par y (List.mem_of_getElem? hp) with k | k
    · exact .inl ⟨k, bindL_get ndP hp hu k⟩
    · obtain ⟨c, e⟩ := cell_has (n := s.heap.objs.size + 1) k
      refine .inr ⟨.inl k, c, e, ?_⟩
      have q := x.cell y c e
      rw [bindC_get ndP hp hu (by show scope.names.lookup y ≠ _; rw [k]; decide)] at q
      exact q
  · exact e0.hok.fresh (Nat.le_of_lt (x.above y c (PySem.mem_of_lookup h)))
  · unfold start
    show _ = N.length
    rw [List.length_append, List.length_map, List.length_replicate]
    omega

/-- THE RULE: a def (or a method) of the text, by its body. The body's reading t is chosen for each entry; it is run at the parameters' values -/
theorem fn_of {CX : CXT} {P : Program} {w : World} {K : PySem.W.Frag} {mg : Str → Option Value} {base : Heap} {k : Nat} {f : Addr} {name qual : Str} {params : Arguments} {body : List Stmt} {scope : Scope} {dV kV doc pm cdv ct oc : Value} {an od : Option Addr}
    {osl : Array (Option Value)} {N ps : List Str} {sp : Sp} (lk : K.lookup f = some ⟨oc, od, .func (PySem.W.fnOf name qual params body scope dV kV doc pm an cdv ct), osl⟩) (hcd : PySem.W.codeIn K cdv qual = true) (S : FnScope N ps scope)
    (len : ∀ vs H Q E, sp vs H Q E → vs.length = ps.length)
    (hbody : ∀ (A : Around) (outer : List Env) (s : Shared) (H : Hp) (vs : List V) (Q : VK) (E : XK), Room k (A.deeper (envOfC qual scope s.heap.objs.size f cdv)) → sp vs H Q E →
      ∃ t, PSs (cxOf CX P w K mg base N qual scope f cdv A outer s H E) body t ∧ t { nx := fun _ H' => Q .non H', rt := Q } (start N vs) H) :
    FnOk P w K mg base CX (k + 1) f (PySem.W.fnOf name qual params body scope dV kV doc pm an cdv ct) ps sp := by
  refine ⟨len, fun A outer s H args us vs Q E hr e0 hb r hsp => ?_⟩
  have hl := len _ _ _ _ hsp
  have KX : K.In s.heap := e0.mod.kin.keeps fun b o e => (e0.bs b o e).1
  have lim : s.heap.NoLimit := e0.mod.nolimit.keeps fun b o e => (e0.bs b o e).1
  have hkind : ∀ y ∈ ps.zip us, scope.names.lookup y.1 = some .local ∨ (scope.names.lookup y.1 = some .cell ∧ ((cellsFrom (s.heap.objs.size + 1) scope.names []).lookup y.1).isSome = true) := fun ⟨n, v⟩ hy => by
    rcases S.par n (List.of_mem_zip hy).1 with q | q
    · exact .inl q
    · exact .inr ⟨q, PySem.W.cellsFrom_some _ _ _ (.inl q)⟩
  refine codeAny_call_function hr.depth (KX _ _ lk) rfl S.co S.gen rfl (PySem.W.codeRec_of KX hcd) (hb _ _ _ _ ?_)
  refine wpAny_newFunctionEnv_cells S.kind hkind fun env he s1 x => ?_
  subst he
  refine ⟨lim.keeps x.toInCall.keep, codeAny_func ?_⟩
  obtain ⟨t, ht, hq⟩ := hbody A outer s H vs Q E (hr.deeper _) hsp
  have I : Inv (cxOf CX P w K mg base N qual scope f cdv A outer s H E) [] (start N vs) H s1 := inv_start (c := true) S (fun _ => hr.hd) (.inl hr.hd) e0 hl r x
  refine wpAny_mono (ht [] s1 (start N vs) H _ I hq) (fun fl s' hs => ?_) fun e s' hs => hs
  have fin : ∀ {σ' : St} {H' : Hp} {v : V} {u : Value}, Inv (cxOf CX P w K mg base N qual scope f cdv A outer s H E) [] σ' H' s' → RelV v u → Q v H' → CE outer P w H s Q u s' :=
    fun {σ' H' v u} J rv q => ⟨v, H', J.os, J.bare, J.base, J.hok, rv, q⟩
  cases fl with
  | ret u =>
    obtain ⟨v, σ', H', J, rv, q⟩ := hs
    exact fin J rv q
  | next =>
    obtain ⟨σ', H', J, q⟩ := hs
    exact fin (v := V.non) (u := Value.none) J rfl q
  | brk =>
    obtain ⟨_, _, _, q⟩ := hs
    exact False.elim q
  | cont =>
    obtain ⟨_, _, _, q⟩ := hs
    exact False.elim q
end L2

namespace L2
open PySem PySem.Spec PyProof.Rows
section
variable {X : Cx} {x : Str} {p pos : Pos} {e : Expr} {es : List Expr} {t : TA} {id T : String} {r : List V → Hp → VK → Prop}

def tCB (r : List V → Hp → VK → Prop) (t : TA) : TE := fun σ H Q => t σ H fun vs H1 => r vs H1 Q
/-- f(e, ..), f a built-in function -/
theorem pe_callB (hc : CallR X (.builtin id) r) (hg : Gl X x) (hm : X.mg x = none) (hv : bootBuiltins x = some (.builtin id)) (ha : PA X (e :: es) t) (hn : x ≠ "__name__" := by decide) (hdb : (x == ("__debug__" : Str)) = false := by decide)
    (he : starEach (e :: es) X.env = (false, eval e X.env) :: starEach es X.env := by rfl) (hpl : (backTo pos (starEach es X.env)).any (·.1) = false := by rfl) : PE X (.Call (.Name x p) (e :: es) [] pos) (tCB r t) := by
  intro pins s σ H Q I h
  refine wpAny_Call_Name_kw (ld_blt I hg hm hv ?_ hn hdb)
  exact PyProof.Rows.callWith_builtin1 (thn (ha pos pins s σ H _ I h) fun us s1 ⟨vs, H1, I1, r1, q1⟩ => hc pins s1 σ H1 vs us Q I1 r1 q1) he hpl
/-- T(e, ..), T a built-in type -/
theorem pe_callTy (hc : CallR X (.type T) r) (hg : Gl X x) (hm : X.mg x = none) (hv : bootBuiltins x = some (.type T)) (ha : PA X (e :: es) t) (hn : x ≠ "__name__" := by decide) (hdb : (x == ("__debug__" : Str)) = false := by decide)
    (he : starEach (e :: es) X.env = (false, eval e X.env) :: starEach es X.env := by rfl) (hpl : (backTo pos (starEach es X.env)).any (·.1) = false := by rfl) : PE X (.Call (.Name x p) (e :: es) [] pos) (tCB r t) := by
  intro pins s σ H Q I h
  refine wpAny_Call_Name_kw (ld_blt I hg hm hv ?_ hn hdb)
  exact PyProof.Rows.callWith_type1 (thn (ha pos pins s σ H _ I h) fun us s1 ⟨vs, H1, I1, r1, q1⟩ => hc pins s1 σ H1 vs us Q I1 r1 q1) he hpl
end
end L2

namespace HT
open PySem PyProof.Rows

section
open PySem.SeqAt
open PySem.AutoSeq1 (wpAny_loadPart')
open PySem.MeetsSeq PySem.MeetsSeq2 PySem.MeetsSeq3

end

section
variable {prog : Program} {w : World} {A : Around} {E : Value → Shared → Prop} {s : Shared}

/-! ### t[a:b], not the whole -/
/-- a slice's bound as a place among n (d where it is left out) -/
def sIx (n d : Nat) : Option Int → Nat
  | none => d
  | some v => if v < 0 then (v + (n : Int)).toNat else min v.toNat n
end
end HT

namespace L2
open PySem PySem.Spec PyProof.Rows

/-! ### the parts of a slice -/
abbrev TO := St → Hp → (Option Int → Hp → Prop) → Prop
/-- a slice's part (left out, or an int) -/
def PO (X : Cx) (e : Option Expr) (t : TO) : Prop :=
  ∀ (pins : List (Addr × Obj)) (s : Shared) (σ : St) (H : Hp) (Q : Option Int → Hp → Prop), Inv X pins σ H s → t σ H Q →
    wpAny (model X.prog X.w) X.A (evalPart e X.env) (fun u s' => ∃ o H', Inv X pins σ H' s' ∧ IsPart u o ∧ Q o H') X.xe s
def tNoPart : TO := fun _ H Q => Q none H
def tPart (t : TE) : TO := fun σ H Q => t σ H fun x H1 => ∃ i, x = .int i ∧ Q (some i) H1

section
variable {X : Cx} {e : Expr} {te : TE} {lo hi : Option Expr} {tl th : TO} {pos p2 : Pos}

theorem po_none : PO X none tNoPart := by
  intro pins s σ H Q I h
  rw [evalPart_none]
  exact wpAny_pure ⟨none, H, I, .none, h⟩
theorem po_some (h : PE X e te) : PO X (some e) (tPart te) := by
  intro pins s σ H Q I hw
  rw [evalPart_some]
  refine thn (h pins s σ H _ I hw) fun u s1 ⟨x, H1, I1, r1, q1⟩ => ?_
  obtain ⟨i, rfl, q⟩ := q1
  obtain ⟨t, rfl⟩ := r1
  exact ⟨some i, H1, I1, .int i t, q⟩

/-- what a slice of a value is, by values: the slice object stands at sl -/
def SlR (X : Cx) (r : V → Option Int → Option Int → Hp → VK → Prop) : Prop :=
  ∀ (pins : List (Addr × Obj)) (s : Shared) (σ : St) (H : Hp) (x : V) (v vl vu : Value) (lo hi : Option Int) (sl : Addr) (Q : VK), Inv X pins σ H s → RelV x v → s.heap.IsSliceOf sl vl vu .none → IsPart vl lo → IsPart vu hi → r x lo hi H Q →
    ∃ T id, typeLookup (.type T) "__getitem__" = pure (some (.builtin id)) ∧ s.TypeIs v T ∧ wpAny (model X.prog X.w) X.A (getItem v (.ref sl)) (EP X pins σ Q) X.xe s
def tSl (r : V → Option Int → Option Int → Hp → VK → Prop) (te : TE) (tl th : TO) : TE := fun σ H Q => te σ H fun x H1 => tl σ H1 fun l H2 => th σ H2 fun u H3 => r x l u H3 Q
/-- a[lo:hi], any a -/
theorem pe_slice {r : V → Option Int → Option Int → Hp → VK → Prop} (hr : SlR X r) (he : PE X e te) (hl : PO X lo tl) (hu : PO X hi th) : PE X (.Subscript e (.Slice lo hi none p2) pos) (tSl r te tl th) := by
  intro pins s σ H Q I h
  refine Subscript_ (thn (he pins s σ H _ I h) fun v s1 ⟨x, H1, I1, r1, q1⟩ => ?_)
  refine wpAny_Slice (thn (hl pins s1 σ H1 _ I1 q1) fun vl s2 ⟨l, H2, I2, pl, q2⟩ => thn (hu pins s2 σ H2 _ I2 q2) fun vu s3 ⟨u, H3, I3, pu, q3⟩ => ?_)
  rw [evalPart_none]
  refine wpAny_pure ?_
  have I4 : Inv X pins σ H3 { s3 with heap := s3.heap.push { cls := .type "slice", data := .fields #[vl, vu, .none] } } := I3.kept (t' := s3.toks) fun b ob q => Heap.get?_push_of_some _ q
  obtain ⟨T, id, hT, ht, hg⟩ := hr pins { s3 with heap := s3.heap.push { cls := .type "slice", data := .fields #[vl, vu, .none] } } σ H3 x v vl vu l u s3.heap.objs.size Q I4 r1 (Heap.IsSliceOf.new ..) pl pu q3
  show wpAny (model X.prog X.w) X.A (subscriptTail e (.Slice lo hi none p2) v (.ref s3.heap.objs.size)) (EP X pins σ Q) X.xe { s3 with heap := s3.heap.push { cls := .type "slice", data := .fields #[vl, vu, .none] } }
  exact tail_any (ops := [.ref s3.heap.objs.size, v]) ht hT hg (by with_unfolding_all rfl)

/-- the items of xs[lo:hi] -/
def cutV (xs : List V) (lo hi : Option Int) : List V := (xs.drop (HT.sIx xs.length 0 lo)).take (HT.sIx xs.length xs.length hi - HT.sIx xs.length 0 lo)
theorem cutV_length (xs : List V) (lo hi : Option Int) : (cutV xs lo hi).length ≤ xs.length := by
  unfold cutV
  rw [List.length_take, List.length_drop]
  omega
/-! ### t < u, t + u -/
end
end L2

namespace L2
open PySem PySem.Spec PyProof.Rows

/-! ### places -/
/-- the place that an index of any sign means -/
def ixN (n : Nat) (i : Int) : Option Nat := if 0 ≤ i then (if i < n then some i.toNat else none) else if -(n : Int) ≤ i then some (i + n).toNat else none
def atI {α : Type} (xs : List α) (i : Int) : Option α := (ixN xs.length i).bind fun j => xs[j]?
theorem ixN_seq {n : Nat} {i : Int} {j : Nat} (h : ixN n i = some j) : seqIndex? i n = some j ∧ j < n ∧ -(n : Int) ≤ i ∧ i < n := by
  unfold ixN at h
  by_cases h0 : 0 ≤ i
  · rw [if_pos h0] at h
    by_cases h1 : i < n
    · rw [if_pos h1] at h
      have e : i.toNat = j := Option.some.inj h
      exact ⟨by rw [seqIndex_of h0 h1, e], by omega, by omega, h1⟩
    · rw [if_neg h1] at h; cases h
  · rw [if_neg h0] at h
    by_cases h1 : -(n : Int) ≤ i
    · rw [if_pos h1] at h
      have e : (i + n).toNat = j := Option.some.inj h
      exact ⟨by rw [seqIndex_neg (by omega) h1, e], by omega, h1, by omega⟩
    · rw [if_neg h1] at h; cases h
theorem atI_get {α : Type} {xs : List α} {i : Int} {v : α} (h : atI xs i = some v) : ∃ j, seqIndex? i xs.length = some j ∧ xs[j]? = some v ∧ j < xs.length ∧ -(xs.length : Int) ≤ i ∧ i < xs.length := by
  unfold atI at h
  cases e : ixN xs.length i with
  | none => rw [e] at h; cases h
  | some j =>
    rw [e] at h
    obtain ⟨h1, h2, h3, h4⟩ := ixN_seq e
    exact ⟨j, h1, h, h2, h3, h4⟩
theorem atI_nat {α : Type} {xs : List α} {j : Nat} {v : α} (h : xs[j]? = some v) : atI xs (j : Int) = some v := by
  have hj : j < xs.length := (List.getElem?_eq_some_iff.mp h).1
  have e : ixN xs.length (j : Int) = some j := by
    unfold ixN
    rw [if_pos (by omega), if_pos (by omega)]; simp
  unfold atI; rw [e]; exact h
theorem atI_last {α : Type} (xs : List α) (v : α) : atI (xs ++ [v]) (-1) = some v := by
  have hl : (xs ++ [v]).length = xs.length + 1 := by simp
  have e : ixN (xs ++ [v]).length (-1) = some xs.length := by
    unfold ixN
    rw [hl, if_neg (by decide), if_pos (by omega)]
    congr 1
    omega
  unfold atI
  rw [e]
  show (xs ++ [v])[xs.length]? = some v
  simp

/-! ### what may be subscripted -/
/-- what stands as an index of a plain subscript -/
def PlainIx (b : Expr) : Prop := ∀ o i, subscripted b false o i = operate [o, i] (getItem o i)
/-- a subscript by values -/
def IxR (X : Cx) (r : R2) : Prop :=
  ∀ (value slice : Expr) (pins : List (Addr × Obj)) (s : Shared) (σ : St) (H : Hp) (x y : V) (v u : Value) (Q : VK), Inv X pins σ H s → RelV x v → RelV y u → r x y H Q →
    subscripted slice false v u = operate [v, u] (getItem v u) → wpAny (model X.prog X.w) X.A (subscriptTail value slice v u) (EP X pins σ Q) X.xe s
/-- a call of a builtin's method by values: the receiver, the arguments -/
def MtR (X : Cx) (id : String) (r : V → List V → Hp → VK → Prop) : Prop :=
  ∀ (pins : List (Addr × Obj)) (s : Shared) (σ : St) (H : Hp) (x : V) (xs : List V) (v : Value) (us : List Value) (Q : VK), Inv X pins σ H s → RelV x v → Vals xs us → r x xs H Q →
    wpAny (model X.prog X.w) X.A (call (.builtin id) (v :: us)) (EP X pins σ Q) X.xe s
section
variable {X : Cx} {a b : Expr} {ta tb : TE} {pos : Pos}
/-- a[b] -/
theorem pe_ix {r : R2} (hr : IxR X r) (ha : PE X a ta) (hb : PE X b tb) (hs : PlainIx b) : PE X (.Subscript a b pos) (tOp r ta tb) := by
  intro pins s σ H Q I h
  exact Subscript_ (binT ha hb I h fun v u s2 x y H2 I2 rx ry q => hr a b pins s2 σ H2 x y v u Q I2 rx ry q (hs _ _))

inductive XIxL (K : PySem.W.Frag) (x y : V) (H : Hp) (Q : VK) : Prop
  | mk (p : Addr) (xs : List V) (i : Int) (v : V) (ex : x = .ref p) (ey : y = .int i) (s : SqL K H p xs) (a : atI xs i = some v) (q : Q v H)
def rIxL (K : PySem.W.Frag) : R2 := fun x y H Q => XIxL K x y H Q
inductive XIxT (K : PySem.W.Frag) (x y : V) (H : Hp) (Q : VK) : Prop
  | mk (p : Addr) (xs : List V) (i : Int) (v : V) (ex : x = .ref p) (ey : y = .int i) (s : SqT K H p xs) (a : atI xs i = some v) (q : Q v H)
def rIxT (K : PySem.W.Frag) : R2 := fun x y H Q => XIxT K x y H Q
theorem ix_list : IxR X (rIxL X.K) := by
  intro value slice pins s σ H x y v u Q I rx ry h hs
  obtain ⟨p, xs, i, z, rfl, rfl, hq, he, q⟩ := h
  cases rx
  obtain ⟨t, rfl⟩ := ry
  obtain ⟨its, r, pl, hz⟩ := I.list hq
  obtain ⟨j, h1, h2, h3, h4, h5⟩ := atI_get he
  obtain ⟨w, ew, rw'⟩ := r.get h2
  have hl := r.length
  have hn := line63
  have fin : EP X pins σ Q w s := ⟨z, H, I, rw', q⟩
  by_cases h0 : 0 ≤ i
  · have hj : i.toNat = j := by
      rw [seqIndex_of h0 h5] at h1
      exact Option.some.inj h1
    exact item_listR pl.isList h0 (by omega) (by rw [hj]; simpa using ew) fin hs
  · have hj : (i + (its.toArray.size : Int)).toNat = j := by
      rw [seqIndex_neg (by omega) h4] at h1
      rw [List.size_toArray, ← hl]
      exact Option.some.inj h1
    exact subscriptTail_builtinR (x := w) pl.isList.typeIs slot_list_getitem.lookup
      (wpAny_getItem_list_neg (Q := fun r s' => r = w ∧ EP X pins σ Q r s') pl.isList (by omega) (by rw [List.size_toArray] <;> omega) (by omega) (by rw [hj]; simpa using ew) ⟨rfl, fin⟩) hs
theorem ix_tup : IxR X (rIxT X.K) := by
  intro value slice pins s σ H x y v u Q I rx ry h hs
  obtain ⟨p, xs, i, z, rfl, rfl, hq, he, q⟩ := h
  cases rx
  obtain ⟨t, rfl⟩ := ry
  obtain ⟨its, r, pl, hz⟩ := I.tuple hq
  obtain ⟨j, h1, h2, h3, h4, h5⟩ := atI_get he
  obtain ⟨w, ew, rw'⟩ := r.get h2
  have hl := r.length
  have hn := line63
  have fin : EP X pins σ Q w s := ⟨z, H, I, rw', q⟩
  exact subscriptTail_builtinR (x := w) pl.typeIs slot_tuple_getitem.lookup
    (getItem_tuple (j := j) (Q := fun r s' => r = w ∧ EP X pins σ Q r s') pl (by omega) (by omega) (by rw [List.size_toArray, ← hl]; exact h1) (by simpa using ew) ⟨rfl, fin⟩) hs
/-! ### xs[i] = v, any sign -/
/-! ### slices -/
theorem slice_bounds (lo hi : Option Int) (n : Nat) : (sliceBounds lo hi none n).1 = ((HT.sIx n 0 lo : Nat) : Int) ∧ (sliceBounds lo hi none n).2.1 = ((HT.sIx n n hi : Nat) : Int) ∧ (sliceBounds lo hi none n).2.2 = 1 := by
  refine ⟨?_, ?_, rfl⟩
  · cases lo with
    | none => simp [sliceBounds, HT.sIx]
    | some i =>
      simp only [sliceBounds, HT.sIx, Option.getD_none, show (1 : Int) > 0 by decide, if_true]
      by_cases h : i < 0
      · simp only [h, if_true] <;> omega
      · simp only [h, if_false] <;> omega
  · cases hi with
    | none => simp [sliceBounds, HT.sIx]
    | some i =>
      simp only [sliceBounds, HT.sIx, Option.getD_none, show (1 : Int) > 0 by decide, if_true]
      by_cases h : i < 0
      · simp only [h, if_true] <;> omega
      · simp only [h, if_false] <;> omega
theorem slicePick_cut (its : List Value) (lo hi : Option Int) : slicePick its.toArray lo hi none = ((its.drop (HT.sIx its.length 0 lo)).take (HT.sIx its.length its.length hi - HT.sIx its.length 0 lo)).toArray := by
  obtain ⟨h1, h2, h3⟩ := slice_bounds lo hi its.toArray.size
  unfold slicePick
  rw [h1, h2, h3]
  simp only [sliceRange_one, pick_run, List.size_toArray] <;> rfl
/-- xs[lo:hi] of a list: a new list -/
def rSlL (K : PySem.W.Frag) : V → Option Int → Option Int → Hp → VK → Prop := fun x lo hi H Q => ∃ a xs, x = .ref a ∧ SqL K H a xs ∧ ∀ p, H p = none → Q (.ref p) (upd H p (.lst (cutV xs lo hi)))
theorem sl_list : SlR X (rSlL X.K) := by
  intro pins s σ H x v vl vu lo hi sl Q I rx hs pl pu h
  obtain ⟨a, xs, rfl, hx, q⟩ := h
  cases rx
  obtain ⟨its, r, ht, hz⟩ := I.list hx
  have hlen := r.length
  refine ⟨"list", _, slot_list_getitem.lookup, ht.isList.typeIs, ?_⟩
  refine wpAny_getItem_list_slice ht.isList hs pl pu .none (by simp) ?_ (by rw [List.size_toArray] <;> omega)
  rw [slicePick_cut, ← hlen]
  refine ⟨.ref s.heap.objs.size, _, I.laid (t' := s.toks) (o := .lst (cutV xs lo hi)) (fun b ob q => Heap.get?_push_of_some _ q) (Nat.le_refl _) ?_, rfl, q _ (I.hok.fresh (Nat.le_refl _))⟩
  exact ⟨Nat.le_trans (cutV_length xs lo hi) hz, _, 0, (r.drop (HT.sIx xs.length 0 lo)).take (HT.sIx xs.length xs.length hi - HT.sIx xs.length 0 lo), Heap.get?_push_size _ rfl⟩

/-! ### in, not in: flat items -/
/-! ### len, list(x), tuple(x) of any list or tuple that is read -/
inductive XLen (K : PySem.W.Frag) (xs : List V) (H : Hp) (Q : VK) : Prop
  | mk (p : Addr) (ys : List V) (e : xs = [.ref p]) (s : SqL K H p ys ∨ SqT K H p ys) (q : Q (.int ys.length) H)
theorem call_len_seq : CallR X (.builtin "len") (fun xs H Q => XLen X.K xs H Q) := by
  intro pins s σ H xs us Q I r h
  obtain ⟨p, ys, rfl, hq, q⟩ := h
  obtain ⟨u, rfl, rx⟩ := vals1 r
  cases rx
  have hn := line63
  rcases hq with hq | hq
  · obtain ⟨its, r', pl, hz⟩ := I.list hq
    have hlen := r'.length
    exact Calls.call_len_list pl.isList (by simp only [List.size_toArray] <;> omega) ⟨.int ys.length, H, I.tok _, ⟨s.toks + 1, by rw [List.size_toArray, hlen]⟩, q⟩
  · obtain ⟨its, r', pl, hz⟩ := I.tuple hq
    have hlen := r'.length
    exact len_tuple pl (by simp only [List.size_toArray] <;> omega) ⟨.int ys.length, H, I.tok _, ⟨s.toks + 1, by rw [List.size_toArray, hlen]⟩, q⟩
inductive XList (K : PySem.W.Frag) (xs : List V) (H : Hp) (Q : VK) : Prop
  | mk (p : Addr) (ys : List V) (e : xs = [.ref p]) (s : SqL K H p ys ∨ SqT K H p ys) (q : ∀ l, H l = none → Q (.ref l) (upd H l (.lst ys)))
theorem call_list_of : CallR X (.type "list") (fun xs H Q => XList X.K xs H Q) := by
  intro pins s σ H xs us Q I r h
  obtain ⟨p, ys, rfl, hq, q⟩ := h
  obtain ⟨u, rfl, rx⟩ := vals1 r
  cases rx
  have fin : ∀ (its : List Value), Vals ys its → ys.length ≤ sizeLine → ∀ (h' : Heap) (c' : Nat), (∀ b o', s.heap.get? b = some o' → h'.get? b = some o') →
      h'.get? s.heap.objs.size = some { cls := .type "list", dict := none, data := .seq its.toArray c', slots := #[] } → EP X pins σ Q (.ref s.heap.objs.size) { s with heap := h' } := fun its r' hz h' c' kp e =>
    ⟨.ref s.heap.objs.size, _, I.laid (t' := s.toks) kp (Nat.le_refl _) (show ObjOk X.prog X.w _ h' _ (.lst ys) from ⟨hz, its, c', r', e⟩), rfl, q _ (I.hok.fresh (Nat.le_refl _))⟩
  rcases hq with hq | hq
  · obtain ⟨its, r', pl, hz⟩ := I.list hq
    have hlen := r'.length
    obtain ⟨o, ho, hc, n, hd⟩ := pl.isList
    exact call_list_seq p (.inl rfl) ho hc hd (fun h' c' kp e => fin its r' hz h' c' kp e) (by simp only [List.size_toArray] <;> omega)
  · obtain ⟨its, r', pl, hz⟩ := I.tuple hq
    have hlen := r'.length
    obtain ⟨o, ho, hc, n, hd⟩ := pl
    exact call_list_seq p (.inr rfl) ho hc hd (fun h' c' kp e => fin its r' hz h' c' kp e) (by simp only [List.size_toArray] <;> omega)
theorem call_tuple_of : CallR X (.type "tuple") (fun xs H Q => ∃ p ys, xs = [.ref p] ∧ ((SqL X.K H p ys ∧ ∀ l, H l = none → Q (.ref l) (upd H l (.tup ys))) ∨ (SqT X.K H p ys ∧ Q (.ref p) H))) := by
  intro pins s σ H xs us Q I r h
  obtain ⟨p, ys, rfl, h⟩ := h
  obtain ⟨u, rfl, rx⟩ := vals1 r
  cases rx
  rcases h with ⟨hq, q⟩ | ⟨hq, q⟩
  · obtain ⟨its, r', pl, hz⟩ := I.list hq
    have hlen := r'.length
    refine call_tuple_list pl.isList (fun h' kp => ?_) (by simp only [List.size_toArray] <;> omega)
    have I1 : Inv X pins σ H { s with heap := h' } := I.kept (t' := s.toks) kp
    have I2 : Inv X pins σ (upd H h'.objs.size (.tup ys)) { s with heap := h'.push { cls := .type "tuple", data := .seq its.toArray } } :=
      I1.laid (t' := s.toks) (fun b o e => Heap.get?_push_of_some _ e) (Nat.le_refl _) (show ObjOk X.prog X.w _ _ _ (.tup ys) from ⟨hz, its, r', IsTup.new _ _⟩)
    exact ⟨.ref h'.objs.size, _, I2, rfl, q _ (I1.hok.fresh (Nat.le_refl _))⟩
  · obtain ⟨its, r', pl, hz⟩ := I.tuple hq
    exact call_tuple_same pl ⟨.ref p, H, I, rfl, q⟩

/-! ### the call of a builtin's method: o.m(..) -/
/-- the value is of that builtin type -/
def tyV (K : PySem.W.Frag) (T : String) (x : V) (H : Hp) : Prop := match x with
  | .str _ => T = "str"
  | .int _ => T = "int"
  | .ref p => (T = "list" ∧ ∃ xs, SqL K H p xs) ∨ (T = "tuple" ∧ ∃ o, K.lookup p = some o ∧ o.cls = .type "tuple" ∧ o.dict = none) ∨
      (T = "dict" ∧ ((∃ kvs, H p = some (.dK kvs)) ∨ ∃ kvs, H p = some (.dT kvs))) ∨ (T = "set" ∧ ∃ S n, H p = some (.set S n))
  | _ => False
theorem tyV_is {pins : List (Addr × Obj)} {σ : St} {H : Hp} {s : Shared} {T : String} {x : V} {v : Value} (I : Inv X pins σ H s) (r : RelV x v) (ty : tyV X.K T x H) :
    s.TypeIs v T ∧ ∀ a, v = .ref a → ∃ ob, s.heap.get? a = some ob ∧ ob.dict = none := by
  cases x with
  | str z =>
    obtain ⟨t, rfl⟩ := r
    cases (show T = "str" from ty)
    exact ⟨typeIs_str s z t, fun _ e => nomatch e⟩
  | int i =>
    obtain ⟨t, rfl⟩ := r
    cases (show T = "int" from ty)
    exact ⟨typeIs_int s i t, fun _ e => nomatch e⟩
  | ref p =>
    cases r
    rcases ty with ⟨rfl, xs, hq⟩ | ⟨rfl, o, hk, hc, hd⟩ | ⟨rfl, hk⟩ | ⟨rfl, S, n, hk⟩
    · obtain ⟨its, _, pl, _⟩ := I.list hq
      refine ⟨pl.isList.typeIs, fun a e => ?_⟩
      cases e
      obtain ⟨o, n, e, c, hd, _⟩ := pl
      exact ⟨o, e, hd⟩
    · refine ⟨⟨o, I.kIn p o hk, hc⟩, fun a e => ?_⟩
      cases e
      exact ⟨o, I.kIn _ o hk, hd⟩
    · have z : ∃ o, s.heap.get? p = some o ∧ o.ExactDict := by
        rcases hk with ⟨kvs, hk⟩ | ⟨kvs, hk⟩
        · obtain ⟨_, _, _, _, o, _, _, e, ex, _⟩ := I.hok p _ hk
          exact ⟨o, e, ex⟩
        · obtain ⟨_, _, _, _, o, _, _, e, ex, _⟩ := I.hok p _ hk
          exact ⟨o, e, ex⟩
      obtain ⟨o, e, ex⟩ := z
      refine ⟨⟨o, e, ex.1⟩, fun a e2 => ?_⟩
      cases e2
      exact ⟨o, e, ex.2.1⟩
    · obtain ⟨o, _, _, _, e, ex, _⟩ := I.hok p _ hk
      refine ⟨⟨o, e, ex.1⟩, fun a e2 => ?_⟩
      cases e2
      exact ⟨o, e, ex.2.1⟩
  | _ => exact False.elim ty
def tBM0 (K : PySem.W.Frag) (T : String) (r : V → List V → Hp → VK → Prop) (to : TE) : TE := fun σ H Q => to σ H fun x H1 => tyV K T x H1 ∧ r x [] H1 Q
def tBM (K : PySem.W.Frag) (T : String) (r : V → List V → Hp → VK → Prop) (to : TE) (t : TA) : TE := fun σ H Q => to σ H fun x H1 => tyV K T x H1 ∧ t σ H1 fun xs H2 => r x xs H2 Q
variable {o e : Expr} {es : List Expr} {to : TE} {t : TA} {name : Str} {apos cpos : Pos} {T id : String} {r : V → List V → Hp → VK → Prop}
theorem pe_bm0 (pa : PlainAttrs T) (slot : Slot T name id) (hty : typeOf (.builtin id) = pure (.type "method_descriptor")) (hm : MtR X id r) (ho : PE X o to)
    (hbase : attributeBase o name X.env (eval o X.env) = eval o X.env := by rfl) (hline : (apos.endLine == cpos.line) = true := by rfl) : PE X (.Call (.Attribute o name apos) [] [] cpos) (tBM0 X.K T r to) := by
  intro pins s σ H Q I h
  refine wpAny_Call_method0_late hbase hline (thn (ho pins s σ H _ I h) fun v s1 ⟨x, H1, I1, r1, ty, q1⟩ => ?_)
  obtain ⟨h1, h2⟩ := tyV_is I1 r1 ty
  exact ⟨T, id, pa, slot, hty, h1, h2, Calls.callWith_builtin rfl (PySem.evalArgs_none (hm pins s1 σ H1 x [] v [] Q I1 r1 .nil q1))⟩
theorem pe_bm (pa : PlainAttrs T) (slot : Slot T name id) (hty : typeOf (.builtin id) = pure (.type "method_descriptor")) (hm : MtR X id r) (ho : PE X o to) (ha : PA X (e :: es) t)
    (hbase : attributeBase o name X.env (eval o X.env) = eval o X.env := by rfl)
    (hfew : ((backTo cpos (starEach (e :: es) X.env)).all (fun x => !x.1) && (backToKw cpos (keywordEach [] X.env)).all (fun x => x.1.isSome)
      && decide ((e :: es).length + ([] : List Keyword).length + (if ([] : List Keyword).isEmpty then 0 else 1) < 30)) = true := by rfl)
    (hline : (apos.endLine == cpos.line) = true := by rfl) (hs : starEach (e :: es) X.env = (false, eval e X.env) :: starEach es X.env := by rfl) (hplain : (backTo cpos (starEach es X.env)).any (·.1) = false := by rfl) :
    PE X (.Call (.Attribute o name apos) (e :: es) [] cpos) (tBM X.K T r to t) := by
  intro pins s σ H Q I h
  refine wpAny_Call_method_late hbase hfew hline rfl (thn (ho pins s σ H _ I h) fun v s1 ⟨x, H1, I1, r1, ty, q1⟩ => ?_)
  obtain ⟨h1, h2⟩ := tyV_is I1 r1 ty
  refine ⟨T, id, pa, slot, hty, h1, h2, ?_⟩
  have hA := ha cpos pins s1 σ H1 _ I1 q1
  rw [hs] at hA ⊢
  refine Calls.callWith_builtin (by show (false || (backTo cpos (starEach es X.env)).any (·.1)) = false; rw [hplain] <;> rfl) (Calls.evalArgs_plain ?_)
  exact thn hA fun us s2 ⟨vs, H2, I2, r2, q2⟩ => hm pins s2 σ H2 x vs v us Q I2 r1 r2 q2
/- xs.append(e), list.index on a module's tuple .. are MtR facts of 06m -/
end
end L2

namespace L2
open PySem PySem.Spec PyProof.Rows

def MtM (X : Cx) (id : String) (r : V → List V → Hp → VK → Prop) : Prop :=
  ∀ (pins : List (Addr × Obj)) (s : Shared) (σ : St) (H : Hp) (x : V) (xs : List V) (v : Value) (us : List Value) (Q : VK), Inv X pins σ H s → RelV x v → Vals xs us → r x xs H Q →
    wpAny (model X.prog X.w) X.A (call (.builtin id) (v :: us)) (EP X pins σ Q) X.xe s

/-! ### lists of values -/
theorem Vals.one : ∀ {x : V} {us : List Value}, Vals [x] us → ∃ u, us = [u] ∧ RelV x u
  | _, _, .cons r .nil => ⟨_, rfl, r⟩
theorem Vals.zero : ∀ {us : List Value}, Vals [] us → us = []
  | _, .nil => rfl
theorem Vals.reverse {xs : List V} {us : List Value} (h : Vals xs us) : Vals xs.reverse us.reverse := by
  induction h with
  | nil => exact .nil
  | cons r t ih => rw [List.reverse_cons, List.reverse_cons]; exact Vals.append ih (.cons r .nil)
section
variable {X : Cx} {pins : List (Addr × Obj)} {σ : St} {H : Hp} {s : Shared} {l b : Addr} {xs ys zs : List V}

/-! ### the two steps: a tracked list is rewritten, a new list is laid -/
theorem Inv.lset {its its' : List Value} {n : Nat} {f : Array Value → Array Value} {t' : Nat} (I : Inv X pins σ H s) (hH : H l = some (.lst xs))
    (e : s.heap.get? l = some { cls := .type "list", data := .seq its.toArray n }) (hf : f its.toArray = its'.toArray) (hv : Vals ys its') (hz : ys.length ≤ sizeLine) :
    Inv X pins σ (upd H l (.lst ys)) { s with heap := s.heap.update l (Obj.mapSeq f), toks := t' } := by
  have q := PySem.IsL.update e f
  rw [hf] at q
  refine I.write (x := l) (e := l) (by rw [hH]; exact trivial) (.inl rfl) (fun b' u hb hu => (Heap.get?_update_other s.heap (Obj.mapSeq f) (Ne.symm hb)).trans hu) ⟨_, q⟩ ?_
  exact ⟨hz, its', _, hv, q⟩
theorem Inv.lnew {its : List Value} {t' : Nat} (I : Inv X pins σ H s) (hv : Vals ys its) (hz : ys.length ≤ sizeLine) :
    Inv X pins σ (upd H s.heap.objs.size (.lst ys)) { s with heap := s.heap.push { cls := .type "list", data := .seq its.toArray }, toks := t' } :=
  I.laid (fun _ _ q => Heap.get?_push_of_some _ q) (Nat.le_refl _) ⟨hz, its, 0, hv, Heap.get?_push_size _ rfl⟩
theorem Inv.fresh (I : Inv X pins σ H s) : H s.heap.objs.size = none := I.hok.fresh (Nat.le_refl _)
theorem Inv.lstM (I : Inv X pins σ H s) (hH : H l = some (.lst xs)) : xs.length ≤ sizeLine ∧ ∃ (its : List Value) (n : Nat), Vals xs its ∧ xs.length = its.length ∧ s.heap.get? l = some { cls := .type "list", data := .seq its.toArray n } := by
  obtain ⟨z, its, n, r, e⟩ := I.hok l _ hH
  exact ⟨z, its, n, r, r.length, e⟩

end

section
variable {X : Cx}

/-! ### methods -/
inductive XApp (x : V) (vs : List V) (H : Hp) (Q : VK) : Prop
  | mk (l : Addr) (xs : List V) (y : V) (ex : x = .ref l) (ev : vs = [y]) (h : H l = some (.lst xs)) (z : xs.length < sizeLine) (q : Q .non (upd H l (.lst (xs ++ [y]))))
def rAppend : V → List V → Hp → VK → Prop := fun x vs H Q => XApp x vs H Q
theorem mt_append : MtM X "list.append" rAppend := by
  intro pins s σ H x vs v us Q I rx rv h
  obtain ⟨l, xs, y, rfl, rfl, hH, hz, q⟩ := h
  cases rx
  obtain ⟨u, rfl, ru⟩ := rv.one
  obtain ⟨z, its, n, r, hl, e⟩ := I.lstM hH
  refine call_meets F.slot_list_append ⟨_, e, rfl⟩ F.entry_list_append (F.args_list_append_2 _ _) (PySem.list_append l its.toArray n u (by rw [List.size_toArray]; omega)) ⟨e, ?_⟩
  refine ⟨.non, _, I.lset (its' := its ++ [u]) hH e (by simp) (r.append (.cons ru .nil)) ?_, rfl, q⟩
  rw [List.length_append, List.length_singleton]
  omega

def rClear : V → List V → Hp → VK → Prop := fun x vs H Q => ∃ l xs, x = .ref l ∧ vs = [] ∧ H l = some (.lst xs) ∧ Q .non (upd H l (.lst []))
theorem mt_clear : MtM X "list.clear" rClear := by
  intro pins s σ H x vs v us Q I rx rv h
  obtain ⟨l, xs, rfl, rfl, hH, q⟩ := h
  cases rx
  have hus := rv.zero
  subst hus
  obtain ⟨z, its, n, r, hl, e⟩ := I.lstM hH
  refine call_meets F.slot_list_clear ⟨_, e, rfl⟩ F.entry_list_clear (F.args_list_clear_1 _) (AutoSeq1.list_clear_list_0 l its.toArray n (by rw [List.size_toArray]; omega)) ⟨e, ?_⟩
  exact ⟨.non, _, I.lset (its' := []) (ys := []) hH e rfl .nil (Nat.zero_le _), rfl, q⟩

/-! ### list + list, list += list, list * int -/
inductive XCat (x y : V) (H : Hp) (Q : VK) : Prop
  | mk (l b : Addr) (xs zs : List V) (ex : x = .ref l) (ey : y = .ref b) (h : H l = some (.lst xs)) (h2 : H b = some (.lst zs)) (z : xs.length + zs.length ≤ sizeLine) (q : ∀ p, H p = none → Q (.ref p) (upd H p (.lst (xs ++ zs))))
def rCat : R2 := fun x y H Q => XCat x y H Q
theorem op_cat : OpR X (binaryOp .Add) rCat := by
  intro pins s σ H x y v u Q I rx ry h
  obtain ⟨l, b, xs, zs, rfl, rfl, hH, hB, hz, q⟩ := h
  cases rx
  cases ry
  obtain ⟨z, its, n, r, hl, e⟩ := I.lstM hH
  obtain ⟨z2, its2, n2, r2, hl2, e2⟩ := I.lstM hB
  refine PySem.P.add_list e e2 ?_ (by rw [List.size_toArray, List.size_toArray]; omega)
  have ea : its.toArray ++ its2.toArray = (its ++ its2).toArray := by simp
  rw [ea]
  exact ⟨.ref _, _, I.lnew (t' := s.toks) (r.append r2) (by rw [List.length_append]; omega), rfl, q _ I.fresh⟩
/-! ### del xs[i] -/
end

/-! ### xs[a:b] = ys -/
section
variable {prog : Program} {w : World} {A : Around} {E : Value → Shared → Prop} {s : Shared}
end

section
variable {X : Cx}
end
end L2

namespace L2
open PySem PySem.Spec PyProof.Rows

/-! ### lists of pairs as tables -/
section
variable {κ : Type} [DecidableEq κ]
def valV (kvs : List (κ × V)) (k : κ) : Option V := (kvs.find? fun kv => decide (kv.1 = k)).map (·.2)
theorem valV_pos {p : κ × V} {r : List (κ × V)} {k : κ} (e : p.1 = k) : valV (p :: r) k = some p.2 := by simp [valV, List.find?_cons, e]
theorem valV_neg {p : κ × V} {r : List (κ × V)} {k : κ} (e : ¬ p.1 = k) : valV (p :: r) k = valV r k := by simp [valV, List.find?_cons, e]
theorem valV_any (k : κ) : ∀ kvs : List (κ × V), (kvs.any fun kv => decide (kv.1 = k)) = (valV kvs k).isSome
  | [] => rfl
  | p :: r => by
    rw [List.any_cons]
    by_cases e : p.1 = k
    · simp only [valV_pos e, decide_eq_true e, Bool.true_or, Option.isSome_some]
    · rw [valV_neg e, decide_eq_false e, Bool.false_or]; exact valV_any k r
theorem RelO.isSome_eq {o : Option V} {u : Option Value} (r : RelO o u) : o.isSome = u.isSome := by
  cases o with
  | none => cases u with
    | none => rfl
    | some _ => exact (show False from r).elim
  | some _ => cases u with
    | none => exact (show False from r).elim
    | some _ => rfl
end

/-! ### a tracked dict, its keys ints and texts or tuples of these -/
section
variable {P : Program} {w : World} {H : Hp} {h : Heap} {a : Addr}
end

section
variable {X : Cx} {pins : List (Addr × Obj)} {σ : St} {H : Hp} {s : Shared} {a : Addr} {y v : V} {u r : Value} {o : Option V} {A : Around} {E : Value → Shared → Prop}

theorem Inv.big (I : Inv X pins σ H s) : sysModules < s.heap.objs.size := by
  have h : mainGlobals < s.heap.objs.size := (I.mod.glob.keeps I.bk).lt
  exact Nat.lt_trans (by decide) h

/-- a dict's object is replaced -/
theorem d_write {h' : Heap} {t' : Nat} {ob : HO} (I : Inv X pins σ H s) (mu : Mut (H a)) (hs : Heap.SameBut a s.heap h') (he : ∃ q, h'.get? a = some q) (new : ObjOk X.prog X.w (upd H a ob) h' a ob) :
    Inv X pins σ (upd H a ob) { s with heap := h', toks := t' } :=
  I.write (x := a) (e := a) mu (.inl rfl) (fun b q hb z => (hs.2 b hb).trans z) he new
end

section
variable {X : Cx} {pins : List (Addr × Obj)} {σ : St} {H : Hp} {s : Shared} {a : Addr} {kvs : List (Key × V)} {k : Key} {u : Value} {A : Around} {E : Value → Shared → Prop}
end

/-! ### readings and rules -/
/-- the element of a subscription, not a slice -/
def NoSl (i : Expr) : Prop := ∀ ov iv, subscripted i false ov iv = operate [ov, iv] (getItem ov iv)
theorem subD_of {prog : Program} {w : World} {A : Around} {E : Value → Shared → Prop} {s : Shared} {env : Env} {value slice : Expr} {pos : Pos} {T id : String} {Q : Value → Shared → Prop}
    (hl : typeLookup (.type T) "__getitem__" = pure (some (.builtin id))) (hs : NoSl slice)
    (h : wpAny (model prog w) A (eval value env) (fun o s₁ => wpAny (model prog w) A (eval slice env) (fun i s₂ => s₂.TypeIs o T ∧ wpAny (model prog w) A (getItem o i) Q E s₂) E s₁) E s) :
    wpAny (model prog w) A (eval (.Subscript value slice pos) env) Q E s := by
  refine Subscript_ (wpAny_mono h (fun o s₁ h₁ => wpAny_mono h₁ (fun i s₂ h₂ => ?_) fun _ _ x => x) fun _ _ x => x)
  obtain ⟨hT, h₂⟩ := h₂
  unfold subscriptTail
  refine wpAny_bind ?_
  rw [getitemInPython_of_ne hT.not_modules]
  refine wpAny_bind (wpAny_specialOf hT hl ?_)
  have fin : wpAny (model prog w) A (subscripted slice false o i) (fun r s₃ => wpAny (model prog w) A (letTemporaryGo value o r >>= fun _ => pure r) Q E s₃) E s₂ := by
    rw [hs o i]
    exact wpAny_operating (wpAny_mono h₂ (fun r s₃ h₃ => wpAny_bind (wpAny_letTemporaryGo (wpAny_pure h₃))) fun _ _ x => x)
  first
    | exact wpAny_pure (wpAny_bind fin)
    | exact wpAny_bind (wpAny_pure (wpAny_bind fin))
    | exact wpAny_bind fin

section
variable {X : Cx} {o i e value : Expr} {pos pos' tpos : Pos} {td ty tv : TE}
end

/-! ### displays -/
section
variable {X : Cx} {pos : Pos}
end

/-! ### methods -/
section
variable {X : Cx} {pins : List (Addr × Obj)} {σ : St} {H : Hp} {s : Shared} {a : Addr} {y d : V} {u r : Value} {o : Option V} {A : Around} {E : Value → Shared → Prop}
end

section
variable {X : Cx} {o e f : Expr} {apos cpos : Pos} {td ty tx : TE}
end

/-! ### dict(d): a copy -/
section
variable {X : Cx} {pins : List (Addr × Obj)} {σ : St} {H : Hp} {s : Shared} {a : Addr} {kvs : List (Key × V)} {A : Around} {E : Value → Shared → Prop}
end

section
variable {X : Cx} {pins : List (Addr × Obj)} {σ : St} {H : Hp} {s : Shared} {a : Addr} {y : V} {u : Value} {A : Around} {E : Value → Shared → Prop}
end
end L2

namespace Att
open PySem PySem.W PySem.Calls PyProof.Rows

/-! ### the script -/
theorem ints_of_wellAll {P : Params} {h : Heap} : ∀ (ns : List Int) (vs : List Value), WellAll P h vs (ns.map WData.int) → IntsAre vs ns := by
  intro ns
  induction ns with
  | nil =>
    intro vs w
    rw [List.map_nil] at w
    cases w
    exact .nil
  | cons n ns ih =>
    intro vs w
    rw [List.map_cons] at w
    cases w with
    | cons a b =>
      cases a
      exact .cons _ _ (ih _ b)

theorem script_of {l : OpenLaw} {n : Nat} (hn : l.most = some n) {P : Params} {h : Heap} {args : List WData} {vals : List Value}
    (hpre : l.row.toRowW.claim.pre args = true) (hwl : WellAll P h vals args) :
    ∃ a vs ns, vals = [Value.ref a] ∧ args = [WData.list (ns.map WData.int)] ∧ h.get? a = some { cls := .type "list", data := .seq vs.toArray } ∧ IntsAre vs ns ∧ ns.length ≤ n := by
  have hsh : WShape.hasAll [] args [.list .int] = true := (pre_splitW hpre).1
  have hc : l.pre.holds [] { args := args } = true := (pre_splitW hpre).2
  obtain ⟨d, r, rfl, h1, h2⟩ := hasAllW_cons hsh
  obtain rfl := hasAllW_nil h2
  obtain ⟨xs, rfl, h3⟩ := hasW_list h1
  obtain ⟨ns, rfl⟩ := items_int h3
  have hlen : ns.length ≤ n := by
    unfold OpenLaw.pre at hc
    have h4 : (WTm.not (.lt (.lit (.int (n : Int))) (.len (.arg 0)))).holds [] { args := [.list (ns.map .int)] } = true := by
      have h4 := (holds_andW hc).1
      rw [hn] at h4
      exact h4
    have h5 := condW_of h4 (w_not (w_lt w_lit (w_len_list (w_arg rfl))))
    rw [List.length_map] at h5
    refine Nat.le_of_not_lt fun q => ?_
    have q' : (n : Int) < ((ns.length : Nat) : Int) := by omega
    first
      | (rw [decide_eq_true q'] at h5; exact absurd h5 (by decide))
      | (simp at h5; omega)
  cases hwl with
  | cons w1 w2 =>
    cases w2
    cases w1 with
    | list ho hall => exact ⟨_, _, ns, rfl, rfl, ho, ints_of_wellAll ns _ hall, hlen⟩

theorem post_true (l : OpenLaw) (args : List WData) : l.row.toRowW.claim.post args (.bool true) args = true :=
  postW_of (r := l.row.toRowW) (X := (true == true))
    (show WShape.has [] (.bool true) .bool = true by first | rfl | decide | simp [WShape.has, WShape.arms, WShape.armsAll])
    (show (WTm.eq .res (.lit (.bool true))).value [] { args := args, res := some (.bool true), after := args } = some (.bool (true == true)) from w_eq_bool (w_res rfl) w_lit) rfl

/-! ### the attachment: holds_open's last premise (the goal 'hc' behind k_head) from a wpAny of the law's body -/
/-- the same from a codeAny of the CALL (for a layer whose function contracts speak of calls) -/
theorem attach_call {l : OpenLaw} {n : Nat} {q : Program} {loose : List Str} {XP : (Str → Option Value) → Heap → Prop} {YP : World → Heap → Prop} {d : DefRec}
    (hn : l.most = some n) (hdf : d.params.defaults = [])
    (call : ∀ (w : World) (s₀ s₁ : Shared) (mg mb : Str → Option Value) (fa : Addr) (o : Obj) (pm cd doc : Value) (a : Addr) (vs : List Value) (ns : List Int),
      Ground q loose [] XP w s₀ mg mb s₁.heap → YP w s₁.heap →
      s₁.heap.get? fa = some o → o.data = .func (docDef d.name d.params d.body d.scope pm cd doc) → s₁.heap.CodeRec cd d.name → mg d.name = some (.ref fa) →
      s₁.heap.get? a = some { cls := .type "list", data := .seq vs.toArray } → IntsAre vs ns → ns.length ≤ n → s₁.gens = #[] →
      codeAny (model l.prog w) callerA (.call (.ref fa) ⟨[.ref a], []⟩) (fun r s' => r = .ok (.ret (.bool true)) ∧ OldK s₁.heap s'.heap ∧ s'.os = s₁.os ∧ AllBare s'.gens) s₁) :
    WalkO q loose XP YP l.row.toRowW d [] (fun f vs => PySem.call f vs) := by
  intro w s₀ s₁ mg mb G Y fa o pm cd doc dV kV ho hd hcd hD hmg hg args vals as hpre hlay hrd hwl hlo
  obtain rfl : dV = .none := Dflts.none hD hdf
  obtain rfl : kV = .none := Dflts.noKw hD
  obtain ⟨a, vs, ns, rfl, rfl, hobj, hints, hlen⟩ := script_of hn hpre hwl
  refine enter_call (codeAny_mono (call w s₀ s₁ mg mb fa o pm cd doc a vs ns G Y ho (fd_plain hd) hcd hmg hobj hints hlen hg) fun r s' hq => ?_)
  obtain ⟨rfl, h2, h3, h4⟩ := hq
  exact ⟨.inl ⟨.bool true, .bool true, [], rfl, fun _ => rfl, .bool true, post_true l _, fun _ => ⟨List.Pairwise.nil, fun _ hm => (nomatch hm)⟩⟩, h2, h3, h4⟩

/-! ### rules over ANY heap (no ledger) from facts about the written part K: the library's own take a ledger (News) for what they write -/
section
variable {prog : Program} {w : World} {A : Around} {E : Value → Shared → Prop} {s : Shared} {K : Frag}

/-! the whole heap as the ledger: makes every rule that writes through a ledger a rule over any heap -/
end
end Att

namespace L2
open PySem PySem.Spec PyProof.Rows

theorem vals_ints : ∀ {vs : List Value} {ns : List Int}, IntsAre vs ns → Vals (ns.map V.int) vs
  | _, _, .nil => .nil
  | _, _, .cons n t h => .cons ⟨t, rfl⟩ (vals_ints h)

/-- nothing is tracked but the script, known to the object (or it is an object of the module) -/
def Only (H : Hp) : Prop := ∀ b, H b = none ∨ ∃ o xs, H b = some (.frz o (.lst xs))

/-- THE HEAD: the law's promise, at the heap behind the top. F, the promise of the law's def, may use that base is part of the heap (so K.In base, base.Ns mainGlobals mg stand in Mod) -/
theorem law_call {P : Program} {w : World} {K : PySem.W.Frag} {mg mb : Str → Option Value} {CX : CXT} {k : Nat} {fa a : Addr} {fd : FuncData} {x : Str} {sp : Sp} {s₁ : Shared} {vs : List Value} {ns : List Int}
    (KX : K.In s₁.heap) (hns : s₁.heap.Ns mainGlobals mg) (hb : s₁.heap.Ns builtinsNs mb) (hbb : ∀ x : Str, x ≠ "__name__" → mb x = bootBuiltins x) (hlim : s₁.heap.NoLimit) (hg : s₁.gens = #[])
    (ha : s₁.heap.get? a = some { cls := .type "list", data := .seq vs.toArray }) (hi : IntsAre vs ns) (hl : ns.length ≤ sizeLine) (hr : Room k callerA)
    (F : ∀ base : Heap, K.In base → base.Ns mainGlobals mg → FnOk P w K mg base CX k fa fd [x] sp) (hbind : ∀ (s : Shared) (u : Value), BindsTo s fd ⟨[u], []⟩ [(x, u)])
    (hsp : ∀ H : Hp, Only H → SqL K H a (ns.map V.int) → sp [.ref a] H (fun v _ => v = .bl true) fun _ _ _ => False)
    (hCX : ∀ H e s', CX [] H s₁ (fun _ _ _ => False) e s' → False) :
    codeAny (model P w) callerA (.call (.ref fa) ⟨[.ref a], []⟩) (fun r s' => r = .ok (.ret (.bool true)) ∧ OldK s₁.heap s'.heap ∧ s'.os = s₁.os ∧ AllBare s'.gens) s₁ := by
  have rv := vals_ints hi
  have lenV := hi.length
  -- from an abstract heap in which nothing but the script may be tracked
  have core : ∀ H : Hp, Only H → SqL K H a (ns.map V.int) → HOk P w H s₁.heap → (∀ b, H b ≠ none → b = a) → (H a ≠ none → K.lookup a = none) →
      codeAny (model P w) callerA (.call (.ref fa) ⟨[.ref a], []⟩) (fun r s' => r = .ok (.ret (.bool true)) ∧ OldK s₁.heap s'.heap ∧ s'.os = s₁.os ∧ AllBare s'.gens) s₁ := by
    intro H hO hS hok hA hK
    have base_of : ∀ {b : Addr} {o : Obj}, s₁.heap.get? b = some o → H b = none → (hidT s₁.heap H).get? b = some o := fun e n => hidT_get e n
    have noA : ∀ {b : Addr} {o : Obj} {es : Array DictEntry} {ep : Nat}, s₁.heap.get? b = some o → o.data = .dict es ep → H b = none := fun {b o es ep} e d => by
      cases q : H b with
      | none => rfl
      | some u =>
        have e' : b = a := hA b (by rw [q]; simp)
        subst e'
        rw [ha] at e; cases e
        have d' : Data.seq vs.toArray _ = Data.dict es ep := d
        cases d'
    have nsK : ∀ {b : Addr} {m : Str → Option Value}, s₁.heap.Ns b m → (hidT s₁.heap H).Ns b m := fun {b m} ⟨o, es, ep, e, d, r⟩ => ⟨o, es, ep, base_of e (noA e d), d, r⟩
    have hKb : K.In (hidT s₁.heap H) := fun b o e => base_of (KX b o e) (by
      cases q : H b with
      | none => rfl
      | some u =>
        have e' : b = a := hA b (by rw [q]; simp)
        subst e'
        rw [hK (by rw [q]; simp)] at e; cases e)
    have hM : Mod K mg (hidT s₁.heap H) := ⟨hKb, nsK hns, ⟨mb, nsK hb, hbb⟩, let ⟨mc, h1, h2⟩ := hlim; ⟨mc, nsK h1, h2⟩⟩
    have e0 : Env0 P w K mg (hidT s₁.heap H) callerA [] s₁ H := ⟨rfl, hM, fun b o e => of_hidT e, Nat.le_of_eq (hidT_size _ _), trivial, fun b hb => absurd (show b ∈ ([] : List Addr) from hb) (by simp), hok, .of_eq hg⟩
    refine codeAny_mono ((F _ hKb (nsK hns)).run callerA [] s₁ H ⟨[.ref a], []⟩ [.ref a] [.ref a] _ _ hr e0 (hbind s₁ (.ref a)) (.cons rfl .nil) (hsp H hO hS)) fun r s' h => ?_
    cases r with
    | error e => exact (hCX H e s' h).elim
    | ok fl =>
      cases fl with
      | next => exact False.elim h
      | brk => exact False.elim h
      | cont => exact False.elim h
      | ret u =>
        obtain ⟨v, H', os, bare, un, hok', r', q⟩ := h
        have q' : v = .bl true := q
        subst q'
        obtain rfl : u = Value.bool true := r'
        refine ⟨rfl, OldK.of_keep fun b o e => ?_, os, bare⟩
        cases q : H b with
        | none => exact un.keep b o e q (by intro z; exact absurd (show b ∈ ([] : List Addr) from z) (by simp)) (by simp)
        | some u =>
          rcases hO b with z | ⟨ob, xs, z⟩
          · rw [q] at z; cases z
          · have z2 := un.frzs b ob _ z
            obtain ⟨e1, _⟩ := hok b _ z
            obtain ⟨e2, _⟩ := hok' b _ z2
            rw [e] at e1; cases e1
            exact e2
  cases hk : K.lookup a with
  | some o =>
    -- the script is one of the module's own objects
    have e := KX a o hk
    rw [ha] at e
    cases e
    refine core (fun _ => none) (fun _ => .inl rfl) (.inr ⟨_, vs.toArray, _, hk, rfl, rfl, rfl, by rw [List.size_toArray, lenV]; exact hl, by simpa using rv⟩) (fun b u z => by have z' : (none : Option HO) = some u := z; cases z') (fun b z => absurd rfl z) fun z => absurd rfl z
  | none =>
    refine core (fun b => if b = a then some (.frz { cls := .type "list", data := .seq vs.toArray } (.lst (ns.map V.int))) else none) (fun b => ?_) (.inl (.inr ⟨{ cls := .type "list", data := .seq vs.toArray }, if_pos rfl⟩)) (fun b u z => ?_) (fun b z => ?_) fun _ => hk
    · by_cases hb : b = a
      · exact .inr ⟨_, _, if_pos hb⟩
      · exact .inl (if_neg hb)
    · by_cases hb : b = a
      · have z' := (if_pos hb).symm.trans z
        cases z'
        subst hb
        exact ⟨ha, by rw [List.length_map]; exact hl, vs, _, rv, ha⟩
      · have z' := (if_neg hb).symm.trans z
        cases z'
    · by_cases hb : b = a
      · exact hb
      · exact absurd (if_neg hb) z
end L2

namespace L2
open PySem PySem.Spec PyProof.Rows

/-- the goal that k_head leaves (case hc), from the law's promise. F gives the function object fd (K's own) once, then the promise over every base -/
theorem walk_of {l : PySem.W.OpenLaw} {n k : Nat} {q : Program} {loose : List Str} {XP : (Str → Option Value) → Heap → Prop} {YP : World → Heap → Prop} {d : DefRec} {K : Params → PySem.W.Frag} {CX : World → CXT} {sp : World → Sp} {x : Str}
    (hn : l.most = some n) (hn2 : n ≤ sizeLine) (hdf : d.params.defaults = []) (hr : Room k callerA)
    (hY : ∀ (w : World) (h : Heap), YP w h → (K w.params).In h)
    (F : ∀ (w : World) (mg : Str → Option Value) (fa : Addr) (h : Heap), (K w.params).In h → h.Ns mainGlobals mg → mg d.name = some (.ref fa) →
      ∃ fd : FuncData, (∀ (s : Shared) (u : Value), BindsTo s fd ⟨[u], []⟩ [(x, u)]) ∧
        ∀ base : Heap, (K w.params).In base → base.Ns mainGlobals mg → FnOk l.prog w (K w.params) mg base (CX w) k fa fd [x] (sp w))
    (hsp : ∀ (w : World) (H : Hp) (a : Addr) (ns : List Int), ns.length ≤ n → Only H → SqL (K w.params) H a (ns.map V.int) → sp w [.ref a] H (fun v _ => v = .bl true) fun _ _ _ => False)
    (hCX : ∀ (w : World) (H : Hp) (s : Shared) (e : Value) (s' : Shared), CX w [] H s (fun _ _ _ => False) e s' → False) :
    PySem.W.WalkO q loose XP YP l.row.toRowW d [] (fun f vs => PySem.call f vs) := by
  refine Att.attach_call hn hdf fun w s₀ s₁ mg mb fa o pm cd doc a vs ns G Y ho hd hcd hmg hobj hints hlen hg => ?_
  have KX := hY w _ Y
  obtain ⟨fd, hb, hF⟩ := F w mg fa _ KX G.T.g hmg
  exact law_call KX G.T.g G.T.b G.T.builtins G.T.nolimit hg hobj hints (Nat.le_trans hlen hn2) hr hF hb (fun H hO hS => hsp w H a ns hlen hO hS) fun H e s' => hCX w H s₁ e s'
end L2

/- THE LAST THEOREM (shape; LID, My.* are yours):
   My.Adr: a structure of the addresses that your layer names (classes, functions); My.Txt K t: a structure (Prop) of the equations over K;
   My.txt_mk : {K} {implicit addresses ..} (e1 : nsIn K mainGlobals "law" = some (some (.ref f))) (e2 : K.lookup f = some ⟨oc, od, .func (fnOf "law" "law" params body scope dV kV doc pm an cdv ct), sl⟩) (e3 : codeIn K cdv "law" = true) .. : ∃ t, My.Txt K t

set_option maxRecDepth 100000 in
set_option maxHeartbeats 0 in
theorem PySem.Challenge.cw_LID_holds : PySem.Challenge.rw_LID.Holds := by
  w_on; o_law; k_head; (case hw => w_witness2)
  k_fill
  refine L2.walk_of (l := PySem.Challenge.rw_LID) (n := 63) (k := 40) (x := "script") (CX := fun w => ..) (sp := fun _ => My.sp_law) rfl (by decide) rfl ⟨rfl, by decide, by decide⟩ (fun w h Y => PySem.W.kIn_of Y) ?F ?S ?C
  case F =>
    intro w mg fa h KX G hmg
    have T : ∃ t, My.Txt (L2.KOf KX) t := by
      dsimp only [L2.KOf]                          -- K must stand as «<heap const> w.params» for k_is
      refine' My.txt_mk ?e1 ?e2 ?e3 ..
      (case e1 => PySem.W.k_is)                    -- in the order: a name -> its address -> its object -> its parts
      (case e2 => PySem.W.k_is)
      ..
    obtain ⟨t, T⟩ := T
    have e0 := hmg.symm.trans (PySem.W.mg_of KX G T.law)
    cases e0                                       -- fa is the law's own address
    exact ⟨_, fun s u => .of_eq rfl, fun base kb nb => My.law_fn T kb nb⟩     -- if «.of_eq rfl» comes too early: refine' ⟨_, ?b, fun base kb nb => My.law_fn T kb nb⟩; exact fun s u => .of_eq rfl
  case S => exact fun w H a ns hl hO hS => ..
  case C => exact ..
(the tactic k_is has no namespace: write k_is) -/

/-! SHORT WORDS over the layer: a def of the text, its body, what a loop and a test want. -/
namespace L2
open PySem PySem.Spec PyProof.Rows

/-! ### the text by places -/
/-- the j-th statement of a class's body -/
def inClass (s : Stmt) (j : Nat) : Stmt := match s with
  | .ClassDef _ _ _ body _ _ _ _ _ _ _ => body.getD j (.Pass ⟨0, 0, 0, 0⟩)
  | _ => .Pass ⟨0, 0, 0, 0⟩
def defArgs (s : Stmt) : Arguments := match s with
  | .FunctionDef _ a _ _ _ _ _ _ _ _ => a
  | _ => { posonlyargs := [], args := [], vararg := none, kwonlyargs := [], kw_defaults := [], kwarg := none, defaults := [] }
def defBody (s : Stmt) : List Stmt := match s with
  | .FunctionDef _ _ b _ _ _ _ _ _ _ => b
  | _ => []
def defScope (s : Stmt) : Scope := match s with
  | .FunctionDef _ _ _ _ _ _ sc _ _ _ => sc
  | _ => { kind := .function, names := [], isGenerator := false, isCoroutine := false }

/-! ### no exception leaves a def -/
abbrev CX0 : CXT := fun _ _ _ _ _ _ => False
abbrev E0 : XK := fun _ _ _ => False
theorem pass0 {X : Cx} : Passes CX0 X E0 := fun _ _ _ _ _ _ _ h => h.elim

/-! ### a def (or method) of the text as it stands behind the top -/
structure Fun (K : PySem.W.Frag) (x qual : Str) (st : Stmt) (f : Addr) (fd : FuncData) : Prop where
  ex : ∃ (oc : Value) (od : Option Addr) (kV doc pm : Value) (an : Option Addr) (cdv ct : Value) (osl : Array (Option Value)),
    fd = PySem.W.fnOf x qual (defArgs st) (defBody st) (defScope st) .none kV doc pm an cdv ct ∧ K.lookup f = some ⟨oc, od, .func fd, osl⟩ ∧ PySem.W.codeIn K cdv qual = true
  kp : PySem.W.keepIn K (.ref f) = true
section
variable {P : Program} {w : World} {K : PySem.W.Frag} {mg : Str → Option Value} {base : Heap}
/-- THE RULE for a def: its body as a term of rules, and the reading of that term -/
theorem Fun.ok {x qual : Str} {st : Stmt} {f : Addr} {fd : FuncData} {N ps : List Str} {k : Nat} {sp : Sp} (F : Fun K x qual st f fd) (S : FnScope N ps (defScope st)) (len : ∀ vs H Q E, sp vs H Q E → vs.length = ps.length)
    (hbody : ∀ (cdv : Value) (A : Around) (outer : List Env) (s : Shared) (H : Hp) (vs : List V) (Q : VK) (E : XK), Room k (A.deeper (envOfC qual (defScope st) s.heap.objs.size f cdv)) → sp vs H Q E →
      ∃ t, PSs (cxOf CX0 P w K mg base N qual (defScope st) f cdv A outer s H E).nox (defBody st) t ∧ t { nx := fun _ H' => Q .non H', rt := Q } (start N vs) H) : FnOk P w K mg base CX0 (k + 1) f fd ps sp := by
  obtain ⟨oc, od, kV, doc, pm, an, cdv, ct, osl, rfl, lk, hcd⟩ := F.ex
  refine fn_of lk hcd S len fun A outer s H vs Q E hr hsp => ?_
  obtain ⟨t, h, q⟩ := hbody cdv A outer s H vs Q E hr hsp
  exact ⟨t, h.nox, q⟩
/-- how its arguments bind (no defaults): h is «fun _ _ _ _ _ _ us hl => match us, hl with | [_, _], _ => rfl», one _ a parameter -/
theorem Fun.binds {x qual : Str} {st : Stmt} {f : Addr} {fd : FuncData} {ps : List Str} (F : Fun K x qual st f fd)
    (h : ∀ (kV doc pm : Value) (an : Option Addr) (cdv ct : Value) (us : List Value), us.length = ps.length → bindArgs (PySem.W.fnOf x qual (defArgs st) (defBody st) (defScope st) .none kV doc pm an cdv ct) ⟨us, []⟩ = pure (ps.zip us)) : Binds K fd ps [] := by
  obtain ⟨oc, od, kV, doc, pm, an, cdv, ct, osl, rfl, lk, hcd⟩ := F.ex
  exact .all (h kV doc pm an cdv ct)
theorem fun_mk {x qual : Str} {st : Stmt} {f : Addr} {oc : Value} {od an : Option Addr} {osl : Array (Option Value)} {kV doc pm cdv ct : Value} (l : K.lookup f = some ⟨oc, od, .func (PySem.W.fnOf x qual (defArgs st) (defBody st) (defScope st) .none kV doc pm an cdv ct), osl⟩)
    (c : PySem.W.codeIn K cdv qual = true) (k : PySem.W.keepIn K (.ref f) = true) : Fun K x qual st f (PySem.W.fnOf x qual (defArgs st) (defBody st) (defScope st) .none kV doc pm an cdv ct) := ⟨⟨oc, od, kV, doc, pm, an, cdv, ct, osl, rfl, l, c⟩, k⟩
end
theorem hu_of {A : Around} {k : Nat} (hr : Room k A) : A.units + 1 < cLine := Nat.lt_of_le_of_lt (Nat.add_le_add_left (by decide : 1 ≤ 64) _) hr.units
/-! ### expressions in short: the name that stands in the i-th slot -/
section
variable {X : Cx}
theorem pv (i : Nat) {x : Str} {pos : Pos} (hN : X.N[i]? = some x := by rfl) (hv : Vis X.env.scope x := by first | exact Or.inl rfl | exact Or.inr (Or.inl rfl) | exact Or.inr (Or.inr rfl)) (hd : (x == ("__debug__" : Str)) = false := by decide)
    (hcd : (x == ("__classdict__" : Str)) = false := by decide) : PE X (.Name x pos) (tVar i) := pe_var hN hv hd hcd
end

/-! ### tests -/
theorem iteF {A B : Prop} (h : B) : if false = true then A else B := by
  rw [if_neg Bool.false_ne_true]
  exact h
theorem iteT {A B : Prop} (h : A) : if true = true then A else B := by
  rw [if_pos rfl]
  exact h
theorem iteNS {c A B : Prop} [Decidable c] (hc : c) (h : B) : if (!decide c) = true then A else B := by
  rw [decide_eq_true hc]
  exact iteF h

/-! ### heaps -/
/-- all that was tracked is as it was -/
def Same (H H' : Hp) : Prop := ∀ b o, H b = some o → H' b = some o
theorem Same.refl (H : Hp) : Same H H := fun _ _ h => h
theorem Same.trans {H H1 H2 : Hp} (a : Same H H1) (b : Same H1 H2) : Same H H2 := fun c o h => b c o (a c o h)
theorem Same.free {H H' : Hp} (e : Same H H') {l : Addr} (h : H' l = Option.none) : H l = Option.none := by
  cases q : H l with
  | none => rfl
  | some o =>
    rw [e l o q] at h
    cases h
theorem Same.seq {K : PySem.W.Frag} {H H' : Hp} {a : Addr} {xs : List V} (e : Same H H') (h : SqL K H a xs) : SqL K H' a xs := by
  rcases h with (h | ⟨o, h⟩) | h
  · exact .inl (.inl (e _ _ h))
  · exact .inl (.inr ⟨o, e _ _ h⟩)
  · exact .inr h

end L2

end

section
set_option autoImplicit false
set_option maxRecDepth 100000
namespace EoD
open PySem
section
variable {prog : Program} {w : World} {A : Around} {E : Value → Shared → Prop} {s : Shared} {d it : Addr} {es : Array DictEntry} {ep i : Nat}
end
end EoD

end

section
set_option autoImplicit false
set_option maxRecDepth 100000
namespace EoD
open PySem
section
variable {prog : Program} {w : World} {A : Around} {E : Value → Shared → Prop} {s : Shared}
def b2n (b : Bool) : Int := if b then 1 else 0
theorem hash_bool {b : Bool} {Q : Int → Shared → Prop} (q : Q (hashInt (b2n b)) { s with toks := s.toks + 1 }) : wpAny (model prog w) A (pyHash (.bool b)) Q E s := by
  have ty : s.TypeIs (.bool b) "bool" := rfl
  unfold pyHash
  first | unfold pyHashByItsType | skip
  refine wpAny_bind ?_
  rw [cRoomFor, if_neg (show ¬ [Value.bool b].any Value.onHeap = true from Bool.false_ne_true)]
  refine wpAny_pure (wpAny_bind (wpAny_specialOf ty F.slot_bool_hash.lookup ?_))
  rw [if_neg (by rw [beq_builtin_none]; exact Bool.false_ne_true)]
  refine wpAny_bind (wpAny_specialOf ty F.slot_bool_hash.lookup ?_)
  have hr := rawHash_range (b2n b)
  have tree : ∀ {K : Value → Shared → Prop} {E' : Value → Shared → Prop}, K (.int (rawHash (b2n b)) s.toks) { s with toks := s.toks + 1 } → wpAny (model prog w) A.in1 (Builtin.«int.__hash__» ⟨[.bool b], []⟩) (fun fin s' => ∃ v, fin = PySem.Fin.done (Flow.ret v) ∧ K v s') E' s := by
    intro K E' hp
    cases b <;> exact (show wpAny _ _ (do ret (← mkInt _)) _ _ s from wpAny_ret_mkInt hp)
  refine wpAny_bind (wpAny_callSpecialIfBoundUnlessNone?_slot ty F.slot_bool_hash (wpAny_call_entry F.slot_bool_hash ty entry_int_hash (tree ?_) (args_int_hash _)))
  show wpAny _ _ (if (decide (-(2 : Int) ^ 63 ≤ rawHash (b2n b)) && decide (rawHash (b2n b) < 2 ^ 63)) = true then _ else _) Q E _
  rw [decide_eq_true hr.1, decide_eq_true hr.2, if_pos (show (true && true) = true from rfl)]
  exact wpAny_pure q
end
end EoD

end

section
set_option autoImplicit false
set_option maxRecDepth 100000
namespace EoD
open PySem Eo
def biIs (k : Int) : Value → Bool
  | .int i _ => i == k
  | .bool b => b2n b == k
  | _ => false
theorem biIs_shape {k : Int} {v : Value} (h : biIs k v = true) : (∃ t, v = .int k t) ∨ ∃ b, v = .bool b ∧ b2n b = k := by
  unfold biIs at h
  split at h
  · rename_i i t
    exact .inl ⟨t, by rw [eq_of_beq h]⟩
  · rename_i b
    exact .inr ⟨b, rfl, eq_of_beq h⟩
  · cases h
theorem b2n_inj {a b : Bool} (h : b2n a = b2n b) : a = b := by cases a <;> cases b <;> first | rfl | (exact absurd h (by decide))
/-- ints and bools as keys, as Python holds them for the same -/
def biKind (prog : Program) (w : World) : KeyKind prog w Int where
  is := biIs
  hash := hashInt
  inj := fun v a b ha hb => by
    rcases biIs_shape ha with ⟨t, rfl⟩ | ⟨x, rfl, rfl⟩
    · rcases biIs_shape hb with ⟨u, e⟩ | ⟨y, e, _⟩
      · injection e
      · cases e
    · rcases biIs_shape hb with ⟨u, e⟩ | ⟨y, e, rfl⟩
      · cases e
      · injection e with e
        rw [e]
  byValue := fun k v h => by
    rcases biIs_shape h with ⟨t, rfl⟩ | ⟨x, rfl, rfl⟩ <;> rfl
  pyHash := fun hv h => by
    rcases biIs_shape hv with ⟨t, rfl⟩ | ⟨x, rfl, rfl⟩
    · exact wpAny_pyHash_int h
    · exact hash_bool h
  eqBool := fun {A E s a b u v Q} hu hv h => by
    rcases biIs_shape hu with ⟨t, rfl⟩ | ⟨x, rfl, rfl⟩
    · rcases biIs_shape hv with ⟨t', rfl⟩ | ⟨y, rfl, rfl⟩
      · exact SeqAt.EqAt.int_int a t b t' prog w E Q (by rw [show (a == b) = decide (a = b) from by rw [Bool.eq_iff_iff]; simp]; exact h)
      · exact SeqAt.EqAt.int_bool a t y prog w E Q (by rw [show (a == if y then 1 else 0) = decide (a = b2n y) from by rw [Bool.eq_iff_iff, beq_iff_eq, decide_eq_true_iff]; rfl]; exact h)
    · rcases biIs_shape hv with ⟨t', rfl⟩ | ⟨y, rfl, rfl⟩
      · exact SeqAt.EqAt.bool_int x b t' prog w E Q (by rw [show ((if x then 1 else 0) == b) = decide (b2n x = b) from by rw [Bool.eq_iff_iff, beq_iff_eq, decide_eq_true_iff]; rfl]; exact h)
      · exact SeqAt.EqAt.bool_bool x y prog w E Q (by rw [show (x == y) = decide (b2n x = b2n y) from by cases x <;> cases y <;> decide]; exact h)
  «strs» := fun k x t v h => by
    rcases biIs_shape h with ⟨u, e⟩ | ⟨y, e, _⟩ <;> cases e

def wkey (x : W) : List Int := [x.1, b2n x.2]
theorem wkey_inj {x y : W} (h : wkey x = wkey y) : x = y := by
  unfold wkey at h
  injection h with h1 h2
  injection h2 with h2 _
  exact Prod.ext h1 (b2n_inj h2)
theorem wkey_dec (x y : W) : decide (wkey x = wkey y) = decide (x = y) := by
  by_cases h : x = y
  · subst h; simp
  · rw [decide_eq_false h, decide_eq_false fun e => h (wkey_inj e)]
/-- words as keys -/
def wordKind (prog : Program) (w : World) : HeapKind prog w W where
  is := fun h x a => IsTupleKey (biKind prog w) h (wkey x) a
  hash := fun x => tupleKeyHash (biKind prog w) (wkey x)
  draws := fun x => (wkey x).length + 1
  room := fun A => A.units < cLine
  inj := fun hx hy => wkey_inj (hx.inj hy)
  keeps := fun x ho hd hs => x.keeps ho hd hs
  pyHash := fun hu hk h => wpAny_pyHash_tuple hu hk h
  eqBool := fun hu hx hy h => wpAny_eqBool_tuple hu hx hy (by rw [wkey_dec]; exact h)
  quiet := fun hk h => wpAny_eqIsQuiet_tuple hk h
theorem wordKind_room {prog : Program} {w : World} {A : Around} (hu : A.units + 1 < cLine) : (wordKind prog w).room A.in1 := hu
/-- a tuple of an int and a bool is a word -/
theorem word_is {prog : Program} {w : World} {h : Heap} {a : Addr} {x : W} {o : Obj} {its : Array Value} {n : Nat} {t : Tok} (e : h.get? a = some o) (c : o.cls = .type "tuple") (d : o.data = .seq its n) (i : its.toList = [.int x.1 t, .bool x.2]) :
    (wordKind prog w).is h x a := by
  refine ⟨o, its, n, e, c, d, ?_⟩
  rw [i]
  refine .cons ?_ (.cons ?_ .nil)
  · show biIs x.1 (.int x.1 t) = true
    simp [biIs]
  · show biIs (b2n x.2) (.bool x.2) = true
    simp [biIs]
end EoD

end

section
set_option autoImplicit false
set_option maxRecDepth 100000
namespace EoD
open PySem
section
variable {prog : Program} {w : World} {A : Around} {E : Value → Shared → Prop} {s : Shared} {it l : Addr} {items : Array Value}
theorem rev_len : typeLookup (.type "list_reverseiterator") "__len__" = pure none := by rw [typeLookup_type, builtinLookup_eq_fast]; kernel_rfl
theorem rev_lh : typeLookup (.type "list_reverseiterator") "__length_hint__" = pure (some (.builtin "list_reverseiterator.__length_hint__")) := by rw [typeLookup_type, builtinLookup_eq_fast]; kernel_rfl
theorem rev_hint {Q : Bool → Shared → Prop} (ty : s.TypeIs (.ref it) "list_reverseiterator") (q : Q false s) : wpAny (model prog w) A (Builtin.List.listLengthHint (.ref it)) Q E s := by
  unfold Builtin.List.listLengthHint
  refine wpAny_bind (wpAny_specialOf ty rev_len ?_)
  dsimp only
  refine wpAny_ite_split (fun h => absurd h (by decide +kernel)) (fun _ => ?_)
  refine wpAny_ite_split (fun h => absurd h (by decide)) (fun _ => ?_)
  refine wpAny_bind (wpAny_specialOf ty rev_lh ?_)
  dsimp only
  rw [show splitId "list_reverseiterator.__length_hint__" = some ("list_reverseiterator", "__length_hint__") from by decide +kernel]
  dsimp only
  refine wpAny_bind (wpAny_isInstance (T := "list_reverseiterator") (b := true) ty (by rw [isSubtype_type]; kernel_rfl) ?_)
  refine wpAny_ite_split (fun h => absurd h (by decide)) (fun _ => ?_)
  refine wpAny_ite_split (fun _ => ?_) (fun h => absurd (by decide +kernel) h)
  refine wpAny_ite_split (fun h => absurd h (by decide)) (fun _ => ?_)
  exact wpAny_pure q
/-- list(it), it the backward iterator of a list, just made -/
theorem list_rev {Q : Value → Shared → Prop} (hh : A.handled = none) (y : s.heap.IsRevIter it l ((items.size : Int) - 1)) (x : s.heap.IsList l items) (ne : l ≠ it) (hn : items.size ≤ sizeLine)
    (q : ∀ h' tk acc c, (∀ b o, b ≠ it → s.heap.get? b = some o → h'.get? b = some o) → h'.get? s.heap.objs.size = some { cls := .type "list", dict := none, data := .seq acc c, slots := #[] } → ItemsOf (fun i v => items[items.size - 1 - i]? = some v) acc items.size → Q (.ref s.heap.objs.size) { s with heap := h', toks := tk }) :
    wpAny (model prog w) A (call (.type "list") [.ref it]) Q E s := by
  have ily : it < s.heap.objs.size := let ⟨_, e, _⟩ := y; Heap.lt_size e
  have ilx : l < s.heap.objs.size := let ⟨_, e, _⟩ := x; Heap.lt_size e
  refine callType_codes (Q₁ := fun obj s₁ => obj = .ref s.heap.objs.size ∧ s₁ = { s with heap := s.heap.push { cls := .type "list", data := .seq #[] } }) PySem.F.called_list (PySem.F.typeCall_list_1 _) PySem.F.entry_list_init (code_list_new _ ⟨rfl, rfl⟩) fun obj s₁ h₁ => ?_
  obtain ⟨rfl, rfl⟩ := h₁
  generalize hS : s.heap.objs.size = S at q ily ilx ⊢
  have e0 : (s.heap.push { cls := .type "list", data := .seq #[] }).get? S = some { cls := .type "list", data := .seq #[] } := by rw [← hS]; exact Heap.get?_push_size _ rfl
  refine ⟨⟨_, e0, rfl⟩, PySem.F.args_list_init_2 _ _, ?_⟩
  generalize hp : s.heap.push { cls := .type "list", data := .seq #[] } = h0 at e0 ⊢
  have k0 : ∀ b o, s.heap.get? b = some o → h0.get? b = some o := fun b o e => by rw [← hp]; exact Heap.get?_push_of_some _ e
  show wpAny _ _ (do let old ← Builtin.List.listItems (.ref S); Builtin.List.listUpdate (.ref S) (fun _ => #[]); letGo old.toList.reverse; Builtin.List.listExtendWith (.ref S) (.ref it) .none) _ _ { s with heap := h0 }
  refine wpAny_bind ?_
  unfold Builtin.List.listItems
  refine wpAny_bind (wpAny_seqItems e0 rfl (wpAny_pure ?_))
  refine wpAny_bind (m := updateSeq S (fun _ => #[])) (wpAny_updateSeq e0 rfl ?_)
  have e1 := Heap.get?_update_self (Obj.mapSeq (fun _ => (#[] : Array Value))) e0 rfl
  generalize hq : h0.update S (Obj.mapSeq fun _ => (#[] : Array Value)) = h1 at e1 ⊢
  have k1 : ∀ b o, b ≠ S → h0.get? b = some o → h1.get? b = some o := fun b o hb e => by rw [← hq]; exact (Heap.get?_update_other _ _ (Ne.symm hb)).trans e
  refine wpAny_bind (wpAny_letGo ?_)
  have nS : it ≠ S := Nat.ne_of_lt ily
  have nS' : l ≠ S := Nat.ne_of_lt ilx
  have y1 : h1.IsRevIter it l ((items.size : Int) - 1) := y.at fun o e => k1 _ _ nS (k0 _ _ e)
  have x1 : h1.IsList l items := x.at fun o e => k1 _ _ nS' (k0 _ _ e)
  unfold Builtin.List.listExtendWith
  refine wpAny_bind (wpAny_typeOf (s := { s with heap := h1 }) (T := "list_reverseiterator") y1.typeIs ?_)
  have ns : Builtin.List.listSameRef (.ref S) (.ref it) = false := by simp [Builtin.List.listSameRef, Ne.symm nS]
  have n1 : (Value.type "list_reverseiterator" == Value.type "list") = false := by decide
  have n2 : (Value.type "list_reverseiterator" == Value.type "tuple") = false := by decide
  simp only [ns, n1, n2, Bool.or_false, Bool.false_eq_true, if_false]
  refine wpAny_bind (wpAny_pyIter_revIter (s := { s with heap := h1 }) y1 ?_)
  refine wpAny_bind (wpAny_holding (rev_hint (s := { s with heap := h1 }) y1.typeIs ?_))
  refine wpAny_ite_split (fun h => absurd h (by decide +kernel)) (fun _ => wpAny_pure ⟨plainId_quiet PySem.F.plain_extend_loop _, ?_⟩)
  have nf : S ∉ [it, l] := by simp [Ne.symm nS, Ne.symm nS']
  refine codeAny_extend_loopS (Walks.listRev (A := A.in1.in1) hh it l ne items).toS hn S nf .none items.size 0 { s with heap := h1 } #[] _ (by omega) (Nat.zero_le _) ⟨Nat.zero_le _, by simpa using y1, x1⟩ e1 (ItemsOf.nil _) fun s' acc c mv e2 it2 => ?_
  rw [Moved.eq_with mv]
  refine ⟨rfl, q s'.heap s'.toks acc c (fun b o hb e => mv.heap b o (fun hm => ?_) (k1 b o ?_ (k0 b o e))) e2 it2⟩
  · rcases List.mem_cons.mp hm with z | z
    · rw [z] at e
      exact absurd (Heap.lt_size e) (by rw [hS]; exact Nat.lt_irrefl _)
    · exact hb (List.mem_singleton.mp z)
  · intro z
    rw [z] at e
    exact absurd (Heap.lt_size e) (by rw [hS]; exact Nat.lt_irrefl _)
end
end EoD

end

section
set_option autoImplicit false
set_option maxRecDepth 100000
set_option linter.all false
namespace L2
open PySem PySem.Spec PyProof.Rows

def cellAt (env : Env) (n : Str) : Addr := (env.cells.lookup n).getD 0
def clOf (env : Env) (l : List (Str × NameKind)) : List (Str × Addr) := ((l.filter fun x => x.2 == .free).map fun x => (x.1, cellAt env x.1)).reverse
theorem closure_go {env : Env} : ∀ (l : List (Str × NameKind)) (acc : List (Str × Addr)), (∀ x ∈ l, x.2 = .free → ∃ c, env.cells.lookup x.1 = some c) →
    (forIn l acc fun (x : Str × NameKind) (cs : List (Str × Addr)) => (do
      if x.2 == .free then pure (ForInStep.yield ((x.1, ← cellOf env x.1) :: cs)) else pure (ForInStep.yield cs) : Sem (ForInStep (List (Str × Addr))))) = (pure (clOf env l ++ acc) : Sem (List (Str × Addr)))
  | [], acc, _ => rfl
  | x :: r, acc, h => by
    have hr : ∀ y ∈ r, y.2 = .free → ∃ c, env.cells.lookup y.1 = some c := fun y hy => h y (List.mem_cons_of_mem _ hy)
    rw [List.forIn_cons]
    by_cases e : x.2 = .free
    · obtain ⟨c, hc⟩ := h x List.mem_cons_self e
      have e1 : (x.2 == NameKind.free) = true := by rw [e]; rfl
      have e2 : cellOf env x.1 = pure c := by unfold cellOf; rw [hc]
      have e3 : cellAt env x.1 = c := by unfold cellAt; rw [hc]; rfl
      simp only [e1, if_true, e2, pure_bind]
      rw [closure_go r _ hr]
      simp [clOf, e1, e3]
    · have e1 : (x.2 == NameKind.free) = false := by
        cases h2 : x.2 <;> first | rfl | exact absurd h2 e
      simp only [e1, Bool.false_eq_true, if_false, pure_bind]
      rw [closure_go r _ hr]
      simp [clOf, e1]
theorem closure_of {env : Env} {sc : Scope} (h : ∀ x ∈ sc.names, x.2 = .free → ∃ c, env.cells.lookup x.1 = some c) : closureFor sc env = pure (clOf env sc.names) := by
  have e := closure_go (env := env) sc.names [] h
  rw [List.append_nil] at e
  unfold closureFor
  exact (bind_congr (x := _) fun _ => rfl).trans ((congrArg (· >>= pure) e).trans (by simp))
theorem clOf_in {env : Env} {l : List (Str × NameKind)} {x : Str} {c : Addr} (hl : ∀ x ∈ l, x.2 = .free → ∃ c, env.cells.lookup x.1 = some c) (h : (clOf env l).lookup x = some c) : env.cells.lookup x = some c ∧ (x, NameKind.free) ∈ l := by
  have hm := PySem.mem_of_lookup h
  unfold clOf at hm
  rw [List.mem_reverse, List.mem_map] at hm
  obtain ⟨p, hp, e⟩ := hm
  obtain ⟨h1, h2⟩ := List.mem_filter.mp hp
  have e2 : p.2 = .free := by cases h3 : p.2 <;> rw [h3] at h2 <;> first | rfl | cases h2
  obtain ⟨c', hc⟩ := hl p h1 e2
  have e3 : p.1 = x := congrArg Prod.fst e
  have e4 : cellAt env p.1 = c := congrArg Prod.snd e
  unfold cellAt at e4
  rw [hc] at e4
  cases e4
  subst e3
  exact ⟨hc, by rw [← e2]; exact h1⟩
theorem lookup_some {α : Type} {x : Str} : ∀ {l : List (Str × α)}, (∃ a, (x, a) ∈ l) → ∃ c, l.lookup x = some c
  | [], ⟨a, h⟩ => by simp at h
  | (y, b) :: r, ⟨a, h⟩ => by
    by_cases e : x = y
    · subst e
      exact ⟨b, by simp [List.lookup_cons]⟩
    · have h' : ∃ a, (x, a) ∈ r := by
        rcases List.mem_cons.mp h with z | z
        · exact absurd (congrArg Prod.fst z) e
        · exact ⟨a, z⟩
      obtain ⟨c, hc⟩ := lookup_some h'
      have ef : (x == y) = false := beq_eq_false_iff_ne.mpr e
      exact ⟨c, by rw [List.lookup_cons, ef]; exact hc⟩
theorem clOf_has {env : Env} {l : List (Str × NameKind)} {x : Str} (h : (x, NameKind.free) ∈ l) : ∃ c, (clOf env l).lookup x = some c :=
  lookup_some ⟨cellAt env x, by
    unfold clOf
    rw [List.mem_reverse, List.mem_map]
    exact ⟨(x, .free), List.mem_filter.mpr ⟨h, rfl⟩, rfl⟩⟩
/-- a name of the block that is no local of it is one that it closes over -/
theorem relabel_free {env : Env} {x : Str} {k : NameKind} (hk : k = .cell ∨ k = .free) : ∀ {l : List (Str × NameKind)}, (∀ y ∈ l, y.2 ≠ .cell) →
    (l.map fun (n, k) => if (k == NameKind.free && env.scope.kind == .function && env.kindOf n == some .cell) then (n, NameKind.cell) else (n, k)).lookup x = some k → (x, NameKind.free) ∈ l
  | [], _, h => by simp at h
  | (n, q) :: r, hc, h => by
    have hr : ∀ y ∈ r, y.2 ≠ .cell := fun y hy => hc y (List.mem_cons_of_mem _ hy)
    by_cases e : x = n
    · subst e
      have hq : q = .free := by
        by_cases hq : q = .free
        · exact hq
        · exfalso
          have e1 : (q == NameKind.free) = false := by cases q <;> first | rfl | exact absurd rfl hq
          rw [List.map_cons] at h
          simp only [e1, Bool.false_and, Bool.false_eq_true, if_false] at h
          rw [List.lookup_cons, beq_self_eq_true] at h
          have e2 : q = k := by simpa using h
          rcases hk with z | z
          · exact hc (x, q) List.mem_cons_self (e2.trans z)
          · exact hq (e2.trans z)
      rw [hq]
      exact List.mem_cons_self
    · have ef : (x == n) = false := beq_eq_false_iff_ne.mpr e
      refine List.mem_cons_of_mem _ (relabel_free (env := env) hk hr ?_)
      rw [List.map_cons] at h
      by_cases c : (q == NameKind.free && env.scope.kind == .function && env.kindOf n == some .cell) = true
      · simp only [c, if_true] at h
        rw [List.lookup_cons, ef] at h
        exact h
      · simp only [c, Bool.false_eq_true, if_false] at h
        rw [List.lookup_cons, ef] at h
        exact h
theorem relabel_cell {env : Env} {x : Str} (hf : env.scope.kind = .function) (hx : env.kindOf x = some .cell) : ∀ {l : List (Str × NameKind)}, l.lookup x = some .free →
    (l.map fun (n, k) => if (k == NameKind.free && env.scope.kind == .function && env.kindOf n == some .cell) then (n, NameKind.cell) else (n, k)).lookup x = some .cell
  | [], h => by simp at h
  | (n, q) :: r, h => by
    by_cases e : x = n
    · subst e
      rw [List.lookup_cons, beq_self_eq_true] at h
      have e2 : q = .free := by simpa using h
      subst e2
      rw [List.map_cons]
      have c : (NameKind.free == NameKind.free && env.scope.kind == .function && env.kindOf x == some .cell) = true := by rw [hf, hx]; rfl
      simp only [c, if_true]
      rw [List.lookup_cons, beq_self_eq_true]
    · have ef : (x == n) = false := beq_eq_false_iff_ne.mpr e
      rw [List.lookup_cons, ef] at h
      have ih := relabel_cell hf hx h
      rw [List.map_cons]
      by_cases c : (q == NameKind.free && env.scope.kind == .function && env.kindOf n == some .cell) = true
      · simp only [c, if_true]
        rw [List.lookup_cons, ef]
        exact ih
      · simp only [c, Bool.false_eq_true, if_false]
        rw [List.lookup_cons, ef]
        exact ih

def cxC (X : Cx) (N : List Str) (sc : Scope) (s : Shared) (H : Hp) (fp : List Addr) (pins : List (Addr × Obj)) (C : Addr) : Cx :=
  { X with N := N, s₀ := s, H₀ := H, env := compEnvC sc (clOf X.env sc.names) C X.env, outer := X.stack, ex := fp, fn := fun _ => false, pn := X.pn ++ pins, xe := fun _ _ => False }
structure ScOk (X : Cx) (sc : Scope) (x : Str) : Prop where
  kind : sc.kind = .function
  nocell : ∀ y ∈ sc.names, y.2 ≠ .cell
  var : sc.names.lookup x = some .local
  names : ∀ y ∈ sc.names, y.2 = .local → sc.names.lookup y.1 = some .local
  frees : ∀ y ∈ sc.names, y.2 = .free → X.env.kindOf y.1 = some .cell
/-- the names that the block closes over, with their slots outside -/
def FreeOk (X : Cx) (sc : Scope) : List Str → List Nat → Prop
  | [], [] => True
  | y :: ys, j :: js => X.N[j]? = some y ∧ X.env.kindOf y = some .cell ∧ sc.names.lookup y = some .free ∧ FreeOk X sc ys js
  | _, _ => False
def look (σ : St) (js : List Nat) : St := js.map fun j => (σ[j]?).join
theorem FreeOk.get {X : Cx} {sc : Scope} {σ : St} : ∀ {ys : List Str} {js : List Nat}, FreeOk X sc ys js → ∀ {i : Nat} {y : Str} {v : V}, ys[i]? = some y → (look σ js)[i]? = some (some v) →
    ∃ j : Nat, X.N[j]? = some y ∧ σ[j]? = some (some v) ∧ X.env.kindOf y = some .cell ∧ sc.names.lookup y = some .free
  | [], [], _, i, y, v, h, _ => by simp at h
  | y' :: ys, j :: js, f, 0, y, v, h, g => by
    obtain ⟨f1, f2, f3, _⟩ := f
    have e : y' = y := by simpa using h
    subst e
    have g' : (σ[j]?).join = some v := by simpa [look] using g
    cases q : σ[j]? with
    | none => rw [q] at g'; cases g'
    | some z =>
      rw [q] at g'
      have : z = some v := g'
      subst this
      exact ⟨j, f1, q, f2, f3⟩
  | y' :: ys, j :: js, f, i + 1, y, v, h, g => FreeOk.get f.2.2.2 (by simpa using h) (by simpa [look] using g)
  | [], _ :: _, f, _, _, _, _, _ => f.elim
  | _ :: _, [], f, _, _, _, _, _ => f.elim
theorem FreeOk.len {X : Cx} {sc : Scope} : ∀ {ys : List Str} {js : List Nat}, FreeOk X sc ys js → ys.length = js.length
  | [], [], _ => rfl
  | _ :: _, _ :: _, f => by simp [FreeOk.len f.2.2.2]
  | [], _ :: _, f => f.elim
  | _ :: _, [], f => f.elim

section
variable {X : Cx} {pins : List (Addr × Obj)} {σ : St} {H : Hp} {s : Shared} {sc : Scope} {x : Str} {ys : List Str} {js : List Nat} {fp : List Addr} {C D : Addr}

theorem ScOk.cells (S : ScOk X sc x) (I : Inv X pins σ H s) : ∀ y ∈ sc.names, y.2 = .free → ∃ c, X.env.cells.lookup y.1 = some c := fun y hy e => I.ok.has y.1 (.inl (S.frees y hy e))
theorem cxC_ok {N : List Str} (S : ScOk X sc x) (I : Inv X pins σ H s) (hf : ∀ b ∈ fp, FpOk X pins H b) (hl : ∀ b ∈ fp, b < s.heap.objs.size) (hC : s.heap.objs.size ≤ C) : (cxC X N sc s H fp pins C).Ok where
  mod := I.ok.mod
  kind := S.kind
  glob := I.ok.glob
  blt := I.ok.blt
  above := hC
  inj := fun y z c h1 h2 => I.ok.inj y z c (clOf_in (S.cells I) h1).1 (clOf_in (S.cells I) h2).1
  has := fun y hy => by
    have hm : (y, NameKind.free) ∈ sc.names := by
      rcases hy with hy | hy
      · exact relabel_free (.inl rfl) S.nocell hy
      · exact relabel_free (.inr rfl) S.nocell hy
    exact clOf_has hm
  cab := fun _ _ h _ => nomatch h
  hd := I.ok.hd
  frames := I.ok.frames
  stk := .inl rfl
  exf := fun b hb => ⟨Nat.ne_of_lt (Nat.lt_of_lt_of_le (hl b hb) hC), fun y c hc => (hf b hb).2.2.2.2.1 y c (clOf_in (S.cells I) hc).1⟩
  bs := fun b o e => I.bs b o e
  bsz := Nat.le_trans I.ok.bsz I.sz
  noex := fun b o e hb => by
    rcases (hf b hb).2.2.2.1 with z | z
    · exact I.ok.noex b o e z
    · have := (I.ok.bs b o e).1
      rw [z] at this; cases this
  exfs := fun b hb hz => by
    rcases List.mem_cons.mp (I.stkSub b hz) with e | e
    · exact (hf b hb).2.1 e
    · exact (hf b hb).2.2.1 e
  funs := I.stack
  frf := I.stkFree
  hdl := by
    rcases I.ok.hdl with q | ⟨e, C', oe, vs, q1, q2, q3, q4, q5 | ⟨q5, q6, q7, q8⟩⟩
    · exact .inl q
    · exact .inr ⟨e, C', oe, vs, q1, q2, q3, q4, .inl (List.mem_append_left _ q5)⟩
    · refine .inr ⟨e, C', oe, vs, q1, q2, q3, q4, .inr ⟨I.base.keep e oe q5 q6 q7 q8, I.base.free e oe q5 q6 q8, fun z => (List.mem_cons.mp (I.stkSub e z)).elim (Nat.ne_of_lt (Nat.lt_of_lt_of_le (Heap.lt_size q5) I.ok.above)) q7, fun z => ?_⟩⟩
      rcases (hf e z).2.2.2.1 with y | y
      · exact q8 y
      · rw [y] at q5; cases q5
theorem notStk (I : Inv X pins σ H s) {b : Addr} (h1 : b ≠ X.env.locals) (h2 : b ∉ X.fs) : b ∉ frs X.stack := fun z => (List.mem_cons.mp (I.stkSub b z)).elim h1 h2
/-- the block begins: the new list stands at D, the frame at C -/
theorem inv_block {h' : Heap} {t' : Nat} {m : Str → Option Value} {H' : Hp} (S : ScOk X sc x) (Fo : FreeOk X sc ys js) (I : Inv X pins σ H s) (hf : ∀ b ∈ fp, FpOk X pins H b) (hl : ∀ b ∈ fp, b < s.heap.objs.size) (hC : s.heap.objs.size ≤ C)
    (kp : ∀ b o, s.heap.get? b = some o → h'.get? b = some o) (hn : h'.Ns C m) (un : Un (frs X.stack) fp H H' s.heap h') (ok : HOk X.prog X.w H' h') (nC : H' C = none) (nf : ∀ b o, s.heap.get? b = some o → H b = none → H' b = none) :
    Inv (cxC X (x :: ys) sc s H fp pins C) [] (none :: look σ js) H' { s with heap := h', toks := t' } where
  ok := cxC_ok S I hf hl hC
  os := rfl
  bare := I.bare
  base := un
  loc := ⟨m, hn, fun i y v e1 e2 e3 => by
    cases i with
    | zero => simp at e2
    | succ i =>
      have z1 : ((x :: ys) : List Str)[i + 1]? = some y := e1
      obtain ⟨j, g1, g2, g3, g4⟩ := Fo.get (σ := σ) (i := i) (y := y) (v := v) (by simpa using z1) (by simpa using e2)
      obtain ⟨mo, hmo, lo⟩ := I.loc
      have vis : Vis X.env.scope y := .inr (.inl g3)
      obtain ⟨u, ru, lk⟩ := lo j y v g1 g2 vis
      refine ⟨u, ru, .inr ⟨.inl (relabel_cell I.ok.kind g3 g4), ?_⟩⟩
      rcases lk with ⟨k, _⟩ | ⟨_, c, hc, cell⟩
      · rw [g3] at k; cases k
      · obtain ⟨c', hc'⟩ := clOf_has (env := X.env) (PySem.mem_of_lookup g4)
        have e : c' = c := by
          have := (clOf_in (S.cells I) hc').1
          rw [hc] at this
          cases this; rfl
        subst e
        obtain ⟨oc, ho, hd⟩ := cell
        exact ⟨c', hc', oc, kp _ _ ho, hd⟩⟩
  cell := fun y c hc => by
    obtain ⟨v, oc, ho, hd⟩ := I.cell y c (clOf_in (S.cells I) hc).1
    exact ⟨v, oc, kp _ _ ho, hd⟩
  free := nC
  freeC := fun y c hc => by
    obtain ⟨v, oc, ho, hd⟩ := I.cell y c (clOf_in (S.cells I) hc).1
    exact nf c oc ho (I.freeC y c (clOf_in (S.cells I) hc).1)
  pin := fun p hp => by
    rw [List.append_nil] at hp
    obtain ⟨e, n, ne, nfs, d⟩ := I.pin p hp
    exact ⟨kp _ _ e, nf _ _ e n, Nat.ne_of_lt (Nat.lt_of_lt_of_le (Heap.lt_size e) hC), notStk I ne nfs, d⟩
  hok := ok
  len := by
    have := Fo.len
    simp [look, cxC, this]
/-- .. and ends -/
theorem inv_out {s2 : Shared} {H2 H' : Hp} {N : List Str} {σ' : St} {pl : List (Addr × Obj)} (I : Inv X pins σ H2 s2) (hf : ∀ b ∈ fp, FpOk X pins H2 b) (I' : Inv (cxC X N sc s2 H2 fp pins C) pl σ' H' s) : Inv X pins σ H' s :=
  I.call' I'.os I'.base I'.hok I'.bare fun b hb => ⟨(hf b hb).2.2.2.1, (hf b hb).2.1, (hf b hb).2.2.2.2.1, (hf b hb).2.2.2.2.2⟩
end

def PIfs (X : Cx) (ifs : List Expr) (t : TT) : Prop :=
  ∀ (pins : List (Addr × Obj)) (s : Shared) (σ : St) (H : Hp) (Q : Bool → Hp → Prop), Inv X pins σ H s → t σ H Q →
    wpAny (model X.prog X.w) X.A (forIn ifs true fun c r => if r = true then do let ok ← isTrue c X.env (eval c X.env); pure (ForInStep.yield ok) else pure (ForInStep.yield r)) (TP X pins σ Q) X.xe s
def tYes : TT := fun _ H Q => Q true H
theorem pifs_nil {X : Cx} : PIfs X [] tYes := fun _ _ _ H _ I h => wpAny_tests_nil ⟨H, I, h⟩
theorem pifs_one {X : Cx} {c : Expr} {t : TT} (h : PT X c t) : PIfs X [c] t := fun pins s σ H Q I q => wpAny_tests_one (h pins s σ H Q I q)

section
variable {prog : Program} {w : World} {A : Around} {R : Result → Shared → Prop} {s : Shared}
theorem comp_loop {elt tg iter : Expr} {ifs : List Expr} {scope : Scope} {pos : Pos} {it acc : Value} {env : Env} (J : Nat → Shared → Prop)
    (turn : ∀ n s, J n s → wpAny (model prog w) A (pyNext it) (fun r s1 => match r with
      | none => R (.ok .next) s1
      | some v => wpAny (model prog w) A (letOwnedTupleGo tg it v) (fun _ s2 => wpAny (model prog w) A (assign tg env v) (fun _ s3 =>
          wpAny (model prog w) A (forIn ifs true fun c r => if r = true then do let ok ← isTrue c env (eval c env); pure (ForInStep.yield ok) else pure (ForInStep.yield r)) (fun ok s4 =>
            if ok = true then wpAny (model prog w) A (eval elt env) (fun x s5 => wpAny (model prog w) A (call (.builtin "list.append") [acc, x]) (fun _ s6 => ∃ m, m < n ∧ J m s6) (fun _ _ => False) s5) (fun _ _ => False) s4
            else ∃ m, m < n ∧ J m s4) (fun _ _ => False) s3) (fun _ _ => False) s2) (fun _ _ => False) s1) (fun _ _ => False) s)
    (n : Nat) (h : J n s) : codeAny (model prog w) A (.compLoop (.ListComp elt [⟨tg, iter, ifs, 0⟩] scope pos) 0 it acc env) R s := by
  refine codeAny_loop rfl J (fun n s j => ?_) n h
  refine wpAny_noted (m := compTurn (.ListComp elt [⟨tg, iter, ifs, 0⟩] scope pos) 0 it acc env) ?_
  rw [compTurn_list]
  refine wpAny_bind (wpAny_standAt (wpAny_bind (wpAny_mono (turn n s j) (fun r s1 h1 => ?_) fun _ _ z => z.elim)))
  cases r with
  | none => exact wpAny_pure h1
  | some v =>
    refine wpAny_bind (wpAny_mono h1 (fun _ s2 h2 => wpAny_bind (wpAny_mono h2 (fun _ s3 h3 => wpAny_bind (wpAny_mono h3 (fun ok s4 h4 => ?_) fun _ _ z => z.elim)) fun _ _ z => z.elim)) fun _ _ z => z.elim)
    cases ok with
    | false => exact wpAny_pure ⟨rfl, h4⟩
    | true => exact wpAny_bind (wpAny_bind (wpAny_mono h4 (fun y s5 h5 => wpAny_bind (wpAny_mono h5 (fun _ s6 h6 => wpAny_pure (wpAny_pure ⟨rfl, h6⟩)) fun _ _ z => z.elim)) fun _ _ z => z.elim))
end

def tComp (wi : TI) (js : List Nat) (tc : TT) (te : TE) : TE := fun σ H Q => wi σ H fun J H1 => ∀ D, H1 D = none → ∃ W : Nat → Nat → List V → Hp → Prop, (∃ m, W 0 m [] (upd H1 D (.lst []))) ∧
  ∀ i m acc H2, W i m acc H2 → H2 D = some (.lst acc) ∧ acc.length < sizeLine ∧ ((J.stop i H2 ∧ Q (.ref D) H2) ∨
    (J.go i H2 ∧ ∀ x H3, J.yld i H2 x H3 → tc (some x :: look σ js) H3 fun b H4 => if b = true then te (some x :: look σ js) H4 fun v H5 => H5 D = some (.lst acc) ∧ ∃ m', m' < m ∧ W (i + 1) m' (acc ++ [v]) (upd H5 D (.lst (acc ++ [v])))
      else ∃ m', m' < m ∧ W (i + 1) m' acc H4))
section
variable {X : Cx} {elt iter : Expr} {x : Str} {px pos : Pos} {ifs : List Expr} {sc : Scope} {wi : TI} {ys : List Str} {js : List Nat} {tc : TT} {te : TE}
theorem comp_core {pins : List (Addr × Obj)} {σ : St} {H : Hp} {s : Shared} {Q : VK} {RR : Value → Addr → Result → Shared → Prop} (hc : (0 : Nat) = 0) (S : ScOk X sc x) (Fo : FreeOk X sc ys js) (hN : (x :: ys).Nodup) (hi : PI X (.Name x px) iter wi)
    (hifs : ∀ s H fp pins C, PIfs (cxC X (x :: ys) sc s H fp pins C) ifs tc) (helt : ∀ s H fp pins C, PE (cxC X (x :: ys) sc s H fp pins C) elt te)
    (I : Inv X pins σ H s) (h : tComp wi js tc te σ H Q)
    (hRR : ∀ D C H' s' m, Inv X pins σ H' s' → s'.heap.Ns C m → FpOk X pins H' C → Q (.ref D) H' → RR (.ref D) C (.ok .next) s') :
    wpAny (model X.prog X.w) X.A (eval iter X.env) (fun v s1 => wpAny (model X.prog X.w) X.A (pyIter v) (fun it s2 => wpAny (model X.prog X.w) X.A (newList []) (fun acc s3 =>
      wpAny (model X.prog X.w) X.A (newFunctionEnv sc X.env.globals (clOf X.env sc.names) [] X.env.qual none .none (some X.env)) (fun cenv s4 =>
        codeAny (model X.prog X.w) X.A (.compStart (.ListComp elt [⟨.Name x px, iter, ifs, 0⟩] sc pos) 0 it acc { cenv with scope := relabel sc X.env }) (RR acc cenv.locals) s4) X.xe s3) X.xe s2) X.xe s1) X.xe s := by
  refine thn (hi pins s σ H _ I h) fun v s1 h1 => thn h1 fun itv s2 h2 => ?_
  obtain ⟨it, fp, tn, J, H2, e, I2, T, st2, f2, q⟩ := h2
  subst e
  have hl : ∀ b ∈ fp, b < s2.heap.objs.size := fun b hb => let ⟨_, e, _⟩ := T.obj 0 _ st2 b hb; Heap.lt_size e
  have hfr := I2.hok.fresh (Nat.le_refl s2.heap.objs.size)
  obtain ⟨W, ⟨m0, w0⟩, turn⟩ := q s2.heap.objs.size hfr
  refine wpAny_newObj_type (wpAny_newFunctionEnv S.nocell (by intro y hy; simp at hy) (fun h4 hn4 hb4 => ?_) S.kind) (by size_fits)
  dsimp only at hn4 hb4 ⊢
  generalize hD : s2.heap.objs.size = D at hfr w0 turn hn4 hb4 ⊢
  generalize hp : s2.heap.push { cls := .type "list", data := .seq ([] : List Value).toArray } = h3 at hn4 hb4 ⊢
  have hC : h3.objs.size = D + 1 := by rw [← hp, Heap.size_push, hD]
  generalize hCe : h3.objs.size = C at hC hn4 hb4 ⊢
  have hDs : s2.heap.objs.size ≤ D := Nat.le_of_eq hD
  have hCs : s2.heap.objs.size ≤ C := by rw [hD, hC]; exact Nat.le_succ _
  have hDC : D ≠ C := by rw [hC]; exact Nat.ne_of_lt (Nat.lt_succ_self D)
  have k3 : ∀ b o, s2.heap.get? b = some o → h3.get? b = some o := fun b o e => by rw [← hp]; exact Heap.get?_push_of_some _ e
  have k4 : ∀ b o, b ≠ C → h3.get? b = some o → h4.get? b = some o := fun b o ne e => hb4.extBut b o ne (Heap.get?_push_of_some _ e)
  have kp : ∀ b o, s2.heap.get? b = some o → h4.get? b = some o := fun b o e => k4 b o (Nat.ne_of_lt (Nat.lt_of_lt_of_le (Heap.lt_size e) hCs)) (k3 b o e)
  have hDo : h4.get? D = some { cls := .type "list", data := .seq ([] : List Value).toArray } := k4 D _ hDC (by rw [← hp, ← hD]; exact Heap.get?_push_size _ rfl)
  have new : ObjOk X.prog X.w (upd H2 D (.lst [])) h4 D (.lst []) := ⟨Nat.zero_le _, [], 0, .nil, hDo⟩
  have ok4 : HOk X.prog X.w (upd H2 D (.lst [])) h4 := I2.hok.laid kp hDs new
  have un4 : Un (frs X.stack) fp H2 (upd H2 D (.lst [])) s2.heap h4 := Un.laid kp hDs hfr
  have nC : upd H2 D (.lst []) C = none := by
    rw [upd_ne hDC.symm]
    exact I2.hok.fresh hCs
  have nf : ∀ b o, s2.heap.get? b = some o → H2 b = none → upd H2 D (.lst []) b = none := fun b o e n => by
    rw [upd_ne (Nat.ne_of_lt (Nat.lt_of_lt_of_le (Heap.lt_size e) hDs))]
    exact n
  have I4 := inv_block (t' := s2.toks) S Fo I2 f2 hl hCs kp hn4 un4 ok4 nC nf
  have stat : ∀ {H' : Hp} {pl : List (Addr × Obj)}, (∀ b ∈ fp, H' b = none) → ∀ b ∈ fp, FpOk (cxC X (x :: ys) sc s2 H2 fp pins C) [] H' b := fun {H' pl} hn b hb =>
    ⟨hn b hb, Nat.ne_of_lt (Nat.lt_of_lt_of_le (hl b hb) hCs), notStk I2 (f2 b hb).2.1 (f2 b hb).2.2.1, .inl hb, fun y c e => (f2 b hb).2.2.2.2.1 y c (clOf_in (S.cells I2) e).1, fun p hp => (f2 b hb).2.2.2.2.2 p (by simpa [cxC] using hp)⟩
  have loop : ∀ s', s' = { s2 with heap := h4, toks := s2.toks + ([] : List (Str × Value)).length } → codeAny (model X.prog X.w) X.A (.compLoop (.ListComp elt [⟨.Name x px, iter, ifs, 0⟩] sc pos) 0 (.ref it) (.ref D) (cxC X (x :: ys) sc s2 H2 fp pins C).env) (RR (.ref D) C) s' := by
    rintro s' rfl
    refine comp_loop (fun n s' => ∃ i a H' z, Inv (cxC X (x :: ys) sc s2 H2 fp pins C) [] (z :: look σ js) H' s' ∧ tn i s'.heap ∧ (∀ b ∈ fp, H' b = none) ∧ W i n a H') ?_ m0
      ⟨0, [], _, none, I4, T.keep _ _ _ st2 fun b hb o e => kp b o e, fun b hb => nf b _ (T.obj 0 _ st2 b hb).choose_spec.1 (f2 b hb).1, w0⟩
    rintro n s5 ⟨i, a, H5, z, I5, t5, n5, w5⟩
    obtain ⟨eD, hz, alt⟩ := turn i n a H5 w5
    rcases alt with ⟨stop, qn⟩ | ⟨go, step⟩
    · refine wpAny_mono (T.done (cxC X (x :: ys) sc s2 H2 fp pins C) rfl rfl rfl hc i [] s5 _ H5 (fun _ _ => False) I5 (stat (pl := []) n5) t5 stop) (fun r s6 ⟨hr, I6⟩ => ?_) fun _ _ z => z
      subst hr
      obtain ⟨m6, hn6, _⟩ := I6.loc
      exact hRR D C H5 s6 m6 (inv_out I2 f2 I6) hn6 (I2.fpOk hCs I6.free) qn
    · refine wpAny_mono (T.item (cxC X (x :: ys) sc s2 H2 fp pins C) rfl rfl rfl hc i [] s5 _ H5 (fun _ _ => False) I5 (stat (pl := []) n5) t5 go) (fun r s6 ⟨u, hr, h6⟩ => ?_) fun _ _ z => z
      subst hr
      refine wpAny_mono h6 (fun _ s7 ⟨y, H7, I7, r7, y7, t7, n7⟩ => ?_) fun _ _ z => z
      have I7' := I7.pinned (stat (pl := []) n7) (T.obj _ _ t7)
      have q7 := step y H7 y7
      have hx : Loc (cxC X (x :: ys) sc s2 H2 fp pins C).env.scope x := .inl (lookup_relabel_local S.var)
      refine wpAny_mono (pg_name (X := cxC X (x :: ys) sc s2 H2 fp pins C) (i := 0) (x := x) (pos := px) hN rfl hx (.inr (lookup_relabel_local S.var)) _ s7 _ H7 y u (fun σ' H' => σ' = some y :: look σ js ∧ H' = H7) I7' r7 ⟨rfl, rfl⟩) (fun _ s8 ⟨σ8, H8, I8, e8, e8'⟩ => ?_) fun _ _ z => z
      subst e8; subst e8'
      have again : ∀ {s9 : Shared} {H9 : Hp} {m' : Nat} {a' : List V}, Inv (cxC X (x :: ys) sc s2 H2 fp pins C) ([] ++ pinsAt fp s7.heap) (some y :: look σ js) H9 s9 → m' < n → W (i + 1) m' a' H9 →
          ∃ m, m < n ∧ ∃ i a H' z, Inv (cxC X (x :: ys) sc s2 H2 fp pins C) [] (z :: look σ js) H' s9 ∧ tn i s9.heap ∧ (∀ b ∈ fp, H' b = none) ∧ W i m a H' := fun {s9 H9 m' a'} I9 hm w9 =>
        ⟨m', hm, i + 1, a', H9, some y, I9.unpinned, T.keep _ _ _ t7 fun b hb o e => (I9.pin (b, o) (List.mem_append_right _ (List.mem_append_right _ (mem_pinsAt hb e)))).1, fun b hb => by
          obtain ⟨o, e, _⟩ := T.obj _ _ t7 b hb
          exact (I9.pin (b, o) (List.mem_append_right _ (List.mem_append_right _ (mem_pinsAt hb e)))).2.1, w9⟩
      refine wpAny_mono (hifs s2 H2 fp pins C _ s8 _ H8 _ I8 q7) (fun ok s9 ⟨H9, I9, q9⟩ => ?_) fun _ _ z => z
      cases ok with
      | false =>
        rw [if_neg Bool.false_ne_true] at q9 ⊢
        obtain ⟨m', hm, w9⟩ := q9
        exact again I9 hm w9
      | true =>
        rw [if_pos rfl] at q9 ⊢
        refine wpAny_mono (helt s2 H2 fp pins C _ s9 _ H9 _ I9 q9) (fun ev s10 ⟨ve, H10, I10, r10, e10, m', hm, w10⟩ => ?_) fun _ _ z => z
        refine wpAny_mono (mt_append (X := cxC X (x :: ys) sc s2 H2 fp pins C) _ s10 _ H10 (.ref D) [ve] (.ref D) [ev] (fun _ H' => H' = upd H10 D (.lst (a ++ [ve]))) I10 rfl (.cons r10 .nil) ⟨D, a, ve, rfl, rfl, e10, hz, rfl⟩) (fun _ s11 ⟨_, H11, I11, _, e11⟩ => ?_) fun _ _ z => z
        subst e11
        exact again I11 hm w10
  exact codeAny_compStart_list (loop _ rfl) (T.self _ 0 _ _ _ (T.keep _ _ _ st2 fun b hb o e => kp b o e) (loop _ rfl))
theorem pe_comp (hc : (0 : Nat) = 0) (S : ScOk X sc x) (Fo : FreeOk X sc ys js) (hN : (x :: ys).Nodup) (hi : PI X (.Name x px) iter wi)
    (hifs : ∀ s H fp pins C, PIfs (cxC X (x :: ys) sc s H fp pins C) ifs tc) (helt : ∀ s H fp pins C, PE (cxC X (x :: ys) sc s H fp pins C) elt te) (hs : ∀ v, foldedSetIterable iter X.env v = pure v := by intro _; rfl) :
    PE X (.ListComp elt [⟨.Name x px, iter, ifs, 0⟩] sc pos) (tComp wi js tc te) := by
  intro pins s σ H Q I h
  rw [eval_ListComp]
  refine wpAny_comprehension_free rfl hs (closure_of (S.cells I)) S.kind S.names (comp_core (Q := Q) hc S Fo hN hi hifs helt I h fun D C H' s' m I' hn fo q => ?_)
  exact ⟨m, hn, fun h' sb => ⟨.ref D, H', I'.turned (t' := s'.toks) (fun b o ne e => sb.extBut b o ne e) fo.1 fo.2.1 fo.2.2.2.1 fo.2.2.2.2.1 fo.2.2.2.2.2, rfl, q⟩⟩
/-- name = [..]: the name is stored ahead of the variable's end -/
theorem ps_comp {j : Nat} {y : Str} {py spos : Pos} (hc : (0 : Nat) = 0) (hXN : X.N.Nodup) (hj : X.N[j]? = some y) (hy : X.env.scope.names.lookup y = some .local) (S : ScOk X sc x) (Fo : FreeOk X sc ys js) (hN : (x :: ys).Nodup) (hi : PI X (.Name x px) iter wi)
    (hifs : ∀ s H fp pins C, PIfs (cxC X (x :: ys) sc s H fp pins C) ifs tc) (helt : ∀ s H fp pins C, PE (cxC X (x :: ys) sc s H fp pins C) elt te)
    (hsw : swapsWith (.ListComp elt [⟨.Name x px, iter, ifs, 0⟩] sc pos) (some (.Name y py)) spos.line X.env = pure true := by rfl) (hs : ∀ v, foldedSetIterable iter X.env v = pure v := by intro _; rfl) :
    PS X (.Assign [.Name y py] (.ListComp elt [⟨.Name x px, iter, ifs, 0⟩] sc pos) spos) (tAsg (tComp wi js tc te) (gName j)) := by
  intro pins s σ H D I h
  rw [exec_Assign_Name_used _ _ _ _ hsw]
  refine wpAny_bind (wpAny_standAt (wpAny_bind ?_))
  refine wpAny_bind (m := comprehension (.ListComp elt [⟨.Name x px, iter, ifs, 0⟩] sc pos) sc X.env _ (newList []) _ _ (some (assign (.Name y py) X.env))) ?_
  refine wpAny_comprehension_free rfl hs (closure_of (S.cells I)) S.kind S.names (comp_core (Q := fun v H' => gName j v σ H' D.nx) hc S Fo hN hi hifs helt I h fun E C H' s' m I' hn fo q => ?_)
  refine wpAny_assign_Name (store_ok2 I' hXN hj (.inl hy) (v := .ref E) rfl (fun s3 I3 hs3 => ?_) (.inr hy))
  obtain ⟨a, sb, ha⟩ := hs3
  have neC : C ≠ a := by
    rcases ha with e | e
    · rw [e]; exact fo.2.1
    · exact (fo.2.2.2.2.1 y a e).symm
  refine ⟨m, hn.sameBut sb neC, fun h' sb' => ?_⟩
  have I5 : Inv X pins (σ.set j (some (.ref E))) H' { s3 with heap := h' } := I3.turned (t' := s3.toks) (fun b o ne e => sb'.extBut b o ne e) fo.1 fo.2.1 fo.2.2.2.1 fo.2.2.2.2.1 fo.2.2.2.2.2
  exact wpAny_pure (wpAny_pure ⟨_, H', I5, q⟩)
end
end L2

end

section
set_option autoImplicit false
set_option maxRecDepth 100000
set_option linter.all false
namespace L2
open PySem PySem.Spec PyProof.Rows EoD Eo

mutual
inductive Rep (K : PySem.W.Frag) (H : Hp) : V → PyData → Prop
  | non : Rep K H .non .none
  | bl (b : Bool) : Rep K H (.bl b) (.bool b)
  | int (i : Int) : Rep K H (.int i) (.int i)
  | tup {a : Addr} {xs : List V} {ds : List PyData} : SqT K H a xs → Reps K H xs ds → Rep K H (.ref a) (.tuple ds)
  | lst {a : Addr} {xs : List V} {ds : List PyData} : SqL K H a xs → Reps K H xs ds → Rep K H (.ref a) (.list ds)
inductive Reps (K : PySem.W.Frag) (H : Hp) : List V → List PyData → Prop
  | nil : Reps K H [] []
  | cons {v : V} {d : PyData} {vs : List V} {ds : List PyData} : Rep K H v d → Reps K H vs ds → Reps K H (v :: vs) (d :: ds)
end
mutual
theorem Rep.reads {X : Cx} {pins : List (Addr × Obj)} {σ : St} {H : Hp} {s : Shared} (I : Inv X pins σ H s) : ∀ {v : V} {d : PyData} {u : Value}, Rep X.K H v d → RelV v u → ∃ as, Reads s.heap u d as
  | _, _, _, .non, r => by cases r; exact ⟨_, .none⟩
  | _, _, _, .bl b, r => by cases r; exact ⟨_, .bool b⟩
  | _, _, _, .int i, r => by obtain ⟨t, rfl⟩ := r; exact ⟨_, .int i t⟩
  | _, _, _, .tup h rs, r => by
    cases r
    obtain ⟨its, rv, ⟨o, e, c, n, d⟩, _⟩ := I.tuple h
    obtain ⟨as, ra⟩ := Reps.reads I rs rv
    exact ⟨_, .tuple e c d ra⟩
  | _, _, _, .lst h rs, r => by
    cases r
    obtain ⟨its, rv, ⟨o, n, e, c, _, d⟩, _⟩ := I.list h
    obtain ⟨as, ra⟩ := Reps.reads I rs rv
    exact ⟨_, .list e c d ra⟩
theorem Reps.reads {X : Cx} {pins : List (Addr × Obj)} {σ : St} {H : Hp} {s : Shared} (I : Inv X pins σ H s) : ∀ {vs : List V} {ds : List PyData} {us : List Value}, Reps X.K H vs ds → Vals vs us → ∃ as, ReadsAll s.heap us ds as
  | _, _, _, .nil, .nil => ⟨_, .nil⟩
  | _, _, _, .cons a b, .cons r t => by
    obtain ⟨as, ra⟩ := Rep.reads I a r
    obtain ⟨bs, rb⟩ := Reps.reads I b t
    exact ⟨_, .cons ra rb⟩
end
def rEqD (K : PySem.W.Frag) : R2 := fun x y H Q => ∃ dx dy, Rep K H x dx ∧ Rep K H y dy ∧ SeqAt.shaped dx = true ∧ SeqAt.shaped dy = true ∧ Q (.bl (PyData.eqv dx dy)) H
def rNeD (K : PySem.W.Frag) : R2 := fun x y H Q => ∃ dx dy, Rep K H x dx ∧ Rep K H y dy ∧ SeqAt.shaped dx = true ∧ SeqAt.shaped dy = true ∧ Q (.bl (!PyData.eqv dx dy)) H
def rInD (K : PySem.W.Frag) : R2 := fun x y H Q => ∃ dx ds, Rep K H x dx ∧ Rep K H y (.list ds) ∧ SeqAt.shaped dx = true ∧ SeqAt.shaped (.list ds) = true ∧ Q (.bl (ds.any fun z => PyData.eqv z dx)) H
section
variable {X : Cx}
theorem op_eqD (hu : X.A.units + 64 < cLine) : OpR X (compareOp .Eq) (rEqD X.K) := by
  intro pins s σ H x y v u Q I rx ry ⟨dx, dy, hx, hy, sx, sy, q⟩
  obtain ⟨as, ra⟩ := hx.reads I rx
  obtain ⟨bs, rb⟩ := hy.reads I ry
  exact eq_dataH ra rb sx sy hu ⟨.bl _, H, I, rfl, q⟩
theorem op_neD (hu : X.A.units + 64 < cLine) : OpR X (compareOp .NotEq) (rNeD X.K) := by
  intro pins s σ H x y v u Q I rx ry ⟨dx, dy, hx, hy, sx, sy, q⟩
  obtain ⟨as, ra⟩ := hx.reads I rx
  obtain ⟨bs, rb⟩ := hy.reads I ry
  exact ne_dataH ra rb sx sy hu ⟨.bl _, H, I, rfl, q⟩
theorem op_inD (hu : X.A.units + 65 < cLine) : OpR X (compareOp .In) (rInD X.K) := by
  intro pins s σ H x y v u Q I rx ry ⟨dx, ds, hx, hy, sx, sy, q⟩
  obtain ⟨as, ra⟩ := hx.reads I rx
  obtain ⟨bs, rb⟩ := hy.reads I ry
  exact SeqAt.in_list_reads rb ra (SeqAt.canLay_of_shaped sy) (SeqAt.canLay_of_shaped sx) (room_in_shaped sx hu) ⟨.bl _, H, I, rfl, q⟩
end

def wd (x : W) : PyData := .tuple [.int x.1, .bool x.2]
def pd (p : W × W) : PyData := .tuple [wd p.1, wd p.2]
theorem eqv_wd (x y : W) : PyData.eqv (wd x) (wd y) = decide (x = y) := by
  obtain ⟨a, b⟩ := x
  obtain ⟨c, d⟩ := y
  simp only [wd, PyData.eqv, PyData.eqvAll, Bool.and_true]
  rw [Bool.eq_iff_iff]
  simp [Prod.ext_iff]
theorem eqv_pd (x y : W × W) : PyData.eqv (pd x) (pd y) = decide (x = y) := by
  obtain ⟨a, b⟩ := x
  obtain ⟨c, d⟩ := y
  have e : PyData.eqv (pd (a, b)) (pd (c, d)) = (PyData.eqv (wd a) (wd c) && (PyData.eqv (wd b) (wd d) && true)) := by simp only [pd, PyData.eqv, PyData.eqvAll]
  rw [e, eqv_wd, eqv_wd, Bool.and_true, Bool.eq_iff_iff]
  simp
theorem eqvAll_map {α : Type} [DecidableEq α] {f : α → PyData} (h : ∀ x y, PyData.eqv (f x) (f y) = decide (x = y)) : ∀ l m : List α, PyData.eqvAll (l.map f) (m.map f) = decide (l = m)
  | [], [] => by simp [PyData.eqvAll]
  | [], _ :: _ => by simp [PyData.eqvAll]
  | _ :: _, [] => by simp [PyData.eqvAll]
  | a :: l, b :: m => by
    simp only [List.map_cons, PyData.eqvAll, h, eqvAll_map h l m]
    rw [Bool.eq_iff_iff]
    simp

def IsW (H : Hp) (v : V) (x : W) : Prop := ∃ p, v = .ref p ∧ H p = some (.tup [.int x.1, .bl x.2])
def IsP (H : Hp) (v : V) (p : W × W) : Prop := ∃ q a b, v = .ref q ∧ H q = some (.tup [a, b]) ∧ IsW H a p.1 ∧ IsW H b p.2
abbrev Ws (H : Hp) : List V → List W → Prop := Paired (IsW H)
abbrev Ps (H : Hp) : List V → List (W × W) → Prop := Paired (IsP H)
section
variable {K : PySem.W.Frag} {H H' : Hp} {v : V} {x : W} {p : W × W}
theorem IsW.same (e : Same H H') (h : IsW H v x) : IsW H' v x := let ⟨q, h1, h2⟩ := h; ⟨q, h1, e _ _ h2⟩
theorem IsP.same (e : Same H H') (h : IsP H v p) : IsP H' v p := let ⟨q, a, b, h1, h2, h3, h4⟩ := h; ⟨q, a, b, h1, e _ _ h2, h3.same e, h4.same e⟩
theorem IsW.rep (h : IsW H v x) : Rep K H v (wd x) := by
  obtain ⟨q, rfl, h2⟩ := h
  exact .tup (SqT.of h2) (.cons (.int _) (.cons (.bl _) .nil))
theorem IsP.rep (h : IsP H v p) : Rep K H v (pd p) := by
  obtain ⟨q, a, b, rfl, h2, h3, h4⟩ := h
  exact .tup (SqT.of h2) (.cons h3.rep (.cons h4.rep .nil))
theorem Ws.same (e : Same H H') {vs : List V} {xs : List W} (h : Ws H vs xs) : Ws H' vs xs := Paired.mapP h fun _ _ z => z.same e
theorem Ps.same (e : Same H H') {vs : List V} {xs : List (W × W)} (h : Ps H vs xs) : Ps H' vs xs := Paired.mapP h fun _ _ z => z.same e
theorem Ws.reps : ∀ {vs : List V} {xs : List W}, Ws H vs xs → Reps K H vs (xs.map wd)
  | _, _, .nil => .nil
  | _, _, .cons a b => .cons a.rep (Ws.reps b)
theorem Ps.reps : ∀ {vs : List V} {xs : List (W × W)}, Ps H vs xs → Reps K H vs (xs.map pd)
  | _, _, .nil => .nil
  | _, _, .cons a b => .cons a.rep (Ps.reps b)
theorem paired_get {α β : Type} {F : α → β → Prop} : ∀ {l : List α} {m : List β}, Paired F l m → ∀ {i : Nat} {a : α}, l[i]? = some a → ∃ b, m[i]? = some b ∧ F a b
  | _, _, .nil, i, a, h => by simp at h
  | _, _, .cons f t, 0, a, h => by simp at h; subst h; exact ⟨_, rfl, f⟩
  | _, _, .cons f t, i + 1, a, h => by
    obtain ⟨b, h1, h2⟩ := paired_get t (i := i) (a := a) (by simpa using h)
    exact ⟨b, by simpa using h1, h2⟩
theorem paired_get' {α β : Type} {F : α → β → Prop} : ∀ {l : List α} {m : List β}, Paired F l m → ∀ {i : Nat} {b : β}, m[i]? = some b → ∃ a, l[i]? = some a ∧ F a b
  | _, _, .nil, i, a, h => by simp at h
  | _, _, .cons f t, 0, a, h => by simp at h; subst h; exact ⟨_, rfl, f⟩
  | _, _, .cons f t, i + 1, a, h => by
    obtain ⟨b, h1, h2⟩ := paired_get' t (i := i) (b := a) (by simpa using h)
    exact ⟨b, by simpa using h1, h2⟩
end

abbrev R3 (p : W × Addr × V) (q : W × Addr × Value) : Prop := p.1 = q.1 ∧ p.2.1 = q.2.1 ∧ RelV p.2.2 q.2.2
def DO (P : Program) (w : World) (a : Addr) (xs : List (W × Addr × V)) : HO := .ext fun h => (a == sysModules) = false ∧ ∃ ys : List (W × Addr × Value), Paired R3 xs ys ∧
  ∃ o es ep, h.get? a = some o ∧ o.ExactDict ∧ o.data = .dict es ep ∧ es.toList = ys.map (entryOfKey (wordKind P w)) ∧ (ys.map (·.1)).Nodup
theorem do_ok {P : Program} {w : World} {H : Hp} {h : Heap} {a : Addr} {xs : List (W × Addr × V)} {ys : List (W × Addr × Value)} {o : Obj} {es : Array DictEntry} {ep : Nat} (hd : (a == sysModules) = false) (r : Paired R3 xs ys) (e : h.get? a = some o) (c : o.ExactDict) (d : o.data = .dict es ep)
    (t : es.toList = ys.map (entryOfKey (wordKind P w))) (n : (ys.map (·.1)).Nodup) : ObjOk P w H h a (DO P w a xs) :=
  ⟨⟨hd, ys, r, o, es, ep, e, c, d, t, n⟩, ⟨o, e⟩, fun h1 h2 ⟨hd, ys, r, o, es, ep, e, c⟩ k => ⟨hd, ys, r, o, es, ep, k o e, c⟩⟩
/-- the dict at a holds the pairs kvs -/
structure DW (P : Program) (w : World) (H : Hp) (a : Addr) (kvs : List (W × V)) : Prop where
  ex : ∃ xs : List (W × Addr × V), H a = some (DO P w a xs) ∧ (∀ x ∈ xs, H x.2.1 = some (.tup [.int x.1.1, .bl x.1.2])) ∧ kvs = xs.map fun x => (x.1, x.2.2)
  len : kvs.length ≤ 1000
theorem DW.same {P : Program} {w : World} {H H' : Hp} {a : Addr} {kvs : List (W × V)} (e : Same H H') (d : DW P w H a kvs) : DW P w H' a kvs :=
  ⟨let ⟨xs, h1, h2, h3⟩ := d.ex; ⟨xs, e _ _ h1, fun x hx => e _ _ (h2 x hx), h3⟩, d.len⟩
theorem val_rel {xs : List (W × Addr × V)} {ys : List (W × Addr × Value)} (r : Paired R3 xs ys) (k : W) : RelO (valV (xs.map fun x => (x.1, x.2.2)) k) ((atKey ys k).map (·.2)) := by
  induction r with
  | nil => exact True.intro
  | @cons p q xs ys h t ih =>
    obtain ⟨h1, h2, h3⟩ := h
    rw [List.map_cons]
    by_cases e : p.1 = k
    · have e' : q.1 = k := h1.symm.trans e
      rw [valV_pos (p := (p.1, p.2.2)) e]
      have : atKey (q :: ys) k = some q.2 := by simp [atKey, List.find?_cons, e']
      rw [this]
      exact h3
    · have e' : ¬ q.1 = k := fun z => e (h1.trans z)
      rw [valV_neg (p := (p.1, p.2.2)) e]
      have : atKey (q :: ys) k = atKey ys k := by simp [atKey, List.find?_cons, e']
      rw [this]
      exact ih
section
variable {X : Cx} {pins : List (Addr × Obj)} {σ : St} {H : Hp} {s : Shared} {a : Addr} {kvs : List (W × V)} {A : Around} {E : Value → Shared → Prop}
theorem key_at (I : Inv X pins σ H s) {p : Addr} {x : W} (h : H p = some (.tup [.int x.1, .bl x.2])) : (wordKind X.prog X.w).is s.heap x p := by
  obtain ⟨_, its, r, o, e, c, n, d⟩ := (show ObjOk X.prog X.w H s.heap p (.tup _) from I.hok p _ h)
  obtain ⟨u, v, rfl, ⟨t, rfl⟩, rb⟩ := vals2 r
  cases rb
  exact word_is e c d rfl
structure At (X : Cx) (H : Hp) (s : Shared) (a : Addr) (kvs : List (W × V)) (xs : List (W × Addr × V)) (ys : List (W × Addr × Value)) : Prop where
  eH : H a = some (DO X.prog X.w a xs)
  tups : ∀ x ∈ xs, H x.2.1 = some (.tup [.int x.1.1, .bl x.1.2])
  kv : kvs = xs.map fun x => (x.1, x.2.2)
  nm : (a == sysModules) = false
  rel : Paired R3 xs ys
  dict : s.heap.DictOfH (wordKind X.prog X.w) a ys
theorem DW.at (I : Inv X pins σ H s) (d : DW X.prog X.w H a kvs) : ∃ xs ys, At X H s a kvs xs ys := by
  obtain ⟨xs, h1, h2, h3⟩ := d.ex
  obtain ⟨⟨hd, ys, r, o, es, ep, e, c, dd, t, n⟩, _⟩ := (show ObjOk X.prog X.w H s.heap a (DO X.prog X.w a xs) from I.hok a _ h1)
  refine ⟨xs, ys, h1, h2, h3, hd, r, o, es, ep, e, c, dd, t, fun y hy => ?_, n⟩
  obtain ⟨i, hi⟩ := List.mem_iff_getElem?.mp hy
  obtain ⟨x, hx, r1, r2, _⟩ := paired_get' r hi
  rw [← r1, ← r2]
  exact key_at I (h2 x (List.mem_of_getElem? hx))
theorem At.val {xs : List (W × Addr × V)} {ys : List (W × Addr × Value)} (t : At X H s a kvs xs ys) (k : W) : RelO (valV kvs k) ((atKey ys k).map (·.2)) := by
  rw [t.kv]
  exact val_rel t.rel k
theorem At.some_eq {xs : List (W × Addr × V)} {ys : List (W × Addr × Value)} (t : At X H s a kvs xs ys) (k : W) : (atKey ys k).isSome = (valV kvs k).isSome := by
  rw [(t.val k).isSome_eq]
  simp
def rNiW (P : Program) (w : World) : R2 := fun x y H Q => ∃ a k kvs, y = .ref a ∧ IsW H x k ∧ DW P w H a kvs ∧ Q (.bl (!(valV kvs k).isSome)) H
theorem op_niW (hu : X.A.units + 1 < cLine) : OpR X (compareOp .NotIn) (rNiW X.prog X.w) := by
  intro pins s σ H x y v u Q I rx ry ⟨a, k, kvs, e, ⟨p, ep, hp⟩, d, q⟩
  subst e; subst ep
  cases rx; cases ry
  obtain ⟨xs, ys, t⟩ := d.at I
  exact wpAny_notIn_heap (wordKind_room hu) (key_at I hp) t.nm t.dict (by rw [t.some_eq]; exact ⟨.bl _, H, I.tok _, rfl, q⟩)
def tWGet (P : Program) (w : World) (td ty : TE) : TE := fun σ H Q => td σ H fun x H1 => ty σ H1 fun y H2 => ∃ a k kvs v, x = .ref a ∧ IsW H2 y k ∧ DW P w H2 a kvs ∧ valV kvs k = some v ∧ Q v H2
theorem At.ty {xs : List (W × Addr × V)} {ys : List (W × Addr × Value)} (t : At X H s a kvs xs ys) : s.TypeIs (.ref a) "dict" := t.dict.typeIs
theorem pe_wget {o i : Expr} {pos : Pos} {td ty : TE} (hu : X.A.units + 1 < cLine) (ho : PE X o td) (hi : PE X i ty) (hs : NoSl i) : PE X (.Subscript o i pos) (tWGet X.prog X.w td ty) := by
  intro pins s σ H Q I h
  refine subD_of PySem.F.slot_dict_getitem.lookup hs (thn (ho pins s σ H _ I h) fun u s1 ⟨x, H1, I1, rx, q1⟩ => thn (hi pins s1 σ H1 _ I1 q1) fun iv s2 ⟨y, H2, I2, ry, a, k, kvs, v, e, ⟨p, ep, hp⟩, d, l, q2⟩ => ?_)
  subst e; subst ep
  cases rx; cases ry
  obtain ⟨xs, ys, t⟩ := d.at I2
  refine ⟨t.ty, ?_⟩
  have r := t.val k
  rw [l] at r
  obtain ⟨w', hw, rw'⟩ := r.some_of
  obtain ⟨z, hz, ez⟩ := Option.map_eq_some_iff.mp hw
  exact wpAny_getItem_heap (wordKind_room hu) (key_at I2 hp) t.dict hz (by rw [ez]; exact ⟨v, H2, I2.tok _, rw', q2⟩)
/-- d[y] = v, a new key -/
def sWPut (P : Program) (w : World) (td ty tv : TE) : TS := fun D σ H => tv σ H fun v H1 => td σ H1 fun x H2 => ty σ H2 fun y H3 => ∃ a k kvs, x = .ref a ∧ IsW H3 y k ∧ DW P w H3 a kvs ∧ valV kvs k = none ∧ kvs.length < 1000 ∧
  ∀ o, DW P w (upd H3 a o) a (kvs ++ [(k, v)]) → D.nx σ (upd H3 a o)
theorem atKey_none {xs : List (W × Addr × V)} {ys : List (W × Addr × Value)} (t : At X H s a kvs xs ys) {k : W} (l : valV kvs k = none) : atKey ys k = none := by
  have r := t.some_eq k
  rw [l] at r
  cases q : atKey ys k with
  | none => rfl
  | some z => rw [q] at r; cases r
/-- behind a store of a new key -/
theorem put_new {h' : Heap} {t' : Nat} {p : Addr} {k : W} {v : V} {u : Value} {xs : List (W × Addr × V)} {ys : List (W × Addr × Value)} (I : Inv X pins σ H s) (t : At X H s a kvs xs ys) (hp : H p = some (.tup [.int k.1, .bl k.2])) (rv : RelV v u) (l : valV kvs k = none)
    (hn : kvs.length < 1000) (dd : h'.DictOfH (wordKind X.prog X.w) a (storedH ys k p u)) (hs : Heap.SameBut a s.heap h') :
    Inv X pins σ (upd H a (DO X.prog X.w a (xs ++ [(k, p, v)]))) { s with heap := h', toks := t' } ∧ DW X.prog X.w (upd H a (DO X.prog X.w a (xs ++ [(k, p, v)]))) a (kvs ++ [(k, v)]) := by
  rw [storedH_new (atKey_none t l)] at dd
  obtain ⟨o, es, ep, e, c, d, es', _, n⟩ := dd
  have rel : Paired R3 (xs ++ [(k, p, v)]) (ys ++ [(k, p, u)]) := t.rel.snoc ⟨rfl, rfl, rv⟩
  have tupNe : ∀ {b : Addr} {zs : List V}, H b = some (.tup zs) → b ≠ a := fun hb => ne_of hb t.eH (fun z => nomatch z)
  refine ⟨d_write I (by rw [t.eH]; exact True.intro) hs ⟨o, e⟩ (do_ok t.nm rel e c d es' n), ⟨xs ++ [(k, p, v)], upd_same, fun x hx => ?_, ?_⟩, ?_⟩
  · rcases List.mem_append.mp hx with hx | hx
    · rw [upd_ne (tupNe (t.tups x hx))]
      exact t.tups x hx
    · have ex : x = (k, p, v) := by simpa using hx
      subst ex
      rw [upd_ne (tupNe hp)]
      exact hp
  · rw [t.kv, List.map_append]
    rfl
  · rw [List.length_append]
    show kvs.length + 1 ≤ 1000
    omega
theorem ys_len {xs : List (W × Addr × V)} {ys : List (W × Addr × Value)} (t : At X H s a kvs xs ys) : ys.length = kvs.length := by
  rw [t.kv, List.length_map, ← Paired.length t.rel]
theorem ps_wput {o i value : Expr} {pos pos' : Pos} {td ty tv : TE} (hu : X.A.units + 1 < cLine) (ho : PE X o td) (hi : PE X i ty) (hv : PE X value tv) (hs : swapsWith value (some (.Subscript o i pos')) pos.line X.env = pure false := by rfl) :
    PS X (.Assign [.Subscript o i pos'] value pos) (sWPut X.prog X.w td ty tv) := by
  intro pins s σ H D I h
  refine wpAny_Assign_Subscript (thn (hv pins s σ H _ I h) fun r s1 ⟨v, H1, I1, rv, q1⟩ => thn (ho pins s1 σ H1 _ I1 q1) fun u s2 ⟨x, H2, I2, rx, q2⟩ => thn (hi pins s2 σ H2 _ I2 q2) fun iv s3 ⟨y, H3, I3, ry, a, k, kvs, e, ⟨p, ep, hp⟩, d, l, hn, q3⟩ => ?_) hs
  subst e; subst ep
  cases rx; cases ry
  obtain ⟨xs, ys, t⟩ := d.at I3
  have hz : ys.length ≤ sizeLine := by rw [ys_len t, sizeLine_eq]; omega
  refine wpAny_setItem_heap (hsz := hz) (wordKind_room hu) (key_at I3 hp) t.dict fun h' dd sb => ?_
  obtain ⟨I4, d4⟩ := put_new (t' := s3.toks + (wordKind X.prog X.w).draws k) I3 t hp rv l hn dd sb
  exact ⟨σ, _, I4, q3 _ d4⟩
theorem dw_empty (I : Inv X pins σ H s) : Inv X pins σ (upd H s.heap.objs.size (DO X.prog X.w s.heap.objs.size [])) { s with heap := s.heap.push { cls := .type "dict", data := .dict #[] } } ∧ DW X.prog X.w (upd H s.heap.objs.size (DO X.prog X.w s.heap.objs.size [])) s.heap.objs.size [] := by
  have hb := I.big
  have nm : (s.heap.objs.size == sysModules) = false := beq_eq_false_iff_ne.mpr (Ne.symm (Nat.ne_of_lt hb))
  refine ⟨I.laid (t' := s.toks) (fun _ _ q => Heap.get?_push_of_some _ q) (Nat.le_refl _) (do_ok (ys := []) nm .nil (Heap.get?_push_size _ rfl) ⟨rfl, rfl, rfl⟩ rfl rfl List.nodup_nil), ⟨[], upd_same, fun x hx => by simp at hx, rfl⟩, Nat.zero_le _⟩
/-- {k: v} -/
def tWOne (P : Program) (w : World) (tk tv : TE) : TE := fun σ H Q => ∀ p o, H p = none → tk σ (upd H p o) fun x H1 => tv σ H1 fun y H2 => ∃ k, IsW H2 x k ∧ H2 p = some o ∧ ∀ o', DW P w (upd H2 p o') p [(k, y)] → Q (.ref p) (upd H2 p o')
theorem pe_wone {ke ve : Expr} {pos : Pos} {tk tv : TE} (hu : X.A.units < cLine) (hk : PE X ke tk) (hv : PE X ve tv) : PE X (.Dict [some ke] [ve] pos) (tWOne X.prog X.w tk tv) := by
  intro pins s σ H Q I h
  obtain ⟨I1, d1⟩ := dw_empty I
  have q := h s.heap.objs.size (DO X.prog X.w s.heap.objs.size []) (I.hok.fresh (Nat.le_refl _))
  refine wpAny_Dict_any (by rfl) rfl (by simp) (by simp) (pairTrees_cons_walk (thn (hk pins _ σ _ _ I1 q) fun kv s2 ⟨x, H2, I2, rx, q2⟩ => thn (hv pins s2 σ H2 _ I2 q2) fun vv s3 ⟨y, H3, I3, ry, k, ⟨p, ep, hp⟩, e3, q3⟩ => pairTrees_nil_walk ?_))
  subst ep
  cases rx
  have d3 : DW X.prog X.w H3 s.heap.objs.size [] := ⟨⟨[], e3, fun x hx => by simp at hx, rfl⟩, Nat.zero_le _⟩
  obtain ⟨xs, ys, t⟩ := d3.at I3
  have hz : ys.length ≤ sizeLine := by rw [ys_len t]; exact Nat.zero_le _
  unfold storeAll
  rw [List.forIn_cons]
  refine wpAny_bind (wpAny_bind (wpAny_dictSet_heap (hsz := hz) (knd := wordKind X.prog X.w) hu (key_at I3 hp) t.dict fun h' dd sb => wpAny_pure ?_))
  dsimp only
  rw [List.forIn_nil]
  obtain ⟨I4, d4⟩ := put_new (t' := s3.toks + (wordKind X.prog X.w).draws k) I3 t hp ry rfl (by decide) dd sb
  exact wpAny_pure ⟨.ref s.heap.objs.size, _, I4, rfl, q3 _ d4⟩
end
end L2

end

section
set_option autoImplicit false
set_option maxRecDepth 100000
set_option linter.all false
namespace L2
open PySem PySem.Spec PyProof.Rows EoD Eo

theorem ObjOk.there {P : Program} {w : World} {H : Hp} {h : Heap} {a : Addr} {o : HO} (x : ObjOk P w H h a o) : ∃ u, h.get? a = some u := by
  cases o with
  | lst xs => obtain ⟨_, _, _, _, e⟩ := x; exact ⟨_, e⟩
  | tup xs => obtain ⟨_, _, _, o, e, _⟩ := x; exact ⟨o, e⟩
  | dK kvs => obtain ⟨_, _, _, _, o, _, _, e, _⟩ := x; exact ⟨o, e⟩
  | dT kvs => obtain ⟨_, _, _, _, o, _, _, e, _⟩ := x; exact ⟨o, e⟩
  | set S n => obtain ⟨o, _, _, _, e, _⟩ := x; exact ⟨o, e⟩
  | ins C dx fs => obtain ⟨_, _, _, e, _⟩ := x; exact ⟨_, e⟩
  | own y => exact x
  | xd fs => obtain ⟨_, ⟨o, _, _, e, _⟩, _⟩ := x; exact ⟨o, e⟩
  | rng lo hi => obtain ⟨_, _, _, e⟩ := x; exact ⟨_, e⟩
  | frz ob u => obtain ⟨e, _⟩ := x; exact ⟨_, e⟩
  | tbl ps => exact ⟨_, x⟩
  | met f y => exact ⟨_, x⟩
  | ext φ => exact x.2.1
theorem ns_one {h : Heap} {a : Addr} {m m' : Str → Option Value} (x : h.Ns a m) (y : h.Ns a m') : m = m' := by
  obtain ⟨o, es, ep, e, d, _, f⟩ := x
  obtain ⟨o', es', ep', e', d', _, f'⟩ := y
  rw [e] at e'
  cases e'
  rw [d] at d'
  cases d'
  funext n
  rw [← f n, ← f' n]
section
variable {X : Cx} {pins : List (Addr × Obj)} {σ : St} {H : Hp} {s : Shared}
/-- all but the frame is kept, the frame's map too; a new list stands at D -/
theorem Inv.grew {h' : Heap} {t' : Nat} {D : Addr} {vs : List V} {its : List Value} {n : Nat} (I : Inv X pins σ H s) (hn : s.heap.get? D = none) (hL : D ≠ X.env.locals) (k : ∀ b o, b ≠ X.env.locals → s.heap.get? b = some o → h'.get? b = some o)
    (ns : ∀ m, s.heap.Ns X.env.locals m → h'.Ns X.env.locals m) (e : h'.get? D = some { cls := .type "list", data := .seq its.toArray n }) (r : Vals vs its) (z : vs.length ≤ sizeLine) : H D = none ∧ Inv X pins σ (upd H D (.lst vs)) { s with heap := h', toks := t' } := by
  have hD : H D = none := by
    cases q : H D with
    | none => rfl
    | some o =>
      obtain ⟨u, hu⟩ := (I.hok D o q).there
      rw [hn] at hu
      cases hu
  have ne : ∀ b o, s.heap.get? b = some o → b ≠ D := fun b o e z => by rw [z, hn] at e; cases e
  have neT : ∀ b u, H b = some u → b ≠ D := fun b u e z => by rw [z, hD] at e; cases e
  have nL : ∀ b u, H b = some u → b ≠ X.env.locals := fun b u e z => by rw [z, I.free] at e; cases e
  have there : ∀ b o, s.heap.get? b = some o → ∃ o', h'.get? b = some o' := fun b o e => by
    by_cases hb : b = X.env.locals
    · obtain ⟨m, hm, _⟩ := I.loc
      obtain ⟨o', _, _, e', _⟩ := ns m hm
      exact ⟨o', by rw [hb]; exact e'⟩
    · exact ⟨o, k b o hb e⟩
  refine ⟨hD, I.step (g' := s.gens) (d' := s.drawn) (ch := []) (fun _ z => nomatch z) (fun b o h1 _ _ e _ => k b o h1 e) (fun b o h1 _ _ e _ => ⟨o.slots, k b o h1 e⟩) (fun b o _ e n => by rw [upd_ne (ne b o e)]; exact n) (fun b o _ e => there b o e)
    (fun b xs e => by rw [upd_ne (neT b _ e)]; exact e) (fun b o u e => by rw [upd_ne (neT b _ e)]; exact e) (fun b ps e => ⟨#[], by rw [upd_ne (neT b _ e), e]; simp⟩) ns (fun b u q => ?_) I.bare⟩
  by_cases hb : b = D
  · subst hb
    rw [upd_same] at q
    cases q
    exact ⟨z, its, n, r, e⟩
  · rw [upd_ne hb] at q
    refine (I.hok b u q).stay (fun c v hc w => ?_) (fun c w => by rw [upd_ne (neT c _ w)]; exact w) fun c xs w => by rw [upd_ne (neT c _ w)]; exact w
    rcases hc with rfl | hc
    · exact k _ v (nL _ _ q) w
    · exact k _ v (nL _ _ hc) w
theorem news_keep {base h h' : Heap} {L : Addr} {m m' : Str → Option Value} {q : List (Addr × Obj)} (F : Fr base L h m) (F' : Fr base L h' m') (N : News base L h' q) (hq : ∀ p ∈ allNews base h L, p ∈ q) : ∀ b o, b ≠ L → h.get? b = some o → h'.get? b = some o := fun b o hb e => by
  cases z : base.get? b with
  | some u =>
    have := F.keep b u z
    rw [e] at this
    cases this
    exact F'.keep b _ z
  | none => exact (N (b, o) (hq _ (mem_allNews hb z e))).1
end

section
variable {prog : Program} {w : World} {A : Around} {E : Value → Shared → Prop} {s : Shared} {Q : Bool → Shared → Prop}
theorem word_lt {a b : Addr} {oa ob : Obj} {x y : W} {ia ib : Array Value} {na nb : Nat} {t u : Tok} (e1 : s.heap.get? a = some oa) (d1 : oa.data = .seq ia na) (i1 : ia.toList = [.int x.1 t, .bool x.2]) (e2 : s.heap.get? b = some ob) (d2 : ob.data = .seq ib nb) (i2 : ib.toList = [.int y.1 u, .bool y.2])
    (q : Q (decide (code x < code y)) s) : wpAny (model prog w) A (keyLt' (tuples' true) (.ref a) (.ref b)) Q E s := by
  have z1 : ia.size = 2 := by rw [← Array.length_toList, i1]; rfl
  have z2 : ib.size = 2 := by rw [← Array.length_toList, i2]; rfl
  refine PySem.W.kat_lt e1 d1 e2 d2 ?_
  rw [i1, i2, z1, z2]
  show PySem.W.KatLex prog w A true (decide (2 < 2)) Q [(.int x.1 t, .int y.1 u), (.bool x.2, .bool y.2)] 0 s
  refine PySem.W.kat_cons (SeqAt.EqAt.int_int x.1 t y.1 u prog w _ _ ?_)
  by_cases h : x.1 = y.1
  · have hb : (x.1 == y.1) = true := by simp [h]
    rw [hb]
    refine PySem.W.kat_yes (PySem.W.kat_cons (SeqAt.EqAt.bool_bool x.2 y.2 prog w _ _ ?_))
    by_cases g : x.2 = y.2
    · have gb : (x.2 == y.2) = true := by simp [g]
      rw [gb]
      refine PySem.W.kat_yes (PySem.W.kat_nil ?_)
      have e : decide (code x < code y) = decide (2 < 2) := by
        rw [show x = y from Prod.ext h g]
        simp
      rw [← e]
      exact q
    · have gb : (x.2 == y.2) = false := by simp [g]
      rw [gb]
      refine PySem.W.kat_no (PySem.W.kat_one _ _ (lt_bool ?_))
      have e : decide (code x < code y) = decide (b2i x.2 < b2i y.2) := by
        unfold Eo.code b2i
        rw [h]
        revert g
        cases x.2 <;> cases y.2 <;> simp <;> omega
      show Q (decide (b2i x.2 < b2i y.2)) s
      rw [← e]
      exact q
  · have hb : (x.1 == y.1) = false := by simp [h]
    rw [hb]
    refine PySem.W.kat_no (oneLt_int ?_)
    have e : decide (code x < code y) = decide (x.1 < y.1) := by
      unfold Eo.code
      rw [Bool.eq_iff_iff]
      simp only [decide_eq_true_iff]
      cases x.2 <;> cases y.2 <;> simp <;> omega
    rw [← e]
    exact q
end

/-- where the word y stands -/
def TupAt (h : Heap) (y : W × Addr × Value) : Prop := ∃ o its n t, h.get? y.2.1 = some o ∧ o.cls = .type "tuple" ∧ o.data = .seq its n ∧ its.toList = [Value.int y.1.1 t, .bool y.1.2]
theorem firsts {h : Heap} : ∀ {ys : List (W × Addr × Value)}, (∀ y ∈ ys, TupAt h y) → ∃ fs : List Value, fs.length = ys.length ∧ PySem.W.KatTups h (ys.map fun y => Value.ref y.2.1) fs ∧ ∀ v ∈ fs, ∃ i t, v = Value.int i t
  | [], _ => ⟨[], rfl, .nil, fun v hv => by simp at hv⟩
  | y :: ys, hy => by
    obtain ⟨fs, h1, h2, h3⟩ := firsts (ys := ys) fun z hz => hy z (List.mem_cons_of_mem _ hz)
    obtain ⟨o, its, n, t, e, c, d, i⟩ := hy y List.mem_cons_self
    refine ⟨.int y.1.1 t :: fs, by simp [h1], .cons e c d ?_ h2, fun v hv => ?_⟩
    · rw [← Array.getElem?_toList, i]; rfl
    · rcases List.mem_cons.mp hv with rfl | hv
      · exact ⟨_, _, rfl⟩
      · exact h3 v hv
section
variable {prog : Program} {w : World} {A : Around} {E : Value → Shared → Prop} {s : Shared}
/-- a list of one item, sorted -/
theorem sort_one {a : Addr} {v : Value} {n : Nat} {P : PySem.Fin → Shared → Prop} (ho : s.heap.get? a = some (seqObj "list" [v].toArray n))
    (h : ∀ h' c, h'.get? a = some (seqObj "list" [v].toArray c) → (∀ b o, b ≠ a → s.heap.get? b = some o → h'.get? b = some o) → P (.done (.ret .none)) { s with heap := h' }) : wpAny (model prog w) A (Builtin.«list.sort» ⟨[.ref a], []⟩) P E s := by
  rw [list_sort_plain]
  have lt : a < s.heap.objs.size := Heap.lt_size ho
  refine wpAny_bind (listItems_at ho rfl (wpAny_bind (listUpdate_at ho rfl ?_)))
  obtain ⟨c1, e1⟩ : ∃ c, (s.heap.update a (Obj.mapSeq fun _ => #[])).get? a = some (seqObj "list" #[] c) := ⟨_, get?_update_seq ho fun _ => #[]⟩
  refine wpAny_bind (seqEpoch_at e1 rfl (wpAny_bind (wpAny_newTuple (wpAny_bind (wpAny_newList (wpAny_holding ?_))))))
  have e2 : (((s.heap.update a (Obj.mapSeq fun _ => #[])).push (seqObj "tuple" [v].toArray 0)).push (seqObj "list" #[] 0)).get? a = some (seqObj "list" #[] c1) := Heap.get?_push_of_some _ (Heap.get?_push_of_some _ e1)
  show wpAny (model prog w) A _ P E { s with heap := ((s.heap.update a (Obj.mapSeq fun _ => #[])).push (seqObj "tuple" [v].toArray 0)).push (seqObj "list" #[] 0) }
  dsimp only
  rw [if_pos (show ([v].toArray).size < 2 by simp), if_pos (show ([v].toArray).size < 2 by simp)]
  refine wpAny_bind (wpAny_pure ?_)
  rw [StateT.run_pure]
  refine wpAny_bind (wpAny_pure ?_)
  dsimp only
  have ea : (arrOf (SortSt.mk' general' ([v].toArray.zip [v].toArray) #[] 7 none)).map (·.2) = [v].toArray := by show ([v].toArray.zip [v].toArray).map (·.2) = [v].toArray; simp
  rw [ea]
  refine wpAny_bind (seqEpoch_at e2 rfl (wpAny_bind (listUpdate_at e2 rfl ?_)))
  simp only [bne_self_eq_false, Bool.false_eq_true, if_false]
  obtain ⟨c3, e3⟩ : ∃ c, ((((s.heap.update a (Obj.mapSeq fun _ => #[])).push (seqObj "tuple" [v].toArray 0)).push (seqObj "list" #[] 0)).update a (Obj.mapSeq fun _ => [v].toArray)).get? a = some (seqObj "list" [v].toArray c) := ⟨_, get?_update_seq e2 fun _ => [v].toArray⟩
  refine wpAny_pure (h _ c3 e3 fun b o hb e => ?_)
  exact (Heap.get?_update_other _ _ (Ne.symm hb)).trans (Heap.get?_push_of_some _ (Heap.get?_push_of_some _ ((Heap.get?_update_other _ _ (Ne.symm hb)).trans e)))
end
theorem getD_map {α β : Type} {f : α → β} {l : List α} {i : Nat} (h : i < l.length) (d : β) : (l.map f).getD i d = f l[i] := by simp [List.getD, h]
section
variable {X : Cx}
end
end L2

end

section
set_option autoImplicit false
set_option maxRecDepth 100000
set_option linter.all false
namespace L2
open PySem PySem.Spec PyProof.Rows EoD Eo
section
variable {X : Cx}
theorem vals_bools : ∀ {bs : List Bool} {us : List Value}, Vals (bs.map V.bl) us → LSm.BoolsAre us bs
  | [], _, .nil => .nil
  | b :: bs, _, .cons r t => by cases r; exact .cons b (vals_bools t)
/-- all([..]) of truths -/
theorem call_allB (hc : (0 : Nat) = 0) : CallR X (.builtin "all") (fun xs H Q => ∃ (p : Addr) (bs : List Bool), xs = [.ref p] ∧ SqL X.K H p (bs.map V.bl) ∧ Q (.bl (bs.all id)) H) := by
  intro pins s σ H xs us Q I r ⟨p, bs, e, hq, q⟩
  subst e
  obtain ⟨u, rfl, ru⟩ := vals1 r
  cases ru
  obtain ⟨its, rv, pl, hz⟩ := I.list hq
  obtain ⟨m, F⟩ := I.fr
  refine EoH.all_bools F (news_all (g := X.base) (h := s.heap) (L := X.env.locals)) I.hdn pl.isList (vals_bools rv) fun h' tk F' N' => ⟨.bl _, H, ?_, rfl, q⟩
  have k := news_keep F F' N' fun _ hp => hp
  have nL : ∀ b u, H b = some u → b ≠ X.env.locals := fun b u e z => by rw [z, I.free] at e; cases e
  have there : ∀ b o, s.heap.get? b = some o → ∃ o', h'.get? b = some o' := fun b o e => by
    by_cases hb : b = X.env.locals
    · obtain ⟨o', _, _, e', _⟩ := F'.ns
      exact ⟨o', by rw [hb]; exact e'⟩
    · exact ⟨o, k b o hb e⟩
  refine I.step (g' := s.gens) (d' := s.drawn) (ch := []) (fun _ z => nomatch z) (fun b o h1 _ _ e _ => k b o h1 e) (fun b o h1 _ _ e _ => ⟨o.slots, k b o h1 e⟩) (fun b o _ e n => n) (fun b o _ e => there b o e) (fun _ _ e => e) (fun _ _ _ e => e) (fun b ps e => ⟨#[], by rw [e]; simp⟩)
    (fun m' hm' => by rw [← ns_one F.ns hm']; exact F'.ns) (fun b u w => (I.hok b u w).stay (fun c v hc z => ?_) (fun _ z => z) fun _ _ z => z) I.bare
  rcases hc with rfl | hc
  · exact k _ v (nL _ _ w) z
  · exact k _ v (nL _ _ hc) z
/-- isinstance(x, T) of a built-in type -/
theorem call_isinst : CallR X (.builtin "isinstance") (fun xs H Q => ∃ x T t b, xs = [x, .ty T] ∧ TyOf X.K H x t ∧ PySem.W.kitOne X.K t (.type T) = some b ∧ Q (.bl b) H) := by
  intro pins s σ H xs us Q I r ⟨x, T, t, b, e, ty, hk, q⟩
  subst e
  obtain ⟨u, v, rfl, ru, rv⟩ := vals2 r
  cases rv
  exact isinst_ok I ru ty hk fun tk => ⟨.bl b, H, I.tok tk, rfl, q⟩
/-- list(reversed(e)) -/
def tRev (K : PySem.W.Frag) (te : TE) : TE := fun σ H Q => te σ H fun x H1 => ∃ p ys, x = .ref p ∧ SqL K H1 p ys ∧ ys.length ≤ 1000 ∧ ∀ l, H1 l = none → Q (.ref l) (upd H1 l (.lst ys.reverse))
theorem rev_vals {ys : List V} {its : List Value} {acc : Array Value} (r : Vals ys its) (h : ItemsOf (fun i v => its.toArray[its.toArray.size - 1 - i]? = some v) acc its.toArray.size) : acc.toList = its.reverse := by
  apply List.ext_getElem?
  intro i
  have hs : acc.toList.length = its.length := by simpa using h.1
  by_cases hi : i < its.length
  · have hi' : i < acc.size := by simpa using (show i < acc.toList.length by omega)
    have g : its.toArray[its.toArray.size - 1 - i]? = some acc[i] := h.2 i acc[i] (Array.getElem?_eq_getElem hi')
    rw [← Array.getElem?_toList] at g
    have e1 : acc.toList[i]? = some acc[i] := by simp [hi']
    rw [e1, List.getElem?_reverse hi, ← g]
    simp
  · rw [List.getElem?_eq_none (by omega), List.getElem?_eq_none (by rw [List.length_reverse]; omega)]
theorem pe_listrev {e : Expr} {te : TE} {p1 p2 p3 p4 : Pos} (hc : X.calm = true) (he : PE X e te) (g1 : Gl X "list") (m1 : X.mg "list" = none) (g2 : Gl X "reversed") (m2 : X.mg "reversed" = none) (v2 : bootBuiltins "reversed" = some (.type "reversed"))
    (s1 : starEach [.Call (.Name "reversed" p2) [e] [] p3] X.env = [(false, eval (.Call (.Name "reversed" p2) [e] [] p3) X.env)] := by rfl) (s2 : starEach [e] X.env = [(false, eval e X.env)] := by rfl) :
    PE X (.Call (.Name "list" p1) [.Call (.Name "reversed" p2) [e] [] p3] [] p4) (tRev X.K te) := by
  intro pins s σ H Q I h
  refine wpAny_Call_Name_kw (ld_blt I g1 m1 boot_list (PyProof.Rows.callWith_type1 ?_ s1 rfl))
  rw [s1]
  refine Calls.spliced_cons ?_
  refine wpAny_Call_Name_kw (ld_blt I g2 m2 v2 (PyProof.Rows.callWith_type1 ?_ s2 rfl))
  rw [s2]
  refine Calls.spliced_cons (thn (he pins s σ H _ I h) fun u s1 ⟨x, H1, I1, rx, p, ys, ex, hq, hl, q⟩ => Calls.spliced_nil ?_)
  subst ex
  cases rx
  obtain ⟨its, rv, pl, hz⟩ := I1.list hq
  have hp : p < s1.heap.objs.size := let ⟨_, e, _⟩ := pl.isList; Heap.lt_size e
  refine call_reversed_list pl.isList (Calls.spliced_nil ?_)
  have I2 : Inv X pins σ H1 { s1 with heap := s1.heap.push (revObj p ((its.toArray.size : Int) - 1)) } := I1.kept (t' := s1.toks) fun b o e => Heap.get?_push_of_some _ e
  refine list_rev (s := { s1 with heap := s1.heap.push (revObj p ((its.toArray.size : Int) - 1)) }) (items := its.toArray) (I.ok.hd hc) ⟨_, Heap.get?_push_size _ rfl, rfl, rfl⟩ (pl.isList.push _) (Nat.ne_of_lt hp) (by rw [List.size_toArray, ← rv.length]; exact hz) fun h' tk acc c k e io => ?_
  have er : acc.toList = its.reverse := rev_vals rv io
  have fr : H1 (s1.heap.push (revObj p ((its.toArray.size : Int) - 1))).objs.size = none := I2.hok.fresh (Nat.le_refl _)
  refine ⟨.ref _, _, I1.laid (t' := tk) (fun b o eb => k b o (Nat.ne_of_lt (Heap.lt_size eb)) (Heap.get?_push_of_some _ eb)) (by rw [Heap.size_push]; exact Nat.le_succ _) (show ObjOk X.prog X.w _ h' _ (.lst ys.reverse) from ⟨?_, its.reverse, c, rv.reverse, ?_⟩), rfl, q _ fr⟩
  · rw [List.length_reverse]; exact hz
  · rw [e, ← er]
end
end L2

end

section
set_option autoImplicit false
set_option maxRecDepth 100000
set_option linter.all false
namespace EoE
open PySem PySem.Spec PyProof.Rows EoH
section
variable {prog : Program} {w : World} {A : Around} {E : Value → Shared → Prop} {s : Shared}
theorem nextOf_end {it l : Addr} {i : Nat} {items : Array Value} {Q : Value → Shared → Prop} (hq : HdN A s.heap) (hit : s.heap.IsListIter it l i) (hl : s.heap.IsList l items) (hx : items[i]? = none)
    (k : ∀ h' e, Heap.ExtBut it s.heap h' → (∃ o, h'.get? e = some o ∧ o.cls = .type "StopIteration") → E (.ref e) { s with heap := h' }) : wpAny (model prog w) A (Builtin.SmallTypes.nextOf (.ref it)) Q E s := by
  obtain ⟨oi, hoi, ci, di⟩ := id hit
  obtain ⟨ol, hol, _, nl, dl⟩ := hl
  unfold Builtin.SmallTypes.nextOf
  refine wpAny_bind (wpAny_callSpecial?_slot (name := Str.ofString "__next__") hit.typeIs slot_listiter_next (wpAny_call_entry slot_listiter_next hit.typeIs entry_listiter_next ?_ (args_listiter_next _)))
  change wpAny (model prog w) A.in1 (field (.ref it) 0 >>= _) _ _ s
  refine wpAny_bind (wpAny_field hoi di (x := .ref l) rfl ?_)
  change wpAny (model prog w) A.in1 (if (Value.ref l == Value.none) = true then _ else _) _ _ s
  rw [if_neg (show ¬ ((Value.ref l == Value.none) = true) from Bool.false_ne_true)]
  change wpAny (model prog w) A.in1 (field (.ref it) 1 >>= _) _ _ s
  refine wpAny_bind (wpAny_field hoi di (x := .int i 0) rfl ?_)
  change wpAny (model prog w) A.in1 (seqItems? (.ref l) >>= _) _ _ s
  refine wpAny_bind (wpAny_seqItems hol dl ?_)
  simp only [Int.toNat_natCast, hx]
  refine wpAny_bind (wpAny_rule (wpAny_bind (wpAny_setField hoi di (by simp) ?_)))
  have kp : ∀ b o, b ≠ it → s.heap.get? b = some o → (s.heap.update it (Obj.mapFields (·.setIfInBounds 0 Value.none))).get? b = some o := fun b o nb e => (Heap.get?_update_other _ _ (Ne.symm nb)).trans e
  exact stop_hd (s := { s with heap := s.heap.update it (Obj.mapFields (·.setIfInBounds 0 Value.none)) }) (hq.but hoi ci kp) fun h' x kk ts => k _ _ (fun b o nb e => kk b o (kp b o nb e)) ts
theorem enum_end {e it l : Addr} {i : Nat} {items : Array Value} {old : Value} {Q : Option Value → Shared → Prop} (hq : HdN A s.heap) (he : IsEnum s.heap e it i old) (hit : s.heap.IsListIter it l i) (hl : s.heap.IsList l items) (hx : items[i]? = none)
    (k : ∀ h', Heap.ExtBut it s.heap h' → Q none { s with heap := h' }) : wpAny (model prog w) A (pyNext (.ref e)) Q E s := by
  have ty : s.TypeIs (.ref e) "enumerate" := ⟨_, he, rfl⟩
  unfold pyNext
  refine wpAny_bind (wpAny_attempt (wpAny_callSpecial?_slot (name := Str.ofString "__next__") ty F.slot_enumerate_next (wpAny_call_entry F.slot_enumerate_next ty F.entry_enumerate_next ?_ (F.args_enumerate_next_1 _))))
  change wpAny (model prog w) A.in1 (field (.ref e) 2 >>= _) _ _ s
  refine wpAny_bind (wpAny_field he rfl (x := .ref it) rfl (wpAny_bind (nextOf_end (A := A.in1) hq hit hl hx fun h' x ex ts => ?_)))
  exact wpAny_bind (wpAny_isInstance (T := "StopIteration") (b := true) ts isSubtype_stop (wpAny_pure (k _ ex)))
theorem zip_end {z TI TO i1 i2 l1 l2 : Addr} {k1 k2 : Nat} {xs ys : Array Value} {a b : Value} {Q : Option Value → Shared → Prop} (hq : HdN A s.heap) (D : ZipApart z TI TO i1 i2 l1 l2)
    (hz : IsZip s.heap z TI TO .none) (hTI : IsPair s.heap TI (.ref i1) (.ref i2)) (hTO : IsPair s.heap TO a b)
    (h1 : s.heap.IsListIter i1 l1 k1) (h2 : s.heap.IsListIter i2 l2 k2) (hl1 : s.heap.IsList l1 xs) (hl2 : s.heap.IsList l2 ys) (hend : xs[k1]? = none ∨ ys[k2]? = none)
    (k : ∀ h', (∀ c o, c ≠ z → c ≠ TO → c ≠ i1 → c ≠ i2 → s.heap.get? c = some o → h'.get? c = some o) → Q none { s with heap := h' }) : wpAny (model prog w) A (pyNext (.ref z)) Q E s := by
  have ty : s.TypeIs (.ref z) "zip" := ⟨_, hz, rfl⟩
  have fin : ∀ (h' : Heap) (e : Addr), (∀ c o, c ≠ z → c ≠ TO → c ≠ i1 → c ≠ i2 → s.heap.get? c = some o → h'.get? c = some o) → (∃ o, h'.get? e = some o ∧ o.cls = .type "StopIteration") →
      wpAny (model prog w) A (do if (← isInstance (.ref e) (.type "StopIteration")) then pure none else throw (.ref e)) Q E { s with heap := h' } := fun h' e kk ts =>
    wpAny_bind (wpAny_isInstance (T := "StopIteration") (b := true) ts isSubtype_stop (wpAny_pure (k _ kk)))
  unfold pyNext
  refine wpAny_bind (wpAny_attempt (wpAny_callSpecial?_slot (name := Str.ofString "__next__") ty F.slot_zip_next (wpAny_call_entry F.slot_zip_next ty F.entry_zip_next ?_ (F.args_zip_next_1 _))))
  change wpAny (model prog w) A.in1 (field (.ref z) 2 >>= _) _ _ s
  refine wpAny_bind (wpAny_field hz rfl (x := .bool false) rfl ?_); change wpAny (model prog w) A.in1 (field (.ref z) 3 >>= _) _ _ s
  refine wpAny_bind (wpAny_field hz rfl (x := .ref TI) rfl (wpAny_bind (wpAny_seqItems hTI rfl ?_))); change wpAny (model prog w) A.in1 (Builtin.SmallTypes.ownedTupleIsFree (.ref z) >>= _) _ _ s
  refine wpAny_bind ?_; unfold Builtin.SmallTypes.ownedTupleIsFree
  refine wpAny_bind (wpAny_field hz rfl (x := .none) rfl (wpAny_pure ?_)); simp only [if_true]
  refine wpAny_bind (wpAny_rule (wpAny_bind (wpAny_field hz rfl (x := .ref TO) rfl (wpAny_bind (wpAny_setField_rec hz (by simp) fun g1 hz1 hs1 => ?_)))))
  replace hz1 : IsZip g1 z TI TO .ellipsis := hz1
  replace hs1 : Heap.SameBut z s.heap g1 := hs1
  have hq1 : HdN A g1 := hq.but (T := "zip") hz rfl fun b o nb e => hs1.extBut b o nb e
  refine wpAny_bind ?_; simp only [List.zipIdx_cons, List.zipIdx_nil, List.forIn_cons, List.forIn_nil]
  refine wpAny_bind (wpAny_bind (wpAny_onRaise ?_)); change wpAny (model prog w) A.in1 (Builtin.SmallTypes.nextOf (.ref i1) >>= _) _ _ _
  cases hx : xs[k1]? with
  | none =>
    refine wpAny_bind (nextOf_end (A := A.in1) hq1 (h1.extBut hs1.extBut D.i1z) (hl1.extBut hs1.extBut D.l1z) hx fun g2 e ex ts => ?_)
    obtain ⟨oe, hoe, hce⟩ := ts
    have hz2 : IsZip g2 z TI TO .ellipsis := ex _ _ D.i1z.symm hz1
    have hez : e ≠ z := fun x => by subst x; rw [hz2] at hoe; cases hoe; simp at hce
    exact wpAny_setField_rec hz2 (by simp) fun g3 _ hs3 => fin g3 e (fun c o c1 _ c3 _ x => hs3.extBut _ _ c1 (ex _ _ c3 (hs1.extBut _ _ c1 x))) ⟨oe, hs3.extBut _ _ hez hoe, hce⟩
  | some x =>
    have hy : ys[k2]? = none := hend.elim (fun h => by rw [hx] at h; cases h) id
    obtain ⟨oi1, hoi1, ci1, _⟩ := id h1
    refine wpAny_bind (wpAny_nextOf_list_item (h1.extBut hs1.extBut D.i1z) (hl1.extBut hs1.extBut D.l1z) hx fun g2 h1' hs2 => wpAny_pure ?_)
    replace hs2 : Heap.SameBut i1 g1 g2 := hs2
    have hq2 : HdN A g2 := hq1.but (hs1.extBut _ _ D.i1z hoi1) ci1 fun b o nb e => hs2.extBut b o nb e
    have hTO2 : IsPair g2 TO a b := hs2.extBut _ _ D.TOi1 (hs1.extBut _ _ D.TOz hTO)
    refine wpAny_bind (wpAny_seqItems hTO2 rfl (wpAny_bind (wpAny_updateSeq_pair hTO2 fun g3 hTO3 hs3 => ?_)))
    replace hs3 : Heap.SameBut TO g2 g3 := hs3
    have hq3 : HdN A g3 := hq2.but (T := "tuple") hTO2 rfl fun b o nb e => hs3.extBut b o nb e
    refine wpAny_bind (wpAny_letGo (wpAny_pure (wpAny_bind (wpAny_bind (wpAny_onRaise ?_))))); change wpAny (model prog w) A.in1 (Builtin.SmallTypes.nextOf (.ref i2) >>= _) _ _ _
    refine wpAny_bind (nextOf_end (A := A.in1) hq3 (((h2.extBut hs1.extBut D.i2z).extBut hs2.extBut D.i12.symm).extBut hs3.extBut D.TOi2.symm) (((hl2.extBut hs1.extBut D.l2z).extBut hs2.extBut D.l2i1).extBut hs3.extBut D.l2TO) hy fun g4 e ex ts => ?_)
    obtain ⟨oe, hoe, hce⟩ := ts
    have hz4 : IsZip g4 z TI TO .ellipsis := ex _ _ D.i2z.symm (hs3.extBut _ _ D.TOz.symm (hs2.extBut _ _ D.i1z.symm hz1))
    have hez : e ≠ z := fun x => by subst x; rw [hz4] at hoe; cases hoe; simp at hce
    exact wpAny_setField_rec hz4 (by simp) fun g5 _ hs5 => fin g5 e (fun c o c1 c2 c3 c4 x => hs5.extBut _ _ c1 (ex _ _ c4 (hs3.extBut _ _ c2 (hs2.extBut _ _ c3 (hs1.extBut _ _ c1 x))))) ⟨oe, hs5.extBut _ _ hez hoe, hce⟩
end
end EoE
namespace L2
open PySem PySem.Spec PyProof.Rows
section
variable {X : Cx} {pins : List (Addr × Obj)} {σ : St} {H : Hp} {s : Shared} {fp : List Addr} {h' : Heap}
/-- several own records of an iterator turned -/
theorem Inv.turnedL {t' : Nat} (I : Inv X pins σ H s) (hf : ∀ b ∈ fp, FpOk X pins H b) (k : ∀ b o, b ∉ fp → s.heap.get? b = some o → h'.get? b = some o) : Inv X pins σ H { s with heap := h', toks := t' } := by
  have nit : ∀ b u, H b = some u → b ∉ fp := fun b u e z => by rw [(hf b z).1] at e; cases e
  refine I.step (g' := s.gens) (d' := s.drawn) (ch := fp) (fun b hb => ⟨(hf b hb).2.2.2.1, (hf b hb).2.1, (hf b hb).2.2.2.2.1, (hf b hb).2.2.2.2.2⟩) (fun b o _ _ hc e _ => k b o hc e) (fun b o _ _ hc e _ => ⟨o.slots, k b o hc e⟩) (fun _ _ _ _ n => n)
    (fun b o hc e => ⟨o, k b o hc e⟩) (fun _ _ e => e) (fun _ _ _ e => e) (fun b ps e => ⟨#[], by rw [e]; simp⟩) (fun m hm => ?_) (fun b u e => ?_) I.bare
  · obtain ⟨o, es, ep, ho, r⟩ := hm
    exact ⟨o, es, ep, k _ _ (fun z => (hf _ z).2.1 rfl) ho, r⟩
  · refine (I.hok b u e).stay (fun c v hc z => k c v ?_ z) (fun _ z => z) fun _ _ z => z
    rcases hc with rfl | hc
    · exact nit _ _ e
    · exact nit _ _ hc
/-- .. and a new object laid -/
theorem Inv.turnedN {t' : Nat} {a : Addr} {o : HO} (I : Inv X pins σ H s) (hf : ∀ b ∈ fp, FpOk X pins H b) (k : ∀ b o, b ∉ fp → s.heap.get? b = some o → h'.get? b = some o) (hp : s.heap.objs.size ≤ a) (new : ObjOk X.prog X.w (upd H a o) h' a o) :
    Inv X pins σ (upd H a o) { s with heap := h', toks := t' } := by
  have nit : ∀ b u, H b = some u → b ∉ fp := fun b u e z => by rw [(hf b z).1] at e; cases e
  have hn : H a = none := I.hok.fresh hp
  refine I.step (g' := s.gens) (d' := s.drawn) (ch := fp) (fun b hb => ⟨(hf b hb).2.2.2.1, (hf b hb).2.1, (hf b hb).2.2.2.2.1, (hf b hb).2.2.2.2.2⟩) (fun b o _ _ hc e _ => k b o hc e) (fun b o _ _ hc e _ => ⟨o.slots, k b o hc e⟩)
    (fun b u _ e n => by rw [upd_ne (Nat.ne_of_lt (Nat.lt_of_lt_of_le (Heap.lt_size e) hp))]; exact n)
    (fun b o hc e => ⟨o, k b o hc e⟩) (fun b xs e => by rw [upd_ne (ne_of_none e hn)]; exact e) (fun b _ _ e => by rw [upd_ne (ne_of_none e hn)]; exact e) (fun b ps e => ⟨#[], by rw [upd_ne (ne_of_none e hn), e]; simp⟩) (fun m hm => ?_) (fun b u e => ?_) I.bare
  · obtain ⟨o, es, ep, ho, r⟩ := hm
    exact ⟨o, es, ep, k _ _ (fun z => (hf _ z).2.1 rfl) ho, r⟩
  · by_cases hb : b = a
    · subst hb; rw [upd_same] at e; cases e; exact new
    · rw [upd_ne hb] at e
      refine (I.hok b u e).stay (fun c v hc z => k c v ?_ z) (fun c q => by rw [upd_ne (ne_of_none q hn)]; exact q) fun c xs q => by rw [upd_ne (ne_of_none q hn)]; exact q
      rcases hc with rfl | hc
      · exact nit _ _ e
      · exact nit _ _ hc
end
theorem off_ne (n : Nat) {i j : Nat} (h : i ≠ j) : n + i ≠ n + j := fun z => h (Nat.add_left_cancel z)
theorem low_ne {a n : Nat} (h : a < n) (i : Nat) : a ≠ n + i := by omega
theorem tup2_ok {P : Program} {w : World} {H : Hp} {h : Heap} {T : Addr} {x y : V} {u v : Value} (rx : RelV x u) (ry : RelV y v) (e : h.get? T = some { cls := .type "tuple", data := .seq #[u, v] }) : ObjOk P w H h T (.tup [x, y]) :=
  ⟨by show 2 ≤ sizeLine; decide, [u, v], .cons rx (.cons ry .nil), _, e, rfl, _, rfl⟩
def Ite (K : PySem.W.Frag) (a : Addr) : It :=
  ⟨fun i H => ∃ xs x, SqL K H a xs ∧ xs[i]? = some x, fun i H x H' => ∃ T y, x = .ref T ∧ H T = none ∧ (∀ xs, SqL K H a xs → xs[i]? = some y) ∧ H' = upd H T (.tup [.int i, y]), fun i H => ∃ xs, SqL K H a xs ∧ xs.length ≤ i⟩
theorem turn_enum {P : Program} {w : World} {K : PySem.W.Frag} {elts : List Expr} {k : Nat} {pos : Pos} (a e it : Addr) (hne : e ≠ it) :
    Turn P w K (.Tuple elts k pos) (Ite K a) [e, it] e (fun i h => (∃ old, IsEnum h e it i old) ∧ h.IsListIter it a i) where
  mem := by simp
  obj := fun i h st b hb => by
    obtain ⟨⟨old, he⟩, hi⟩ := st
    have hb' : b = e ∨ b = it := by simpa using hb
    rcases hb' with rfl | rfl
    · exact ⟨_, he, fun v z => by cases (show Data.fields _ = Data.cell v from z)⟩
    · obtain ⟨o, e, c, d⟩ := hi
      exact ⟨o, e, fun v z => by rw [d] at z; cases z⟩
  keep := fun i h h' st k => ⟨let ⟨old, he⟩ := st.1; ⟨old, k e (by simp) _ he⟩, st.2.at fun o q => k it (by simp) o q⟩
  item := by
    intro X hP hw hK hc i pins s σ H E I hf st hg
    subst hP hw hK
    obtain ⟨xs, x, hq, hx⟩ := hg
    obtain ⟨⟨old, he⟩, hi⟩ := st
    obtain ⟨its, rv, p, hz⟩ := I.list hq
    obtain ⟨u, hu, ru⟩ := rv.get hx
    refine wpAny_pyNext_enum_item he hi p.isList (x := u) (by simpa using hu) hne fun h1 ho hi1 hT hsz hk => ⟨_, rfl, wpAny_letOwnedTupleGo_enum ho fun h2 he2 hs2 => ?_⟩
    replace hs2 : Heap.SameBut e h1 h2 := hs2
    have hT2 : h2.get? s.heap.objs.size = some { cls := .type "tuple", data := .seq #[.int i s.toks, u] } := hs2.extBut _ _ (Nat.ne_of_gt (Heap.lt_size he)) hT
    have kk : ∀ b o, b ∉ [e, it] → s.heap.get? b = some o → h2.get? b = some o := fun b o hb q => hs2.extBut b o (fun z => hb (by simp [z])) (hk b o (fun z => hb (by simp [z])) (fun z => hb (by simp [z])) q)
    refine ⟨.ref s.heap.objs.size, _, I.turnedN (t' := s.toks + 1) hf kk (Nat.le_refl _) (tup2_ok (x := .int i) (y := x) ⟨_, rfl⟩ ru hT2), rfl, ⟨_, x, rfl, I.hok.fresh (Nat.le_refl _), fun ys hy => by rw [I.list_inj hy hq]; exact hx, rfl⟩, ⟨⟨u, ?_⟩, ?_⟩, fun b hb => ?_⟩
    · have : ((i : Int) + 1) = ((i + 1 : Nat) : Int) := by omega
      rw [← this]; exact he2
    · exact hi1.at fun o q => hs2.extBut _ o hne.symm q
    · have lt : b < s.heap.objs.size := by
        have hb' : b = e ∨ b = it := by simpa using hb
        rcases hb' with rfl | rfl
        · exact Heap.lt_size he
        · obtain ⟨o, q, _⟩ := hi; exact Heap.lt_size q
      rw [upd_ne (Nat.ne_of_lt lt)]
      exact (hf b hb).1
  done := by
    intro X hP hw hK hc i pins s σ H E I hf st hg
    subst hP hw hK
    obtain ⟨xs, hq, hx⟩ := hg
    obtain ⟨⟨old, he⟩, hi⟩ := st
    obtain ⟨its, rv, p, hz⟩ := I.list hq
    have hl := rv.length
    exact EoE.enum_end I.hdn he hi p.isList (by simp; omega) fun h' eb => ⟨rfl, I.turnedL (t' := s.toks) hf fun b o hb q => eb b o (fun z => hb (by simp [z])) q⟩
  self := fun _ _ _ _ _ st h => let ⟨_, he⟩ := st.1; wpAny_pyIter_enum he h
theorem bt_enumerate : bootBuiltins "enumerate" = some (.type "enumerate") := by decide +kernel
theorem bt_zip : bootBuiltins "zip" = some (.type "zip") := by decide +kernel
def iEnum (K : PySem.W.Frag) (tl : TE) : TI := fun σ H R => tl σ H fun x H1 => ∃ a, x = .ref a ∧ (∃ xs, SqL K H1 a xs) ∧ R (Ite K a) H1
theorem pi_enum {X : Cx} {elts : List Expr} {k : Nat} {pos p1 p2 : Pos} {l : Expr} {tl : TE} (hl : PE X l tl) (hg : Gl X "enumerate") (hm : X.mg "enumerate" = none) (s2 : starEach [l] X.env = [(false, eval l X.env)] := by rfl) :
    PI X (.Tuple elts k pos) (.Call (.Name "enumerate" p1) [l] [] p2) (iEnum X.K tl) := by
  intro pins s σ H R I h
  refine wpAny_Call_Name_kw (ld_blt I hg hm bt_enumerate (PyProof.Rows.callWith_type1 ?_ s2 rfl))
  rw [s2]
  refine Calls.spliced_cons (thn (hl pins s σ H _ I h) fun v s1 ⟨x, H1, I1, r1, q1⟩ => Calls.spliced_nil ?_)
  obtain ⟨a, e, ⟨xs, hq⟩, q⟩ := q1
  subst e
  cases r1
  obtain ⟨its, rv, p, hz⟩ := I1.list hq
  refine call_enumerate_list p.isList fun h' he hi hsz hk => wpAny_pyIter_enum he ?_
  have I2 : Inv X pins σ H1 { s1 with heap := h' } := I1.kept (t' := s1.toks) hk
  refine ⟨_, [s1.heap.objs.size + 1, s1.heap.objs.size], _, _, H1, rfl, I2, turn_enum a _ s1.heap.objs.size (off_ne s1.heap.objs.size (i := 1) (j := 0) (by decide)), ⟨⟨_, he⟩, hi⟩, fun b hb => ?_, q⟩
  have hb' : b = s1.heap.objs.size + 1 ∨ b = s1.heap.objs.size := by simpa using hb
  have hle : s1.heap.objs.size ≤ b := by
    rcases hb' with e | e
    · rw [e]; exact Nat.le_succ _
    · rw [e]; exact Nat.le_refl _
  exact I1.fpOk hle (I1.hok.fresh hle)
def Itz (K : PySem.W.Frag) (a b : Addr) : It :=
  ⟨fun i H => ∃ xs ys x y, SqL K H a xs ∧ SqL K H b ys ∧ xs[i]? = some x ∧ ys[i]? = some y, fun i H v H' => ∃ T x y, v = .ref T ∧ H T = none ∧ (∀ xs, SqL K H a xs → xs[i]? = some x) ∧ (∀ ys, SqL K H b ys → ys[i]? = some y) ∧ H' = upd H T (.tup [x, y]),
    fun i H => ∃ xs ys, SqL K H a xs ∧ SqL K H b ys ∧ (xs.length ≤ i ∨ ys.length ≤ i)⟩
theorem turn_zip {P : Program} {w : World} {K : PySem.W.Frag} {elts : List Expr} {k : Nat} {pos : Pos} (a b z TI TO i1 i2 : Addr) (D : ZipApart z TI TO i1 i2 a b) :
    Turn P w K (.Tuple elts k pos) (Itz K a b) [z, TI, TO, i1, i2] z (fun i h => IsZip h z TI TO .none ∧ IsPair h TI (.ref i1) (.ref i2) ∧ (∃ u v, IsPair h TO u v) ∧ h.IsListIter i1 a i ∧ h.IsListIter i2 b i) where
  mem := by simp
  obj := fun i h st c hc => by
    obtain ⟨hz, hTI, ⟨u, v, hTO⟩, h1, h2⟩ := st
    have hc' : c = z ∨ c = TI ∨ c = TO ∨ c = i1 ∨ c = i2 := by simpa using hc
    rcases hc' with rfl | rfl | rfl | rfl | rfl
    · exact ⟨_, hz, fun v z => by cases (show Data.fields _ = Data.cell v from z)⟩
    · exact ⟨_, hTI, fun v z => by cases (show Data.seq _ _ = Data.cell v from z)⟩
    · exact ⟨_, hTO, fun v z => by cases (show Data.seq _ _ = Data.cell v from z)⟩
    · obtain ⟨o, e, c, d⟩ := h1
      exact ⟨o, e, fun v z => by rw [d] at z; cases z⟩
    · obtain ⟨o, e, c, d⟩ := h2
      exact ⟨o, e, fun v z => by rw [d] at z; cases z⟩
  keep := fun i h h' st k => ⟨k z (by simp) _ st.1, k TI (by simp) _ st.2.1, let ⟨u, v, q⟩ := st.2.2.1; ⟨u, v, k TO (by simp) _ q⟩, st.2.2.2.1.at fun o q => k i1 (by simp) o q, st.2.2.2.2.at fun o q => k i2 (by simp) o q⟩
  item := by
    intro X hP hw hK hc i pins s σ H E I hf st hg
    subst hP hw hK
    obtain ⟨xs, ys, x, y, hqx, hqy, hx, hy⟩ := hg
    obtain ⟨hz, hTI, ⟨u0, v0, hTO⟩, h1, h2⟩ := st
    obtain ⟨its, rv, p, _⟩ := I.list hqx
    obtain ⟨jts, rw', p', _⟩ := I.list hqy
    obtain ⟨u, hu, ru⟩ := rv.get hx
    obtain ⟨v, hv, rv'⟩ := rw'.get hy
    refine wpAny_pyNext_zip_item D hz hTI hTO h1 h2 p.isList p'.isList (x := u) (y := v) (by simpa using hu) (by simpa using hv) fun g a1 a2 a3 a4 a5 a6 hk => ⟨_, rfl, wpAny_letOwnedTupleGo_zip a1 fun g2 hz2 hs2 => ?_⟩
    replace hs2 : Heap.SameBut z g g2 := hs2
    have ltz : z < s.heap.objs.size := Heap.lt_size hz
    have hT2 : g2.get? s.heap.objs.size = some { cls := .type "tuple", data := .seq #[u, v] } := hs2.extBut _ _ (Nat.ne_of_gt ltz) a5
    have kk : ∀ c o, c ∉ [z, TI, TO, i1, i2] → s.heap.get? c = some o → g2.get? c = some o := fun c o hc q => hs2.extBut c o (fun z => hc (by simp [z])) (hk c o (fun z => hc (by simp [z])) (fun z => hc (by simp [z])) (fun z => hc (by simp [z])) (fun z => hc (by simp [z])) q)
    refine ⟨.ref s.heap.objs.size, _, I.turnedN (t' := s.toks) hf kk (Nat.le_refl _) (tup2_ok (x := x) (y := y) ru rv' hT2), rfl, ⟨_, x, y, rfl, I.hok.fresh (Nat.le_refl _), fun zs hzs => by rw [I.list_inj hzs hqx]; exact hx, fun zs hzs => by rw [I.list_inj hzs hqy]; exact hy, rfl⟩,
      ⟨hz2, hs2.extBut _ _ D.TIz (hk _ _ D.TIz D.TITO D.TIi1 D.TIi2 hTI), ⟨_, _, hs2.extBut _ _ D.TOz a2⟩, a3.at fun o q => hs2.extBut _ o D.i1z q, a4.at fun o q => hs2.extBut _ o D.i2z q⟩, fun c hc => ?_⟩
    have lt : c < s.heap.objs.size := by
      have hc' : c = z ∨ c = TI ∨ c = TO ∨ c = i1 ∨ c = i2 := by simpa using hc
      rcases hc' with rfl | rfl | rfl | rfl | rfl
      · exact ltz
      · exact Heap.lt_size hTI
      · exact Heap.lt_size hTO
      · obtain ⟨o, q, _⟩ := h1; exact Heap.lt_size q
      · obtain ⟨o, q, _⟩ := h2; exact Heap.lt_size q
    rw [upd_ne (Nat.ne_of_lt lt)]
    exact (hf c hc).1
  done := by
    intro X hP hw hK hc i pins s σ H E I hf st hg
    subst hP hw hK
    obtain ⟨xs, ys, hqx, hqy, hx⟩ := hg
    obtain ⟨hz, hTI, ⟨u0, v0, hTO⟩, h1, h2⟩ := st
    obtain ⟨its, rv, p, _⟩ := I.list hqx
    obtain ⟨jts, rw', p', _⟩ := I.list hqy
    have l1 := rv.length
    have l2 := rw'.length
    refine EoE.zip_end I.hdn D hz hTI hTO h1 h2 p.isList p'.isList ?_ fun h' eb => ⟨rfl, I.turnedL (t' := s.toks) hf fun c o hc q => eb c o (fun z => hc (by simp [z])) (fun z => hc (by simp [z])) (fun z => hc (by simp [z])) (fun z => hc (by simp [z])) q⟩
    rcases hx with hx | hx
    · exact .inl (by simp; omega)
    · exact .inr (by simp; omega)
  self := fun _ _ _ _ _ st h => wpAny_pyIter_zip st.1 h
def iZip (K : PySem.W.Frag) (t1 t2 : TE) : TI := fun σ H R => t1 σ H fun x H1 => t2 σ H1 fun y H2 => ∃ a b, x = .ref a ∧ y = .ref b ∧ (∃ xs, SqL K H2 a xs) ∧ (∃ ys, SqL K H2 b ys) ∧ R (Itz K a b) H2
theorem pi_zip {X : Cx} {elts : List Expr} {k : Nat} {pos p1 p2 : Pos} {l m : Expr} {t1 t2 : TE} (hl : PE X l t1) (hm' : PE X m t2) (hg : Gl X "zip") (hm : X.mg "zip" = none)
    (s1 : starEach [l, m] X.env = [(false, eval l X.env), (false, eval m X.env)] := by rfl) (s2 : starEach [m] X.env = [(false, eval m X.env)] := by rfl) :
    PI X (.Tuple elts k pos) (.Call (.Name "zip" p1) [l, m] [] p2) (iZip X.K t1 t2) := by
  intro pins s σ H R I h
  refine wpAny_Call_Name_kw (ld_blt I hg hm bt_zip (PyProof.Rows.callWith_type1 ?_ (by rw [s1, s2]) (by rw [s2]; rfl)))
  rw [s1]
  refine Calls.spliced_cons (thn (hl pins s σ H _ I h) fun v s1 ⟨x, H1, I1, r1, q1⟩ => Calls.spliced_cons (thn (hm' pins s1 σ H1 _ I1 q1) fun v' s2 ⟨y, H2, I2, r2, q2⟩ => Calls.spliced_nil ?_))
  obtain ⟨a, b, e, e', ⟨xs, hqx⟩, ⟨ys, hqy⟩, q⟩ := q2
  subst e; subst e'
  cases r1
  cases r2
  obtain ⟨its, rv, p, _⟩ := I2.list hqx
  obtain ⟨jts, rw', p', _⟩ := I2.list hqy
  have la : a < s2.heap.objs.size := let ⟨_, e, _⟩ := p.isList; Heap.lt_size e
  have lb : b < s2.heap.objs.size := let ⟨_, e, _⟩ := p'.isList; Heap.lt_size e
  refine call_zip_2 p.isList p'.isList fun h' hz hTI hTO h1 h2 hsz hk => wpAny_pyIter_zip hz ?_
  have I3 : Inv X pins σ H2 { s2 with heap := h' } := I2.kept (t' := s2.toks) hk
  refine ⟨_, [s2.heap.objs.size + 4, s2.heap.objs.size + 2, s2.heap.objs.size + 3, s2.heap.objs.size, s2.heap.objs.size + 1], _, _, H2, rfl, I3, turn_zip a b _ _ _ s2.heap.objs.size (s2.heap.objs.size + 1) ?_, ⟨hz, hTI, ⟨_, _, hTO⟩, h1, h2⟩, fun c hc => ?_, q⟩
  · exact ⟨off_ne s2.heap.objs.size (i := 2) (j := 4) (by decide), off_ne s2.heap.objs.size (i := 3) (j := 4) (by decide), off_ne s2.heap.objs.size (i := 0) (j := 4) (by decide), off_ne s2.heap.objs.size (i := 1) (j := 4) (by decide), off_ne s2.heap.objs.size (i := 2) (j := 3) (by decide), off_ne s2.heap.objs.size (i := 2) (j := 0) (by decide), off_ne s2.heap.objs.size (i := 2) (j := 1) (by decide), off_ne s2.heap.objs.size (i := 3) (j := 0) (by decide), off_ne s2.heap.objs.size (i := 3) (j := 1) (by decide), off_ne s2.heap.objs.size (i := 0) (j := 1) (by decide), low_ne la 4, low_ne la 3, low_ne la 0, low_ne la 1, low_ne lb 4, low_ne lb 3, low_ne lb 0, low_ne lb 1⟩
  · have hc' : c = s2.heap.objs.size + 4 ∨ c = s2.heap.objs.size + 2 ∨ c = s2.heap.objs.size + 3 ∨ c = s2.heap.objs.size ∨ c = s2.heap.objs.size + 1 := by simpa using hc
    have hle : s2.heap.objs.size ≤ c := by
      rcases hc' with e | e | e | e | e
      · rw [e]; exact Nat.le_add_right _ _
      · rw [e]; exact Nat.le_add_right _ _
      · rw [e]; exact Nat.le_add_right _ _
      · rw [e]; exact Nat.le_refl _
      · rw [e]; exact Nat.le_add_right _ _
    exact I2.fpOk hle (I2.hok.fresh hle)
end L2

end

section
set_option autoImplicit false
set_option maxRecDepth 100000
set_option linter.all false
namespace L2
open PySem PySem.Spec PyProof.Rows
section
variable {X : Cx} {pins : List (Addr × Obj)} {σ : St} {H : Hp} {s : Shared} {sc : Scope} {x : Str} {ys : List Str} {js : List Nat} {fp : List Addr} {C D : Addr}
/-- the block begins: the new list stands at D, the frame at C -/
theorem inv_block2 {x2 : Str} {h' : Heap} {t' : Nat} {m : Str → Option Value} {H' : Hp} (S : ScOk X sc x) (Fo : FreeOk X sc ys js) (I : Inv X pins σ H s) (hf : ∀ b ∈ fp, FpOk X pins H b) (hl : ∀ b ∈ fp, b < s.heap.objs.size) (hC : s.heap.objs.size ≤ C)
    (kp : ∀ b o, s.heap.get? b = some o → h'.get? b = some o) (hn : h'.Ns C m) (un : Un (frs X.stack) fp H H' s.heap h') (ok : HOk X.prog X.w H' h') (nC : H' C = none) (nf : ∀ b o, s.heap.get? b = some o → H b = none → H' b = none) :
    Inv (cxC X (x :: x2 :: ys) sc s H fp pins C) [] (none :: none :: look σ js) H' { s with heap := h', toks := t' } where
  ok := cxC_ok S I hf hl hC
  os := rfl
  bare := I.bare
  base := un
  loc := ⟨m, hn, fun i y v e1 e2 e3 => by
    match i, e1, e2 with
    | 0, _, e2 => simp at e2
    | 1, _, e2 => simp at e2
    | i + 2, e1, e2 =>
      have z1 : ((x :: x2 :: ys) : List Str)[i + 2]? = some y := e1
      obtain ⟨j, g1, g2, g3, g4⟩ := Fo.get (σ := σ) (i := i) (y := y) (v := v) (by simpa using z1) (by simpa using e2)
      obtain ⟨mo, hmo, lo⟩ := I.loc
      have vis : Vis X.env.scope y := .inr (.inl g3)
      obtain ⟨u, ru, lk⟩ := lo j y v g1 g2 vis
      refine ⟨u, ru, .inr ⟨.inl (relabel_cell I.ok.kind g3 g4), ?_⟩⟩
      rcases lk with ⟨k, _⟩ | ⟨_, c, hc, cell⟩
      · rw [g3] at k; cases k
      · obtain ⟨c', hc'⟩ := clOf_has (env := X.env) (PySem.mem_of_lookup g4)
        have e : c' = c := by
          have := (clOf_in (S.cells I) hc').1
          rw [hc] at this
          cases this; rfl
        subst e
        obtain ⟨oc, ho, hd⟩ := cell
        exact ⟨c', hc', oc, kp _ _ ho, hd⟩⟩
  cell := fun y c hc => by
    obtain ⟨v, oc, ho, hd⟩ := I.cell y c (clOf_in (S.cells I) hc).1
    exact ⟨v, oc, kp _ _ ho, hd⟩
  free := nC
  freeC := fun y c hc => by
    obtain ⟨v, oc, ho, hd⟩ := I.cell y c (clOf_in (S.cells I) hc).1
    exact nf c oc ho (I.freeC y c (clOf_in (S.cells I) hc).1)
  pin := fun p hp => by
    rw [List.append_nil] at hp
    obtain ⟨e, n, ne, nfs, d⟩ := I.pin p hp
    exact ⟨kp _ _ e, nf _ _ e n, Nat.ne_of_lt (Nat.lt_of_lt_of_le (Heap.lt_size e) hC), notStk I ne nfs, d⟩
  hok := ok
  len := by
    have := Fo.len
    simp [look, cxC, this]
end
def tComp2 (K : PySem.W.Frag) (wi : TI) (js : List Nat) (tc : TT) (te : TE) : TE := fun σ H Q => wi σ H fun J H1 => ∀ D, H1 D = none → ∃ W : Nat → Nat → List V → Hp → Prop, (∃ m, W 0 m [] (upd H1 D (.lst []))) ∧
  ∀ i m acc H2, W i m acc H2 → H2 D = some (.lst acc) ∧ acc.length < sizeLine ∧ ((J.stop i H2 ∧ Q (.ref D) H2) ∨
    (J.go i H2 ∧ ∀ x H3, J.yld i H2 x H3 → ∃ T v1 v2, x = .ref T ∧ SqT K H3 T [v1, v2] ∧ tc (some v1 :: some v2 :: look σ js) H3 fun b H4 => if b = true then te (some v1 :: some v2 :: look σ js) H4 fun v H5 => H5 D = some (.lst acc) ∧ ∃ m', m' < m ∧ W (i + 1) m' (acc ++ [v]) (upd H5 D (.lst (acc ++ [v])))
      else ∃ m', m' < m ∧ W (i + 1) m' acc H4))
section
variable {X : Cx} {elt iter : Expr} {x x2 : Str} {px px2 pt pos : Pos} {kt : Nat} {ifs : List Expr} {sc : Scope} {wi : TI} {ys : List Str} {js : List Nat} {tc : TT} {te : TE}
theorem comp_core2 {pins : List (Addr × Obj)} {σ : St} {H : Hp} {s : Shared} {Q : VK} {RR : Value → Addr → Result → Shared → Prop} (hc : (0 : Nat) = 0) (hcm : X.calm = true) (S : ScOk X sc x) (S2 : sc.names.lookup x2 = some .local) (Fo : FreeOk X sc ys js) (hN : (x :: x2 :: ys).Nodup) (hi : PI X (.Tuple [.Name x px, .Name x2 px2] kt pt) iter wi)
    (hifs : ∀ s H fp pins C, PIfs (cxC X (x :: x2 :: ys) sc s H fp pins C) ifs tc) (helt : ∀ s H fp pins C, PE (cxC X (x :: x2 :: ys) sc s H fp pins C) elt te)
    (I : Inv X pins σ H s) (h : tComp2 X.K wi js tc te σ H Q)
    (hRR : ∀ D C H' s' m, Inv X pins σ H' s' → s'.heap.Ns C m → FpOk X pins H' C → Q (.ref D) H' → RR (.ref D) C (.ok .next) s') :
    wpAny (model X.prog X.w) X.A (eval iter X.env) (fun v s1 => wpAny (model X.prog X.w) X.A (pyIter v) (fun it s2 => wpAny (model X.prog X.w) X.A (newList []) (fun acc s3 =>
      wpAny (model X.prog X.w) X.A (newFunctionEnv sc X.env.globals (clOf X.env sc.names) [] X.env.qual none .none (some X.env)) (fun cenv s4 =>
        codeAny (model X.prog X.w) X.A (.compStart (.ListComp elt [⟨.Tuple [.Name x px, .Name x2 px2] kt pt, iter, ifs, 0⟩] sc pos) 0 it acc { cenv with scope := relabel sc X.env }) (RR acc cenv.locals) s4) X.xe s3) X.xe s2) X.xe s1) X.xe s := by
  refine thn (hi pins s σ H _ I h) fun v s1 h1 => thn h1 fun itv s2 h2 => ?_
  obtain ⟨it, fp, tn, J, H2, e, I2, T, st2, f2, q⟩ := h2
  subst e
  have hl : ∀ b ∈ fp, b < s2.heap.objs.size := fun b hb => let ⟨_, e, _⟩ := T.obj 0 _ st2 b hb; Heap.lt_size e
  have hfr := I2.hok.fresh (Nat.le_refl s2.heap.objs.size)
  obtain ⟨W, ⟨m0, w0⟩, turn⟩ := q s2.heap.objs.size hfr
  refine wpAny_newObj_type (wpAny_newFunctionEnv S.nocell (by intro y hy; simp at hy) (fun h4 hn4 hb4 => ?_) S.kind) (by size_fits)
  dsimp only at hn4 hb4 ⊢
  generalize hD : s2.heap.objs.size = D at hfr w0 turn hn4 hb4 ⊢
  generalize hp : s2.heap.push { cls := .type "list", data := .seq ([] : List Value).toArray } = h3 at hn4 hb4 ⊢
  have hC : h3.objs.size = D + 1 := by rw [← hp, Heap.size_push, hD]
  generalize hCe : h3.objs.size = C at hC hn4 hb4 ⊢
  have hDs : s2.heap.objs.size ≤ D := Nat.le_of_eq hD
  have hCs : s2.heap.objs.size ≤ C := by rw [hD, hC]; exact Nat.le_succ _
  have hDC : D ≠ C := by rw [hC]; exact Nat.ne_of_lt (Nat.lt_succ_self D)
  have k3 : ∀ b o, s2.heap.get? b = some o → h3.get? b = some o := fun b o e => by rw [← hp]; exact Heap.get?_push_of_some _ e
  have k4 : ∀ b o, b ≠ C → h3.get? b = some o → h4.get? b = some o := fun b o ne e => hb4.extBut b o ne (Heap.get?_push_of_some _ e)
  have kp : ∀ b o, s2.heap.get? b = some o → h4.get? b = some o := fun b o e => k4 b o (Nat.ne_of_lt (Nat.lt_of_lt_of_le (Heap.lt_size e) hCs)) (k3 b o e)
  have hDo : h4.get? D = some { cls := .type "list", data := .seq ([] : List Value).toArray } := k4 D _ hDC (by rw [← hp, ← hD]; exact Heap.get?_push_size _ rfl)
  have new : ObjOk X.prog X.w (upd H2 D (.lst [])) h4 D (.lst []) := ⟨Nat.zero_le _, [], 0, .nil, hDo⟩
  have ok4 : HOk X.prog X.w (upd H2 D (.lst [])) h4 := I2.hok.laid kp hDs new
  have un4 : Un (frs X.stack) fp H2 (upd H2 D (.lst [])) s2.heap h4 := Un.laid kp hDs hfr
  have nC : upd H2 D (.lst []) C = none := by
    rw [upd_ne hDC.symm]
    exact I2.hok.fresh hCs
  have nf : ∀ b o, s2.heap.get? b = some o → H2 b = none → upd H2 D (.lst []) b = none := fun b o e n => by
    rw [upd_ne (Nat.ne_of_lt (Nat.lt_of_lt_of_le (Heap.lt_size e) hDs))]
    exact n
  have I4 := inv_block2 (x2 := x2) (t' := s2.toks) S Fo I2 f2 hl hCs kp hn4 un4 ok4 nC nf
  have stat : ∀ {H' : Hp} {pl : List (Addr × Obj)}, (∀ b ∈ fp, H' b = none) → ∀ b ∈ fp, FpOk (cxC X (x :: x2 :: ys) sc s2 H2 fp pins C) [] H' b := fun {H' pl} hn b hb =>
    ⟨hn b hb, Nat.ne_of_lt (Nat.lt_of_lt_of_le (hl b hb) hCs), notStk I2 (f2 b hb).2.1 (f2 b hb).2.2.1, .inl hb, fun y c e => (f2 b hb).2.2.2.2.1 y c (clOf_in (S.cells I2) e).1, fun p hp => (f2 b hb).2.2.2.2.2 p (by simpa [cxC] using hp)⟩
  have loop : ∀ s', s' = { s2 with heap := h4, toks := s2.toks + ([] : List (Str × Value)).length } → codeAny (model X.prog X.w) X.A (.compLoop (.ListComp elt [⟨.Tuple [.Name x px, .Name x2 px2] kt pt, iter, ifs, 0⟩] sc pos) 0 (.ref it) (.ref D) (cxC X (x :: x2 :: ys) sc s2 H2 fp pins C).env) (RR (.ref D) C) s' := by
    rintro s' rfl
    refine comp_loop (fun n s' => ∃ i a H' z z2, Inv (cxC X (x :: x2 :: ys) sc s2 H2 fp pins C) [] (z :: z2 :: look σ js) H' s' ∧ tn i s'.heap ∧ (∀ b ∈ fp, H' b = none) ∧ W i n a H') ?_ m0
      ⟨0, [], _, none, none, I4, T.keep _ _ _ st2 fun b hb o e => kp b o e, fun b hb => nf b _ (T.obj 0 _ st2 b hb).choose_spec.1 (f2 b hb).1, w0⟩
    rintro n s5 ⟨i, a, H5, z, z2, I5, t5, n5, w5⟩
    obtain ⟨eD, hz, alt⟩ := turn i n a H5 w5
    rcases alt with ⟨stop, qn⟩ | ⟨go, step⟩
    · refine wpAny_mono (T.done (cxC X (x :: x2 :: ys) sc s2 H2 fp pins C) rfl rfl rfl hc i [] s5 _ H5 (fun _ _ => False) I5 (stat (pl := []) n5) t5 stop) (fun r s6 ⟨hr, I6⟩ => ?_) fun _ _ z => z
      subst hr
      obtain ⟨m6, hn6, _⟩ := I6.loc
      exact hRR D C H5 s6 m6 (inv_out I2 f2 I6) hn6 (I2.fpOk hCs I6.free) qn
    · refine wpAny_mono (T.item (cxC X (x :: x2 :: ys) sc s2 H2 fp pins C) rfl rfl rfl hc i [] s5 _ H5 (fun _ _ => False) I5 (stat (pl := []) n5) t5 go) (fun r s6 ⟨u, hr, h6⟩ => ?_) fun _ _ z => z
      subst hr
      refine wpAny_mono h6 (fun _ s7 ⟨y, H7, I7, r7, y7, t7, n7⟩ => ?_) fun _ _ z => z
      have I7' := I7.pinned (stat (pl := []) n7) (T.obj _ _ t7)
      obtain ⟨Tt, v1, v2, ey, hT, q7⟩ := step y H7 y7
      have hx : Loc (cxC X (x :: x2 :: ys) sc s2 H2 fp pins C).env.scope x := .inl (lookup_relabel_local S.var)
      have hx2 : Loc (cxC X (x :: x2 :: ys) sc s2 H2 fp pins C).env.scope x2 := .inl (lookup_relabel_local S2)
      have pg := pg_tup (X := cxC X (x :: x2 :: ys) sc s2 H2 fp pins C) (es := [.Name x px, .Name x2 px2]) (k := kt) (pos := pt) (n := 2) hcm (pgs_cons (pg_name (X := cxC X (x :: x2 :: ys) sc s2 H2 fp pins C) (i := 0) (x := x) (pos := px) hN rfl hx (.inr (lookup_relabel_local S.var))) (pgs_cons (pg_name (X := cxC X (x :: x2 :: ys) sc s2 H2 fp pins C) (i := 1) (x := x2) (pos := px2) hN rfl hx2 (.inr (lookup_relabel_local S2))) pgs_nil))
      refine wpAny_mono (pg _ s7 _ H7 y u (fun σ' H' => σ' = some v1 :: some v2 :: look σ js ∧ H' = H7) I7' r7 ⟨Tt, [v1, v2], ey, hT, rfl, v1, [v2], rfl, v2, [], rfl, rfl, rfl, rfl⟩) (fun _ s8 ⟨σ8, H8, I8, e8, e8'⟩ => ?_) fun _ _ z => z
      subst e8; subst e8'
      have again : ∀ {s9 : Shared} {H9 : Hp} {m' : Nat} {a' : List V}, Inv (cxC X (x :: x2 :: ys) sc s2 H2 fp pins C) ([] ++ pinsAt fp s7.heap) (some v1 :: some v2 :: look σ js) H9 s9 → m' < n → W (i + 1) m' a' H9 →
          ∃ m, m < n ∧ ∃ i a H' z z2, Inv (cxC X (x :: x2 :: ys) sc s2 H2 fp pins C) [] (z :: z2 :: look σ js) H' s9 ∧ tn i s9.heap ∧ (∀ b ∈ fp, H' b = none) ∧ W i m a H' := fun {s9 H9 m' a'} I9 hm w9 =>
        ⟨m', hm, i + 1, a', H9, some v1, some v2, I9.unpinned, T.keep _ _ _ t7 fun b hb o e => (I9.pin (b, o) (List.mem_append_right _ (List.mem_append_right _ (mem_pinsAt hb e)))).1, fun b hb => by
          obtain ⟨o, e, _⟩ := T.obj _ _ t7 b hb
          exact (I9.pin (b, o) (List.mem_append_right _ (List.mem_append_right _ (mem_pinsAt hb e)))).2.1, w9⟩
      refine wpAny_mono (hifs s2 H2 fp pins C _ s8 _ H8 _ I8 q7) (fun ok s9 ⟨H9, I9, q9⟩ => ?_) fun _ _ z => z
      cases ok with
      | false =>
        rw [if_neg Bool.false_ne_true] at q9 ⊢
        obtain ⟨m', hm, w9⟩ := q9
        exact again I9 hm w9
      | true =>
        rw [if_pos rfl] at q9 ⊢
        refine wpAny_mono (helt s2 H2 fp pins C _ s9 _ H9 _ I9 q9) (fun ev s10 ⟨ve, H10, I10, r10, e10, m', hm, w10⟩ => ?_) fun _ _ z => z
        refine wpAny_mono (mt_append (X := cxC X (x :: x2 :: ys) sc s2 H2 fp pins C) _ s10 _ H10 (.ref D) [ve] (.ref D) [ev] (fun _ H' => H' = upd H10 D (.lst (a ++ [ve]))) I10 rfl (.cons r10 .nil) ⟨D, a, ve, rfl, rfl, e10, hz, rfl⟩) (fun _ s11 ⟨_, H11, I11, _, e11⟩ => ?_) fun _ _ z => z
        subst e11
        exact again I11 hm w10
  exact codeAny_compStart_list (loop _ rfl) (T.self _ 0 _ _ _ (T.keep _ _ _ st2 fun b hb o e => kp b o e) (loop _ rfl))
theorem pe_comp2 (hc : (0 : Nat) = 0) (hcm : X.calm = true) (S : ScOk X sc x) (S2 : sc.names.lookup x2 = some .local) (Fo : FreeOk X sc ys js) (hN : (x :: x2 :: ys).Nodup) (hi : PI X (.Tuple [.Name x px, .Name x2 px2] kt pt) iter wi)
    (hifs : ∀ s H fp pins C, PIfs (cxC X (x :: x2 :: ys) sc s H fp pins C) ifs tc) (helt : ∀ s H fp pins C, PE (cxC X (x :: x2 :: ys) sc s H fp pins C) elt te) (hs : ∀ v, foldedSetIterable iter X.env v = pure v := by intro _; rfl) :
    PE X (.ListComp elt [⟨.Tuple [.Name x px, .Name x2 px2] kt pt, iter, ifs, 0⟩] sc pos) (tComp2 X.K wi js tc te) := by
  intro pins s σ H Q I h
  rw [eval_ListComp]
  refine wpAny_comprehension_free rfl hs (closure_of (S.cells I)) S.kind S.names (comp_core2 (Q := Q) hc hcm S S2 Fo hN hi hifs helt I h fun D C H' s' m I' hn fo q => ?_)
  exact ⟨m, hn, fun h' sb => ⟨.ref D, H', I'.turned (t' := s'.toks) (fun b o ne e => sb.extBut b o ne e) fo.1 fo.2.1 fo.2.2.2.1 fo.2.2.2.2.1 fo.2.2.2.2.2, rfl, q⟩⟩
end
end L2

end

section
set_option autoImplicit false
set_option maxRecDepth 100000
set_option linter.all false
namespace L2
open PySem PySem.Spec PyProof.Rows EoD Eo
theorem bt_isinstance : bootBuiltins "isinstance" = some (.builtin "isinstance") := by decide +kernel
theorem bt_len : bootBuiltins "len" = some (.builtin "len") := by decide +kernel
theorem bt_all : bootBuiltins "all" = some (.builtin "all") := by decide +kernel
theorem bt_min : bootBuiltins "min" = some (.builtin "min") := by decide +kernel
theorem bt_sorted : bootBuiltins "sorted" = some (.builtin "sorted") := by decide +kernel
theorem bt_int : bootBuiltins "int" = some (.type "int") := by decide +kernel
theorem bt_bool : bootBuiltins "bool" = some (.type "bool") := by decide +kernel
theorem bt_tuple : bootBuiltins "tuple" = some (.type "tuple") := by decide +kernel
theorem bt_list : bootBuiltins "list" = some (.type "list") := by decide +kernel
theorem bt_reversed : bootBuiltins "reversed" = some (.type "reversed") := by decide +kernel
/-- the built-in names stand as they were -/
structure Bare (mg : Str → Option Value) : Prop where
  isin : mg "isinstance" = none
  len : mg "len" = none
  all : mg "all" = none
  min : mg "min" = none
  srt : mg "sorted" = none
  int : mg "int" = none
  bool : mg "bool" = none
  tup : mg "tuple" = none
  lst : mg "list" = none
  rev : mg "reversed" = none
  rng : mg "range" = none
/-- a def of the top -/
structure Def (K : PySem.W.Frag) (mg : Str → Option Value) (x : Str) (st : Stmt) (ps : List Str) : Prop where
  ex : ∃ f fd, Fun K x x st f fd ∧ mg x = some (.ref f) ∧ Binds K fd ps []
/-- a def of the top may be called, and keeps its promise -/
def Cal (P : Program) (w : World) (K : PySem.W.Frag) (mg : Str → Option Value) (base : Heap) (x : Str) (k : Nat) (ps : List Str) (sp : Sp) : Prop :=
  ∃ f fd, FnOk P w K mg base CX0 k f fd ps sp ∧ mg x = some (.ref f) ∧ PySem.W.keepIn K (.ref f) = true ∧ Binds K fd ps []
section
variable {P : Program} {w : World} {K : PySem.W.Frag} {mg : Str → Option Value} {base : Heap}
theorem Def.cal {x : Str} {st : Stmt} {N ps : List Str} {k : Nat} {sp : Sp} (D : Def K mg x st ps) (S : FnScope N ps (defScope st)) (len : ∀ vs H Q E, sp vs H Q E → vs.length = ps.length)
    (hbody : ∀ (f : Addr) (cdv : Value) (A : Around) (outer : List Env) (s : Shared) (H : Hp) (vs : List V) (Q : VK) (E : XK), Room k (A.deeper (envOfC x (defScope st) s.heap.objs.size f cdv)) → sp vs H Q E →
      ∃ t, PSs (cxOf CX0 P w K mg base N x (defScope st) f cdv A outer s H E).nox (defBody st) t ∧ t { nx := fun _ H' => Q .non H', rt := Q } (start N vs) H) : Cal P w K mg base x (k + 1) ps sp := by
  obtain ⟨f, fd, F, m, b⟩ := D.ex
  exact ⟨f, fd, F.ok S len (hbody f), m, F.kp, b⟩
end
theorem pe_cal {X : Cx} {x : Str} {k : Nat} {ps : List Str} {sp : Sp} {e : Expr} {es : List Expr} {t : TA} {p pos : Pos} (c : Cal X.prog X.w X.K X.mg X.base x k ps sp) (hr : Room k X.A) (hg : Gl X x) (ha : PA X (e :: es) t) (hdb : (x == ("__debug__" : Str)) = false := by decide)
    (he : starEach (e :: es) X.env = (false, eval e X.env) :: starEach es X.env := by rfl) (hpl : (backTo pos (starEach es X.env)).any (·.1) = false := by rfl) : PE X (.Call (.Name x p) (e :: es) [] pos) (tCall sp [] E0 t) :=
  let ⟨_, _, F, m, kp, b⟩ := c; pe_call F hr hg m kp b .nil pass0 ha hdb he hpl
/-- isinstance(e, T) -/
theorem pe_isin {X : Cx} (B : Bare X.mg) {e : Expr} {te : TE} {T : String} {x : Str} {p1 p2 pos : Pos} (he : PE X e te) (hg : Gl X "isinstance") (hx : Gl X x) (hm : X.mg x = none) (hv : bootBuiltins x = some (.type T)) (hn : x ≠ "__name__" := by decide) (hd : (x == ("__debug__" : Str)) = false := by decide)
    (s1 : starEach [e, .Name x p2] X.env = [(false, eval e X.env), (false, eval (.Name x p2) X.env)] := by rfl) (s2 : starEach [.Name x p2] X.env = [(false, eval (.Name x p2) X.env)] := by rfl) :
    PE X (.Call (.Name "isinstance" p1) [e, .Name x p2] [] pos) (tCB (fun xs H Q => ∃ x T t b, xs = [x, .ty T] ∧ TyOf X.K H x t ∧ PySem.W.kitOne X.K t (.type T) = some b ∧ Q (.bl b) H) (tCons te (tCons (tC (.ty T)) tNil))) :=
  pe_callB call_isinst hg B.isin bt_isinstance (pa_cons he (pa_cons (pe_bltn hx hm hv rfl hn hd) pa_nil s2) (by rw [s1, s2])) (he := by rw [s1, s2]) (hpl := by rw [s2]; rfl)

/-- the tuples stay -/
def Tups (H H' : Hp) : Prop := ∀ b xs, H b = some (.tup xs) → H' b = some (.tup xs)
theorem Same.tups {H H' : Hp} (e : Same H H') : Tups H H' := fun b xs h => e b _ h
theorem Tups.trans {H H1 H2 : Hp} (a : Tups H H1) (b : Tups H1 H2) : Tups H H2 := fun c xs h => b c xs (a c xs h)
theorem Tups.upd {H : Hp} {a : Addr} {o : HO} (h : ∀ xs, H a ≠ some (.tup xs)) : Tups H (upd H a o) := fun b xs e => by
  by_cases z : b = a
  · subst z; exact absurd e (h xs)
  · rw [upd_ne z]; exact e
theorem IsW.tups {H H' : Hp} {v : V} {x : W} (e : Tups H H') (h : IsW H v x) : IsW H' v x := let ⟨q, h1, h2⟩ := h; ⟨q, h1, e _ _ h2⟩
theorem IsP.tups {H H' : Hp} {v : V} {p : W × W} (e : Tups H H') (h : IsP H v p) : IsP H' v p := let ⟨q, a, b, h1, h2, h3, h4⟩ := h; ⟨q, a, b, h1, e _ _ h2, h3.tups e, h4.tups e⟩
theorem Ws.tups {H H' : Hp} (e : Tups H H') {vs : List V} {xs : List W} (h : Ws H vs xs) : Ws H' vs xs := Paired.mapP h fun _ _ z => z.tups e
theorem Ps.tups {H H' : Hp} (e : Tups H H') {vs : List V} {xs : List (W × W)} (h : Ps H vs xs) : Ps H' vs xs := Paired.mapP h fun _ _ z => z.tups e
theorem Same.laid {H : Hp} {a : Addr} {o : HO} (h : H a = Option.none) : Same H (upd H a o) := fun b u e => by
  rw [upd_ne (ne_of_none e h)]; exact e
theorem Same.laidT {H H' : Hp} {a : Addr} {o : HO} (e : Same H H') (h : H' a = Option.none) : Same H (upd H' a o) := e.trans (Same.laid h)
/-- what was fresh then may change -/
theorem Same.chg {H H' : Hp} {a : Addr} {o : HO} (e : Same H H') (h : H a = Option.none) : Same H (upd H' a o) := fun b u z => by
  rw [upd_ne (ne_of_none z h)]; exact e b u z

def flds (N : Nat) (q : Addr) : List (Str × V) := putF "kept" (.ref q) (putF "names" (.int N) [])
theorem nk : ¬ (("names" : Str) = "kept") := by decide +kernel
theorem flds_names (N : Nat) (q : Addr) : (flds N q).lookup ("names" : Str) = some (.int N) := by
  unfold flds
  rw [lookup_putF, if_neg nk, lookup_putF, if_pos rfl]
theorem flds_kept (N : Nat) (q : Addr) : (flds N q).lookup ("kept" : Str) = some (.ref q) := by
  unfold flds
  rw [lookup_putF, if_pos rfl]
theorem flds_no (N : Nat) (q : Addr) {m : Str} (h1 : ¬ m = "kept") (h2 : ¬ m = "names") : (flds N q).lookup m = none := by
  unfold flds
  rw [lookup_putF, if_neg h1, lookup_putF, if_neg h2]
  all_goals rfl
structure HouseAt (C : Addr) (H : Hp) (v : V) (N : Nat) (ws : List (W × W)) : Prop where
  ob : ∃ p dx q vs, v = .ref p ∧ H p = some (.ins C dx (flds N q)) ∧ H q = some (.tup vs) ∧ Ps H vs ws ∧ vs.length ≤ 24
theorem HouseAt.same {C : Addr} {H H' : Hp} {v : V} {N : Nat} {ws : List (W × W)} (e : Same H H') (h : HouseAt C H v N ws) : HouseAt C H' v N ws :=
  let ⟨p, dx, q, vs, h1, h2, h3, h4, h5⟩ := h.ob; ⟨p, dx, q, vs, h1, e _ _ h2, e _ _ h3, h4.same e, h5⟩
/-- a house that is one -/
structure GoodH (N : Nat) (ws : List (W × W)) : Prop where
  lo : 1 ≤ N
  hi : N ≤ 8
  len : ws.length ≤ 24
  good : Good N ws

theorem iteP {c A B : Prop} [Decidable c] (hc : c) (h : A) : if decide c = true then A else B := by rw [decide_eq_true hc]; exact iteT h
theorem iteN {c A B : Prop} [Decidable c] (hc : ¬ c) (h : B) : if decide c = true then A else B := by rw [decide_eq_false hc]; exact iteF h
theorem iteD {c A B : Prop} [Decidable c] (h1 : c → A) (h2 : ¬ c → B) : if decide c = true then A else B := by
  by_cases hc : c
  · exact iteP hc (h1 hc)
  · exact iteN hc (h2 hc)
theorem iteB {b : Bool} {A B : Prop} (h1 : b = true → A) (h2 : b = false → B) : if b = true then A else B := by
  cases b with
  | true => exact iteT (h1 rfl)
  | false => exact iteF (h2 rfl)

theorem shp {d : PyData} (h1 : d.canLay0 = true) (h2 : d.depth ≤ 64) : SeqAt.shaped d = true := by
  unfold SeqAt.shaped
  rw [h1, decide_eq_true h2]; rfl
theorem lay_wd (x : W) : (wd x).canLay0 = true := by simp [wd, PyData.canLay0, PyData.canLayAll0]
theorem lay_pd (x : W × W) : (pd x).canLay0 = true := by simp [pd, wd, PyData.canLay0, PyData.canLayAll0]
theorem dep_wd (x : W) : (wd x).depth ≤ 8 := by simp [wd, PyData.depth, PyData.depthAll]
theorem dep_pd (x : W × W) : (pd x).depth ≤ 8 := by simp [pd, wd, PyData.depth, PyData.depthAll]
theorem lay_all {α : Type} {f : α → PyData} (h : ∀ x, (f x).canLay0 = true) : ∀ l : List α, PyData.canLayAll0 (l.map f) = true
  | [] => rfl
  | x :: l => by simp [PyData.canLayAll0, h x, lay_all h l]
theorem dep_all {α : Type} {f : α → PyData} {n : Nat} (h : ∀ x, (f x).depth ≤ n) : ∀ l : List α, PyData.depthAll (l.map f) ≤ n
  | [] => by simp [PyData.depthAll]
  | x :: l => by
    have := h x
    have := dep_all h l
    simp only [List.map_cons, PyData.depthAll]
    omega
theorem shp_list {α : Type} {f : α → PyData} {n : Nat} (h1 : ∀ x, (f x).canLay0 = true) (h2 : ∀ x, (f x).depth ≤ n) (hn : n ≤ 60) (l : List α) : SeqAt.shaped (.list (l.map f)) = true := by
  refine shp ?_ ?_
  · show PyData.canLayAll0 _ = true
    exact lay_all h1 l
  · have := dep_all h2 l
    simp only [PyData.depth]
    omega
theorem eqv_wl (l m : List W) : PyData.eqv (.list (l.map wd)) (.list (m.map wd)) = decide (l = m) := by
  simp only [PyData.eqv]
  exact eqvAll_map eqv_wd l m
theorem any_mem {α : Type} [DecidableEq α] {f : α → PyData} (h : ∀ x y, PyData.eqv (f x) (f y) = decide (x = y)) (x : α) : ∀ l : List α, ((l.map f).any fun z => PyData.eqv z (f x)) = decide (x ∈ l)
  | [] => by simp
  | y :: l => by
    simp only [List.map_cons, List.any_cons, h, any_mem h x l]
    rw [Bool.eq_iff_iff]
    simp only [Bool.or_eq_true, decide_eq_true_iff, List.mem_cons]
    exact ⟨fun z => z.imp Eq.symm id, fun z => z.imp Eq.symm id⟩
theorem any_in {α : Type} [DecidableEq α] {f : α → PyData} (h : ∀ x y, PyData.eqv (f x) (f y) = decide (x = y)) (x : α) (l : List α) [d : Decidable (x ∈ l)] : ((l.map f).any fun z => PyData.eqv z (f x)) = decide (x ∈ l) := by
  rw [any_mem h x l, Bool.eq_iff_iff]
  simp
section
variable {X : Cx}
theorem OpR.imp {f : Value → Value → Sem Value} {r r' : R2} (h : OpR X f r) (i : ∀ x y H Q, r' x y H Q → r x y H Q) : OpR X f r' := fun pins s σ H x y v u Q I rx ry q => h pins s σ H x y v u Q I rx ry (i x y H Q q)
def rEqW : R2 := fun x y H Q => ∃ a b, IsW H x a ∧ IsW H y b ∧ Q (.bl (decide (a = b))) H
theorem op_eqW (hu : X.A.units + 64 < cLine) : OpR X (compareOp .Eq) rEqW := (op_eqD hu).imp fun x y H Q ⟨a, b, h1, h2, q⟩ => ⟨wd a, wd b, h1.rep, h2.rep, shp (lay_wd a) (by have := dep_wd a; omega), shp (lay_wd b) (by have := dep_wd b; omega), by rw [eqv_wd]; exact q⟩
/-- lists of words; lists of wishes -/
def WL (K : PySem.W.Frag) (H : Hp) (v : V) (l : List W) : Prop := ∃ a vs, v = .ref a ∧ SqL K H a vs ∧ Ws H vs l
def PL (K : PySem.W.Frag) (H : Hp) (v : V) (l : List (W × W)) : Prop := ∃ a vs, v = .ref a ∧ SqL K H a vs ∧ Ps H vs l
theorem WL.rep {K : PySem.W.Frag} {H : Hp} {v : V} {l : List W} (h : WL K H v l) : Rep K H v (.list (l.map wd)) := by
  obtain ⟨a, vs, rfl, h1, h2⟩ := h
  exact .lst h1 h2.reps
theorem PL.rep {K : PySem.W.Frag} {H : Hp} {v : V} {l : List (W × W)} (h : PL K H v l) : Rep K H v (.list (l.map pd)) := by
  obtain ⟨a, vs, rfl, h1, h2⟩ := h
  exact .lst h1 h2.reps
def rEqWL (K : PySem.W.Frag) : R2 := fun x y H Q => ∃ a b, WL K H x a ∧ WL K H y b ∧ Q (.bl (decide (a = b))) H
def rNeWL (K : PySem.W.Frag) : R2 := fun x y H Q => ∃ a b, WL K H x a ∧ WL K H y b ∧ Q (.bl (!decide (a = b))) H
theorem op_eqWL (hu : X.A.units + 64 < cLine) : OpR X (compareOp .Eq) (rEqWL X.K) := (op_eqD hu).imp fun x y H Q ⟨a, b, h1, h2, q⟩ => ⟨_, _, h1.rep, h2.rep, shp_list lay_wd dep_wd (by decide) a, shp_list lay_wd dep_wd (by decide) b, by rw [eqv_wl]; exact q⟩
theorem op_neWL (hu : X.A.units + 64 < cLine) : OpR X (compareOp .NotEq) (rNeWL X.K) := (op_neD hu).imp fun x y H Q ⟨a, b, h1, h2, q⟩ => ⟨_, _, h1.rep, h2.rep, shp_list lay_wd dep_wd (by decide) a, shp_list lay_wd dep_wd (by decide) b, by rw [eqv_wl]; exact q⟩
def rInWL (K : PySem.W.Frag) : R2 := fun x y H Q => ∃ a l, IsW H x a ∧ WL K H y l ∧ Q (.bl (decide (a ∈ l))) H
def rInPL (K : PySem.W.Frag) : R2 := fun x y H Q => ∃ a l, IsP H x a ∧ PL K H y l ∧ Q (.bl (decide (a ∈ l))) H
theorem op_inWL (hu : X.A.units + 65 < cLine) : OpR X (compareOp .In) (rInWL X.K) := (op_inD hu).imp fun x y H Q ⟨a, l, h1, h2, q⟩ => ⟨wd a, _, h1.rep, h2.rep, shp (lay_wd a) (by have := dep_wd a; omega), shp_list lay_wd dep_wd (by decide) l, by rw [any_in eqv_wd]; exact q⟩
theorem op_inPL (hu : X.A.units + 65 < cLine) : OpR X (compareOp .In) (rInPL X.K) := (op_inD hu).imp fun x y H Q ⟨a, l, h1, h2, q⟩ => ⟨pd a, _, h1.rep, h2.rep, shp (lay_pd a) (by have := dep_pd a; omega), shp_list lay_pd dep_pd (by decide) l, by rw [any_in eqv_pd]; exact q⟩
end
/-- xs.append(e) -/
theorem ps_app {X : Cx} {o e : Expr} {to te : TE} {p1 p2 p3 : Pos} (ho : PE X o to) (he : PE X e te) (hb : attributeBase o "append" X.env (eval o X.env) = eval o X.env := by rfl)
    (hf : ((backTo p2 (starEach [e] X.env)).all (fun x => !x.1) && (backToKw p2 (keywordEach [] X.env)).all (fun x => x.1.isSome) && decide (([e] : List Expr).length + ([] : List Keyword).length + (if ([] : List Keyword).isEmpty then 0 else 1) < 30)) = true := by rfl)
    (hl : (p1.endLine == p2.line) = true := by rfl) (hs : swapsWith (.Call (.Attribute o "append" p1) [e] [] p2) none p3.line X.env = pure false := by rfl) (s1 : starEach [e] X.env = (false, eval e X.env) :: starEach [] X.env := by rfl) :
    PS X (.Expr (.Call (.Attribute o "append" p1) [e] [] p2) p3) (tDrop (tBM X.K "list" rAppend to (tCons te tNil))) :=
  ps_expr (pe_bm (hbase := hb) (hfew := hf) (hline := hl) (hs := s1) PySem.F.plainAttrs_list PySem.F.slot_list_append PySem.F.type_list_append mt_append ho (pa_cons he pa_nil s1)) hs
end L2

end

section
set_option autoImplicit false
set_option maxRecDepth 100000
set_option linter.all false
namespace L2
open PySem PySem.Spec PyProof.Rows EoD Eo
theorem bools1 {J : It} {D : Addr} {js : List Nat} {te : TE} {σ : St} {H : Hp} {Qd : Hp → Prop} (n : Nat) (f : Nat → Bool) (hD : H D = none) (hn : n < sizeLine) (go : ∀ i H', i < n → Same H H' → J.go i H') (st : ∀ H', Same H H' → J.stop n H')
    (hs : ∀ i x H' H'' (Q : VK), i < n → Same H H' → J.yld i H' x H'' → (∀ H3, Same H' H3 → Q (.bl (f i)) H3) → te (some x :: look σ js) H'' Q)
    (hd : ∀ H', Same H H' → H' D = some (.lst (((List.range n).map f).map V.bl)) → Qd H') :
    ∃ W : Nat → Nat → List V → Hp → Prop, (∃ m, W 0 m [] (upd H D (.lst []))) ∧ ∀ i m acc H2, W i m acc H2 → H2 D = some (.lst acc) ∧ acc.length < sizeLine ∧ ((J.stop i H2 ∧ Qd H2) ∨
      (J.go i H2 ∧ ∀ x H3, J.yld i H2 x H3 → tYes (some x :: look σ js) H3 fun b H4 => if b = true then te (some x :: look σ js) H4 fun v H5 => H5 D = some (.lst acc) ∧ ∃ m', m' < m ∧ W (i + 1) m' (acc ++ [v]) (upd H5 D (.lst (acc ++ [v])))
        else ∃ m', m' < m ∧ W (i + 1) m' acc H4)) := by
  refine ⟨fun i m acc H2 => m = n - i ∧ i ≤ n ∧ Same H H2 ∧ H2 D = some (.lst acc) ∧ acc = ((List.range i).map f).map V.bl, ⟨n, by omega, Nat.zero_le _, Same.laid hD, upd_same, rfl⟩, ?_⟩
  rintro i m acc H2 ⟨rfl, hi, s2, e2, ea⟩
  refine ⟨e2, by rw [ea, List.length_map, List.length_map, List.length_range]; omega, ?_⟩
  by_cases hlt : i < n
  · refine .inr ⟨go i H2 hlt s2, fun x H3 y => ?_⟩
    simp only [tYes, if_true]
    refine hs i x H2 H3 _ hlt s2 y fun H5 s5 => ⟨s5 _ _ e2, _, (by omega : n - (i + 1) < n - i), rfl, hlt, (s2.trans s5).chg hD, upd_same, ?_⟩
    rw [ea, List.range_succ, List.map_append, List.map_append]
    rfl
  · have e : i = n := by omega
    subst e
    exact .inl ⟨st H2 s2, hd H2 s2 (by rw [e2, ea])⟩
theorem bools2 {K : PySem.W.Frag} {J : It} {D : Addr} {js : List Nat} {te : TE} {σ : St} {H : Hp} {Qd : Hp → Prop} (n : Nat) (f : Nat → Bool) (hD : H D = none) (hn : n < sizeLine) (go : ∀ i H', i < n → Same H H' → J.go i H') (st : ∀ H', Same H H' → J.stop n H')
    (hs : ∀ i x H' H'', i < n → Same H H' → J.yld i H' x H'' → ∃ T v1 v2, x = .ref T ∧ SqT K H'' T [v1, v2] ∧ ∀ (Q : VK), (∀ H3, Same H' H3 → Q (.bl (f i)) H3) → te (some v1 :: some v2 :: look σ js) H'' Q)
    (hd : ∀ H', Same H H' → H' D = some (.lst (((List.range n).map f).map V.bl)) → Qd H') :
    ∃ W : Nat → Nat → List V → Hp → Prop, (∃ m, W 0 m [] (upd H D (.lst []))) ∧ ∀ i m acc H2, W i m acc H2 → H2 D = some (.lst acc) ∧ acc.length < sizeLine ∧ ((J.stop i H2 ∧ Qd H2) ∨
      (J.go i H2 ∧ ∀ x H3, J.yld i H2 x H3 → ∃ T v1 v2, x = .ref T ∧ SqT K H3 T [v1, v2] ∧ tYes (some v1 :: some v2 :: look σ js) H3 fun b H4 => if b = true then te (some v1 :: some v2 :: look σ js) H4 fun v H5 => H5 D = some (.lst acc) ∧ ∃ m', m' < m ∧ W (i + 1) m' (acc ++ [v]) (upd H5 D (.lst (acc ++ [v])))
        else ∃ m', m' < m ∧ W (i + 1) m' acc H4)) := by
  refine ⟨fun i m acc H2 => m = n - i ∧ i ≤ n ∧ Same H H2 ∧ H2 D = some (.lst acc) ∧ acc = ((List.range i).map f).map V.bl, ⟨n, by omega, Nat.zero_le _, Same.laid hD, upd_same, rfl⟩, ?_⟩
  rintro i m acc H2 ⟨rfl, hi, s2, e2, ea⟩
  refine ⟨e2, by rw [ea, List.length_map, List.length_map, List.length_range]; omega, ?_⟩
  by_cases hlt : i < n
  · refine .inr ⟨go i H2 hlt s2, fun x H3 y => ?_⟩
    obtain ⟨T, v1, v2, ex, hT, k⟩ := hs i x H2 H3 hlt s2 y
    refine ⟨T, v1, v2, ex, hT, ?_⟩
    simp only [tYes, if_true]
    refine k _ fun H5 s5 => ⟨s5 _ _ e2, _, (by omega : n - (i + 1) < n - i), rfl, hlt, (s2.trans s5).chg hD, upd_same, ?_⟩
    rw [ea, List.range_succ, List.map_append, List.map_append]
    rfl
  · have e : i = n := by omega
    subst e
    exact .inl ⟨st H2 s2, hd H2 s2 (by rw [e2, ea])⟩
def plV (l : List Nat) : List V := l.map fun i : Nat => V.int (i : Int)
theorem plV_len (l : List Nat) : (plV l).length = l.length := by simp [plV]
theorem filter_succ (f : Nat → Bool) (i : Nat) : plV ((List.range (i + 1)).filter f) = plV ((List.range i).filter f) ++ (if f i = true then [V.int i] else []) := by
  rw [List.range_succ, List.filter_append]
  unfold plV
  rw [List.map_append]
  congr 1
  cases e : f i <;> simp [e]
theorem places2 {K : PySem.W.Frag} {J : It} {D : Addr} {js : List Nat} {tc : TT} {te : TE} {σ : St} {H : Hp} {Qd : Hp → Prop} (n : Nat) (f : Nat → Bool) (hD : H D = none) (hn : n < sizeLine) (go : ∀ i H', i < n → Same H H' → J.go i H') (st : ∀ H', Same H H' → J.stop n H')
    (hs : ∀ i x H' H'', i < n → Same H H' → J.yld i H' x H'' → ∃ T v1 v2, x = .ref T ∧ SqT K H'' T [v1, v2] ∧ (∀ (Q : Bool → Hp → Prop), (∀ H3, Same H' H3 → Q (f i) H3) → tc (some v1 :: some v2 :: look σ js) H'' Q) ∧ ∀ H3 (Q : VK), Same H' H3 → Q (.int i) H3 → te (some v1 :: some v2 :: look σ js) H3 Q)
    (hd : ∀ H', Same H H' → H' D = some (.lst (plV ((List.range n).filter f))) → Qd H') :
    ∃ W : Nat → Nat → List V → Hp → Prop, (∃ m, W 0 m [] (upd H D (.lst []))) ∧ ∀ i m acc H2, W i m acc H2 → H2 D = some (.lst acc) ∧ acc.length < sizeLine ∧ ((J.stop i H2 ∧ Qd H2) ∨
      (J.go i H2 ∧ ∀ x H3, J.yld i H2 x H3 → ∃ T v1 v2, x = .ref T ∧ SqT K H3 T [v1, v2] ∧ tc (some v1 :: some v2 :: look σ js) H3 fun b H4 => if b = true then te (some v1 :: some v2 :: look σ js) H4 fun v H5 => H5 D = some (.lst acc) ∧ ∃ m', m' < m ∧ W (i + 1) m' (acc ++ [v]) (upd H5 D (.lst (acc ++ [v])))
        else ∃ m', m' < m ∧ W (i + 1) m' acc H4)) := by
  refine ⟨fun i m acc H2 => m = n - i ∧ i ≤ n ∧ Same H H2 ∧ H2 D = some (.lst acc) ∧ acc = plV ((List.range i).filter f), ⟨n, by omega, Nat.zero_le _, Same.laid hD, upd_same, rfl⟩, ?_⟩
  rintro i m acc H2 ⟨rfl, hi, s2, e2, ea⟩
  have hl : acc.length ≤ i := by
    rw [ea, plV_len]
    exact Nat.le_trans (List.length_filter_le _ _) (by simp)
  refine ⟨e2, by omega, ?_⟩
  by_cases hlt : i < n
  · refine .inr ⟨go i H2 hlt s2, fun x H3 y => ?_⟩
    obtain ⟨T, v1, v2, ex, hT, k1, k2⟩ := hs i x H2 H3 hlt s2 y
    refine ⟨T, v1, v2, ex, hT, k1 _ fun H4 s4 => ?_⟩
    have fs := filter_succ f i
    cases e : f i with
    | true =>
      rw [if_pos rfl]
      refine k2 H4 _ s4 ⟨s4 _ _ e2, _, (by omega : n - (i + 1) < n - i), rfl, hlt, (s2.trans s4).chg hD, upd_same, ?_⟩
      rw [fs, e, if_pos rfl, ea]
    | false =>
      rw [if_neg Bool.false_ne_true]
      refine ⟨_, (by omega : n - (i + 1) < n - i), rfl, hlt, s2.trans s4, s4 _ _ e2, ?_⟩
      rw [fs, e, if_neg Bool.false_ne_true, ea, List.append_nil]
  · have e : i = n := by omega
    subst e
    exact .inl ⟨st H2 s2, hd H2 s2 (by rw [e2, ea])⟩
section
variable {K : PySem.W.Frag} {a b : Addr} {xs ys : List V} {H H' H'' : Hp} {i : Nat} {x : V}
theorem itl_go (s : Same H H') (h : SqL K H a xs) (hi : i < xs.length) : (Itl K a).go i H' := ⟨xs, xs[i], s.seq h, by simp [hi]⟩
theorem itl_stop (s : Same H H') (h : SqL K H a xs) : (Itl K a).stop xs.length H' := ⟨xs, s.seq h, Nat.le_refl _⟩
theorem itl_yld (s : Same H H') (h : SqL K H a xs) (y : (Itl K a).yld i H' x H'') : H'' = H' ∧ xs[i]? = some x := ⟨y.1, y.2 xs (s.seq h)⟩
theorem ite_go (s : Same H H') (h : SqL K H a xs) (hi : i < xs.length) : (Ite K a).go i H' := ⟨xs, xs[i], s.seq h, by simp [hi]⟩
theorem ite_stop (s : Same H H') (h : SqL K H a xs) : (Ite K a).stop xs.length H' := ⟨xs, s.seq h, Nat.le_refl _⟩
theorem ite_yld (s : Same H H') (h : SqL K H a xs) (y : (Ite K a).yld i H' x H'') : ∃ T v, x = .ref T ∧ xs[i]? = some v ∧ Same H' H'' ∧ H'' T = some (.tup [.int i, v]) := by
  obtain ⟨T, v, ex, hT, hv, rfl⟩ := y
  exact ⟨T, v, ex, hv xs (s.seq h), Same.laid hT, upd_same⟩
theorem itz_go (s : Same H H') (h : SqL K H a xs) (h2 : SqL K H b ys) (hi : i < xs.length) (hj : i < ys.length) : (Itz K a b).go i H' := ⟨xs, ys, xs[i], ys[i], s.seq h, s.seq h2, by simp [hi], by simp [hj]⟩
theorem itz_stop (s : Same H H') (h : SqL K H a xs) (h2 : SqL K H b ys) (hi : xs.length ≤ i ∨ ys.length ≤ i) : (Itz K a b).stop i H' := ⟨xs, ys, s.seq h, s.seq h2, hi⟩
theorem itz_yld (s : Same H H') (h : SqL K H a xs) (h2 : SqL K H b ys) (y : (Itz K a b).yld i H' x H'') : ∃ T u v, x = .ref T ∧ xs[i]? = some u ∧ ys[i]? = some v ∧ Same H' H'' ∧ H'' T = some (.tup [u, v]) := by
  obtain ⟨T, u, v, ex, hT, hu, hv, rfl⟩ := y
  exact ⟨T, u, v, ex, hu xs (s.seq h), hv ys (s.seq h2), Same.laid hT, upd_same⟩
end
/-- isinstance(x, C) of an own class -/
theorem call_isinstC {X : Cx} : CallR X (.builtin "isinstance") (fun xs H Q => ∃ x C t b, xs = [x, .ref C] ∧ TyOf X.K H x t ∧ PySem.W.kitOne X.K t (.ref C) = some b ∧ Q (.bl b) H) := by
  intro pins s σ H xs us Q I r ⟨x, C, t, b, e, ty, hk, q⟩
  subst e
  obtain ⟨u, v, rfl, ru, rv⟩ := vals2 r
  cases rv
  exact isinst_ok I ru ty hk fun tk => ⟨.bl b, H, I.tok tk, rfl, q⟩
abbrev tIsC (K : PySem.W.Frag) (te : TE) (C : Addr) : TE := tCB (fun xs H Q => ∃ x C t b, xs = [x, .ref C] ∧ TyOf K H x t ∧ PySem.W.kitOne K t (.ref C) = some b ∧ Q (.bl b) H) (tCons te (tCons (tC (.ref C)) tNil))
theorem pe_isinC {X : Cx} (B : Bare X.mg) {e : Expr} {te : TE} {C : Addr} {x : Str} {p1 p2 pos : Pos} (he : PE X e te) (hg : Gl X "isinstance") (hx : Gl X x) (hm : X.mg x = some (.ref C)) (hd : (x == ("__debug__" : Str)) = false := by decide)
    (s1 : starEach [e, .Name x p2] X.env = [(false, eval e X.env), (false, eval (.Name x p2) X.env)] := by rfl) (s2 : starEach [.Name x p2] X.env = [(false, eval (.Name x p2) X.env)] := by rfl) :
    PE X (.Call (.Name "isinstance" p1) [e, .Name x p2] [] pos) (tIsC X.K te C) :=
  pe_callB call_isinstC hg B.isin bt_isinstance (pa_cons he (pa_cons (pe_glob hx hm rfl hd) pa_nil s2) (by rw [s1, s2])) (he := by rw [s1, s2]) (hpl := by rw [s2]; rfl)
abbrev tIsT (K : PySem.W.Frag) (te : TE) (T : String) : TE := tCB (fun xs H Q => ∃ x T t b, xs = [x, .ty T] ∧ TyOf K H x t ∧ PySem.W.kitOne K t (.type T) = some b ∧ Q (.bl b) H) (tCons te (tCons (tC (.ty T)) tNil))
/-- one of two readings -/
theorem pe_either {X : Cx} {e : Expr} {t u : TE} (h1 : PE X e t) (h2 : PE X e u) : PE X e (fun σ H Q => t σ H Q ∨ u σ H Q) := fun pins s σ H Q I h => h.elim (h1 pins s σ H Q I) (h2 pins s σ H Q I)
end L2
namespace L2
open PySem PySem.Spec PyProof.Rows
def cutS (t : TS) : TS := fun D σ H => ∃ Pm : St → Hp → Prop, t { D with nx := Pm } σ H ∧ ∀ σ1 H1, Pm σ1 H1 → D.nx σ1 H1
theorem sp_mono {X : Cx} {pins : List (Addr × Obj)} {D : Ends} {Pm : St → Hp → Prop} {f : Flow} {s' : Shared} (k : ∀ σ1 H1, Pm σ1 H1 → D.nx σ1 H1) (h : SP X pins { D with nx := Pm } f s') : SP X pins D f s' := by
  cases f with
  | next => obtain ⟨σ1, H1, I1, q⟩ := h; exact ⟨σ1, H1, I1, k _ _ q⟩
  | brk => exact h
  | cont => exact h
  | ret u => exact h
theorem ps_cut {X : Cx} {st : Stmt} {t : TS} (h : PS X st t) : PS X st (cutS t) := fun pins s σ H D I ⟨Pm, h1, k⟩ => wpAny_mono (h pins s σ H { D with nx := Pm } I h1) (fun f s' q => sp_mono k q) fun _ _ z => z
end L2

end

section
set_option autoImplicit false
namespace Eo
theorem neg_neg (x : W) : neg (neg x) = x := by simp [neg]
theorem InN.neg {N : Nat} {x : W} (h : InN N x) : InN N (neg x) := h
theorem Nx.opp {ws : List (W × W)} {u v : W} (h : Nx ws u v) : Nx ws (neg v) (neg u) := by
  unfold Nx
  rw [neg_neg]
  exact h.symm
theorem Way.trans {ws : List (W × W)} {u v x : W} {j k : Nat} (a : Way ws u j v) (b : Way ws v k x) : Way ws u (j + k) x := by
  induction b with
  | here => exact a
  | step _ n ih => exact .step ih n
theorem Way.first {ws : List (W × W)} {u v x : W} {k : Nat} (n : Nx ws u v) (b : Way ws v k x) : Way ws u (1 + k) x := (Way.step .here n).trans b
theorem Way.opp {ws : List (W × W)} {u v : W} {k : Nat} (h : Way ws u k v) : Way ws (neg v) k (neg u) := by
  induction h with
  | here => exact .here
  | step _ n ih =>
    have := ih.first n.opp
    rw [Nat.add_comm] at this
    exact this
theorem Reach.refl (ws : List (W × W)) (u : W) : Reach ws u u := ⟨0, .here⟩
theorem Reach.trans {ws : List (W × W)} {u v x : W} (a : Reach ws u v) (b : Reach ws v x) : Reach ws u x := let ⟨_, a⟩ := a; let ⟨_, b⟩ := b; ⟨_, a.trans b⟩
theorem Reach.opp {ws : List (W × W)} {u v : W} (h : Reach ws u v) : Reach ws (neg v) (neg u) := let ⟨_, h⟩ := h; ⟨_, h.opp⟩
theorem Reach.next {ws : List (W × W)} {u v x : W} (a : Reach ws u v) (n : Nx ws v x) : Reach ws u x := let ⟨_, a⟩ := a; ⟨_, .step a n⟩
/-- whether a choice, as truths by names, has a word; pleases -/
def Has (f : Int → Bool) (x : W) : Prop := f x.1 = x.2
def Pls (f : Int → Bool) (ws : List (W × W)) : Prop := ∀ p ∈ ws, Has f p.1 ∨ Has f p.2
/-- words that no chain sets against one another may be had -/
theorem keep_all {f0 : Int → Bool} {ws : List (W × W)} (p0 : Pls f0 ws) (S : W → Prop) (no : ∀ s s', S s → S s' → ¬ Reach ws s (neg s')) : ∃ f, Pls f ws ∧ ∀ s, S s → Has f s := by
  classical
  let T : W → Prop := fun x => ∃ s, S s ∧ Reach ws s x
  have cons : ∀ x, T x → ¬ T (neg x) := fun x ⟨s, hs, rs⟩ ⟨s', hs', rs'⟩ => by
    have := rs'.opp
    rw [neg_neg] at this
    exact no s s' hs hs' (rs.trans this)
  have next : ∀ x y, T x → Nx ws x y → T y := fun x y ⟨s, hs, rs⟩ n => ⟨s, hs, rs.next n⟩
  refine ⟨fun n => if T (n, true) then true else if T (n, false) then false else f0 n, ?_, ?_⟩
  · have had : ∀ x, T x → Has (fun n => if T (n, true) then true else if T (n, false) then false else f0 n) x := by
      rintro ⟨n, b⟩ hx
      unfold Has
      cases b with
      | true => simp [hx]
      | false =>
        have : ¬ T (n, true) := cons _ hx
        simp [hx, this]
    have old : ∀ x, ¬ T x → ¬ T (neg x) → (Has (fun n => if T (n, true) then true else if T (n, false) then false else f0 n) x ↔ Has f0 x) := by
      rintro ⟨n, b⟩ h1 h2
      unfold Has
      cases b with
      | true =>
        have h2 : ¬ T (n, false) := h2
        simp [h1, h2]
      | false =>
        have h2 : ¬ T (n, true) := h2
        simp [h1, h2]
    rintro ⟨a, b⟩ hp
    by_cases ta : T a
    · exact .inl (had a ta)
    by_cases tb : T b
    · exact .inr (had b tb)
    by_cases na : T (neg a)
    · exact .inr (had b (next _ _ na (.inl (by rw [neg_neg]; exact hp))))
    by_cases nb : T (neg b)
    · exact .inl (had a (next _ _ nb (.inr (by rw [neg_neg]; exact hp))))
    · exact (p0 _ hp).imp (old a ta na).2 (old b tb nb).2
  · rintro ⟨n, b⟩ hs
    have hx : T (n, b) := ⟨_, hs, .refl _ _⟩
    unfold Has
    cases b with
    | true => simp [hx]
    | false =>
      have : ¬ T (n, true) := cons _ hx
      simp [hx, this]
/-- where no name is torn, some choice pleases -/
theorem pls_of {N : Nat} {ws : List (W × W)} (g : Good N ws) (no : ∀ x, InN N x → ¬ (Reach ws x (neg x) ∧ Reach ws (neg x) x)) : ∃ f, Pls f ws := by
  classical
  have step : ∀ n : Nat, n ≤ N → ∃ T : W → Prop, (∀ x y, T x → Nx ws x y → T y) ∧ (∀ x, T x → ¬ T (neg x)) ∧ ∀ i : Nat, i < n → T ((i : Int), true) ∨ T ((i : Int), false) := by
    intro n
    induction n with
    | zero => exact fun _ => ⟨fun _ => False, fun _ _ h => h.elim, fun _ h => h.elim, fun i hi => by omega⟩
    | succ n ih =>
      intro hn
      obtain ⟨T, c1, c2, c3⟩ := ih (by omega)
      by_cases dn : T ((n : Int), true) ∨ T ((n : Int), false)
      · refine ⟨T, c1, c2, fun i hi => ?_⟩
        by_cases e : i = n
        · subst e; exact dn
        · exact c3 i (by omega)
      · have hx : ∃ b : Bool, ¬ Reach ws ((n : Int), b) (neg ((n : Int), b)) := by
          by_cases z : Reach ws ((n : Int), true) (neg ((n : Int), true))
          · exact ⟨false, fun z' => no ((n : Int), true) ⟨by show (0 : Int) ≤ n; omega, by show (n : Int) < N; omega⟩ ⟨z, z'⟩⟩
          · exact ⟨true, z⟩
        obtain ⟨b, hb⟩ := hx
        have und : ¬ T (neg ((n : Int), b)) := fun z => dn (by cases b with
          | true => exact .inr z
          | false => exact .inl z)
        have close0 : ∀ y k z, T y → Way ws y k z → T z := fun y k z hy r => by
          induction r with
          | here => exact hy
          | step _ n ih => exact c1 _ _ ih n
        have close : ∀ y z, T y → Reach ws y z → T z := fun y z hy ⟨k, r⟩ => close0 y k z hy r
        refine ⟨fun y => T y ∨ Reach ws ((n : Int), b) y, ?_, ?_, fun i hi => ?_⟩
        · rintro x y (h | h) m
          · exact .inl (c1 _ _ h m)
          · exact .inr (h.next m)
        · rintro x (h | h) (h' | h')
          · exact c2 x h h'
          · have := h'.opp
            rw [neg_neg] at this
            exact und (close _ _ h this)
          · have := h.opp
            exact und (close _ _ h' this)
          · have := h'.opp
            rw [neg_neg] at this
            exact hb (h.trans this)
        · by_cases e : i = n
          · subst e
            cases b with
            | true => exact .inl (.inr (.refl _ _))
            | false => exact .inr (.inr (.refl _ _))
          · exact (c3 i (by omega)).imp .inl .inl
  obtain ⟨T, c1, c2, c3⟩ := step N (Nat.le_refl _)
  have dec : ∀ x, InN N x → T x ∨ T (neg x) := by
    rintro ⟨n, b⟩ ⟨h1, h2⟩
    have h1 : 0 ≤ n := h1
    have h2 : n < (N : Int) := h2
    obtain ⟨i, rfl⟩ := Int.eq_ofNat_of_zero_le h1
    have := c3 i (by omega)
    cases b with
    | true => exact this
    | false => exact this.symm
  have had : ∀ x, T x → Has (fun n => decide (T (n, true))) x := by
    rintro ⟨n, b⟩ hx
    unfold Has
    cases b with
    | true => simp [hx]
    | false =>
      have : ¬ T (n, true) := c2 _ hx
      simp [this]
  refine ⟨fun n => decide (T (n, true)), fun p hp => ?_⟩
  rcases dec p.1 (g p hp).1 with h | h
  · exact .inl (had _ h)
  · exact .inr (had _ (c1 _ _ h (.inl (by rw [neg_neg]; exact hp))))
/-- either, or -/
theorem pls_or_torn {N : Nat} {ws : List (W × W)} (g : Good N ws) : (∃ f, Pls f ws) ∨ ∃ x, InN N x ∧ Reach ws x (neg x) ∧ Reach ws (neg x) x := by
  by_cases h : ∃ x, InN N x ∧ Reach ws x (neg x) ∧ Reach ws (neg x) x
  · exact .inr h
  · exact .inl (pls_of g fun x hx z => h ⟨x, hx, z⟩)
def fOf (c : List Bool) (n : Int) : Bool := c.getD n.toNat false
def ofF (N : Nat) (f : Int → Bool) : List Bool := (List.range N).map fun i : Nat => f (i : Int)
theorem ofF_len (N : Nat) (f : Int → Bool) : (ofF N f).length = N := by simp [ofF]
theorem fOf_ofF {N : Nat} {f : Int → Bool} {n : Int} (h0 : 0 ≤ n) (h1 : n < N) : fOf (ofF N f) n = f n := by
  obtain ⟨i, rfl⟩ := Int.eq_ofNat_of_zero_le h0
  have hi : i < N := by omega
  simp [fOf, ofF, List.getD, hi]
theorem has_ofF {N : Nat} {f : Int → Bool} {x : W} (h : InN N x) : Has (fOf (ofF N f)) x ↔ Has f x := by
  unfold Has
  rw [fOf_ofF h.1 h.2]
theorem pls_ofF {N : Nat} {ws : List (W × W)} {f : Int → Bool} (g : Good N ws) : Pls (fOf (ofF N f)) ws ↔ Pls f ws :=
  forall_congr' fun p => ⟨fun h hp => (h hp).imp (has_ofF (g p hp).1).1 (has_ofF (g p hp).2).1, fun h hp => (h hp).imp (has_ofF (g p hp).1).2 (has_ofF (g p hp).2).2⟩
instance (f : Int → Bool) (x : W) : Decidable (Has f x) := inferInstanceAs (Decidable (_ = _))
instance (f : Int → Bool) (ws : List (W × W)) : Decidable (Pls f ws) := inferInstanceAs (Decidable (∀ p ∈ ws, _))
/-- all choices, in the order of their numbers; those that please -/
def bitsOf (N k : Nat) : List Bool := (List.range N).map fun i => k / 2 ^ i % 2 == 1
def pleasing (ws : List (W × W)) (N : Nat) : List (List Bool) := ((List.range (2 ^ N)).map (bitsOf N)).filter fun c => decide (Pls (fOf c) ws)
theorem bits_len (N k : Nat) : (bitsOf N k).length = N := by simp [bitsOf]
theorem all_bits : ∀ c : List Bool, ∃ k, k < 2 ^ c.length ∧ bitsOf c.length k = c
  | [] => ⟨0, by simp, rfl⟩
  | b :: c => by
    obtain ⟨k, hk, e⟩ := all_bits c
    refine ⟨2 * k + (if b then 1 else 0), ?_, ?_⟩
    · rw [List.length_cons, Nat.pow_succ]
      cases b <;> simp <;> omega
    · unfold bitsOf at *
      rw [List.length_cons, List.range_succ_eq_map, List.map_cons, List.map_map]
      congr 1
      · cases b <;> simp <;> omega
      · refine Eq.trans ?_ e
        refine (List.map_congr_left fun i _ => ?_)
        simp only [Function.comp_apply]
        have : (2 * k + if b then 1 else 0) / 2 ^ (i + 1) = k / 2 ^ i := by
          rw [Nat.pow_succ, Nat.mul_comm (2 ^ i) 2, ← Nat.div_div_eq_div_mul]
          congr 1
          cases b <;> simp <;> omega
        rw [this]
theorem mem_pleasing {ws : List (W × W)} {N : Nat} {c : List Bool} : c ∈ pleasing ws N ↔ c.length = N ∧ Pls (fOf c) ws := by
  unfold pleasing
  rw [List.mem_filter, List.mem_map, decide_eq_true_iff]
  constructor
  · rintro ⟨⟨k, _, rfl⟩, h⟩
    exact ⟨bits_len N k, h⟩
  · rintro ⟨rfl, h⟩
    obtain ⟨k, hk, e⟩ := all_bits c
    exact ⟨⟨k, List.mem_range.2 hk, e⟩, h⟩
theorem pleasing_ne {N : Nat} {ws : List (W × W)} (g : Good N ws) : pleasing ws N ≠ [] ↔ ∃ f, Pls f ws := by
  constructor
  · intro h
    obtain ⟨c, hc⟩ := List.exists_mem_of_ne_nil _ h
    exact ⟨_, (mem_pleasing.1 hc).2⟩
  · rintro ⟨f, h⟩ e
    have : ofF N f ∈ pleasing ws N := mem_pleasing.2 ⟨ofF_len N f, (pls_ofF g).2 h⟩
    rw [e] at this
    simp at this
end Eo

end

section
set_option autoImplicit false
set_option maxRecDepth 100000
set_option linter.all false
namespace L2
open PySem PySem.Spec PyProof.Rows EoD Eo
/-- a new list of truths; a new list of such -/
def NewBs (H H' : Hp) (v : V) (bs : List Bool) : Prop := ∃ a, v = .ref a ∧ H a = none ∧ H' a = some (.lst (bs.map V.bl))
def NewCL (H H' : Hp) (v : V) (cs : List (List Bool)) : Prop := ∃ a vs, v = .ref a ∧ H a = none ∧ H' a = some (.lst vs) ∧ Paired (NewBs H H') vs cs
theorem NewBs.same {H H' H2 : Hp} {v : V} {bs : List Bool} (h : NewBs H H' v bs) (e : Same H' H2) : NewBs H H2 v bs := let ⟨a, h1, h2, h3⟩ := h; ⟨a, h1, h2, e _ _ h3⟩
theorem NewBs.old {H0 H H' : Hp} {v : V} {bs : List Bool} (h : NewBs H H' v bs) (e : Same H0 H) : NewBs H0 H' v bs := let ⟨a, h1, h2, h3⟩ := h; ⟨a, h1, e.free h2, h3⟩
theorem pairs_append {α β : Type} {F : α → β → Prop} : ∀ {l₁ m₁ : List α} {l₂ m₂ : List β}, Paired F l₁ l₂ → Paired F m₁ m₂ → Paired F (l₁ ++ m₁) (l₂ ++ m₂)
  | _, _, _, _, .nil, s => s
  | _, _, _, _, .cons r t, s => .cons r (pairs_append t s)
theorem lists1 {J : It} {D : Addr} {js : List Nat} {te : TE} {σ : St} {H : Hp} {Qd : Hp → Prop} (n : Nat) (cs : Nat → List Bool) (hD : H D = none) (hn : n < sizeLine) (go : ∀ i H', i < n → Same H H' → J.go i H') (st : ∀ H', Same H H' → J.stop n H')
    (hs : ∀ i x H' H'' (Q : VK), i < n → Same H H' → J.yld i H' x H'' → (∀ H3 a, Same H' H3 → H' a = none → H3 a = some (.lst ((cs i).map V.bl)) → Q (.ref a) H3) → te (some x :: look σ js) H'' Q)
    (hd : ∀ H' vs, Same H H' → H' D = some (.lst vs) → Paired (NewBs H H') vs ((List.range n).map cs) → Qd H') :
    ∃ W : Nat → Nat → List V → Hp → Prop, (∃ m, W 0 m [] (upd H D (.lst []))) ∧ ∀ i m acc H2, W i m acc H2 → H2 D = some (.lst acc) ∧ acc.length < sizeLine ∧ ((J.stop i H2 ∧ Qd H2) ∨
      (J.go i H2 ∧ ∀ x H3, J.yld i H2 x H3 → tYes (some x :: look σ js) H3 fun b H4 => if b = true then te (some x :: look σ js) H4 fun v H5 => H5 D = some (.lst acc) ∧ ∃ m', m' < m ∧ W (i + 1) m' (acc ++ [v]) (upd H5 D (.lst (acc ++ [v])))
        else ∃ m', m' < m ∧ W (i + 1) m' acc H4)) := by
  refine ⟨fun i m acc H2 => m = n - i ∧ i ≤ n ∧ Same H H2 ∧ H2 D = some (.lst acc) ∧ Paired (fun v bs => ∃ a, v = .ref a ∧ H a = none ∧ a ≠ D ∧ H2 a = some (.lst (bs.map V.bl))) acc ((List.range i).map cs), ⟨n, by omega, Nat.zero_le _, Same.laid hD, upd_same, .nil⟩, ?_⟩
  rintro i m acc H2 ⟨rfl, hi, s2, e2, pa⟩
  have la : acc.length = i := by
    have := Paired.length pa
    rw [List.length_map, List.length_range] at this
    exact this
  refine ⟨e2, by omega, ?_⟩
  by_cases hlt : i < n
  · refine .inr ⟨go i H2 hlt s2, fun x H3 y => ?_⟩
    simp only [tYes, if_true]
    refine hs i x H2 H3 _ hlt s2 y fun H5 a s5 na e5 => ?_
    have aD : a ≠ D := (ne_of_none e2 na).symm
    refine ⟨s5 _ _ e2, _, (by omega : n - (i + 1) < n - i), rfl, hlt, (s2.trans s5).chg hD, upd_same, ?_⟩
    rw [List.range_succ, List.map_append]
    refine Paired.snoc (Paired.mapP pa fun v bs ⟨b, h1, h2, h3, h4⟩ => ⟨b, h1, h2, h3, by rw [upd_ne h3]; exact s5 _ _ h4⟩) ⟨a, rfl, s2.free na, aD, by rw [upd_ne aD]; exact e5⟩
  · have e : i = n := by omega
    subst e
    exact .inl ⟨st H2 s2, hd H2 acc s2 e2 (Paired.mapP pa fun v bs ⟨b, h1, h2, h3, h4⟩ => ⟨b, h1, h2, h4⟩)⟩
theorem sel1 {α : Type} {K : PySem.W.Frag} {a D : Addr} {xs : List V} {js : List Nat} {tc : TT} {σ : St} {H : Hp} {Qd : Hp → Prop} {R : V → α → Prop} (css : List α) (g : α → Bool) (hD : H D = none) (hq : SqL K H a xs) (hn : xs.length < sizeLine) (pr : Paired R xs css)
    (hc : ∀ (i : Nat) x c H' (Q : Bool → Hp → Prop), xs[i]? = some x → css[i]? = some c → R x c → Same H H' → (∀ H3, Same H' H3 → Q (g c) H3) → tc (some x :: look σ js) H' Q)
    (hd : ∀ H' acc, Same H H' → H' D = some (.lst acc) → Paired R acc (css.filter g) → Qd H') :
    ∃ W : Nat → Nat → List V → Hp → Prop, (∃ m, W 0 m [] (upd H D (.lst []))) ∧ ∀ i m acc H2, W i m acc H2 → H2 D = some (.lst acc) ∧ acc.length < sizeLine ∧ (((Itl K a).stop i H2 ∧ Qd H2) ∨
      ((Itl K a).go i H2 ∧ ∀ x H3, (Itl K a).yld i H2 x H3 → tc (some x :: look σ js) H3 fun b H4 => if b = true then tVar 0 (some x :: look σ js) H4 fun v H5 => H5 D = some (.lst acc) ∧ ∃ m', m' < m ∧ W (i + 1) m' (acc ++ [v]) (upd H5 D (.lst (acc ++ [v])))
        else ∃ m', m' < m ∧ W (i + 1) m' acc H4)) := by
  refine ⟨fun i m acc H2 => m = xs.length - i ∧ i ≤ xs.length ∧ Same H H2 ∧ H2 D = some (.lst acc) ∧ acc.length ≤ i ∧ Paired R acc ((css.take i).filter g), ⟨xs.length, by omega, Nat.zero_le _, Same.laid hD, upd_same, Nat.le_refl _, by simpa using Paired.nil⟩, ?_⟩
  rintro i m acc H2 ⟨rfl, hi, s2, e2, la, pa⟩
  refine ⟨e2, by omega, ?_⟩
  by_cases hlt : i < xs.length
  · refine .inr ⟨itl_go s2 hq hlt, fun x H3 y => ?_⟩
    obtain ⟨rfl, hx⟩ := itl_yld s2 hq y
    obtain ⟨c, hcc, rx⟩ := paired_get pr hx
    have et : (css.take (i + 1)).filter g = (css.take i).filter g ++ (if g c = true then [c] else []) := by
      rw [List.take_add_one, hcc, List.filter_append]
      cases e : g c <;> simp [e]
    refine hc i x c _ _ hx hcc rx s2 fun H4 s4 => ?_
    cases e : g c with
    | true =>
      rw [if_pos rfl]
      refine ⟨x, rfl, s4 _ _ e2, _, (by omega : xs.length - (i + 1) < xs.length - i), rfl, hlt, (s2.trans s4).chg hD, upd_same, by simp; omega, ?_⟩
      rw [et, e, if_pos rfl]
      exact Paired.snoc pa rx
    | false =>
      rw [if_neg Bool.false_ne_true]
      refine ⟨_, (by omega : xs.length - (i + 1) < xs.length - i), rfl, hlt, s2.trans s4, s4 _ _ e2, by omega, ?_⟩
      rw [et, e, if_neg Bool.false_ne_true, List.append_nil]
      exact pa
  · have e : i = xs.length := by omega
    subst e
    have lc : xs.length = css.length := Paired.length pr
    rw [lc, List.take_length] at pa
    exact .inl ⟨itl_stop s2 hq, hd H2 acc s2 e2 pa⟩
def allC : Nat → List (List Bool)
  | 0 => [[]]
  | n + 1 => (allC n).map (· ++ [false]) ++ (allC n).map (· ++ [true])
theorem allC_len : ∀ n, (allC n).length = 2 ^ n
  | 0 => rfl
  | n + 1 => by
    rw [allC, List.length_append, List.length_map, List.length_map, allC_len n, Nat.pow_succ]
    omega
theorem bits_lo {n k : Nat} (h : k < 2 ^ n) : bitsOf (n + 1) k = bitsOf n k ++ [false] := by
  unfold bitsOf
  rw [List.range_succ, List.map_append]
  congr 1
  rw [List.map_cons, List.map_nil, Nat.div_eq_of_lt h]
  rfl
theorem bits_hi {n k : Nat} (h : k < 2 ^ n) : bitsOf (n + 1) (2 ^ n + k) = bitsOf n k ++ [true] := by
  unfold bitsOf
  rw [List.range_succ, List.map_append]
  have p : 0 < 2 ^ n := Nat.two_pow_pos n
  congr 1
  · refine List.map_congr_left fun i hi => ?_
    have hi : i < n := List.mem_range.1 hi
    have e : 2 ^ n = 2 ^ i * (2 * 2 ^ (n - i - 1)) := by
      rw [← Nat.mul_assoc, ← Nat.pow_succ, ← Nat.pow_add]
      congr 1
      omega
    have e2 : (2 ^ n + k) / 2 ^ i = 2 * 2 ^ (n - i - 1) + k / 2 ^ i := by
      rw [e, Nat.add_comm, Nat.add_mul_div_left _ _ (Nat.two_pow_pos i)]
      omega
    rw [e2]
    congr 1
    omega
  · rw [List.map_cons, List.map_nil]
    have : (2 ^ n + k) / 2 ^ n = 1 := by
      rw [Nat.add_div_left _ p, Nat.div_eq_of_lt h]
    rw [this]
    rfl
theorem allC_bits : ∀ n, allC n = (List.range (2 ^ n)).map (bitsOf n)
  | 0 => rfl
  | n + 1 => by
    have e : 2 ^ (n + 1) = 2 ^ n + 2 ^ n := by rw [Nat.pow_succ]; omega
    rw [allC, allC_bits n, e, List.range_add, List.map_append, List.map_map, List.map_map, List.map_map]
    congr 1
    · exact List.map_congr_left fun k hk => (bits_lo (List.mem_range.1 hk)).symm
    · exact List.map_congr_left fun k hk => (bits_hi (List.mem_range.1 hk)).symm
theorem pleasing_all (ws : List (W × W)) (N : Nat) : (allC N).filter (fun c => decide (Pls (fOf c) ws)) = pleasing ws N := by
  unfold pleasing
  rw [allC_bits]
theorem allC_mem {N : Nat} {c : List Bool} (h : c ∈ allC N) : c.length = N := by
  rw [allC_bits, List.mem_map] at h
  obtain ⟨k, _, rfl⟩ := h
  exact bits_len N k
end L2

end

section
set_option autoImplicit false
set_option maxRecDepth 100000
set_option linter.all false
namespace L2
open PySem PySem.Spec PyProof.Rows EoD Eo
/-- any([..]) of truths -/
theorem call_anyB {X : Cx} (hc : (0 : Nat) = 0) : CallR X (.builtin "any") (fun xs H Q => ∃ (p : Addr) (bs : List Bool), xs = [.ref p] ∧ SqL X.K H p (bs.map V.bl) ∧ Q (.bl (bs.any id)) H) := by
  intro pins s σ H xs us Q I r ⟨p, bs, e, hq, q⟩
  subst e
  obtain ⟨u, rfl, ru⟩ := vals1 r
  cases ru
  obtain ⟨its, rv, pl, hz⟩ := I.list hq
  obtain ⟨m, F⟩ := I.fr
  refine EoH.any_bools F (news_all (g := X.base) (h := s.heap) (L := X.env.locals)) I.hdn pl.isList (vals_bools rv) fun h' tk F' N' => ⟨.bl _, H, ?_, rfl, q⟩
  have k := news_keep F F' N' fun _ hp => hp
  have nL : ∀ b u, H b = some u → b ≠ X.env.locals := fun b u e z => by rw [z, I.free] at e; cases e
  have there : ∀ b o, s.heap.get? b = some o → ∃ o', h'.get? b = some o' := fun b o e => by
    by_cases hb : b = X.env.locals
    · obtain ⟨o', _, _, e', _⟩ := F'.ns
      exact ⟨o', by rw [hb]; exact e'⟩
    · exact ⟨o, k b o hb e⟩
  refine I.step (g' := s.gens) (d' := s.drawn) (ch := []) (fun _ z => nomatch z) (fun b o h1 _ _ e _ => k b o h1 e) (fun b o h1 _ _ e _ => ⟨o.slots, k b o h1 e⟩) (fun b o _ e n => n) (fun b o _ e => there b o e) (fun _ _ e => e) (fun _ _ _ e => e) (fun b ps e => ⟨#[], by rw [e]; simp⟩)
    (fun m' hm' => by rw [← ns_one F.ns hm']; exact F'.ns) (fun b u w => (I.hok b u w).stay (fun c v hc z => ?_) (fun _ z => z) fun _ _ z => z) I.bare
  rcases hc with rfl | hc
  · exact k _ v (nL _ _ w) z
  · exact k _ v (nL _ _ hc) z
theorem bt_any : bootBuiltins "any" = some (.builtin "any") := by decide +kernel
theorem reps_bl {K : PySem.W.Frag} {H : Hp} : ∀ l : List Bool, Reps K H (l.map V.bl) (l.map PyData.bool)
  | [] => .nil
  | i :: l => .cons (.bl i) (reps_bl l)
theorem eqv_bl (x y : Bool) : PyData.eqv (.bool x) (.bool y) = decide (x = y) := by
  cases x <;> cases y <;> rfl
theorem lay_bl (x : Bool) : (PyData.bool x).canLay0 = true := rfl
theorem dep_bl (x : Bool) : (PyData.bool x).depth ≤ 8 := by simp [PyData.depth]
def BLs (K : PySem.W.Frag) (H : Hp) (v : V) (l : List Bool) : Prop := ∃ a, v = .ref a ∧ SqL K H a (l.map V.bl)
theorem BLs.rep {K : PySem.W.Frag} {H : Hp} {v : V} {l : List Bool} (h : BLs K H v l) : Rep K H v (.list (l.map PyData.bool)) := by
  obtain ⟨a, rfl, h1⟩ := h
  exact .lst h1 (reps_bl l)
theorem eqv_bls (l m : List Bool) : PyData.eqv (.list (l.map PyData.bool)) (.list (m.map PyData.bool)) = decide (l = m) := by
  simp only [PyData.eqv]
  exact eqvAll_map eqv_bl l m
end L2

end

section
set_option autoImplicit false
set_option maxRecDepth 100000
set_option linter.all false
namespace L2
open PySem PySem.Spec PyProof.Rows EoD Eo
/-- the object of an exception at e: its class, its dict, its last entry -/
def ExcO (h : Heap) (e : Addr) (cls : Value) (dO T : Option Addr) : Prop := ∃ oe vs, h.get? e = some oe ∧ oe.cls = cls ∧ oe.dict = dO ∧ oe.data = .fields vs ∧ 2 < vs.size ∧ vs[2]? = some Value.none ∧
  (match T with
  | none => vs[1]? = some Value.none
  | some t => vs[1]? = some (Value.ref t) ∧ t ≠ e ∧ ∃ ot ts, h.get? t = some ot ∧ ot.data = .fields ts ∧ 3 < ts.size)
structure Exc (X : Cx) (pins : List (Addr × Obj)) (H : Hp) (h : Heap) (e : Addr) (cls : Value) (dO : Option Addr) : Prop where
  fe : FpOk X pins H e
  ob : ∃ T, (∀ t, T = some t → FpOk X pins H t) ∧ ExcO h e cls dO T
section
variable {X : Cx} {pins : List (Addr × Obj)} {σ : St} {H : Hp} {s : Shared}
/-- records of ours have changed, and slots of frames -/
theorem Inv.recs {h' : Heap} {ch : List Addr} (I : Inv X pins σ H s) (hc : ∀ b ∈ ch, FpOk X pins H b) (kp : ∀ b o, b ∉ ch → b ∉ frs X.stack → s.heap.get? b = some o → h'.get? b = some o)
    (sl : ∀ b o, b ∉ ch → s.heap.get? b = some o → ∃ q, h'.get? b = some { o with slots := q }) : Inv X pins σ H { s with heap := h' } := by
  have nch : ∀ b u, H b = some u → b ∉ ch := fun b u e z => by rw [(hc b z).1] at e; cases e
  have nst : ∀ b u, H b = some u → b ∉ frs X.stack := fun b u e z => by rw [I.stkFree b z] at e; cases e
  refine I.step (g' := s.gens) (d' := s.drawn) (t' := s.toks) (ch := ch) (fun b hb => let ⟨_, a2, _, a4, a5, a6⟩ := hc b hb; ⟨a4, a2, a5, a6⟩) (fun b o h1 h2 h3 e _ => kp b o h3 (fun z => (List.mem_cons.mp (I.stkSub b z)).elim h1 h2) e) (fun b o _ _ h3 e _ => sl b o h3 e) (fun _ _ _ _ n => n)
    (fun b o h3 e => let ⟨_, q⟩ := sl b o h3 e; ⟨_, q⟩) (fun _ _ e => e) (fun _ _ _ e => e) (fun b ps e => ⟨#[], by rw [e]; simp⟩) (fun m hm => ?_) (fun b u e => ?_) I.bare
  · obtain ⟨o, es, ep, ho, r⟩ := hm
    obtain ⟨q, hq⟩ := sl _ o (fun z => (hc _ z).2.1 rfl) ho
    exact ⟨_, es, ep, hq, r⟩
  · refine (I.hok b u e).stay (fun c v hv q => ?_) (fun _ q => q) fun _ _ q => q
    rcases hv with z | z
    · subst z; exact kp c v (nch c u e) (nst c u e) q
    · exact kp c v (nch c _ z) (nst c _ z) q
theorem mapF {o : Obj} {vs : Array Value} {i : Nat} {x : Value} (hd : o.data = .fields vs) : (o.mapFields (·.setIfInBounds i x)).data = .fields (vs.setIfInBounds i x) := Obj.data_mapFields hd _
theorem upd_at {h : Heap} {a : Addr} {o : Obj} {vs : Array Value} {i : Nat} {x : Value} (ho : h.get? a = some o) (hd : o.data = .fields vs) : (h.update a (Obj.mapFields (·.setIfInBounds i x))).get? a = some (o.mapFields (·.setIfInBounds i x)) := Heap.get?_update_self _ ho (Obj.isFreed_of_fields (mapF hd))
theorem upd_off {h : Heap} {a b : Addr} {f : Obj → Obj} (n : b ≠ a) : (h.update a f).get? b = h.get? b := Heap.get?_update_other _ _ (Ne.symm n)
theorem mapF_dict {o : Obj} {f : Array Value → Array Value} : (o.mapFields f).dict = o.dict := by
  obtain ⟨c, d, dt, sl⟩ := o
  cases dt <;> rfl
/-- a new entry is laid ahead of the others -/
theorem entry_x {M : Model} {A : Around} {E : Value → Shared → Prop} {base : Heap} {env : Env} {outer : List Env} {L e : Addr} {oe : Obj} {vs : Array Value} {head : Value} {had : Bool} {Q : Unit → Shared → Prop}
    (hfr : A.frames = some (env :: outer)) (hl : s.heap.FunFrames base (env :: outer)) (hf : env.frame = some L) (he : s.heap.get? e = some oe) (hd : oe.data = .fields vs) (h1 : 1 < vs.size)
    (k : ∀ h' T ot ts, (∀ b o, b ≠ e → b ∉ frs (env :: outer) → s.heap.get? b = some o → h'.get? b = some o) → (∀ b o, b ≠ e → s.heap.get? b = some o → ∃ q, h'.get? b = some { o with slots := q }) → h'.get? e = some (oe.mapFields (·.setIfInBounds 1 (.ref T))) → s.heap.objs.size ≤ T →
      h'.get? T = some ot → ot.data = .fields ts → 3 < ts.size → Q () { s with heap := h' }) :
    wpAny M A (do let a ← frameOf env; let pl ← entryPlaceOf L had; let b ← EntryCells.newEntry head a .none (rawInt L) .none pl; setField (.ref e) 1 b) Q E s := by
  have nfe : e ∉ frs (env :: outer) := fun hm => by
    obtain ⟨_, o, ho, nf⟩ := hl.mem hm
    rw [he] at ho; cases ho
    exact nf vs hd
  refine wpAny_bind (wpAny_frameOf_fun hfr hl hf fun g1 so => wpAny_bind (wpAny_entryPlaceOf fun pl hpl => ?_))
  unfold EntryCells.newEntry newFields
  refine wpAny_bind (wpAny_newObj_type ?_ (hpl.sizeOk5 _ _ _ _ _))
  have e1 : g1.get? e = some oe := (so.2.1 e nfe).trans he
  have e2 := Heap.get?_push_of_some (h := g1) { cls := .type "traceback", dict := none, data := .fields ([head, .ref L, .none, rawInt L, .none] ++ (if pl.isEmpty then List.replicate 6 Value.none else pl)).toArray } e1
  refine wpAny_setField e2 hd h1 (k _ g1.objs.size _ _ (fun b o nb nf q => ?_) (fun b o nb q => ?_) (upd_at e2 hd) (by rw [so.1]; exact Nat.le_refl _) ((upd_off (Nat.ne_of_gt (Heap.lt_size e1))).trans (Heap.get?_push_size _ rfl)) rfl ?_)
  · rw [upd_off nb]
    exact Heap.get?_push_of_some _ ((so.2.1 b nf).trans q)
  · obtain ⟨sl, hs⟩ := so.2.2 b o q
    exact ⟨sl, by rw [upd_off nb]; exact Heap.get?_push_of_some _ hs⟩
  · simp only [List.size_toArray, List.length_append, List.length_cons, List.length_nil]
    omega
theorem entry_ok {E : Value → Shared → Prop} {e : Addr} {cls : Value} {dO : Option Addr} {oe : Obj} {vs : Array Value} {head : Value} {had : Bool} {Q : Unit → Shared → Prop} (I : Inv X pins σ H s) (st : X.stack = X.env :: X.outer ∧ X.env.frame = some X.env.locals)
    (fe : FpOk X pins H e) (he : s.heap.get? e = some oe) (hc : oe.cls = cls) (hdi : oe.dict = dO) (hd : oe.data = .fields vs) (h2 : 2 < vs.size) (h2n : vs[2]? = some Value.none)
    (k : ∀ s' t, Inv X pins σ H s' → FpOk X pins H t → ExcO s'.heap e cls dO (some t) → Q () s') :
    wpAny (model X.prog X.w) X.A (do let a ← frameOf X.env; let pl ← entryPlaceOf X.env.locals had; let b ← EntryCells.newEntry head a .none (rawInt X.env.locals) .none pl; setField (.ref e) 1 b) Q E s := by
  have fr : X.A.frames = some (X.env :: X.outer) := by rw [I.ok.frames, st.1]
  have ff : s.heap.FunFrames X.base (X.env :: X.outer) := by have := I.stack; rwa [st.1] at this
  refine entry_x fr ff st.2 he hd (by omega) fun h' T ot ts kp sl e' lt eT dT zT => ?_
  have ne : T ≠ e := fun z => by rw [z] at lt; exact absurd (Heap.lt_size he) (Nat.not_lt.mpr lt)
  refine k _ T (I.recs (ch := [e]) (fun b hb => ?_) (fun b o nb nf q => kp b o (fun z => nb (by simp [z])) (by rw [← st.1]; exact nf) q) fun b o nb q => sl b o (fun z => nb (by simp [z])) q) (I.fpOk lt (I.hok.fresh lt)) ?_
  · have : b = e := by simpa using hb
    subst this
    exact fe
  · refine ⟨_, _, e', (Obj.cls_mapFields _ _).trans hc, mapF_dict.trans hdi, mapF hd, by rw [Array.size_setIfInBounds]; exact h2, ?_, ?_, ne, ot, ts, eT, dT, zT⟩
    · rw [Array.getElem?_setIfInBounds_ne (by decide)]; exact h2n
    · rw [Array.getElem?_setIfInBounds_self_of_lt (by omega)]
theorem note_ok {E : Value → Shared → Prop} {e : Addr} {cls : Value} {dO : Option Addr} {Q : Unit → Shared → Prop} (I : Inv X pins σ H s) (st : X.stack = X.env :: X.outer ∧ X.env.frame = some X.env.locals) (x : Exc X pins H s.heap e cls dO)
    (k : ∀ s' t, Inv X pins σ H s' → FpOk X pins H t → ExcO s'.heap e cls dO (some t) → Q () s') : wpAny (model X.prog X.w) X.A (noteFrame (.ref e) X.env) Q E s := by
  obtain ⟨fe, T, ft, oe, vs, he, hc, hdi, hd, h2, h2n, hT⟩ := x
  unfold noteFrame
  simp only [st.2]
  cases T with
  | none =>
    refine wpAny_bind (wpAny_field he hd hT ?_)
    rw [if_neg (by decide)]
    exact entry_ok I st fe he hc hdi hd h2 h2n k
  | some t =>
    obtain ⟨h1, ne, ot, ts, et, dt, z3⟩ := hT
    have fT := ft t rfl
    refine wpAny_bind (wpAny_field he hd h1 ?_)
    rw [if_pos (show (Value.ref t != Value.none) = true from by simp)]
    refine wpAny_bind (wpAny_field et dt (Array.getElem?_eq_getElem z3) ?_)
    by_cases here : (ts[3] == rawInt X.env.locals) = true
    · rw [if_pos here]
      exact wpAny_pure (k s t I fT ⟨oe, vs, he, hc, hdi, hd, h2, h2n, h1, ne, ot, ts, et, dt, z3⟩)
    · rw [if_neg here]
      refine wpAny_bind (wpAny_setField et dt z3 ?_)
      have I1 : Inv X pins σ H { s with heap := s.heap.update t (Obj.mapFields (·.setIfInBounds 3 Value.none)) } := I.recs (ch := [t]) (fun b hb => by
        have : b = t := by simpa using hb
        subst this
        exact fT) (fun b o nb _ q => (upd_off (fun z => nb (by simp [z]))).trans q) fun b o nb q => ⟨o.slots, (upd_off (fun z => nb (by simp [z]))).trans q⟩
      exact entry_ok I1 st fe ((upd_off (Ne.symm ne)).trans he) hc hdi hd h2 h2n k
theorem flight_ok {E : Value → Shared → Prop} {e t : Addr} {cls : Value} {dO fr : Option Addr} {Q : Unit → Shared → Prop} (I : Inv X pins σ H s) (ft : FpOk X pins H t) (x : ExcO s.heap e cls dO (some t))
    (k : ∀ s', Inv X pins σ H s' → ExcO s'.heap e cls dO (some t) → Q () s') : wpAny (model X.prog X.w) X.A (setFlight (.ref e) fr) Q E s := by
  obtain ⟨oe, vs, he, hc, hdi, hd, h2, h2n, h1, ne, ot, ts, et, dt, z3⟩ := x
  unfold setFlight
  refine wpAny_bind (wpAny_field he hd h1 ?_)
  rw [if_pos (show (Value.ref t != Value.none) = true from by simp)]
  refine wpAny_setField et dt z3 (k _ (I.recs (ch := [t]) (fun b hb => ?_) (fun b o nb _ q => (upd_off (fun z => nb (by simp [z]))).trans q) fun b o nb q => ⟨o.slots, (upd_off (fun z => nb (by simp [z]))).trans q⟩) ?_)
  · have : b = t := by simpa using hb
    subst this
    exact ft
  · exact ⟨oe, vs, (upd_off (Ne.symm ne)).trans he, hc, hdi, hd, h2, h2n, h1, ne, _, _, upd_at et dt, mapF dt, by rw [Array.size_setIfInBounds]; exact z3⟩
/-- an exception leaves the frame -/
theorem leave_ok {E : Value → Shared → Prop} {e : Addr} {cls : Value} {dO : Option Addr} {Q : Unit → Shared → Prop} (I : Inv X pins σ H s) (st : X.stack = X.env :: X.outer ∧ X.env.frame = some X.env.locals) (x : Exc X pins H s.heap e cls dO)
    (k : ∀ s', Inv X pins σ H s' → Exc X pins H s'.heap e cls dO → Q () s') : wpAny (model X.prog X.w) X.A (leaving X.env (.ref e)) Q E s := by
  unfold leaving
  refine wpAny_bind (note_ok I st x fun s1 t I1 ft x1 => flight_ok I1 ft x1 fun s2 I2 x2 => k s2 I2 ⟨x.fe, some t, fun t' q => by cases q; exact ft, x2⟩)
/-- what lies behind: the state as it was, the exception -/
def XP (X : Cx) (E : XK) : Value → Shared → Prop := fun v s => ∃ pins σ H e cls dO, v = .ref e ∧ Inv X pins σ H s ∧ Exc X pins H s.heap e cls dO ∧ E cls dO H
end
/-- behind a call that raised -/
def CXE (P : Program) (w : World) : CXT := fun outer H s E v s' => ∃ e cls dO H', v = .ref e ∧ s'.os = s.os ∧ AllBare s'.gens ∧ Un (frs outer) [] H H' s.heap s'.heap ∧ HOk P w H' s'.heap ∧
  (s.heap.get? e = none ∧ H' e = none) ∧ (∃ T, (∀ t, T = some t → s.heap.get? t = none ∧ H' t = none) ∧ ExcO s'.heap e cls dO T) ∧ E cls dO H'
/-- a context that lets exceptions with E pass -/
def Thr (X : Cx) (E : XK) : Prop := ∀ (pins : List (Addr × Obj)) (σ : St) (H : Hp) (s : Shared) (e : Addr) (cls : Value) (dO : Option Addr), Inv X pins σ H s → Exc X pins H s.heap e cls dO → E cls dO H → X.xe (.ref e) s
section
variable {X : Cx} {E : XK}
theorem passes_thr (t : Thr X E) : Passes (CXE X.prog X.w) X E := by
  rintro pins σ H s v s' I ⟨e, cls, dO, H', rfl, os, bare, un, hok, ⟨l1, n1⟩, ⟨T, hT, x⟩, q⟩
  have I' : Inv X pins σ H' s' := I.call' os un hok bare (fun b z => nomatch z)
  exact t pins σ H' s' e cls dO I' ⟨I.fpNew l1 n1, T, fun t' e' => I.fpNew (hT t' e').1 (hT t' e').2, x⟩ q
theorem thr_xp (X : Cx) (E : XK) : Thr (X.wish (XP X E)) E := fun pins σ H s e cls dO I x q => ⟨pins, σ, H, e, cls, dO, rfl, I.unwish, ⟨x.fe, let ⟨T, a, b⟩ := x.ob; ⟨T, a, b⟩⟩, q⟩
end
end L2

end

section
set_option autoImplicit false
set_option maxRecDepth 100000
set_option linter.all false
namespace PySem
section
variable {pg : Program} {wo : World} {Ar : Around} {Ex : Value → Shared → Prop} {h : Heap} {gs : Array GenState} {dr : Drawn} {tn : Nat} {os : OsState}
variable {nm qn : Str} {C N : Addr} {bs bm bmB : List Value} {hd : Bool} {sn : List Str} {sub : List Value} {ab : Bool} {col : Option Bool} {dd : Option Addr} {k0 k1 k2 k3 k5 : Option Value} {B newId initId : String}

theorem xi_type (F : ExcBaseFacts B newId initId bmB) (T : OwnTail h bmB bm) {mN : Str → Option Value} {us : List Value} {fI : Addr} {oI : Obj} {Q : Fin → Shared → Prop}
    (cC : h.get? C = some (excClassObj nm qn C N bs bm hd sn sub ab col dd k0 k1 k2 k3 k5 newId)) (cN : h.Ns N mN) (hi : mN "__init__" = some (.ref fI)) (hf : h.get? fI = some oI) (hfc : oI.cls = .type "function")
    (k : ∀ h' e, Heap.MadeExcOf h h' e (.ref C) us → wpAny (model pg wo) Ar (call (.ref fI) (.ref e :: us)) (fun r s' => r = .none ∧ Q (.done (.ret (.ref e))) s') Ex ⟨h', gs, dr, tn, os⟩) (hz : us.length ≤ sizeLine) :
    wpAny (model pg wo) Ar (Builtin.«type.__call__» ⟨.ref C :: us, []⟩) Q Ex ⟨h, gs, dr, tn, os⟩ := by
  repeat (first | with_reducible refine wpAny_loadPart_at cC ?_ | with_reducible refine wpAny_madeBy_exc cC ?_ | wp_step)
  refine codeAny_call_builtin_code (Code.quiet_builtin _ F.quiet) (wpAny_check_new_subT F T cC ?_)
  refine codeAny_exc_new_subT F T cC ?_ hz
  change wpAny _ _ _ _ _ _
  have kp : ∀ b o, h.get? b = some o → ((h.push { cls := .type "tuple", data := .seq us.toArray }).push { cls := .ref C, data := .fields #[.ref h.objs.size, .none, .none, .none, .bool false, .none] }).get? b = some o := fun b o q => Heap.get?_push_of_some _ (Heap.get?_push_of_some _ q)
  have cC1 := kp _ _ cC
  have hf1 := kp _ _ hf
  have cN1 := cN.keeps kp
  have hg1 : ((h.push { cls := .type "tuple", data := .seq us.toArray }).push { cls := .ref C, data := .fields #[.ref h.objs.size, .none, .none, .none, .bool false, .none] }).get? (h.objs.size + 1) = some { cls := .ref C, data := .fields #[.ref h.objs.size, .none, .none, .none, .bool false, .none] } := by heap_get
  have hcc : (Value.ref C :: bm).contains (.ref C) = true := by simp
  have T1 := T.keeps kp
  unfold isInstance
  repeat (first | with_reducible refine wpAny_loadPart_at hg1 ?_ | (with_reducible refine wpAny_isSubtype_exc cC1 ?_; rw [hcc]) | wp_step)
  change wpAny _ _ (typeLookup (.ref C) _) _ _ _
  refine wpAny_typeLookup_tail cC1 cN1 T1 F.mroIs F.init.lookup ?_
  rw [hi]
  refine wpAny_holding (wpAny_bind ?_)
  unfold bindSpecial
  refine wpAny_bind (wpAny_typeOf (T := "function") ⟨_, hf1, hfc⟩ ?_)
  rw [if_pos (by decide)]
  refine wpAny_pure (wpAny_bind (wpAny_mono (k _ (h.objs.size + 1) ⟨kp, Heap.get?_none_of_le (Nat.le_succ _), h.objs.size, hg1, Heap.get?_none_of_le (Nat.le_refl _), ?_⟩) (fun r s' hr => ?_) fun _ _ x => x))
  · exact Heap.get?_push_of_some _ (Heap.get?_push_at rfl rfl)
  · obtain ⟨rfl, hQ⟩ := hr
    wp_walk
    exact hQ

theorem xi_call (F : ExcBaseFacts B newId initId bmB) (T : OwnTail h bmB bm) {mN : Str → Option Value} {us : List Value} {fI : Addr} {oI : Obj} {Q : Value → Shared → Prop}
    (cC : h.get? C = some (excClassObj nm qn C N bs bm hd sn sub ab col dd k0 k1 k2 k3 k5 newId)) (cN : h.Ns N mN) (hi : mN "__init__" = some (.ref fI)) (hf : h.get? fI = some oI) (hfc : oI.cls = .type "function")
    (k : ∀ h' e, Heap.MadeExcOf h h' e (.ref C) us → wpAny (model pg wo) (Ar.under (.builtin "type.__call__" ⟨.ref C :: us, []⟩)) (call (.ref fI) (.ref e :: us)) (fun r s' => r = .none ∧ Q (.ref e) s') Ex ⟨h', gs, dr, tn, os⟩) (hz : us.length ≤ sizeLine) :
    wpAny (model pg wo) Ar (call (.ref C) us) Q Ex ⟨h, gs, dr, tn, os⟩ := by
  have f1 := tc_lookup
  have f2 := tc_bind (.ref C)
  have hT : (⟨h, gs, dr, tn, os⟩ : Shared).TypeIs (.ref C) "type" := ⟨_, cC, rfl⟩
  refine wpAny_call (codeAny_of_tree ?_)
  change wpAny _ _ (callAny (.ref C) _) _ _ _
  repeat (any_goals (first | assumption | with_reducible refine wpAny_loadPart_at cC ?_ | wp_step))
  refine ⟨rfl, ?_⟩
  refine codeAny_call_builtin_at (Code.quiet_builtin _ (by decide +kernel)) entry_typeCall (wpAny_check_type_call_sub cC (xi_type F T cC cN hi hf hfc (fun h' e hm => ?_) hz))
  exact k h' e hm

theorem xr_raise {M : Model} {s : Shared} {x : Sem Value} {env : Env} {Q : Flow → Shared → Prop} (hb : bm.contains (.type "BaseException") = true) (hh : Ar.handled = none)
    (k : wpAny M Ar x (fun v s₁ => ∃ e oe vs, v = .ref e ∧ s₁.heap.get? C = some (excClassObj nm qn C N bs bm hd sn sub ab col dd k0 k1 k2 k3 k5 newId) ∧ s₁.heap.get? e = some oe ∧ oe.cls = .ref C ∧ oe.data = .fields vs ∧ vs[1]? = some Value.none ∧ Ex (.ref e) s₁) Ex s) :
    wpAny M Ar (raiseStmt env (some x) none) Q Ex s := by
  have hcb : (Value.ref C :: bm).contains (.type "BaseException") = true := by rw [List.contains_cons, hb, Bool.or_true]
  unfold raiseStmt
  refine wpAny_bind (wpAny_mono k (fun v s₁ k₁ => ?_) fun _ _ z => z)
  obtain ⟨e, oe, vs, rfl, cC, he, hcl, hda, h1, hE⟩ := k₁
  obtain ⟨hp, gs, dr, tn, os⟩ := s₁
  obtain ⟨oc, od, oda, osl⟩ := oe
  dsimp only at hcl hda
  subst hcl hda
  repeat (first | with_reducible refine wpAny_loadPart_at he ?_ | with_reducible refine wpAny_loadPart_at cC ?_ | (with_reducible refine wpAny_isSubtype_exc cC ?_; rw [hcb]) | with_reducible refine wpAny_field he rfl h1 ?_ | wp_step)
  exact wpAny_raiseNew_none hh hE
end
end PySem
namespace PySem
section
variable {pg : Program} {wo : World} {Ar : Around} {Ex : Value → Shared → Prop} {h : Heap} {gs : Array GenState} {dr : Drawn} {tn : Nat} {os : OsState}
variable {nm qn : Str} {C N : Addr} {bs bm bmB : List Value} {hd : Bool} {sn : List Str} {sub : List Value} {ab : Bool} {col : Option Bool} {dd : Option Addr} {k0 k1 k2 k3 k5 : Option Value} {B newId initId : String}
/-- Base.__init__(e, ..) -/
theorem xi_init (F : ExcBaseFacts B newId initId bmB) (T : OwnTail h bmB bm) {us : List Value} {e : Addr} {dO : Option Addr} {vs : Array Value} {sl : Array (Option Value)} {Q : Value → Shared → Prop}
    (cC : h.get? C = some (excClassObj nm qn C N bs bm hd sn sub ab col dd k0 k1 k2 k3 k5 newId)) (he : h.get? e = some ⟨.ref C, dO, .fields vs, sl⟩) {t₁ : Addr} (h0 : vs[0]? = some (.ref t₁)) (hu : us.length ≤ sizeLine)
    (k : ∀ h' t0, (∀ b o, b ≠ e → h.get? b = some o → h'.get? b = some o) → h'.get? e = some ⟨.ref C, dO, .fields (vs.setIfInBounds 0 (.ref t0)), sl⟩ → Q .none ⟨h', gs, dr, tn, os⟩) :
    wpAny (model pg wo) Ar (call (.builtin initId) (.ref e :: us)) Q Ex ⟨h, gs, dr, tn, os⟩ := by
  refine wpAny_call (codeAny_call_builtin F.init.plain F.initEntry (wpAny_check_init_subT F T cC he rfl ?_))
  have he1 := Heap.get?_push_of_some { cls := .type "tuple", data := .seq us.toArray } he
  unfold Builtin.«BaseException.__init__»
  refine wpAny_bind ?_
  unfold newTuple
  refine wpAny_newObj_type ?_ (by change us.toArray.size ≤ sizeLine; rw [List.size_toArray]; exact hu)
  have hz : 0 < vs.size := (Array.getElem?_eq_some_iff.mp h0).1
  refine wpAny_bind ?_
  unfold Builtin.BaseException.bexcPut
  refine wpAny_bind (wpAny_field he1 rfl h0 (wpAny_bind (wpAny_setField he1 rfl hz ?_)))
  wp_walk
  refine k _ _ (fun b o nb q => ?_) (Heap.get?_update_self _ he1 rfl)
  rw [Heap.get?_update_other _ _ (Ne.symm nb)]
  exact Heap.get?_push_of_some _ q
end
end PySem

end

section
set_option autoImplicit false
set_option maxRecDepth 100000
set_option maxHeartbeats 1000000
set_option linter.all false
namespace PySem.W
open PySem PySem.Spec PySem.Calls PyProof.Rows Builtin Builtin.ObjectAttr
def onlyVE : List Value → Bool
  | .ref _ :: r => onlyVE r
  | l => l == [.type "ValueError", .type "Exception", .type "BaseException", .type "object"]
theorem onlyVE_pass (self : Value) : ∀ {l : List Value}, onlyVE l = true → refuseLoop self "__setattr__" l = pure () ∧ l.contains (.type "object") = true ∧ l ≠ []
  | [], e => by cases e
  | .ref c :: r, e => by
    obtain ⟨a, b, _⟩ := onlyVE_pass self (l := r) e
    exact ⟨by rw [refuseLoop_ref]; exact a, by rw [List.contains_cons, b, Bool.or_true], by simp⟩
  | .type n :: r, e => by
    have e' : (Value.type n :: r) = [.type "ValueError", .type "Exception", .type "BaseException", .type "object"] := beq_iff_eq.mp e
    rw [e']
    exact ⟨PySem.F.store_ValueError.passes self, by decide +kernel, by simp⟩
  | .none :: r, e => by cases beq_iff_eq.mp (show ((Value.none :: r) == [.type "ValueError", .type "Exception", .type "BaseException", .type "object"]) = true from e)
  | .bool b :: r, e => by cases beq_iff_eq.mp (show ((Value.bool b :: r) == [.type "ValueError", .type "Exception", .type "BaseException", .type "object"]) = true from e)
  | .int i t :: r, e => by cases beq_iff_eq.mp (show ((Value.int i t :: r) == [.type "ValueError", .type "Exception", .type "BaseException", .type "object"]) = true from e)
  | .float i t :: r, e => by cases beq_iff_eq.mp (show ((Value.float i t :: r) == [.type "ValueError", .type "Exception", .type "BaseException", .type "object"]) = true from e)
  | .str i t :: r, e => by cases beq_iff_eq.mp (show ((Value.str i t :: r) == [.type "ValueError", .type "Exception", .type "BaseException", .type "object"]) = true from e)
  | .bytes i t :: r, e => by cases beq_iff_eq.mp (show ((Value.bytes i t :: r) == [.type "ValueError", .type "Exception", .type "BaseException", .type "object"]) = true from e)
  | .builtin i :: r, e => by cases beq_iff_eq.mp (show ((Value.builtin i :: r) == [.type "ValueError", .type "Exception", .type "BaseException", .type "object"]) = true from e)
  | .notImplemented :: r, e => by cases beq_iff_eq.mp (show ((Value.notImplemented :: r) == [.type "ValueError", .type "Exception", .type "BaseException", .type "object"]) = true from e)
  | .ellipsis :: r, e => by cases beq_iff_eq.mp (show ((Value.ellipsis :: r) == [.type "ValueError", .type "Exception", .type "BaseException", .type "object"]) = true from e)
/-- an exception class of one's own, over ValueError -/
structure XC (K : Frag) (C : Addr) : Prop where
  ga : findIn K (.ref C) "__getattribute__" = some (some (.builtin "BaseException.__getattribute__"))
  gt : findIn K (.ref C) "__getattr__" = some none
  be : mroIn K C (.type "BaseException") = some true
  hd : hasDictIn K C = true
  sa : findIn K (.ref C) "__setattr__" = some (some (.builtin "object.__setattr__"))
  cl : findIn K (.ref C) "__class__" = some (some (.builtin "object.__class__"))
  cg : specialIn K (.builtin "object.__class__") "__get__" = some (some (.builtin "getset_descriptor.__get__"))
  ct : takesIn K (.builtin "object.__class__") = some true
  ve : (clsIn K C).any (fun cd => onlyVE cd.mro) = true
theorem XC.ob {K : Frag} {C : Addr} (c : XC K C) : mroIn K C (.type "object") = some true := by
  obtain ⟨cd, hc, ho⟩ := any_some c.ve
  obtain ⟨_, h2, h3⟩ := onlyVE_pass .none ho
  have ne : cd.mro.isEmpty = false := by
    cases q : cd.mro with
    | nil => exact absurd q h3
    | cons _ _ => rfl
  unfold mroIn
  rw [hc, Option.bind_some, if_neg (by rw [ne]; decide), h2]
section
variable {prog : Program} {w : World} {A : Around} {E : Value → Shared → Prop} {s : Shared} {K : Frag} {x C : Addr} {ox : Obj} {od : Option Obj} {name : Str}
theorem xg_body {tk : Tok} {v : Value} {Q : Fin → Shared → Prop} (X : K.In s.heap) (I : InstAt s.heap x ox C od) (hf : findObj K C od name = some (.value v)) (h : Q (.done (.ret v)) s) :
    wpAny (model prog w) A (Builtin.«object.__getattribute__» ⟨[.ref x, .str name tk], []⟩) Q E s := by
  obtain ⟨hh, g, d, t, os⟩ := s
  have L0 := I.type (M := model prog w)
  have L1 := looks_find (M := model prog w) X I hf
  unfold Builtin.«object.__getattribute__»
  repeat lk
  exact h
theorem findObj_dataX {a g : Value} (hc : (clsIn K C).isSome = true) (ha : findIn K (.ref C) name = some (some a)) (hg : specialIn K a "__get__" = some (some g)) (ht : takesIn K a = some true) : findObj K C od name = some (.bind g a) := by
  obtain ⟨cd, hc⟩ := Option.isSome_iff_exists.mp hc
  unfold findObj
  rw [hc, Option.bind_some, ha, Option.bind_some]
  simp [hg, ht]
theorem xg_bodyC {tk : Tok} {Q : Fin → Shared → Prop} (c : XC K C) (X : K.In s.heap) (I : InstAt s.heap x ox C od) (h : Q (.done (.ret (.ref C))) s) :
    wpAny (model prog w) A (Builtin.«object.__getattribute__» ⟨[.ref x, .str "__class__" tk], []⟩) Q E s := by
  have hf : findObj K C od "__class__" = some (.bind (.builtin "getset_descriptor.__get__") (.builtin "object.__class__")) := findObj_dataX (by obtain ⟨cd, hc, _⟩ := any_some c.hd; rw [hc]; rfl) c.cl c.cg c.ct
  have cg := fun {Q' : Value → Shared → Prop} {A' : Around} (z : Q' (.ref C) s) => (wpAny_call (class_get (prog := prog) (w := w) (A := A') (tp := .ref C) (R := fun r s' => match r with | .ok (.ret v) => Q' v s' | .ok _ => False | .error e => E e s') X I c.ob z) : wpAny (model prog w) A' (call (.builtin "getset_descriptor.__get__") [.builtin "object.__class__", .ref x, .ref C]) Q' E s)
  obtain ⟨hh, g, d, t, os⟩ := s
  have L0 := I.type (M := model prog w)
  have L1 := looks_find (M := model prog w) X I hf
  refine wpAny_bind (wpAny_pure (wpAny_bind (wpAny_pure (wpAny_bind (L0.at (wpAny_bind (L1.at ?_)))))))
  change wpAny _ _ (holding [Value.builtin "object.__class__"] (call (.builtin "getset_descriptor.__get__") [.builtin "object.__class__", .ref x, .ref C]) >>= ret) _ _ _
  exact wpAny_bind (wpAny_holding (cg (wpAny_pure h)))
theorem xg_call {tk : Tok} {v : Value} {R : Result → Shared → Prop} (c : XC K C) (X : K.In s.heap) (I : InstAt s.heap x ox C od)
    (hb : ∀ {A' : Around} {Q : Fin → Shared → Prop} {E' : Value → Shared → Prop}, Q (.done (.ret v)) s → wpAny (model prog w) A' (Builtin.«object.__getattribute__» ⟨[.ref x, .str name tk], []⟩) Q E' s) (h : R (.ok (.ret v)) s) :
    codeAny (model prog w) A (.call (.builtin "BaseException.__getattribute__") ⟨[.ref x, .str name tk], []⟩) R s := by
  have hi : Looks (model prog w) s.heap (isInstance (.ref x) (.type "BaseException")) true := I.type.andThen (looks_mroIn X c.be)
  refine codeAny_call_builtin PySem.F.excAttr_ValueError.ga.plain PySem.F.entry_bexc_ga (@check_slot (model prog w) _ _ s "BaseException.__getattribute__" "BaseException" "__getattribute__" (.ref x) [.str name tk] [] _ (by decide +kernel) (by decide +kernel) hi (PySem.F.args_bexc_ga (.ref x) (.str name tk)) ?_)
  exact hb h
theorem xg_by {tk : Tok} {v : Value} {fill expr : Bool} {Q : Value → Shared → Prop} (c : XC K C) (X : K.In s.heap) (I : InstAt s.heap x ox C od)
    (hb : ∀ {A' : Around} {Q : Fin → Shared → Prop} {E' : Value → Shared → Prop}, Q (.done (.ret v)) s → wpAny (model prog w) A' (Builtin.«object.__getattribute__» ⟨[.ref x, .str name tk], []⟩) Q E' s) (hv : handedIn v = true) (h : Q v s) :
    wpAny (model prog w) A (getAttrBy (.ref x) (.str name tk) fill expr) Q E s := by
  have L0 := I.type (M := model prog w)
  have L1 := looks_findIn (M := model prog w) X c.ga
  have L2 := looks_findIn (M := model prog w) X c.gt
  have hx1 : (onTheHeap (Value.ref C) && Value.builtin "BaseException.__getattribute__" == Value.builtin "object.__getattribute__") = false := by
    rw [show (Value.builtin "BaseException.__getattribute__" == Value.builtin "object.__getattribute__") = false by decide +kernel, Bool.and_false]
  have hx0 : (expr && onTheHeap (Value.builtin "BaseException.__getattribute__")) = false := by cases expr <;> rfl
  unfold getAttrBy
  refine wpAny_holding (wpAny_bind (L0.here (wpAny_bind (L1.here ?_))))
  dsimp only
  rw [hx1, if_neg Bool.false_ne_true]
  unfold getAttrByItsOwn
  refine wpAny_bind ?_
  change wpAny _ _ (typeLookup (.ref C) "__getattr__") _ _ _
  refine L2.here (wpAny_bind (wpAny_attempt (wpAny_holding ?_)))
  unfold callGetattribute
  rw [hx0, if_neg Bool.false_ne_true]
  unfold boundAndCalled
  rw [PySem.F.excAttr_ValueError.ga.bind]
  refine wpAny_bind (wpAny_pure (wpAny_call (xg_call c X I hb ?_)))
  change wpAny _ _ (handedOut v) _ _ _
  rw [handedOut_of hv]
  exact wpAny_pure h
/-- e.name, where the exception's own dict has it -/
theorem xg_attr {v : Value} {expr : Bool} {Q : Value → Shared → Prop} (c : XC K C) (X : K.In s.heap) (I : InstAt s.heap x ox C od) (hf : findObj K C od name = some (.value v)) (hv : handedIn v = true) (h : Q v { s with toks := s.toks + 1 }) :
    wpAny (model prog w) A (getAttr (.ref x) name expr) Q E s := by
  unfold getAttr
  refine wpAny_bind (wpAny_mkText (xg_by (s := { s with toks := s.toks + 1 }) c X I (fun z => xg_body (s := { s with toks := s.toks + 1 }) X I hf z) hv h))
theorem xg_class {Q : Option Value → Shared → Prop} (c : XC K C) (X : K.In s.heap) (I : InstAt s.heap x ox C od) (h : Q (some (.ref C)) { s with toks := s.toks + 1 }) :
    wpAny (model prog w) A (getAttr? (.ref x) "__class__") Q E s := by
  unfold getAttr? getAttrBy?
  refine wpAny_bind (wpAny_mkText (wpAny_bind (wpAny_attempt (xg_by (s := { s with toks := s.toks + 1 }) c X I (fun z => xg_bodyC (s := { s with toks := s.toks + 1 }) c X I z) rfl ?_))))
  exact wpAny_pure h
theorem kitx_exc (c : XC K C) : KitX K (.ref x) (.ref C) (fun h => InstAt h x ox C od) where
  ty := fun _ _ _ I => I.type
  it := fun _ _ X _ => by
    obtain ⟨cdD, hcD, _⟩ := any_some c.hd
    unfold clsIn at hcD
    split at hcD
    · rename_i c' d' cd' sl' ho
      intro A' Q' E' s' kk q
      unfold isType loadHead
      exact wpAny_bind (wpAny_loadPart (kk _ _ (X _ _ ho)) (wpAny_pure q))
    · cases hcD
  ne := fun h tp dd its n sl X htp => by
    obtain ⟨cdD, hcD, _⟩ := any_some c.hd
    refine Bool.eq_false_iff.mpr fun q => ?_
    have e : C = tp := Value.ref.inj (beq_iff_eq.mp q)
    subst e
    unfold clsIn at hcD
    split at hcD
    · rename_i c' d' cd' sl' ho
      have z := (X _ _ ho).symm.trans htp
      cases z
    · cases hcD
  ca := fun X I k => xg_class c X I k
/-- e.name = v, the first attribute of an exception -/
theorem xs_open {R : Result → Shared → Prop} {tk : Tok} {v : Value} (c : XC K C) (X : K.In s.heap) (I : InstAt s.heap x ox C od) (ht : takerIn K C name = some none)
    (h : ∀ b, wpAny (model prog w) A.in1 (storeInOwnDict (.ref x) (.ref C) (.str name tk) name v b)
      (fun fin s' => match fin with | .done f => R (.ok f) s' | .again c' => c'.quiet = true ∧ codeAny (model prog w) A c' R s') (fun e s' => R (.error e) s') s) :
    codeAny (model prog w) A (.call (.builtin "object.__setattr__") ⟨[.ref x, .str name tk, v], []⟩) R s := by
  have SF := PySem.F.store_object
  obtain ⟨cd, hc, ho⟩ := any_some c.ve
  have sub : Looks (model prog w) s.heap (isInstance (.ref x) (.type "object")) true := I.type.andThen (looks_mroIn X c.ob)
  refine codeAny_call_builtin SF.slot.plain SF.entry (@check_slot (model prog w) _ _ s "object.__setattr__" "object" "__setattr__" (.ref x) [.str name tk, v] [] _ SF.kind SF.split sub (SF.args (.ref x) (.str name tk) v) ?_)
  obtain ⟨attr, ha, hr⟩ := Option.bind_eq_some_iff.mp ht
  have hm : Looks (model prog w) s.heap (mroOf (.ref C)) cd.mro := (looks_clsIn X hc).andThen .now
  have L3 : Looks (model prog w) s.heap (storeTaker? attr) none := by
    cases attr with
    | none => exact .now
    | some a =>
      obtain ⟨b, hb, hbb⟩ := Option.map_eq_some_iff.mp hr
      refine (looks_takesIn X hb).andThen ?_
      cases b with
      | false => exact .now
      | true => cases hbb
  rw [osa_eq, refuse_eq]
  refine wpAny_bind (wpAny_bind (I.type.here (wpAny_bind (hm.here ?_))))
  rw [(onlyVE_pass _ ho).1]
  refine wpAny_pure (wpAny_bind (I.type.here (wpAny_bind ((looks_findIn X ha).here (wpAny_bind (L3.here ?_))))))
  exact h _
theorem xs_set {v : Value} {vs : Array Value} {sl : Array (Option Value)} {Q : Unit → Shared → Prop} (c : XC K C) (X : K.In s.heap) (he : s.heap.get? x = some ⟨.ref C, none, .fields vs, sl⟩) (ht : takerIn K C name = some none)
    (h : ∀ h' tk', h'.get? x = some ⟨.ref C, some s.heap.objs.size, .fields vs, sl⟩ → h'.Ns1 s.heap.objs.size (fun y => if y = name then some v else none) → (∀ b o, b ≠ x → s.heap.get? b = some o → h'.get? b = some o) → Q () { s with heap := h', toks := tk' }) :
    wpAny (model prog w) A (setAttr (.ref x) name v) Q E s := by
  have I : InstAt s.heap x ⟨.ref C, none, .fields vs, sl⟩ C none := ⟨he, rfl, rfl, trivial⟩
  refine set_plain X I c.sa (xs_open (s := { s with toks := s.toks + 1 }) c X I ht fun b => ?_)
  obtain ⟨hh, g, d, t, os⟩ := s
  obtain ⟨cd, hc, hd'⟩ := any_some c.hd
  refine wpAny_bind (wpAny_pure (wpAny_bind (wpAny_bind (wpAny_loadPart he (wpAny_bind (looks_clsIn (M := model prog w) X hc _ _ _ _ (fun _ _ e => e) ?_))))))
  rw [hd']
  dsimp only
  have hx₁ : (hh.push { cls := .type "dict", data := .dict #[] }).get? x = some ⟨.ref C, none, .fields vs, sl⟩ := Heap.get?_push_of_some _ he
  have hxs : x ≠ hh.objs.size := Nat.ne_of_lt (Heap.lt_size he)
  have hgd : ((hh.push { cls := .type "dict", data := .dict #[] }).update x fun o => { o with dict := some hh.objs.size }).get? hh.objs.size = some { cls := .type "dict", data := .dict #[] } :=
    (Heap.get?_update_ne _ _ _ _ hxs.symm).trans (Heap.get?_push_at rfl rfl)
  have hnd : ((hh.push { cls := .type "dict", data := .dict #[] }).update x fun o => { o with dict := some hh.objs.size }).Ns hh.objs.size (fun _ => none) :=
    ⟨_, #[], _, hgd, rfl, fun e he => absurd he (by simp), fun _ => rfl⟩
  simp only [Bool.not_true, Bool.false_or, typeHasDict, Bool.false_eq_true, if_false]
  refine wpAny_bind (wpAny_alloc' (wpAny_bind (wpAny_update' hx₁ ?_)))
  refine wpAny_pure ?_
  change wpAny _ _ (storeInDict hh.objs.size (.str name _) name v) _ _ _
  unfold storeInDict newKeyGuard
  refine wpAny_bind (wpAny_pure (wpAny_bind (wpAny_nsSet1 (Heap.Ns1.of_empty hnd) fun h' hn' hs => ?_)))
  obtain ⟨oD, esD, epD, hoD, hdD, hcD⟩ := hn'.count (Within.cons name v Within.nil)
  refine wpAny_bind (wpAny_lookBehind hoD (by rw [hdD]; exact pastItsLine_dict (Nat.le_trans hcD (by rw [List.length_cons, List.length_nil, sizeLine_eq]; omega))) ?_)
  refine wpAny_pure (h h' _ ?_ hn' fun b o nb q => ?_)
  · exact (hs.2 x hxs).trans (Heap.get?_update_self _ hx₁ rfl)
  · exact (hs.2 b (Nat.ne_of_lt (Heap.lt_size q))).trans ((Heap.get?_update_ne _ _ _ _ nb).trans (Heap.get?_push_of_some _ q))
end
end PySem.W

end

section
set_option autoImplicit false
set_option maxRecDepth 100000
set_option linter.all false
namespace L2
open PySem PySem.Spec PyProof.Rows EoD Eo
def XeP (C : Addr) (dO : Option Addr) (e : Addr) (h : Heap) : Prop := ∃ vs sl t, h.get? e = some ⟨.ref C, dO, .fields vs, sl⟩ ∧ 2 < vs.size ∧ vs[0]? = some (Value.ref t) ∧ vs[1]? = some Value.none ∧ vs[2]? = some Value.none
def XE (C : Addr) (dO : Option Addr) (e : Addr) : HO := .ext (XeP C dO e)
theorem XeP.ok {P : Program} {w : World} {H : Hp} {h : Heap} {C e : Addr} {dO : Option Addr} (x : XeP C dO e h) : ObjOk P w H h e (XE C dO e) :=
  ⟨x, let ⟨_, _, _, q, _⟩ := x; ⟨_, q⟩, fun _ _ ⟨vs, sl, t, q, r⟩ k => ⟨vs, sl, t, k _ q, r⟩⟩
theorem HOk.xe {P : Program} {w : World} {H : Hp} {h : Heap} {C e : Addr} {dO : Option Addr} (x : HOk P w H h) (q : H e = some (XE C dO e)) : XeP C dO e h := (show ObjOk P w H h e (.ext _) from x e _ q).1
def del (H : Hp) (a : Addr) : Hp := fun b => if b = a then none else H b
theorem del_same {H : Hp} {a : Addr} : del H a a = none := by unfold del; rw [if_pos rfl]
theorem del_ne {H : Hp} {a b : Addr} (h : b ≠ a) : del H a b = H b := by unfold del; rw [if_neg h]
theorem del_some {H : Hp} {a b : Addr} {φ : Heap → Prop} {o : HO} (e : H a = some (.ext φ)) (n : ∀ ψ, o ≠ .ext ψ) (h : H b = some o) : del H a b = some o := by
  refine (del_ne fun z => ?_).trans h
  rw [z, e] at h
  exact n φ (Option.some.inj h).symm
theorem del_none {H : Hp} {a b : Addr} (h : H b = none) : del H a b = none := by
  unfold del
  split
  · rfl
  · exact h
theorem ObjOk.obj {P : Program} {w : World} {H : Hp} {h : Heap} {a : Addr} {o : HO} (x : ObjOk P w H h a o) : ∃ ob, h.get? a = some ob := by
  cases o with
  | lst xs => obtain ⟨_, _, _, _, e⟩ := x; exact ⟨_, e⟩
  | tup xs => obtain ⟨_, _, _, ob, e, _⟩ := x; exact ⟨_, e⟩
  | dK kvs => obtain ⟨_, _, _, _, o, _, _, e, _⟩ := x; exact ⟨_, e⟩
  | dT kvs => obtain ⟨_, _, _, _, o, _, _, e, _⟩ := x; exact ⟨_, e⟩
  | set S n => obtain ⟨o, _, _, _, e, _⟩ := x; exact ⟨_, e⟩
  | ins C dx fs => obtain ⟨_, _, _, e, _⟩ := x; exact ⟨_, e⟩
  | own y => exact x
  | xd fs => obtain ⟨_, ⟨_, _, _, e, _⟩, _⟩ := x; exact ⟨_, e⟩
  | rng lo hi => obtain ⟨_, _, _, e⟩ := x; exact ⟨_, e⟩
  | frz ob u => obtain ⟨e, _⟩ := x; exact ⟨_, e⟩
  | tbl ps => exact ⟨_, x⟩
  | met f y => exact ⟨_, x⟩
  | ext φ => exact x.2.1
theorem HOk.freshN {P : Program} {w : World} {H : Hp} {h : Heap} {a : Addr} (x : HOk P w H h) (e : h.get? a = none) : H a = none := by
  cases q : H a with
  | none => rfl
  | some u =>
    obtain ⟨ob, z⟩ := (x a u q).obj
    rw [e] at z
    cases z
section
variable {X : Cx} {pins : List (Addr × Obj)} {σ : St} {H : Hp} {s : Shared}
theorem Inv.del (I : Inv X pins σ H s) {e : Addr} {φ : Heap → Prop} (q : H e = some (.ext φ)) : Inv X pins σ (del H e) s := by
  refine ⟨I.ok, I.os, I.bare, ⟨I.base.keep, I.base.slot, fun b o h1 h2 h3 => del_none (I.base.free b o h1 h2 h3), I.base.there, fun b xs h => del_some q (fun _ z => nomatch z) (I.base.tups b xs h), fun b o u h => del_some q (fun _ z => nomatch z) (I.base.frzs b o u h), fun b ps h => ?_⟩,
    I.loc, I.cell, del_none I.free, fun x c h => del_none (I.freeC x c h), fun p hp => ?_, fun b o h => ?_, I.len⟩
  · obtain ⟨m, z⟩ := I.base.tbls b ps h
    exact ⟨m, del_some q (fun _ z => nomatch z) z⟩
  · obtain ⟨a1, a2, a3⟩ := I.pin p hp
    exact ⟨a1, del_none a2, a3⟩
  · have hb : H b = some o := by
      by_cases z : b = e
      · rw [z, del_same] at h; cases h
      · rw [del_ne z] at h; exact h
    exact (I.hok b o hb).stay (fun _ _ _ z => z) (fun c z => del_some q (fun _ z => nomatch z) z) fun c xs z => del_some q (fun _ z => nomatch z) z
theorem Inv.laidN {h' : Heap} {a : Addr} {o : HO} {t' : Nat} (I : Inv X pins σ H s) (k : ∀ b u, s.heap.get? b = some u → h'.get? b = some u) (hp : s.heap.get? a = none) (new : ObjOk X.prog X.w (upd H a o) h' a o) :
    Inv X pins σ (upd H a o) { s with heap := h', toks := t' } := by
  have hn := I.hok.freshN hp
  have ne : ∀ b u, s.heap.get? b = some u → b ≠ a := fun b u q z => by rw [z, hp] at q; cases q
  refine I.un ⟨fun b u q _ _ _ => k b u q, fun b u q _ _ _ => ⟨u.slots, k b u q⟩, fun b u q n _ => by rw [upd_ne (ne b u q)]; exact n, fun b u q _ => ⟨u, k b u q⟩, fun b xs q => by rw [upd_ne (ne_of_none q hn)]; exact q, fun b u xs q => by rw [upd_ne (ne_of_none q hn)]; exact q,
    fun b ps q => ⟨#[], by rw [upd_ne (ne_of_none q hn), q]; simp⟩⟩ fun b u e => ?_
  by_cases hb : b = a
  · subst hb; rw [upd_same] at e; cases e; exact new
  · rw [upd_ne hb] at e
    exact (I.hok b u e).stay (fun c v _ q => k c v q) (fun c q => by rw [upd_ne (ne_of_none q hn)]; exact q) fun c xs q => by rw [upd_ne (ne_of_none q hn)]; exact q
end
abbrev bmV : List Value := [.type "ValueError", .type "Exception", .type "BaseException", .type "object"]
theorem ns_val {K : PySem.W.Frag} {h : Heap} {N : Addr} {m : Str → Option Value} {n : Str} {v : Value} (X : K.In h) (G : h.Ns N m) (e : PySem.W.nsIn K N n = some (some v)) : m n = some v := by
  obtain ⟨o, es, ep, ho, hd, _, hf⟩ := G
  unfold PySem.W.nsIn at e
  split at e
  · rename_i c d es' n' sl q
    have := X _ _ q
    rw [ho] at this
    cases this
    cases hd
    split at e
    · rename_i en he
      cases e
      rw [← hf]
      unfold nsFind findBy
      rw [← Array.find?_toList, he]
      rfl
    · split at e <;> cases e
  · cases e
/-- an exception class over ValueError; r: its own __init__ -/
def xclIn (K : PySem.W.Frag) (C : Addr) (r : Option Value) : Bool := match K.lookup C with
  | some ⟨.type t, _, .cls cd, sl⟩ => (match cd.mro, sl.toList with
    | .ref C' :: bm, [_, _, _, _, some (.builtin n), _] => t == "type" && C' == C && n == "ValueError.__new__" && !cd.hasDel && PySem.W.tailIn K bmV bm && PySem.W.nsOkIn K cd.ns && PySem.W.nsIn K cd.ns "__init__" == some r
    | _, _ => false)
  | _ => false
structure XCls (h : Heap) (C : Addr) (r : Option Value) (nm qn : Str) (N : Addr) (bs bm : List Value) (hd : Bool) (sn : List Str) (sub : List Value) (ab : Bool) (col : Option Bool) (dd : Option Addr) (k0 k1 k2 k3 k5 : Option Value) (mN : Str → Option Value) : Prop where
  ob : h.get? C = some (excClassObj nm qn C N bs bm hd sn sub ab col dd k0 k1 k2 k3 k5 "ValueError.__new__")
  ns : h.Ns N mN
  ini : mN "__init__" = r
  tl : OwnTail h bmV bm
theorem xcls_of {K : PySem.W.Frag} {h : Heap} {C : Addr} {r : Option Value} (X : K.In h) (q : xclIn K C r = true) : ∃ nm qn N bs bm hd sn sub ab col dd k0 k1 k2 k3 k5 mN, XCls h C r nm qn N bs bm hd sn sub ab col dd k0 k1 k2 k3 k5 mN := by
  unfold xclIn at q
  split at q
  · rename_i t dd cd sl ho
    split at q
    · rename_i C' bm k0 k1 k2 k3 n k5 hm hs
      simp only [Bool.and_eq_true, beq_iff_eq, Bool.not_eq_true'] at q
      obtain ⟨⟨⟨⟨⟨⟨rfl, rfl⟩, rfl⟩, hdel⟩, ht⟩, hok⟩, hni⟩ := q
      obtain ⟨nm, bs, mro, ns, qn, hd, sn, sub, ab, col, dl⟩ := cd
      dsimp only at hm hdel hok hni
      subst hm hdel
      have hsl : sl = #[k0, k1, k2, k3, some (.builtin "ValueError.__new__"), k5] := by
        obtain ⟨l⟩ := sl
        simp only at hs
        rw [hs]
      subst hsl
      refine ⟨nm, qn, ns, bs, bm, hd, sn, sub, ab, col, dd, k0, k1, k2, k3, k5, _, X _ _ ho, .of_isNs (PySem.W.isNs_of_in X hok), ?_, PySem.W.tail_of_in X ht⟩
      cases r with
      | none => exact PySem.W.nsMap_none_of_in X hok hni
      | some v => exact ns_val X (.of_isNs (PySem.W.isNs_of_in X hok)) hni
    · cases q
  · cases q
theorem XCls.keeps {h h' : Heap} {C : Addr} {r : Option Value} {nm qn : Str} {N : Addr} {bs bm : List Value} {hd : Bool} {sn : List Str} {sub : List Value} {ab : Bool} {col : Option Bool} {dd : Option Addr} {k0 k1 k2 k3 k5 : Option Value} {mN : Str → Option Value}
    (c : XCls h C r nm qn N bs bm hd sn sub ab col dd k0 k1 k2 k3 k5 mN) (k : ∀ b o, h.get? b = some o → h'.get? b = some o) : XCls h' C r nm qn N bs bm hd sn sub ab col dd k0 k1 k2 k3 k5 mN := ⟨k _ _ c.ob, c.ns.keeps k, c.ini, c.tl.keeps k⟩
theorem own_base {h : Heap} {bm : List Value} (T : OwnTail h bmV bm) : bm.contains (.type "BaseException") = true := T.hasType (by decide +kernel)
theorem fn_at {K : PySem.W.Frag} {h : Heap} {f : Addr} (X : K.In h) (e : PySem.W.isFn K (.ref f) = true) : ∃ o, h.get? f = some o ∧ o.cls = .type "function" := by
  have e' : PySem.W.typeIn K (.ref f) = some (.type "function") := beq_iff_eq.mp e
  obtain ⟨o, ho, hc⟩ := Option.map_eq_some_iff.mp (show (K.lookup f).map (·.cls) = some (.type "function") from e')
  exact ⟨o, X _ _ ho, hc⟩
def tRaiseI (C : Addr) (sp : Sp) (E : XK) (t : TA) : TS := fun D σ H => t σ H fun vs H1 => vs.length ≤ sizeLine ∧ ∀ e, H1 e = none → sp (.ref e :: vs) (upd H1 e (XE C none e)) (fun v H2 => v = .non ∧ ∃ dO, H2 e = some (XE C dO e) ∧ E (.ref C) dO (del H2 e)) E0
section
variable {X : Cx} {x : Str} {np cpos pos : Pos} {a : Expr} {as : List Expr} {t : TA} {C f : Addr} {k : Nat} {fd : FuncData} {ps : List Str} {sp : Sp} {E : XK}
theorem ps_raiseI (hc : X.calm = true) (M : xclIn X.K C (some (.ref f)) = true) (kp : PySem.W.keepIn X.K (.ref C) = true) (isf : PySem.W.isFn X.K (.ref f) = true) (F : FnOk X.prog X.w X.K X.mg X.base CX0 k f fd ps sp) (hr : Room (k + 1) X.A)
    (hg : Gl X x) (hm : X.mg x = some (.ref C)) (hb : Binds X.K fd ps []) (th : Thr X E) (ha : PA X (a :: as) t) (hdb : (x == ("__debug__" : Str)) = false := by decide)
    (he : starEach (a :: as) X.env = (false, eval a X.env) :: starEach as X.env := by rfl) (hpl : (backTo cpos (starEach as X.env)).any (·.1) = false := by rfl) :
    PS X (.Raise (some (.Call (.Name x np) (a :: as) [] cpos)) none pos) (tRaiseI C sp E t) := by
  intro pins s σ H D I h
  obtain ⟨nm, qn, N, bs, bm, hd, sn, sub, ab, col, dd, k0, k1, k2, k3, k5, mN, c0⟩ := xcls_of I.mod.kin M
  rw [arm_exec_Raise]
  refine wpAny_bind (wpAny_standAt (xr_raise (C := C) (nm := nm) (qn := qn) (N := N) (bs := bs) (bm := bm) (hd := hd) (sn := sn) (sub := sub) (ab := ab) (col := col) (dd := dd) (k0 := k0) (k1 := k1) (k2 := k2) (k3 := k3) (k5 := k5) (newId := "ValueError.__new__") (own_base c0.tl) (I.ok.hd hc)
    (wpAny_bind (wpAny_mono (wpAny_Call_Name_kw (ld_glob I hg hm ?_ hdb)) (fun v s₃ h₃ => wpAny_bind (wpAny_standAt (wpAny_pure h₃))) fun _ _ z => z))))
  refine PySem.W.callWith_K (h₀ := X.base) I.ok.mod.kin kp (thn (ha cpos pins s σ H _ I h) fun us s1 ⟨vs, H1, I1, r, hz, hq⟩ => ⟨I1.kIn, ?_⟩) he hpl
  change wpAny _ _ (call (.ref C) us) _ _ _
  have c1 := c0.keeps I1.bk
  obtain ⟨oI, fI, fc⟩ := fn_at I1.kIn isf
  obtain ⟨hh, g1, d1, t1, o1⟩ := s1
  refine xi_call PySem.F.excBase_ValueError c1.tl c1.ob c1.ns c1.ini fI fc (fun h' e m => ?_) (by rw [← r.length]; exact hz)
  have xe0 : XeP C none e h' := by
    obtain ⟨t0, q, _⟩ := m.there
    exact ⟨_, _, t0, q, (by show 2 < 6; decide), rfl, rfl, rfl⟩
  have I2 : Inv X pins σ (upd H1 e (XE C none e)) ⟨h', g1, d1, t1, o1⟩ := I1.laidN (h' := h') (t' := t1) m.keeps m.new xe0.ok
  have hsp := hq e (I1.hok.freshN m.new)
  have r2 : Vals (V.ref e :: vs) (Value.ref e :: us) := .cons rfl r
  have hl : (Value.ref e :: us ++ ([] : List Value)).length = ps.length := by
    have z := r2.length
    rw [F.len _ _ _ _ hsp] at z
    rw [List.append_nil]
    exact z.symm
  refine wpAny_call (codeAny_mono (F.run _ X.stack _ _ ⟨Value.ref e :: us, []⟩ (Value.ref e :: us) _ _ E0 (hr.make C us []) (I2.env0.make C us []) (by have z := hb ⟨h', g1, d1, t1, o1⟩ (Value.ref e :: us) I2.kIn hl; rwa [List.append_nil] at z) r2 hsp) fun r s' hq' => ?_)
  cases r with
  | error e => exact False.elim hq'
  | ok fl =>
    cases fl with
    | ret u =>
      obtain ⟨v, H', I3, rv, ev, dO, eE, q3⟩ := I2.after hq'
      subst ev
      obtain ⟨ws, sl, t0, w1, w2, w3, w4, w5⟩ := I3.hok.xe eE
      refine ⟨rv, e, _, ws, rfl, (c0.keeps I3.bk).ob, w1, rfl, rfl, w4, ?_⟩
      exact th pins σ (L2.del H' e) s' e (.ref C) dO (I3.del eE) ⟨I1.fpNew m.new del_same, none, (fun _ z => nomatch z), _, ws, w1, rfl, rfl, rfl, w2, w5, w4⟩ q3
    | next => exact False.elim hq'
    | brk => exact False.elim hq'
    | cont => exact False.elim hq'
end
section
variable {P : Program} {w : World} {K : PySem.W.Frag} {mg : Str → Option Value} {base : Heap}
abbrev cxX (P : Program) (w : World) (K : PySem.W.Frag) (mg : Str → Option Value) (base : Heap) (N : List Str) (qual : Str) (scope : Scope) (f : Addr) (cd : Value) (A : Around) (outer : List Env) (s : Shared) (H : Hp) (E : XK) : Cx :=
  (cxOf (CXE P w) P w K mg base N qual scope f cd A outer s H E).wish (XP (cxOf (CXE P w) P w K mg base N qual scope f cd A outer s H E) E)
theorem Fun.okX {x qual : Str} {st : Stmt} {f : Addr} {fd : FuncData} {N ps : List Str} {k : Nat} {sp : Sp} (F : Fun K x qual st f fd) (S : FnScope N ps (defScope st)) (len : ∀ vs H Q E, sp vs H Q E → vs.length = ps.length)
    (hbody : ∀ (cdv : Value) (A : Around) (outer : List Env) (s : Shared) (H : Hp) (vs : List V) (Q : VK) (E : XK), Room k (A.deeper (envOfC qual (defScope st) s.heap.objs.size f cdv)) → sp vs H Q E →
      ∃ t, PSs (cxX P w K mg base N qual (defScope st) f cdv A outer s H E) (defBody st) t ∧ t { nx := fun _ H' => Q .non H', rt := Q } (start N vs) H) : FnOk P w K mg base (CXE P w) (k + 1) f fd ps sp := by
  obtain ⟨oc, od, kV, doc, pm, an, cdv, ct, osl, rfl, lk, hcd⟩ := F.ex
  refine fn_of lk hcd S len fun A outer s H vs Q E hr hsp => ?_
  obtain ⟨t, h, q⟩ := hbody cdv A outer s H vs Q E hr hsp
  refine ⟨t, fun pins s1 σ H1 D I hw => wpAny_mono (h pins s1 σ H1 D (I.wish _) hw) (fun _ _ q => q.unwish) fun v s2 z => ?_, q⟩
  obtain ⟨pins', σ', H', e, cls, dO, rfl, J, x, qE⟩ := z
  refine leave_ok J ⟨rfl, rfl⟩ x fun s3 J3 x3 => ?_
  have new : ∀ b, FpOk (cxOf (CXE P w) P w K mg base N qual (defScope st) f cdv A outer s H E) pins' H' b → s.heap.get? b = none ∧ H' b = none := fun b fp => ⟨fp.2.2.2.1.resolve_left (fun z => nomatch z), fp.1⟩
  obtain ⟨fe, T, hT, xo⟩ := x3
  exact ⟨e, cls, dO, H', rfl, J3.os, J3.bare, J3.base, J3.hok, new e fe, ⟨T, fun t' q => new t' (hT t' q), xo⟩, qE⟩
/-- a def of the top that may raise -/
def CalX (P : Program) (w : World) (K : PySem.W.Frag) (mg : Str → Option Value) (base : Heap) (x : Str) (k : Nat) (ps : List Str) (sp : Sp) : Prop :=
  ∃ f fd, FnOk P w K mg base (CXE P w) k f fd ps sp ∧ mg x = some (.ref f) ∧ PySem.W.keepIn K (.ref f) = true ∧ Binds K fd ps []
theorem Def.calX {x : Str} {st : Stmt} {N ps : List Str} {k : Nat} {sp : Sp} (D : Def K mg x st ps) (S : FnScope N ps (defScope st)) (len : ∀ vs H Q E, sp vs H Q E → vs.length = ps.length)
    (hbody : ∀ (f : Addr) (cdv : Value) (A : Around) (outer : List Env) (s : Shared) (H : Hp) (vs : List V) (Q : VK) (E : XK), Room k (A.deeper (envOfC x (defScope st) s.heap.objs.size f cdv)) → sp vs H Q E →
      ∃ t, PSs (cxX P w K mg base N x (defScope st) f cdv A outer s H E) (defBody st) t ∧ t { nx := fun _ H' => Q .non H', rt := Q } (start N vs) H) : CalX P w K mg base x (k + 1) ps sp := by
  obtain ⟨f, fd, F, m, b⟩ := D.ex
  exact ⟨f, fd, F.okX S len (hbody f), m, F.kp, b⟩
end
theorem pe_calX {X : Cx} {x : Str} {k : Nat} {ps : List Str} {sp : Sp} {E : XK} {e : Expr} {es : List Expr} {t : TA} {p pos : Pos} (c : CalX X.prog X.w X.K X.mg X.base x k ps sp) (hr : Room k X.A) (hg : Gl X x) (th : Thr X E) (ha : PA X (e :: es) t) (hdb : (x == ("__debug__" : Str)) = false := by decide)
    (he : starEach (e :: es) X.env = (false, eval e X.env) :: starEach es X.env := by rfl) (hpl : (backTo pos (starEach es X.env)).any (·.1) = false := by rfl) : PE X (.Call (.Name x p) (e :: es) [] pos) (tCall sp [] E t) :=
  let ⟨_, _, F, m, kp, b⟩ := c; pe_call F hr hg m kp b .nil (passes_thr th) ha hdb he hpl
/-- a def that is not to raise here -/
theorem thr_never {X : Cx} : Thr X E0 := fun _ _ _ _ _ _ _ _ _ h => h.elim
end L2

end

section
set_option autoImplicit false
set_option maxRecDepth 100000
set_option linter.all false
namespace L2
open PySem PySem.Spec PyProof.Rows EoD Eo
theorem upd_id {H : Hp} {a : Addr} {o : HO} (h : H a = some o) : upd H a o = H := by
  funext b
  unfold upd
  split
  · rename_i z; rw [z, h]
  · rfl
def tBase (C : Addr) (t : TA) : TE := fun σ H Q => t σ H fun vs H1 => ∃ e dO v, vs = [.ref e, v] ∧ H1 e = some (XE C dO e) ∧ Q .non H1
structure BaseOf (K : PySem.W.Frag) (W : Addr) : Prop where
  ga : PySem.W.specialIn K (.ref W) "__getattribute__" = some (some (.builtin "type.__getattribute__"))
  rd : PySem.W.readsIn K W (.type "type") = true
  fi : PySem.W.findCls K (.ref W) (.type "type") "__init__" = some (.val (.builtin "ValueError.__init__"))
theorem pe_base {X : Cx} {x : Str} {p apos pos : Pos} {a : Expr} {as : List Expr} {t : TA} {W C : Addr} {r : Option Value} {pl : Sem Bool} (hg : Gl X x) (hm : X.mg x = some (.ref W)) (B : BaseOf X.K W) (M : xclIn X.K C r = true) (ha : PA X (a :: as) t) (hdb : (x == ("__debug__" : Str)) = false := by decide)
    (he : starEach (a :: as) X.env = (false, eval a X.env) :: starEach as X.env := by rfl) (hpl : (backTo pos (starEach as X.env)).any (·.1) = false := by rfl)
    (ht : eval (.Call (.Attribute (.Name x p) "__init__" apos) (a :: as) [] pos) X.env = (do
      let ov ← eval (.Name x p) X.env
      standAt apos.atName
      let (f, first) ← holding [ov] (getMethod ov "__init__" pl)
      callWith pos f first (backTo pos (starEach (a :: as) X.env)) (backToKw pos (keywordEach [] X.env))) := by rfl) :
    PE X (.Call (.Attribute (.Name x p) "__init__" apos) (a :: as) [] pos) (tBase C t) := by
  intro pins s σ H Q I h
  obtain ⟨nm, qn, N, bs, bm, hd, sn, sub, ab, col, dd, k0, k1, k2, k3, k5, mN, c0⟩ := xcls_of I.mod.kin M
  refine PySem.W.methodCall_KW (pl := pl) (ld_glob I hg hm ?_ hdb) ht
  refine PySem.W.method_cls I.kIn B.ga (PySem.W.cls_value I.kIn B.rd B.fi rfl ?_)
  refine PyProof.Rows.callWith_builtin1 (thn (ha pos pins _ σ H _ (I.tok _) h) fun us s1 ⟨vs, H1, I1, r, e, dO, v, ev, eE, q⟩ => ?_) he hpl
  subst ev
  obtain ⟨u1, u2, rfl, ru, rv⟩ := vals2 r
  obtain rfl : u1 = Value.ref e := ru
  obtain ⟨ws, sl, t0, w1, w2, w3, w4, w5⟩ := I1.hok.xe eE
  have c1 := c0.keeps I1.bk
  obtain ⟨hh, g1, d1, t1, o1⟩ := s1
  refine xi_init PySem.F.excBase_ValueError c1.tl c1.ob w1 w3 (by show 1 ≤ sizeLine; decide) fun h' t' kp e' => ?_
  have sz : (ws.setIfInBounds 0 (Value.ref t')).size = ws.size := Array.size_setIfInBounds
  have I3 := I1.write (x := e) (e := e) (o := XE C dO e) (h' := h') (t' := t1) (by rw [eE]; exact True.intro) (.inl rfl) (fun b u nb z => kp b u nb z) ⟨_, e'⟩
    (XeP.ok ⟨_, sl, t', e', by rw [sz]; exact w2, Array.getElem?_setIfInBounds_self_of_lt (by omega), by rw [Array.getElem?_setIfInBounds_ne (by decide)]; exact w4, by rw [Array.getElem?_setIfInBounds_ne (by decide)]; exact w5⟩)
  rw [upd_id eE] at I3
  exact ⟨.non, H1, I3, rfl, q⟩
def sXFld (K : PySem.W.Frag) (ta tv : TE) (f : Str) : TS := fun D σ H => tv σ H fun y H1 => ta σ H1 fun x H2 => ∃ e C, x = .ref e ∧ PySem.W.XC K C ∧ NoAttr K C f ∧ H2 e = some (XE C none e) ∧ ∀ d, H2 d = none → d ≠ e → D.nx σ (upd (upd H2 d (.xd [(f, y)])) e (XE C (some d) e))
theorem ps_xfld {X : Cx} {o value : Expr} {f : Str} {pos pos' : Pos} {ta tv : TE} (ha : PE X o ta) (hv : PE X value tv) (hs : swapsWith value (some (.Attribute o f pos')) pos.line X.env = pure false) : PS X (.Assign [.Attribute o f pos'] value pos) (sXFld X.K ta tv f) := by
  intro pins s σ H D I h
  refine plainObj_wpAny_Assign_Attribute (thn (hv pins s σ H _ I h) fun u s1 ⟨y, H1, I1, ry, q⟩ => thn (ha pins s1 σ H1 _ I1 q) fun ov s2 ⟨x, H2, I2, rx, e, C, ex, xc, na, eE, q2⟩ => ?_) hs
  subst ex
  obtain rfl : ov = Value.ref e := rx
  obtain ⟨ws, sl, t0, w1, w2, w3, w4, w5⟩ := I2.hok.xe eE
  refine PySem.W.xs_set xc I2.kIn w1 na.taker fun h' tk' e' ns kp => ?_
  have hd : H2 s2.heap.objs.size = none := I2.hok.fresh (Nat.le_refl _)
  have ned : s2.heap.objs.size ≠ e := (ne_of_none eE hd).symm
  refine ⟨σ, _, ?_, q2 _ hd ned⟩
  have nx : ∀ b o, H2 b = some o → (∀ φ, o ≠ .ext φ) → b ≠ e := fun b o z n w => by rw [w, eE] at z; exact n _ (Option.some.inj z).symm
  have up : ∀ b o, H2 b = some o → b ≠ e → upd (upd H2 s2.heap.objs.size (.xd [(f, y)])) e (XE C (some s2.heap.objs.size) e) b = some o := fun b o z n => by rw [upd_ne n, upd_ne (ne_of_none z hd)]; exact z
  refine I2.un (t' := tk') ⟨fun b ob z n _ _ => kp b ob (fun w => by rw [w, eE] at n; cases n) z, fun b ob z n _ _ => ⟨ob.slots, kp b ob (fun w => by rw [w, eE] at n; cases n) z⟩, fun b ob z n _ => ?_, fun b ob z _ => ?_, fun b xs z => up b _ z (nx b _ z fun _ w => nomatch w), fun b ob xs z => up b _ z (nx b _ z fun _ w => nomatch w), fun b ps z => ⟨#[], ?_⟩⟩ fun b ob z => ?_
  · rw [upd_ne (fun w => by rw [w, eE] at n; cases n), upd_ne (Nat.ne_of_lt (Heap.lt_size z))]; exact n
  · by_cases w : b = e
    · rw [w]; exact ⟨_, e'⟩
    · exact ⟨ob, kp b ob w z⟩
  · rw [up b _ z (nx b _ z fun _ w => nomatch w)]; simp
  · by_cases w : b = e
    · subst w
      rw [upd_same] at z
      cases z
      exact XeP.ok ⟨ws, sl, t0, e', w2, w3, w4, w5⟩
    · rw [upd_ne w] at z
      by_cases w' : b = s2.heap.objs.size
      · subst w'
        rw [upd_same] at z
        cases z
        refine ⟨_, ns, fun g => ?_⟩
        by_cases hgf : g = f
        · subst hgf
          rw [if_pos rfl, show ([(g, y)] : List (Str × V)).lookup g = some y by simp]
          exact ry
        · rw [if_neg hgf, show ([(f, y)] : List (Str × V)).lookup g = none by simp [List.lookup, beq_eq_false_iff_ne.mpr hgf]]
          exact True.intro
      · rw [upd_ne w'] at z
        refine (I2.hok b ob z).stay (fun c v hc k => kp c v (fun m => ?_) k) (fun c k => up c _ k (nx c _ k fun _ w => nomatch w)) fun c xs k => up c _ k (nx c _ k fun _ w => nomatch w)
        rcases hc with rfl | hc
        · exact w m
        · exact nx c _ hc (fun _ w => nomatch w) m
structure RoomH (k : Nat) (A : Around) : Prop where
  dp : A.depth + 3 * k + 5 < recursionLimit
  un : A.units + 16 * k + 200 < cLine
theorem Room.h {k : Nat} {A : Around} (r : Room k A) : RoomH k A := ⟨r.dp, r.un⟩
theorem RoomH.mono {j k : Nat} {A : Around} (r : RoomH k A) (h : j ≤ k) : RoomH j A := ⟨by have := r.dp; omega, by have := r.un; omega⟩
theorem RoomH.deeper {k : Nat} {A : Around} (r : RoomH (k + 1) A) (env : Env) : RoomH k (A.deeper env) :=
  ⟨by have := r.dp; change A.depth + 1 + 3 * k + 5 < _; omega, by have := r.un; change A.units + 3 + 16 * k + 200 < _; omega⟩
theorem RoomH.depth {k : Nat} {A : Around} (r : RoomH k A) : A.depth < recursionLimit := by have := r.dp; omega
theorem RoomH.units {k : Nat} {A : Around} (r : RoomH k A) : A.units + 64 < cLine := by have := r.un; omega
theorem RoomH.units5 {k : Nat} {A : Around} (r : RoomH k A) : A.units + 65 < cLine := by have := r.un; omega
structure FnOkH (P : Program) (w : World) (K : PySem.W.Frag) (mg : Str → Option Value) (base : Heap) (k : Nat) (f : Addr) (fd : FuncData) (ps : List Str) (sp : Sp) : Prop where
  len : ∀ vs H Q E, sp vs H Q E → vs.length = ps.length
  run : ∀ (A : Around) (outer : List Env) (s : Shared) (H : Hp) (args : Args) (us : List Value) (vs : List V) (Q : VK) (E : XK), RoomH k A → HdX A s.heap H (frs outer) [] [] → Env0 P w K mg base A outer s H → BindsTo s fd args (ps.zip us) → Vals vs us → sp vs H Q E →
    codeAny (model P w) A (.call (.ref f) args) (CR CX0 outer P w H s Q E) s
abbrev cxH (P : Program) (w : World) (K : PySem.W.Frag) (mg : Str → Option Value) (base : Heap) (N : List Str) (qual : Str) (scope : Scope) (f : Addr) (cd : Value) (A : Around) (outer : List Env) (s : Shared) (H : Hp) (E : XK) : Cx := { cxOf CX0 P w K mg base N qual scope f cd A outer s H E with calm := false }
section
variable {P : Program} {w : World} {K : PySem.W.Frag} {mg : Str → Option Value} {base : Heap}
theorem FnOkH.ok {k : Nat} {f : Addr} {fd : FuncData} {ps : List Str} {sp : Sp} (F : FnOkH P w K mg base k f fd ps sp) : FnOk P w K mg base CX0 k f fd ps sp := ⟨F.len, fun A outer s H args us vs Q E hr => F.run A outer s H args us vs Q E hr.h (.inl hr.hd)⟩
theorem Fun.okH {x qual : Str} {st : Stmt} {f : Addr} {fd : FuncData} {N ps : List Str} {k : Nat} {sp : Sp} (F : Fun K x qual st f fd) (S : FnScope N ps (defScope st)) (len : ∀ vs H Q E, sp vs H Q E → vs.length = ps.length)
    (hbody : ∀ (cdv : Value) (A : Around) (outer : List Env) (s : Shared) (H : Hp) (vs : List V) (Q : VK) (E : XK), RoomH k (A.deeper (envOfC qual (defScope st) s.heap.objs.size f cdv)) → sp vs H Q E →
      ∃ t, PSs (cxH P w K mg base N qual (defScope st) f cdv A outer s H E).nox (defBody st) t ∧ t { nx := fun _ H' => Q .non H', rt := Q } (start N vs) H) : FnOkH P w K mg base (k + 1) f fd ps sp := by
  obtain ⟨oc, od, kV, doc, pm, an, cdv, ct, osl, rfl, lk, hcd⟩ := F.ex
  refine ⟨len, fun A outer s H args us vs Q E hr hx e0 hb r hsp => ?_⟩
  have hl := len _ _ _ _ hsp
  have KX : K.In s.heap := e0.mod.kin.keeps fun b o e => (e0.bs b o e).1
  have lim : s.heap.NoLimit := e0.mod.nolimit.keeps fun b o e => (e0.bs b o e).1
  have hkind : ∀ y ∈ ps.zip us, (defScope st).names.lookup y.1 = some .local ∨ ((defScope st).names.lookup y.1 = some .cell ∧ ((cellsFrom (s.heap.objs.size + 1) (defScope st).names []).lookup y.1).isSome = true) := fun ⟨n, v⟩ hy => by
    rcases S.par n (List.of_mem_zip hy).1 with q | q
    · exact .inl q
    · exact .inr ⟨q, PySem.W.cellsFrom_some _ _ _ (.inl q)⟩
  refine codeAny_call_function hr.depth (KX _ _ lk) rfl S.co S.gen rfl (PySem.W.codeRec_of KX hcd) (hb _ _ _ _ ?_)
  refine wpAny_newFunctionEnv_cells S.kind hkind fun env he s1 x => ?_
  subst he
  refine ⟨lim.keeps x.toInCall.keep, codeAny_func ?_⟩
  obtain ⟨t, ht, hq⟩ := hbody cdv A outer s H vs Q E (hr.deeper _) hsp
  have I : Inv (cxH P w K mg base N qual (defScope st) f cdv A outer s H E) [] (start N vs) H s1 := inv_start (c := false) S (fun z => nomatch z) hx e0 hl r x
  refine wpAny_mono (ht.nox [] s1 (start N vs) H _ I hq) (fun fl s' hs => ?_) fun e s' hs => hs
  have fin : ∀ {σ' : St} {H' : Hp} {v : V} {u : Value}, Inv (cxH P w K mg base N qual (defScope st) f cdv A outer s H E) [] σ' H' s' → RelV v u → Q v H' → CE outer P w H s Q u s' :=
    fun {σ' H' v u} J rv q => ⟨v, H', J.os, J.bare, J.base, J.hok, rv, q⟩
  cases fl with
  | ret u =>
    obtain ⟨v, σ', H', J, rv, q⟩ := hs
    exact fin J rv q
  | next =>
    obtain ⟨σ', H', J, q⟩ := hs
    exact fin (v := V.non) (u := Value.none) J rfl q
  | brk =>
    obtain ⟨_, _, _, q⟩ := hs
    exact False.elim q
  | cont =>
    obtain ⟨_, _, _, q⟩ := hs
    exact False.elim q
def CalH (P : Program) (w : World) (K : PySem.W.Frag) (mg : Str → Option Value) (base : Heap) (x : Str) (k : Nat) (ps : List Str) (sp : Sp) : Prop :=
  ∃ f fd, FnOkH P w K mg base k f fd ps sp ∧ mg x = some (.ref f) ∧ PySem.W.keepIn K (.ref f) = true ∧ Binds K fd ps []
theorem Def.calH {x : Str} {st : Stmt} {N ps : List Str} {k : Nat} {sp : Sp} (D : Def K mg x st ps) (S : FnScope N ps (defScope st)) (len : ∀ vs H Q E, sp vs H Q E → vs.length = ps.length)
    (hbody : ∀ (f : Addr) (cdv : Value) (A : Around) (outer : List Env) (s : Shared) (H : Hp) (vs : List V) (Q : VK) (E : XK), RoomH k (A.deeper (envOfC x (defScope st) s.heap.objs.size f cdv)) → sp vs H Q E →
      ∃ t, PSs (cxH P w K mg base N x (defScope st) f cdv A outer s H E).nox (defBody st) t ∧ t { nx := fun _ H' => Q .non H', rt := Q } (start N vs) H) : CalH P w K mg base x (k + 1) ps sp := by
  obtain ⟨f, fd, F, m, b⟩ := D.ex
  exact ⟨f, fd, F.okH S len (hbody f), m, F.kp, b⟩
theorem CalH.cal {x : Str} {k : Nat} {ps : List Str} {sp : Sp} (c : CalH P w K mg base x k ps sp) : Cal P w K mg base x k ps sp := let ⟨f, fd, F, r⟩ := c; ⟨f, fd, F.ok, r⟩
end
theorem pe_calH {X : Cx} {x : Str} {k : Nat} {ps : List Str} {sp : Sp} {e : Expr} {es : List Expr} {t : TA} {p pos : Pos} (c : CalH X.prog X.w X.K X.mg X.base x k ps sp) (hr : RoomH k X.A) (hg : Gl X x) (ha : PA X (e :: es) t) (hdb : (x == ("__debug__" : Str)) = false := by decide)
    (he : starEach (e :: es) X.env = (false, eval e X.env) :: starEach es X.env := by rfl) (hpl : (backTo pos (starEach es X.env)).any (·.1) = false := by rfl) : PE X (.Call (.Name x p) (e :: es) [] pos) (tCall sp [] E0 t) := by
  obtain ⟨f, fd, F, m, kp, b⟩ := c
  intro pins s σ H Q I h
  refine wpAny_Call_Name_kw (ld_glob I hg m ?_ hdb)
  refine PySem.W.callWith_K (h₀ := X.base) I.ok.mod.kin kp (thn (ha pos pins s σ H _ I h) fun us s1 ⟨vs, H1, I1, r, q⟩ => ⟨I1.kIn, ?_⟩) he hpl
  have q' : sp (vs ++ []) H1 Q E0 := q
  rw [List.append_nil] at q'
  have hl : (us ++ ([] : List Value)).length = ps.length := by rw [List.append_nil, ← r.length]; exact F.len _ _ _ _ q'
  refine wpAny_call (codeAny_mono (F.run X.A X.stack s1 H1 ⟨us, []⟩ us vs Q E0 hr I1.hde I1.env0 (by have z := b s1 us I1.kIn hl; rwa [List.append_nil] at z) r q') fun r s' hq => ?_)
  cases r with
  | error e => exact hq.elim
  | ok fl =>
    cases fl with
    | ret u => exact I1.after hq
    | next => exact False.elim hq
    | brk => exact False.elim hq
    | cont => exact False.elim hq
end L2

end

section
set_option autoImplicit false
set_option maxRecDepth 100000
set_option linter.all false
namespace PySem.W
open PySem PySem.Spec PySem.Calls PyProof.Rows
structure CatchOf (K : Frag) (W : Addr) : Prop where
  tup : instIn K (.ref W) (.type "tuple") = some false
  be : mroIn K W (.type "BaseException") = some true
  cl : (clsIn K W).isSome = true
theorem isTy_of {K : Frag} {M : Model} {h : Heap} {W : Addr} (X : K.In h) (e : (clsIn K W).isSome = true) : Looks M h (isType (.ref W)) true := by
  unfold clsIn at e
  split at e
  · rename_i c' d' cd' sl' ho
    intro A' Q' E' s' kk q
    unfold isType loadHead
    exact wpAny_bind (wpAny_loadPart (kk _ _ (X _ _ ho)) (wpAny_pure q))
  · cases e
theorem x_match {K : Frag} {M : Model} {A : Around} {E : Value → Shared → Prop} {s : Shared} {W C e : Addr} {oe : Obj} {Q : Bool → Shared → Prop} (X : K.In s.heap) (c : CatchOf K W) (he : s.heap.get? e = some oe) (hc : oe.cls = .ref C) (hm : mroIn K C (.ref W) = some true) (q : Q true s) :
    wpAny M A (excMatches (.ref e) (.ref W)) Q E s := by
  have L1 := looks_instIn (M := M) X c.tup
  have L2 := isTy_of (M := M) X c.cl
  have L3 := looks_mroIn (M := M) X c.be
  have L4 : Looks M s.heap (typeOf (.ref e)) (.ref C) := hc ▸ (Looks.ld he).andThen .now
  have L5 := looks_mroIn (M := M) X hm
  obtain ⟨hh, g, d, t, os⟩ := s
  unfold excMatches
  repeat lk
  exact q
end PySem.W
namespace L2
open PySem PySem.Spec PyProof.Rows EoD Eo
abbrev hcx (X : Cx) (e : Addr) (oe : Obj) : Cx := { X with A := X.A.mark (some (.ref e)), calm := false, pn := (e, oe) :: X.pn, xe := fun _ _ => False }
section
variable {X : Cx} {pins : List (Addr × Obj)} {σ : St} {H : Hp} {s : Shared}
theorem Inv.hcx {e C : Addr} {oe : Obj} {vs : Array Value} (I : Inv X pins σ H s) (fp : FpOk X pins H e) (ge : s.heap.get? e = some oe) (hc : oe.cls = .ref C) (hd : oe.data = .fields vs) (h2 : vs[2]? = some Value.none) : Inv (hcx X e oe) pins σ H s := by
  refine ⟨⟨I.ok.mod, I.ok.kind, I.ok.glob, I.ok.blt, I.ok.above, I.ok.inj, I.ok.has, I.ok.cab, (fun z => absurd z Bool.false_ne_true), I.ok.frames, I.ok.stk, I.ok.exf, I.ok.bs, I.ok.bsz, I.ok.noex, I.ok.exfs, I.ok.funs, I.ok.frf, .inr ⟨e, C, oe, vs, rfl, hc, hd, h2, .inl List.mem_cons_self⟩⟩,
    I.os, I.bare, I.base, I.loc, I.cell, I.free, I.freeC, fun p hp => ?_, I.hok, I.len⟩
  rcases List.mem_cons.mp (show p ∈ (e, oe) :: (X.pn ++ pins) from hp) with rfl | hp
  · exact ⟨ge, fp.1, fp.2.1, fp.2.2.1, fun v z => by rw [hd] at z; cases z⟩
  · exact I.pin p hp
theorem Inv.unhcx {e : Addr} {oe : Obj} (ok : X.Ok) (I : Inv (L2.hcx X e oe) pins σ H s) : Inv X pins σ H s :=
  ⟨ok, I.os, I.bare, I.base, I.loc, I.cell, I.free, I.freeC, fun p hp => I.pin p (List.mem_cons_of_mem _ hp), I.hok, I.len⟩
/-- the frame's map is another one: nothing is known of the names -/
theorem Inv.forget {h' : Heap} {m' : Str → Option Value} {t' : Nat} (I : Inv X pins σ H s) (hn : h'.Ns X.env.locals m') (hs : Heap.SameBut X.env.locals s.heap h') : Inv X pins (List.replicate σ.length none) H { s with heap := h', toks := t' } := by
  have neL : ∀ b o, X.s₀.heap.get? b = some o → b ≠ X.env.locals := fun b o e => Nat.ne_of_lt (Nat.lt_of_lt_of_le (Heap.lt_size e) I.ok.above)
  refine ⟨I.ok, I.os, I.bare, ⟨fun b o e n hb hx => (hs.2 b (neL b o e)).trans (I.base.keep b o e n hb hx), fun b o e n hb hx => ?_, I.base.free, fun b o e hx => ?_, I.base.tups, I.base.frzs, I.base.tbls⟩, ⟨m', hn, fun i x v _ e2 _ => ?_⟩, fun x c e => ?_, I.free, I.freeC, fun p hp => ?_, fun b o e => ?_, by rw [List.length_replicate]; exact I.len⟩
  · obtain ⟨sl, e1⟩ := I.base.slot b o e n hb hx
    exact ⟨sl, (hs.2 b (neL b o e)).trans e1⟩
  · obtain ⟨o', e1⟩ := I.base.there b o e hx
    exact ⟨o', (hs.2 b (neL b o e)).trans e1⟩
  · rw [List.getElem?_replicate] at e2
    split at e2 <;> cases e2
  · obtain ⟨w', z⟩ := I.cell x c e
    exact ⟨w', z.sameBut hs (I.cne x c e)⟩
  · obtain ⟨e, n, ne, nf, d⟩ := I.pin p hp
    exact ⟨(hs.2 p.1 ne).trans e, n, ne, nf, d⟩
  · refine (I.hok b o e).stay (fun c w' hc q => (hs.2 c ?_).trans q) (fun _ q => q) fun _ _ q => q
    rintro rfl
    rcases hc with rfl | hc
    · rw [I.free] at e; cases e
    · rw [I.free] at hc; cases hc
end
def tTry (K : PySem.W.Frag) (W : Addr) (sp : Sp) (t : TA) (i : Nat) (u : Addr → Obj → TS) : TS := fun D σ H => t σ H fun vs H1 => sp vs H1 (fun _ H2 => D.nx σ H2)
  (fun cls dO H2 => ∃ C, cls = .ref C ∧ PySem.W.mroIn K C (.ref W) = some true ∧ ∀ e oe, H2 e = none → oe.cls = .ref C → oe.dict = dO → u e oe { nx := fun _ _ => False, rt := D.rt } (σ.set i (some (.ref e))) H2)
theorem ps_try {X : Cx} {x wn n : Str} {p cpos epos wp hp pos : Pos} {a : Expr} {as : List Expr} {b₀ : Stmt} {suite : List Stmt} {t : TA} {W : Addr} {k i : Nat} {ps : List Str} {sp : Sp} {u : Addr → Obj → TS}
    (c : CalX X.prog X.w X.K X.mg X.base x k ps sp) (hr : Room k X.A) (hg : Gl X x) (st : X.stack = X.env :: X.outer ∧ X.env.frame = some X.env.locals) (ha : ∀ E', PA (X.wish E') (a :: as) t) (hgW : Gl X wn) (mW : X.mg wn = some (.ref W)) (cW : PySem.W.CatchOf X.K W)
    (hN : X.N.Nodup) (hi : X.N[i]? = some n) (hl : X.env.scope.names.lookup n = some .local) (hs : ∀ e oe vs, oe.data = .fields vs → PSs (hcx X e oe) (b₀ :: suite) (u e oe))
    (hdb : (x == ("__debug__" : Str)) = false := by decide) (hdw : (wn == ("__debug__" : Str)) = false := by decide) (he : starEach (a :: as) X.env = (false, eval a X.env) :: starEach as X.env := by rfl) (hpl : (backTo cpos (starEach as X.env)).any (·.1) = false := by rfl)
    (hsw : swapsWith (.Call (.Name x p) (a :: as) [] cpos) none epos.line X.env = pure false := by rfl) :
    PS X (.Try [.Expr (.Call (.Name x p) (a :: as) [] cpos) epos] [.ExceptHandler (some (.Name wn wp)) (some n) (b₀ :: suite) hp] [] [] pos) (tTry X.K W sp t i u) := by
  obtain ⟨f, fd, F, m, kp, b⟩ := c
  intro pins s σ H D I h
  refine wpAny_Try_except ?_
  let EE : XK := fun cls dO H2 => ∃ C, cls = .ref C ∧ PySem.W.mroIn X.K C (.ref W) = some true ∧ ∀ e oe, H2 e = none → oe.cls = .ref C → oe.dict = dO → u e oe { nx := fun _ _ => False, rt := D.rt } (σ.set i (some (.ref e))) H2
  let W0 : Value → Shared → Prop := fun v s' => ∃ e cls dO H', v = .ref e ∧ Inv X pins σ H' s' ∧ Exc X pins H' s'.heap e cls dO ∧ EE cls dO H'
  have callp : wpAny (model X.prog X.w) X.A (eval (.Call (.Name x p) (a :: as) [] cpos) X.env) (EP X pins σ (fun _ H2 => D.nx σ H2)) W0 s := by
    refine wpAny_Call_Name_kw (ld_glob I hg m ?_ hdb)
    refine PySem.W.callWith_K (h₀ := X.base) I.ok.mod.kin kp (thn (ha W0 cpos pins s σ H _ (I.wish W0) h) fun us s1 ⟨vs, H1, I1, r, q⟩ => ⟨I1.kIn, ?_⟩) he hpl
    have J1 : Inv X pins σ H1 s1 := I1.unwish
    have hlen : (us ++ ([] : List Value)).length = ps.length := by rw [List.append_nil, ← r.length]; exact F.len _ _ _ _ q
    refine wpAny_call (codeAny_mono (F.run X.A X.stack s1 H1 ⟨us, []⟩ us vs _ EE hr J1.env0 (by have z := b s1 us J1.kIn hlen; rwa [List.append_nil] at z) r q) fun r s' hq => ?_)
    cases r with
    | error v =>
      obtain ⟨e, cls, dO, H', rfl, os, bare, un, hok, ⟨l1, n1⟩, ⟨T, hT, x⟩, q⟩ := hq
      exact ⟨e, cls, dO, H', rfl, J1.call' os un hok bare (fun b z => nomatch z), ⟨J1.fpNew l1 n1, T, fun t' e' => J1.fpNew (hT t' e').1 (hT t' e').2, x⟩, q⟩
    | ok fl =>
      cases fl with
      | ret u => exact J1.after hq
      | next => exact False.elim hq
      | brk => exact False.elim hq
      | cont => exact False.elim hq
  have body : wpAny (model X.prog X.w) X.A (execs [.Expr (.Call (.Name x p) (a :: as) [] cpos) epos] X.env) (fun f s1 => f = .next ∧ ∃ H1, Inv X pins σ H1 s1 ∧ D.nx σ H1) W0 s := by
    refine wpAny_execs_cons (wpAny_Expr_any (thn callp fun v s1 ⟨x, H1, I1, r1, q1⟩ => ?_) I.quiet hsw)
    exact wpAny_execs_nil ⟨rfl, H1, I1, q1⟩
  refine wpAny_mono body (fun f s1 ⟨ef, H1, I1, q⟩ => by subst ef; exact wpAny_execs_nil ⟨σ, H1, I1, q⟩) (fun v s1 ⟨e, cls, dO, H', ev, I', xx, C, ec, mro, hu⟩ => ?_)
  subst ev ec
  refine note_ok I' st xx fun s2 t2 I2 ft x2 => flight_ok I2 ft x2 fun s3 I3 x3 => ?_
  obtain ⟨oe, vs, ge, hcls, hdi, hda, h2, h2n, h1, ne, ot, ts, et, dt, z3⟩ := id x3
  have J : Inv (hcx X e oe) pins σ H' s3 := I3.hcx xx.fe ge hcls hda h2n
  have ft' : FpOk (hcx X e oe) pins H' t2 := ⟨ft.1, ft.2.1, ft.2.2.1, ft.2.2.2.1, ft.2.2.2.2.1, fun p hp => by
    rcases List.mem_cons.mp (show p ∈ (e, oe) :: (X.pn ++ pins) from hp) with rfl | hp
    · exact Ne.symm ne
    · exact ft.2.2.2.2.2 p hp⟩
  refine wpAny_handleBy_cons (codeAny_handlers_test (ld_glob (X := hcx X e oe) J hgW mW (PySem.W.x_match J.kIn cW ge hcls mro ?_) hdw)) (by intro q; cases q)
  change codeAny _ _ _ _ _
  refine codeAny_handlers_suite_as (flight_ok (X := hcx X e oe) J ft' x3 fun s4 J4 x4 => store_ok (X := hcx X e oe) (v := .ref e) J4 hN hi (Or.inl hl) rfl (fun s5 J5 => ?_) (.inr hl))
  refine wpAny_mono (hs e oe vs hda pins s5 _ H' _ J5 (hu e oe xx.fe.1 hcls hdi)) (fun f s6 hf => ?_) (fun _ _ z => z.elim)
  cases f with
  | next => obtain ⟨_, _, _, q⟩ := hf; exact q.elim
  | brk => obtain ⟨_, _, _, q⟩ := hf; exact q.elim
  | cont => obtain ⟨_, _, _, q⟩ := hf; exact q.elim
  | ret uu =>
    obtain ⟨v, σ', H6, J6, rv, q⟩ := hf
    obtain ⟨m6, n6, _⟩ := id J6.loc
    refine wpAny_nameGoes hl n6 (by rw [I.ok.kind]; rfl) fun h' m' n' s' => ?_
    exact ⟨v, _, H6, (J6.unhcx I.ok).forget n' s', rv, q⟩
def tXGet (K : PySem.W.Frag) (e : Addr) (oe : Obj) (te : TE) (f : Str) : TE := fun σ H Q => te σ H fun x H1 => ∃ C d fs v, x = .ref e ∧ oe.cls = .ref C ∧ oe.dict = some d ∧ PySem.W.XC K C ∧ NoAttr K C f ∧ H1 d = some (.xd fs) ∧ fs.lookup f = some v ∧ Q v H1
theorem pe_xget {X : Cx} {e : Addr} {oe : Obj} {vs : Array Value} {ex : Expr} {te : TE} {f : Str} {pos : Pos} (hp : (e, oe) ∈ X.pn) (hda : oe.data = .fields vs) (he : PE X ex te) (hb : attributeBase ex f X.env (eval ex X.env) = eval ex X.env) : PE X (.Attribute ex f pos) (tXGet X.K e oe te f) := by
  intro pins s σ H Q I h
  refine attr_of hb (thn (he pins s σ H _ I h) fun u s1 ⟨x, H1, I1, rx, C, d, fs, v, ee, ec, ed, xc, na, hd, l, q⟩ => ?_)
  subst ee
  obtain rfl : u = Value.ref e := rx
  obtain ⟨ge, _⟩ := I1.pin (e, oe) (List.mem_append_left _ hp)
  obtain ⟨mA, ns, r⟩ := (show ObjOk X.prog X.w H1 s1.heap d (.xd fs) from I1.hok d _ hd)
  obtain ⟨od, god, lk⟩ := lookIn_ns ns
  obtain ⟨u, hu, ru⟩ := RelO.some_of (v := v) (o := mA f) (by rw [← l]; exact r f)
  have J : PySem.W.InstAt s1.heap e oe C (some od) := ⟨ge, ec, by unfold PySem.W.notCls; rw [hda], by rw [ed]; exact god⟩
  exact PySem.W.xg_attr xc I1.kIn J (PySem.W.findObj_own xc.hd na rfl (by rw [lk, hu])) (handed_of ru) ⟨v, H1, I1.tok _, ru, q⟩
def rIsX (K : PySem.W.Frag) (e : Addr) (oe : Obj) : List V → Hp → VK → Prop := fun xs H Q => ∃ c C b, xs = [.ref e, c] ∧ (∀ u, RelV c u → PySem.W.kitOne K (.ref C) u = some b) ∧ oe.cls = .ref C ∧ PySem.W.XC K C ∧ (oe.dict = none ∨ ∃ d fs, oe.dict = some d ∧ H d = some (.xd fs)) ∧ Q (.bl b) H
theorem call_isX {X : Cx} {e : Addr} {oe : Obj} {vs : Array Value} (hp : (e, oe) ∈ X.pn) (hda : oe.data = .fields vs) : CallR X (.builtin "isinstance") (rIsX X.K e oe) := by
  intro pins s σ H xs us Q I r ⟨c, C, b, ex, hk, ec, xc, hd, q⟩
  subst ex
  obtain ⟨u, v, rfl, ru, rv⟩ := vals2 r
  obtain rfl : u = Value.ref e := ru
  obtain ⟨ge, _⟩ := I.pin (e, oe) (List.mem_append_left _ hp)
  have nc : PySem.W.notCls oe = true := by unfold PySem.W.notCls; rw [hda]
  rcases hd with hd | ⟨d, fs, hd, hx⟩
  · have J : PySem.W.InstAt s.heap e oe C none := ⟨ge, ec, nc, by rw [hd]; trivial⟩
    exact PySem.W.kia_one (PySem.W.kitx_exc xc) I.kIn J (hk v rv) (fun z => nomatch z) fun tk => ⟨.bl b, H, I.tok tk, rfl, q⟩
  · obtain ⟨mA, ns, _⟩ := (show ObjOk X.prog X.w H s.heap d (.xd fs) from I.hok d _ hx)
    obtain ⟨od, god, _⟩ := lookIn_ns ns
    have J : PySem.W.InstAt s.heap e oe C (some od) := ⟨ge, ec, nc, by rw [hd]; exact god⟩
    exact PySem.W.kia_one (PySem.W.kitx_exc xc) I.kIn J (hk v rv) (fun z => nomatch z) fun tk => ⟨.bl b, H, I.tok tk, rfl, q⟩
abbrev tIsX (K : PySem.W.Frag) (e : Addr) (oe : Obj) (te : TE) (c : V) : TE := tCB (rIsX K e oe) (tCons te (tCons (tC c) tNil))
theorem pe_isX {X : Cx} (B : Bare X.mg) {e : Addr} {oe : Obj} {vs : Array Value} {ex : Expr} {te : TE} {D : Addr} {x : Str} {p1 p2 pos : Pos} (hp : (e, oe) ∈ X.pn) (hda : oe.data = .fields vs) (he : PE X ex te) (hg : Gl X "isinstance") (hx : Gl X x) (hm : X.mg x = some (.ref D)) (hd : (x == ("__debug__" : Str)) = false := by decide)
    (s1 : starEach [ex, .Name x p2] X.env = [(false, eval ex X.env), (false, eval (.Name x p2) X.env)] := by rfl) (s2 : starEach [.Name x p2] X.env = [(false, eval (.Name x p2) X.env)] := by rfl) :
    PE X (.Call (.Name "isinstance" p1) [ex, .Name x p2] [] pos) (tIsX X.K e oe te (.ref D)) :=
  pe_callB (call_isX hp hda) hg B.isin bt_isinstance (pa_cons he (pa_cons (pe_glob hx hm rfl hd) pa_nil s2) (by rw [s1, s2])) (he := by rw [s1, s2]) (hpl := by rw [s2]; rfl)
theorem pe_isXT {X : Cx} (B : Bare X.mg) {e : Addr} {oe : Obj} {vs : Array Value} {ex : Expr} {te : TE} {T : String} {x : Str} {p1 p2 pos : Pos} (hp : (e, oe) ∈ X.pn) (hda : oe.data = .fields vs) (he : PE X ex te) (hg : Gl X "isinstance") (hx : Gl X x) (hm : X.mg x = none) (hv : bootBuiltins x = some (.type T)) (hn : x ≠ "__name__" := by decide) (hd : (x == ("__debug__" : Str)) = false := by decide)
    (s1 : starEach [ex, .Name x p2] X.env = [(false, eval ex X.env), (false, eval (.Name x p2) X.env)] := by rfl) (s2 : starEach [.Name x p2] X.env = [(false, eval (.Name x p2) X.env)] := by rfl) :
    PE X (.Call (.Name "isinstance" p1) [ex, .Name x p2] [] pos) (tIsX X.K e oe te (.ty T)) :=
  pe_callB (call_isX hp hda) hg B.isin bt_isinstance (pa_cons he (pa_cons (pe_bltn hx hm hv rfl hn hd) pa_nil s2) (by rw [s1, s2])) (he := by rw [s1, s2]) (hpl := by rw [s2]; rfl)
theorem mem_hcx {X : Cx} {e : Addr} {oe : Obj} : (e, oe) ∈ (hcx X e oe).pn := List.mem_cons_self
end L2

end

section
set_option autoImplicit false
set_option maxRecDepth 100000
set_option linter.all false
namespace EoT
open PySem PySem.SetTable
def hop (m : Nat) : Nat → Nat × Nat → Nat × Nat
  | 0, x => x
  | n + 1, x => hop m n (leap m x.1 x.2)
theorem hop_add (m : Nat) : ∀ (a b : Nat) (x : Nat × Nat), hop m (a + b) x = hop m b (hop m a x)
  | 0, b, x => by rw [Nat.zero_add]; rfl
  | a + 1, b, x => by
    rw [Nat.succ_add]
    exact hop_add m a b _
theorem hop_pert (m : Nat) : ∀ (a : Nat) (x : Nat × Nat), (hop m a x).2 = x.2 / 32 ^ a
  | 0, x => by simp [hop]
  | a + 1, x => by
    show (hop m a (leap m x.1 x.2)).2 = _
    rw [hop_pert m a]
    show x.2 / 32 / 32 ^ a = _
    rw [Nat.div_div_eq_div_mul, Nat.pow_succ, Nat.mul_comm]
theorem hop_le (m : Nat) : ∀ (a : Nat) (x : Nat × Nat), x.1 ≤ m → (hop m a x).1 ≤ m
  | 0, x, h => h
  | a + 1, x, _ => hop_le m a _ (Nat.le_of_lt_succ (Nat.mod_lt _ (Nat.succ_pos _)))
/-- places met from i by leaps without a rest -/
def meets (m : Nat) : Nat → Nat → Nat → Bool
  | 0, i, j => i == j
  | n + 1, i, j => i == j || meets m n ((i * 5 + 1) % (m + 1)) j
theorem meets_hop {m j : Nat} : ∀ {n i : Nat}, meets m n i j = true → ∃ t, t ≤ n ∧ (hop m t (i, 0)).1 = j
  | 0, i, h => ⟨0, Nat.le_refl _, eq_of_beq h⟩
  | n + 1, i, h => by
    rcases Bool.or_eq_true .. |>.mp h with h | h
    · exact ⟨0, Nat.zero_le _, eq_of_beq h⟩
    · obtain ⟨t, h1, h2⟩ := meets_hop h
      refine ⟨t + 1, Nat.succ_le_succ h1, ?_⟩
      show (hop m t (leap m i 0)).1 = j
      have e : leap m i 0 = ((i * 5 + 1) % (m + 1), 0) := by simp [leap]
      rw [e]
      exact h2
def covers (m : Nat) : Bool := (List.range (m + 1)).all fun i => (List.range (m + 1)).all fun j => meets m m i j
theorem covers7 : covers 7 = true := by decide +kernel
theorem covers31 : covers 31 = true := by decide +kernel
theorem reach {m i p j : Nat} (c : covers m = true) (hi : i ≤ m) (hp : p < 2 ^ 64) (hj : j ≤ m) : ∃ t, t ≤ 13 + m ∧ (hop m t (i, p)).1 = j := by
  have h0 : (hop m 13 (i, p)).2 = 0 := by
    rw [hop_pert]
    exact Nat.div_eq_of_lt (Nat.lt_of_lt_of_le hp (by decide))
  have h1 := hop_le m 13 (i, p) hi
  have hc := List.all_eq_true.mp (List.all_eq_true.mp c _ (List.mem_range.mpr (Nat.lt_succ_of_le h1))) j (List.mem_range.mpr (Nat.lt_succ_of_le hj))
  obtain ⟨t, h2, h3⟩ := meets_hop hc
  refine ⟨13 + t, by omega, ?_⟩
  rw [hop_add, show hop m 13 (i, p) = ((hop m 13 (i, p)).1, 0) from Prod.ext rfl h0]
  exact h3
def go (t : SetTable) : Nat → Probe → Probe
  | 0, p => p
  | n + 1, p => go t n (t.advance p)
theorem go_add (t : SetTable) : ∀ (a b : Nat) (p : Probe), go t (a + b) p = go t b (go t a p)
  | 0, b, p => by rw [Nat.zero_add]; rfl
  | a + 1, b, p => by
    rw [Nat.succ_add]
    exact go_add t a b _
theorem run_le (m i : Nat) : runEnd m i - i ≤ 9 := by
  unfold runEnd
  split <;> omega
/-- by at most ten steps the next leap is done -/
theorem go_leap (t : SetTable) : ∀ (n : Nat) (p : Probe), p.more = n → go t (n + 1) p = { p with j := (leap t.mask p.i p.perturb).1, more := runEnd t.mask (leap t.mask p.i p.perturb).1 - (leap t.mask p.i p.perturb).1, i := (leap t.mask p.i p.perturb).1, perturb := (leap t.mask p.i p.perturb).2 }
  | 0, p, h => by
    show t.advance p = _
    unfold advance
    rw [if_neg (by omega)]
  | n + 1, p, h => by
    show go t (n + 1) (t.advance p) = _
    have e : t.advance p = { p with j := p.j + 1, more := p.more - 1 } := by
      unfold advance
      rw [if_pos (by omega)]
    rw [e, go_leap t n _ (by show p.more - 1 = n; omega)]
theorem go_hop (t : SetTable) : ∀ (n : Nat) (p : Probe), p.j = p.i → p.more ≤ 9 → ∃ k, k ≤ 10 * n ∧ (go t k p).j = (hop t.mask n (p.i, p.perturb)).1
  | 0, p, hj, _ => ⟨0, Nat.le_refl _, hj⟩
  | n + 1, p, hj, hm => by
    have e := go_leap t p.more p rfl
    obtain ⟨k, h1, h2⟩ := go_hop t n (go t (p.more + 1) p) (by rw [e]) (by rw [e]; exact run_le _ _)
    refine ⟨p.more + 1 + k, by omega, ?_⟩
    rw [go_add, h2, e]
    rfl
/-- within n steps a place is met that is not taken -/
def Near (t : SetTable) (p : Probe) (n : Nat) : Prop := ∃ k, k ≤ n ∧ (go t k p).j ∉ t.place
theorem bits_lt (h : Int) : bits h < 2 ^ 64 := by
  unfold bits
  have h1 := Int.emod_nonneg h (show (2 ^ 64 : Int) ≠ 0 by decide)
  have h2 := Int.emod_lt_of_pos h (show (0 : Int) < 2 ^ 64 by decide)
  omega
theorem hole {m : Nat} {place : Array Nat} (h : place.size ≤ m) : ∃ j, j ≤ m ∧ j ∉ place := by
  refine Classical.byContradiction fun no => ?_
  have all : ∀ j ∈ List.range (m + 1), j ∈ place.toList := fun j hj => by
    refine Classical.byContradiction fun z => no ⟨j, Nat.le_of_lt_succ (List.mem_range.mp hj), fun w => z (by simpa using w)⟩
  have := (List.nodup_range (n := m + 1)).length_le_of_subset all
  simp at this
  omega
theorem near_start {t : SetTable} (c : covers t.mask = true) (hs : t.place.size ≤ t.mask) (h : Int) : Near t (t.probeStart h) (10 * (13 + t.mask)) := by
  obtain ⟨j, hj, nj⟩ := hole hs
  have hi : bits h % (t.mask + 1) ≤ t.mask := Nat.le_of_lt_succ (Nat.mod_lt _ (Nat.succ_pos _))
  obtain ⟨n, h1, h2⟩ := reach c hi (bits_lt h) hj
  obtain ⟨k, h3, h4⟩ := go_hop t n (t.probeStart h) rfl (run_le _ _)
  refine ⟨k, by omega, ?_⟩
  rw [h4]
  show (hop t.mask n (bits h % (t.mask + 1), bits h)).1 ∉ _
  rw [h2]
  exact nj
theorem slot_free {t : SetTable} {j : Nat} (hd : t.dummies = #[]) (hj : j ∉ t.place) : t.slot j = .empty := by
  unfold slot
  have h1 : ¬ (t.place[below t.place j]? == some j) = true := fun e => hj (Array.mem_of_getElem? (eq_of_beq e))
  dsimp only
  rw [if_neg h1, hd]
  rfl
theorem slot_live {t : SetTable} {j i : Nat} (h : t.slot j = .live i) : t.place[i]? = some j := by
  unfold slot at h
  dsimp only at h
  split at h
  · rename_i e
    cases h
    exact eq_of_beq e
  · split at h <;> cases h
theorem slot_dummy {t : SetTable} {j : Nat} (hd : t.dummies = #[]) : t.slot j ≠ .dummy := by
  unfold slot
  rw [hd]
  dsimp only
  split
  · exact fun z => nomatch z
  · exact fun z => nomatch z
/-- what the search meets -/
theorem probe_met {t : SetTable} (hd : t.dummies = #[]) (at_ : Nat → Int) (h : Int) : ∀ (n f : Nat) (p : Probe), p.dummy = none → Near t p n → n < f →
    (∃ j, probe.go t at_ h f p = some (.empty j none) ∧ t.slot j = .empty) ∨ ∃ j i q n', probe.go t at_ h f p = some (.candidate j i q) ∧ t.slot j = .live i ∧ at_ i = h ∧ q.dummy = none ∧ n' < n ∧ Near t q n' := by
  intro n
  induction n with
  | zero =>
    intro f p pd ⟨k, hk, hn⟩ hf
    obtain ⟨f, rfl⟩ : ∃ g, f = g + 1 := ⟨f - 1, by omega⟩
    have : k = 0 := by omega
    subst this
    have hn' : p.j ∉ t.place := hn
    refine .inl ⟨p.j, ?_, slot_free hd hn'⟩
    rw [probe.go, slot_free hd hn', pd]
  | succ n ih =>
    intro f p pd ⟨k, hk, hn⟩ hf
    obtain ⟨f, rfl⟩ : ∃ g, f = g + 1 := ⟨f - 1, by omega⟩
    have ad : (t.advance p).dummy = none := by
      unfold advance
      split <;> exact pd
    cases e : t.slot p.j with
    | empty => exact .inl ⟨p.j, by rw [probe.go, e, pd], e⟩
    | dummy => exact absurd e (slot_dummy hd)
    | live i =>
      have nr : Near t (t.advance p) n := by
        cases k with
        | zero => exact absurd (Array.mem_of_getElem? (slot_live e)) hn
        | succ k => exact ⟨k, by omega, hn⟩
      by_cases c : at_ i == h
      · refine .inr ⟨p.j, i, t.advance p, n, ?_, e, eq_of_beq c, ad, Nat.lt_succ_self _, nr⟩
        rw [probe.go, e]
        dsimp only
        rw [if_pos c]
      · rcases ih f (t.advance p) ad nr (by omega) with ⟨j, h1, h2⟩ | ⟨j, i', q, n', h1, h2, h3, h4, h5, h6⟩
        · refine .inl ⟨j, ?_, h2⟩
          rw [probe.go, e]
          dsimp only
          rw [if_neg c]
          exact h1
        · refine .inr ⟨j, i', q, n', ?_, h2, h3, h4, by omega, h6⟩
          rw [probe.go, e]
          dsimp only
          rw [if_neg c]
          exact h1
abbrev Rise (l : List Nat) : Prop := l.Pairwise (· < ·)
theorem rise_lt {xs : Array Nat} (r : Rise xs.toList) (a b : Nat) (ha : a < xs.size) (hb : b < xs.size) (hab : a < b) : xs[a] < xs[b] := by
  have := List.pairwise_iff_getElem.mp r a b (by rw [Array.length_toList]; exact ha) (by rw [Array.length_toList]; exact hb) hab
  rwa [Array.getElem_toList, Array.getElem_toList] at this
theorem below_go {xs : Array Nat} {j : Nat} (r : Rise xs.toList) : ∀ (f lo hi : Nat), hi - lo ≤ f → lo ≤ hi → hi ≤ xs.size → (∀ i (h : i < xs.size), i < lo → xs[i] < j) → (∀ i (h : i < xs.size), hi ≤ i → j ≤ xs[i]) →
    below.go xs j f lo hi ≤ xs.size ∧ (∀ i (h : i < xs.size), i < below.go xs j f lo hi → xs[i] < j) ∧ ∀ i (h : i < xs.size), below.go xs j f lo hi ≤ i → j ≤ xs[i]
  | 0, lo, hi, h1, h2, h3, a, b => by
    have : lo = hi := by omega
    subst this
    exact ⟨h3, a, b⟩
  | f + 1, lo, hi, h1, h2, h3, a, b => by
    unfold below.go
    by_cases c : lo < hi
    · rw [if_pos c]
      dsimp only
      have hm : (lo + hi) / 2 < xs.size := by omega
      have hle : ∀ i k (hi' : i < xs.size) (hk : k < xs.size), i ≤ k → xs[i] ≤ xs[k] := fun i k hi' hk hik => by
        rcases Nat.lt_or_eq_of_le hik with z | z
        · exact Nat.le_of_lt (rise_lt r i k hi' hk z)
        · subst z; exact Nat.le_refl _
      have eg : xs.getD ((lo + hi) / 2) j = xs[(lo + hi) / 2] := by simp [Array.getD, hm]
      by_cases d : xs[(lo + hi) / 2] < j
      · rw [if_pos (by rw [eg]; exact d)]
        exact below_go r f _ _ (by omega) (by omega) h3 (fun i h hi' => Nat.lt_of_le_of_lt (hle i _ h hm (by omega)) d) b
      · rw [if_neg (by rw [eg]; exact d)]
        exact below_go r f _ _ (by omega) (by omega) (by omega) a fun i h hi' => Nat.le_trans (Nat.not_lt.mp d) (hle _ i hm h hi')
    · rw [if_neg c]
      have : lo = hi := by omega
      subst this
      exact ⟨h3, a, b⟩
theorem below_ok {xs : Array Nat} {j : Nat} (r : Rise xs.toList) : below xs j ≤ xs.size ∧ (∀ i (h : i < xs.size), i < below xs j → xs[i] < j) ∧ ∀ i (h : i < xs.size), below xs j ≤ i → j ≤ xs[i] :=
  below_go r xs.size 0 xs.size (by omega) (Nat.zero_le _) (Nat.le_refl _) (fun i _ h => by omega) fun i h h' => by omega
theorem slot_empty {t : SetTable} {j : Nat} (r : Rise t.place.toList) (h : t.slot j = .empty) : j ∉ t.place := fun m => by
  obtain ⟨i, hi, e⟩ := Array.mem_iff_getElem.mp m
  obtain ⟨b1, b2, b3⟩ := below_ok (j := j) r
  have eb : below t.place j = i := by
    rcases Nat.lt_trichotomy (below t.place j) i with z | z | z
    · have l1 := b3 (below t.place j) (by omega) (Nat.le_refl _)
      have l2 : t.place[below t.place j] < t.place[i] := rise_lt r _ i (by omega) hi z
      omega
    · exact z
    · have := b2 i hi z
      omega
  unfold slot at h
  dsimp only at h
  rw [eb, if_pos (by rw [Array.getElem?_eq_getElem hi, e]; simp)] at h
  cases h
theorem rise_insert {xs : Array Nat} {j : Nat} (r : Rise xs.toList) (h : j ∉ xs) : Rise (insertAt xs (below xs j) j).toList := by
  obtain ⟨b1, b2, b3⟩ := below_ok (j := j) r
  rw [toList_insertAt]
  have e : xs.toList = xs.toList.take (below xs j) ++ xs.toList.drop (below xs j) := (List.take_append_drop _ _).symm
  have r' := r
  rw [e] at r'
  obtain ⟨r1, r2, r3⟩ := List.pairwise_append.mp r'
  have ld : ∀ x ∈ xs.toList.drop (below xs j), j < x := fun x hx => by
    obtain ⟨k, hk, ek⟩ := List.mem_iff_getElem.mp hx
    rw [List.getElem_drop] at ek
    have hk' : below xs j + k < xs.size := by simp at hk; omega
    have := b3 (below xs j + k) hk' (by omega)
    have ex : xs[below xs j + k] = x := by simpa using ek
    have nx : j ≠ x := fun z => h (by rw [z, ← ex]; exact Array.getElem_mem hk')
    omega
  refine List.pairwise_append.mpr ⟨r1, List.pairwise_cons.mpr ⟨ld, r2⟩, fun a ha b hb => ?_⟩
  have la : a < j := by
    obtain ⟨k, hk, ek⟩ := List.mem_iff_getElem.mp ha
    rw [List.getElem_take] at ek
    have hk1 : k < below xs j := by simp at hk; omega
    have hk' : k < xs.size := by omega
    have := b2 k hk' hk1
    have ex : xs[k] = a := by simpa using ek
    omega
  rcases List.mem_cons.mp hb with rfl | hb
  · exact la
  · exact Nat.lt_trans la (ld b hb)
/-- behind the place at i comes the one at i + 1 -/
theorem below_next {xs : Array Nat} {i : Nat} (r : Rise xs.toList) (hi : i < xs.size) : below xs (xs[i] + 1) = i + 1 := by
  obtain ⟨b1, b2, b3⟩ := below_ok (j := xs[i] + 1) r
  have lt : ∀ a b (ha : a < xs.size) (hb : b < xs.size), a < b → xs[a] < xs[b] := fun a b ha hb hab => rise_lt r a b ha hb hab
  have h1 : i < below xs (xs[i] + 1) := by
    refine Nat.lt_of_not_le fun z => ?_
    have := b3 i hi z
    omega
  have h2 : ¬ i + 1 < below xs (xs[i] + 1) := fun z => by
    have := b2 (i + 1) (by omega) z
    have := lt i (i + 1) hi (by omega) (by omega)
    omega
  omega
theorem below_zero {xs : Array Nat} (r : Rise xs.toList) : below xs 0 = 0 := by
  obtain ⟨b1, b2, b3⟩ := below_ok (j := 0) r
  refine Classical.byContradiction fun z => ?_
  have := b2 0 (by omega) (by omega)
  omega
theorem free_some {m : Nat} {owner : Array (Option Nat)} : ∀ (f i p t : Nat), t < f → owner.getD (hop m t (i, p)).1 (some 0) = none → ∃ j, layClean.free m owner f i p = some j ∧ owner.getD j (some 0) = none
  | 0, i, p, t, h, _ => by omega
  | f + 1, i, p, t, h, e => by
    unfold layClean.free
    cases q : (List.range (runEnd m i + 1 - i)).find? fun k => (owner.getD (i + k) (some 0)).isNone with
    | some k =>
      have := List.find?_some q
      exact ⟨i + k, rfl, by simpa using this⟩
    | none =>
      cases t with
      | zero =>
        have z := List.find?_eq_none.mp q 0 (List.mem_range.mpr (by unfold runEnd; split <;> omega))
        have e' : owner.getD i (some 0) = none := e
        rw [Nat.add_zero, e'] at z
        simp at z
      | succ t =>
        dsimp only
        exact free_some f _ _ t (by omega) e
theorem getD_none {owner : Array (Option Nat)} {j : Nat} (h : owner.getD j (some 0) = none) : ∃ hj : j < owner.size, owner[j] = none := by
  by_cases hj : j < owner.size
  · exact ⟨hj, by simpa [Array.getD, hj] using h⟩
  · simp [Array.getD, hj] at h
def livesOf (owner : Array (Option Nat)) : List Nat → List Nat := List.filterMap fun j => owner.getD j none
theorem lives_put {owner : Array (Option Nat)} {j k : Nat} (hj : j < owner.size) (e : owner[j] = none) : ∀ {l : List Nat}, l.Nodup → (j ∈ l → (livesOf (owner.setIfInBounds j (some k)) l).Perm (k :: livesOf owner l)) ∧ (j ∉ l → livesOf (owner.setIfInBounds j (some k)) l = livesOf owner l)
  | [], _ => ⟨fun h => absurd h List.not_mem_nil, fun _ => rfl⟩
  | a :: l, nd => by
    obtain ⟨na, nd'⟩ := List.nodup_cons.mp nd
    obtain ⟨h1, h2⟩ := lives_put hj e nd'
    by_cases c : a = j
    · subst c
      refine ⟨fun _ => ?_, fun h => absurd (List.mem_cons_self ..) h⟩
      have e1 : (owner.setIfInBounds a (some k)).getD a none = some k := by simp [Array.getD, hj]
      have e2 : owner.getD a none = none := by simp [Array.getD, hj, e]
      unfold livesOf at h2 ⊢
      rw [List.filterMap_cons, e1, List.filterMap_cons, e2]
      dsimp only
      rw [h2 na]
    · have eo : (owner.setIfInBounds j (some k)).getD a none = owner.getD a none := by
        simp only [Array.getD_eq_getD_getElem?]
        rw [Array.getElem?_setIfInBounds_ne (fun z => c z.symm)]
      refine ⟨fun h => ?_, fun h => ?_⟩
      · have hm : j ∈ l := (List.mem_cons.mp h).resolve_left fun z => c z.symm
        unfold livesOf at h1 ⊢
        rw [List.filterMap_cons, eo, List.filterMap_cons]
        cases owner.getD a none with
        | none => exact h1 hm
        | some b => exact ((h1 hm).cons b).trans (List.Perm.swap ..)
      · unfold livesOf at h2 ⊢
        rw [List.filterMap_cons, eo, List.filterMap_cons, h2 fun z => h (List.mem_cons_of_mem _ z)]
theorem lives_hole {m : Nat} {owner : Array (Option Nat)} (hs : owner.size = m + 1) (h : (livesOf owner (List.range (m + 1))).length ≤ m) : ∃ j, j ≤ m ∧ owner.getD j (some 0) = none := by
  refine Classical.byContradiction fun no => ?_
  have : (livesOf owner (List.range (m + 1))).length = m + 1 := by
    have go : ∀ l : List Nat, (∀ j ∈ l, j ≤ m) → (livesOf owner l).length = l.length := by
      intro l
      induction l with
      | nil => intro _; rfl
      | cons a l ih =>
        intro hl
        have ha := hl a (List.mem_cons_self ..)
        have hsz : a < owner.size := by omega
        cases q : owner[a] with
        | none => exact absurd ⟨a, ha, by simp [Array.getD, hsz, q]⟩ no
        | some b =>
          have e : owner.getD a none = some b := by simp [Array.getD, hsz, q]
          unfold livesOf at ih ⊢
          rw [List.filterMap_cons, e]
          rw [List.length_cons, List.length_cons, ih fun j hj => hl j (List.mem_cons_of_mem _ hj)]
    rw [go _ fun j hj => Nat.le_of_lt_succ (List.mem_range.mp hj)]
    simp
  omega
theorem turns_le (m : Nat) : 13 + m < turns m := by unfold turns; omega
theorem laid_fold {m : Nat} (c : covers m = true) : ∀ (hs : List Int) (owner : Array (Option Nat)) (k : Nat), owner.size = m + 1 → (livesOf owner (List.range (m + 1))).Perm (List.range k) → k + hs.length ≤ m + 1 →
    ∃ o', hs.foldl (fun acc h => do let (owner, k) ← acc; let j ← layClean.free m owner (turns m) (bits h % (m + 1)) (bits h); pure (owner.setIfInBounds j (some k), k + 1)) (some (owner, k)) = some (o', k + hs.length) ∧ o'.size = m + 1 ∧ (livesOf o' (List.range (m + 1))).Perm (List.range (k + hs.length))
  | [], owner, k, h1, h2, _ => ⟨owner, rfl, h1, h2⟩
  | h :: hs, owner, k, h1, h2, h3 => by
    have hl := h2.length_eq
    rw [List.length_range] at hl
    simp only [List.length_cons] at h3
    obtain ⟨j, hj, ej⟩ := lives_hole h1 (by omega)
    have hi : bits h % (m + 1) ≤ m := Nat.le_of_lt_succ (Nat.mod_lt _ (Nat.succ_pos _))
    obtain ⟨t, ht, et⟩ := reach c hi (bits_lt h) hj
    obtain ⟨j', e1, e2⟩ := free_some (owner := owner) (turns m) (bits h % (m + 1)) (bits h) t (Nat.lt_of_le_of_lt ht (turns_le m)) (by rw [et]; exact ej)
    obtain ⟨z1, z2⟩ := getD_none e2
    have hm : j' ∈ List.range (m + 1) := List.mem_range.mpr (by omega)
    obtain ⟨o', r1, r2, r3⟩ := laid_fold c hs (owner.setIfInBounds j' (some k)) (k + 1) (by simp [h1]) (by
      refine ((lives_put z1 z2 List.nodup_range).1 hm).trans ?_
      rw [List.range_succ (n := k)]
      exact (h2.cons k).trans (List.perm_append_singleton k _).symm) (by omega)
    refine ⟨o', ?_, r2, by rw [List.length_cons, show k + (hs.length + 1) = k + 1 + hs.length by omega]; exact r3⟩
    rw [List.foldl_cons]
    have e0 : (do let (owner, k) ← (some (owner, k) : Option (Array (Option Nat) × Nat)); let j ← layClean.free m owner (turns m) (bits h % (m + 1)) (bits h); pure (owner.setIfInBounds j (some k), k + 1)) = some (owner.setIfInBounds j' (some k), k + 1) := by
      show (layClean.free m owner (turns m) (bits h % (m + 1)) (bits h)).bind _ = _
      rw [e1]
      rfl
    rw [e0, r1]
    congr 2
    simp only [List.length_cons]
    omega
theorem laid_ok {m f v : Nat} {led pl : Bool} {hs : Array Int} (c : covers m = true) (hz : hs.size ≤ m) : ∃ pl' order, laid m f v led pl hs = some (⟨m, pl', #[], f, led, v, pl⟩, order) ∧ Rise pl'.toList ∧ pl'.size = hs.size ∧ order.toList.Perm (List.range hs.size) := by
  obtain ⟨o', h1, h2, h3⟩ := laid_fold c hs.toList (Array.replicate (m + 1) none) 0 (by simp) (by
    have : livesOf (Array.replicate (m + 1) none) (List.range (m + 1)) = [] := by
      unfold livesOf
      rw [List.filterMap_eq_nil_iff]
      intro j hj
      have := List.mem_range.mp hj
      simp [Array.getD, this]
    rw [this]
    exact List.Perm.refl _) (by simp; omega)
  have e : layClean m hs = some o' := by
    unfold layClean
    rw [← Array.foldl_toList]
    have h1' := h1
    rw [Nat.zero_add] at h1'
    first
      | rw [h1']; rfl
      | (erw [h1']; rfl)
  have es : (((List.range (m + 1)).filterMap fun j => (o'.getD j none).map (j, ·)).map (·.2)) = livesOf o' (List.range (m + 1)) := by
    unfold livesOf
    rw [List.map_filterMap]
    congr 1
    funext j
    cases o'.getD j none <;> rfl
  have ef : (((List.range (m + 1)).filterMap fun j => (o'.getD j none).map (j, ·)).map (·.1)) = (List.range (m + 1)).filter fun j => (o'.getD j none).isSome := by
    rw [List.map_filterMap, ← List.filterMap_eq_filter]
    congr 1
    funext j
    cases q : o'.getD j none <;> simp [Option.guard, q]
  refine ⟨(((List.range (m + 1)).filterMap fun j => (o'.getD j none).map (j, ·)).map (·.1)).toArray, (((List.range (m + 1)).filterMap fun j => (o'.getD j none).map (j, ·)).map (·.2)).toArray, ?_, ?_, ?_, ?_⟩
  · unfold laid
    rw [e]
    rfl
  · show Rise (((List.range (m + 1)).filterMap fun j => (o'.getD j none).map (j, ·)).map (·.1))
    rw [ef]
    exact List.Pairwise.filter _ List.pairwise_lt_range
  · have : (((List.range (m + 1)).filterMap fun j => (o'.getD j none).map (j, ·)).map (·.2)).length = hs.size := by
      rw [es, h3.length_eq]
      simp
    simpa using this
  · show (((List.range (m + 1)).filterMap fun j => (o'.getD j none).map (j, ·)).map (·.2)).Perm _
    rw [es]
    simpa using h3
end EoT

end

section
set_option autoImplicit false
set_option maxRecDepth 100000
set_option linter.all false
namespace EoT
open PySem PySem.SetTable EoD Eo
def byT (w : World) : Bool := w.params.followText "set-order"
/-- one entry: where a word stands, and its hash -/
def Ent (prog : Program) (w : World) (h : Heap) (e : Int × Value) (x : W) : Prop := ∃ p, e.2 = .ref p ∧ (wordKind prog w).is h x p ∧ e.1 = (wordKind prog w).hash x
structure Tb (w : World) (n : Nat) (t : SetTable) : Prop where
  sz : t.place.size = n
  dm : t.dummies = #[]
  msk : (t.mask = 7 ∧ n ≤ 4) ∨ (t.mask = 31 ∧ n ≤ 12)
  rise : Rise t.place.toList
  plain : t.plain = true
  led : t.led = !byT w
abbrev setObj (es : Array (Int × Value)) (ep : Nat) (t : SetTable) : Obj := { cls := .type "set", dict := none, data := .set es ep t }
section
variable {prog : Program} {w : World} {A : Around} {E : Value → Shared → Prop} {s : Shared}
theorem fill_of {t : SetTable} (dm : t.dummies = #[]) : t.fill = t.place.size := by unfold fill; rw [dm]; rfl
theorem fits_of {t : SetTable} {n : Nat} (sz : t.place.size = n) (dm : t.dummies = #[]) (h : n ≤ t.mask) : t.fits n = true := by
  unfold SetTable.fits
  rw [fill_of dm, sz]
  simpa using h
theorem Tb.fits {t : SetTable} {n : Nat} (b : Tb w n t) : t.fits n = true := fits_of b.sz b.dm (by rcases b.msk with ⟨h1, h2⟩ | ⟨h1, h2⟩ <;> omega)
theorem Tb.cov {t : SetTable} {n : Nat} (b : Tb w n t) : covers t.mask = true := by
  rcases b.msk with ⟨h1, _⟩ | ⟨h1, _⟩ <;> rw [h1]
  · exact covers7
  · exact covers31
theorem Tb.way {t : SetTable} {n : Nat} (b : Tb w n t) : t.gaveWay = false := by
  unfold SetTable.gaveWay
  rcases b.msk with ⟨h1, _⟩ | ⟨h1, _⟩ <;> rw [h1] <;> rfl
theorem Tb.near {t : SetTable} {n : Nat} (b : Tb w n t) (h : Int) : ∃ k, k < 10 * turns t.mask ∧ Near t (t.probeStart h) k := by
  refine ⟨_, ?_, near_start b.cov ?_ h⟩
  · unfold turns; omega
  · rcases b.msk with ⟨h1, h2⟩ | ⟨h1, h2⟩ <;> rw [b.sz, h1] <;> omega
theorem is_tuple {x : W} {p : Addr} {h : Heap} (hx : (wordKind prog w).is h x p) : ∃ o its n, h.get? p = some o ∧ o.cls = .type "tuple" ∧ o.data = .seq its n ∧ (∀ v ∈ its.toList, carriedByValue v = true) ∧ ItemsAre (biKind prog w) (wkey x) its.toList := by
  obtain ⟨o, its, n, h1, h2, h3, h4⟩ := hx
  exact ⟨o, its, n, h1, h2, h3, h4.byValue, h4⟩
theorem class_no {x : W} {p : Addr} {Q : Bool → Shared → Prop} (hx : (wordKind prog w).is s.heap x p) (q : Q false s) : wpAny (model prog w) A (ofAClassStatement 8 (.ref p)) Q E s := by
  obtain ⟨o, its, n, h1, h2, h3, h4, _⟩ := is_tuple hx
  have ty : s.TypeIs (.ref p) "tuple" := ⟨o, h1, h2⟩
  unfold ofAClassStatement
  refine wpAny_bind (wpAny_typeOf ty ?_)
  change wpAny _ _ (_ >>= _) _ _ s
  refine wpAny_bind (m := (if ("tuple" == "tuple") = true then pure true else isSubtype (.type "tuple") (.type "tuple"))) ?_
  rw [if_pos (show ("tuple" == "tuple") = true from rfl)]
  refine wpAny_pure ?_
  change wpAny _ _ (seqItems? (.ref p) >>= _) _ _ s
  refine wpAny_bind (wpAny_seqItems h1 h3 ?_)
  dsimp only
  refine wpAny_bind ?_
  rw [← Array.forIn_toList]
  refine wpAny_forIn_list _ (fun rest r s' => r.1 = none ∧ s' = s ∧ ∀ v ∈ rest, carriedByValue v = true) _ ?_ ?_ _ _ ⟨rfl, rfl, h4⟩
  · rintro v rest r s' ⟨hr, rfl, hall⟩
    have hv := hall v List.mem_cons_self
    have e : ofAClassStatement 7 v = pure false := by
      cases v with
      | ref a => cases hv
      | _ => first | rfl | simp [ofAClassStatement] | (unfold ofAClassStatement; rfl)
    rw [e]
    refine wpAny_bind (wpAny_pure ?_)
    simp only [Bool.false_eq_true, if_false]
    exact wpAny_pure ⟨rfl, rfl, fun u hu => hall u (List.mem_cons_of_mem _ hu)⟩
  · rintro ⟨r1, r2⟩ s' ⟨hr, rfl, _⟩
    simp only at hr
    subst hr
    exact wpAny_pure q
theorem seen_no {l : List Value} {x : W} {p : Addr} {Q : Bool → Shared → Prop} (hx : (wordKind prog w).is s.heap x p) (hl : ∀ y ∈ l, ∃ z q, y = .ref q ∧ (wordKind prog w).is s.heap z q) (q : Q false s) : wpAny (model prog w) A (searchCouldBeSeen (.ref p) l) Q E s := by
  unfold searchCouldBeSeen
  refine wpAny_bind ?_
  refine wpAny_forIn_list _ (fun rest r s' => r.1 = none ∧ s' = s ∧ ∀ y ∈ rest, ∃ z q, y = Value.ref q ∧ (wordKind prog w).is s.heap z q) _ ?_ ?_ _ _ ⟨rfl, rfl, hl⟩
  · rintro v rest r s' ⟨hr, rfl, hall⟩
    obtain ⟨z, b, rfl, hb⟩ := hall v List.mem_cons_self
    have rest' : ∀ y ∈ rest, ∃ z q, y = Value.ref q ∧ (wordKind prog w).is s'.heap z q := fun u hu => hall u (List.mem_cons_of_mem _ hu)
    dsimp only
    split
    · exact wpAny_pure ⟨rfl, rfl, rest'⟩
    · refine wpAny_bind ((wordKind prog w).quiet hx ?_)
      simp only [Bool.not_true, Bool.false_eq_true, if_false]
      refine wpAny_bind ((wordKind prog w).quiet hb ?_)
      simp only [Bool.not_true, Bool.false_eq_true, if_false]
      refine wpAny_bind (class_no hx ?_)
      simp only [Bool.false_eq_true, if_false]
      refine wpAny_bind (class_no hb ?_)
      simp only [Bool.false_eq_true, if_false]
      exact wpAny_pure ⟨rfl, rfl, rest'⟩
  · rintro ⟨r1, r2⟩ s' ⟨hr, rfl, _⟩
    simp only at hr
    subst hr
    exact wpAny_pure q
theorem value_yes {x : W} {p : Addr} {Q : Bool → Shared → Prop} (hx : (wordKind prog w).is s.heap x p) (q : Q true s) : wpAny (model prog w) A (hashByValue 8 (.ref p)) Q E s := by
  obtain ⟨o, its, n, h1, h2, h3, _, h4⟩ := is_tuple hx
  have ty : s.TypeIs (.ref p) "tuple" := ⟨o, h1, h2⟩
  unfold hashByValue
  refine wpAny_bind (wpAny_specialOf ty F.slot_tuple_hash.lookup ?_)
  change wpAny _ _ (seqItems? (.ref p) >>= _) _ _ s
  refine wpAny_bind (wpAny_seqItems h1 h3 ?_)
  refine wpAny_bind ?_
  change wpAny _ _ (forIn its _ _) _ _ s
  rw [← Array.forIn_toList]
  have good : ∀ {ks : List Int} {vs : List Value}, ItemsAre (biKind prog w) ks vs → ∀ v ∈ vs, hashByValue 7 v = pure true := by
    intro ks vs hv
    induction hv with
    | nil => intro v hv; simp at hv
    | @cons k v' ks vs h1 _ ih =>
      intro v hv
      rcases List.mem_cons.mp hv with rfl | hv
      · rcases biIs_shape h1 with ⟨t, rfl⟩ | ⟨b, rfl, _⟩
        · first | rfl | simp [hashByValue] | (unfold hashByValue; rfl)
        · first | rfl | simp [hashByValue] | (unfold hashByValue; rfl)
      · exact ih v hv
  refine wpAny_forIn_list _ (fun rest r s' => r.1 = none ∧ s' = s ∧ ∀ v ∈ rest, hashByValue 7 v = pure true) _ ?_ ?_ _ _ ⟨rfl, rfl, good h4⟩
  · rintro v rest r s' ⟨hr, rfl, hall⟩
    rw [hall v List.mem_cons_self]
    refine wpAny_bind (wpAny_pure ?_)
    simp only [Bool.not_true, Bool.false_eq_true, if_false]
    exact wpAny_pure ⟨rfl, rfl, fun u hu => hall u (List.mem_cons_of_mem _ hu)⟩
  · rintro ⟨r1, r2⟩ s' ⟨hr, rfl, _⟩
    simp only at hr
    subst hr
    exact wpAny_pure q
/-- the search for a word -/
theorem search_ok {a p : Addr} {x : W} {es : Array (Int × Value)} {ep : Nat} {t : SetTable} (ho : s.heap.get? a = some (setObj es ep t)) (b : Tb w es.size t) (hr : (wordKind prog w).room A) (hx : (wordKind prog w).is s.heap x p) (he : ∀ e ∈ es.toList, ∃ y, Ent prog w s.heap e y)
    {Q : SetFound → Shared → Prop} (k1 : (∃ e ∈ es.toList, Ent prog w s.heap e x) → Q (.there none) s) (k2 : ∀ j, t.slot j = .empty → Q (.free j false) s) :
    ∀ (n fuel : Nat) (st : Option Probe), n < fuel → n < 10 * turns t.mask → (st.getD (t.probeStart ((wordKind prog w).hash x))).dummy = none → Near t (st.getD (t.probeStart ((wordKind prog w).hash x))) n → wpAny (model prog w) A (setSearchFrom a (.ref p) ((wordKind prog w).hash x) true fuel st) Q E s := by
  intro n
  induction n using Nat.strongRecOn with
  | _ n ih =>
    intro fuel st hf hn hd hnear
    obtain ⟨fuel, rfl⟩ : ∃ g, fuel = g + 1 := ⟨fuel - 1, by omega⟩
    rw [setSearchFrom]
    refine wpAny_bind (wpAny_setState_of ho rfl b.fits ?_)
    dsimp only
    rw [b.way]
    simp only [Bool.false_eq_true, if_false]
    refine wpAny_bind (wpAny_pure ?_)
    rcases probe_met b.dm (fun i => (es[i]?.map (·.1)).getD 0) ((wordKind prog w).hash x) n (10 * turns t.mask) _ hd hnear hn with ⟨j, h1, h2⟩ | ⟨j, i, q, n', h1, h2, h3, h4, h5, h6⟩
    · generalize hG : SetTable.probe t _ _ _ = G
      obtain rfl : G = some (.empty j none) := hG.symm.trans h1
      exact wpAny_pure (k2 j h2)
    · generalize hG : SetTable.probe t _ _ _ = G
      obtain rfl : G = some (.candidate j i q) := hG.symm.trans h1
      have hp := slot_live h2
      have hi : i < es.size := by
        rw [← b.sz]
        exact (Array.getElem?_eq_some_iff.mp hp).1
      obtain ⟨y, p', ey, hy, eh⟩ := he es[i] (by simp)
      have seen : ∀ e ∈ ((es.filter (fun z => z.1 == (wordKind prog w).hash x)).toList.map (·.2)), ∃ z q, e = Value.ref q ∧ (wordKind prog w).is s.heap z q := fun e hm => by
        obtain ⟨e', h1, rfl⟩ := List.mem_map.mp hm
        have : e' ∈ es.toList := by
          have h1' : e' ∈ es ∧ e'.1 = (wordKind prog w).hash x := by simpa using h1
          simpa using h1'.1
        obtain ⟨z, q', h3, h4, _⟩ := he e' this
        exact ⟨z, q', h3, h4⟩
      have led : ∀ (G : Sem SetFound) (u : String), wpAny (model prog w) A G Q E s → wpAny (model prog w) A (if (!t.led) = true then (do
          let b ← searchCouldBeSeen (.ref p) ((es.filter (fun z => z.1 == (wordKind prog w).hash x)).toList.map (·.2))
          if b = true then do
            unsupported u
            G
          else G) else G) Q E s := fun G u hG => by
        split
        · refine wpAny_bind (seen_no hx seen ?_)
          simp only [Bool.false_eq_true, if_false]
          exact hG
        · exact hG
      dsimp only
      refine led _ _ ?_
      rw [Array.getElem?_eq_getElem hi]
      have e2 : es[i] = (es[i].1, Value.ref p') := Prod.ext rfl ey
      rw [e2]
      dsimp only
      refine wpAny_bind (wpAny_holding ((wordKind prog w).eqBool hr hy hx ?_))
      refine wpAny_bind (wpAny_setState_of ho rfl b.fits ?_)
      dsimp only
      by_cases c : y = x
      · subst c
        rw [decide_eq_true rfl]
        simp only [Bool.and_self, if_true]
        exact wpAny_pure (k1 ⟨es[i], by simp, p', ey, hy, eh⟩)
      · rw [decide_eq_false c]
        simp only [Bool.and_false, Bool.false_eq_true, if_false]
        have sm : t.sameMemory t.moves t.mask = some true := by
          unfold sameMemory
          rw [if_pos (by simp)]
        rw [sm]
        dsimp only
        rw [if_pos rfl, h2]
        dsimp only
        rw [Array.getElem?_eq_getElem hi, e2]
        dsimp only
        refine wpAny_bind (wpAny_isSame_ref_self ?_)
        refine wpAny_bind (wpAny_pure ?_)
        rw [if_pos rfl]
        dsimp only
        exact ih n' h5 fuel (some q) (by omega) (by omega) h4 h6
theorem byScan_no {p : Addr} {es : Array (Int × Value)} : byScan (.ref p) es = false := rfl
structure SetAt (prog : Program) (w : World) (h : Heap) (a : Addr) (es : Array (Int × Value)) : Prop where
  ex : ∃ ep t, h.get? a = some (setObj es ep t) ∧ Tb w es.size t
  ents : ∀ e ∈ es.toList, ∃ y, Ent prog w h e y
theorem get_put {h : Heap} {a : Addr} {es es' : Array (Int × Value)} {ep : Nat} {t t' : SetTable} (ho : h.get? a = some (setObj es ep t)) : (h.update a (Obj.putSet es' t')).get? a = some (setObj es' (ep + 1) t') := by
  have := Heap.get?_update_self (Obj.putSet es' t') ho (by rw [putSet_of es' t' rfl]; rfl)
  rw [putSet_of es' t' rfl] at this
  exact this
theorem is_keep {h h' : Heap} {x : W} {p a : Addr} {es : Array (Int × Value)} {ep : Nat} {t : SetTable} (ho : h.get? a = some (setObj es ep t)) (k : ∀ b o, b ≠ a → h.get? b = some o → h'.get? b = some o) (hx : (wordKind prog w).is h x p) : (wordKind prog w).is h' x p := by
  obtain ⟨o, its, n, h1, h2, h3⟩ := hx
  refine ⟨o, its, n, k p o (fun z => ?_) h1, h2, h3⟩
  subst z
  rw [ho] at h1
  cases h1
  have h2' : Value.type "set" = Value.type "tuple" := h2
  injection h2' with h2'
  exact absurd h2' (by decide)
theorem ent_keep {h h' : Heap} {e : Int × Value} {x : W} {a : Addr} {es : Array (Int × Value)} {ep : Nat} {t : SetTable} (ho : h.get? a = some (setObj es ep t)) (k : ∀ b o, b ≠ a → h.get? b = some o → h'.get? b = some o) (hx : Ent prog w h e x) : Ent prog w h' e x :=
  let ⟨p, h1, h2, h3⟩ := hx; ⟨p, h1, is_keep ho k h2, h3⟩
theorem relay_ok {a : Addr} {es : Array (Int × Value)} {ep : Nat} {t : SetTable} {Q : Unit → Shared → Prop} (ho : s.heap.get? a = some (setObj es ep t)) (h5 : es.size = 5) (hf : t.fits es.size = true) (hpl : t.plain = true) (hld : t.led = !byT w)
    (q : ∀ es' t', es'.toList.Perm es.toList → Tb w es'.size t' → Q () { s with heap := s.heap.update a (Obj.putSet es' t') }) : wpAny (model prog w) A (setRelay a 20) Q E s := by
  unfold setRelay
  refine wpAny_bind (wpAny_setState_of ho rfl hf ?_)
  dsimp only
  rw [if_neg (show ¬ SetTable.sizeAbove 20 > sizeLine by rw [sizeLine_eq]; decide)]
  obtain ⟨pl, order, h1, h2, h3, h4⟩ := laid_ok (m := 31) (f := t.finger) (v := t.movedTo 31) (led := t.led) (pl := t.plain) (hs := es.map (·.1)) covers31 (by simp [h5])
  have e1 : t.relaid (es.map (·.1)) 20 = some (⟨31, pl, #[], t.finger, t.led, t.movedTo 31, t.plain⟩, order) := h1
  rw [e1]
  have pm : (order.filterMap (es[·]?)).toList.Perm es.toList := by
    rw [Array.toList_filterMap]
    refine (h4.filterMap _).trans ?_
    rw [Array.size_map, filterMap_getElem?_range]
  have sz : (order.filterMap (es[·]?)).size = es.size := by rw [← Array.length_toList, pm.length_eq, Array.length_toList]
  have re : ∀ (u : String) (R : Array (Int × Value) × SetTable → Shared → Prop), R (order.filterMap (es[·]?), ⟨31, pl, #[], t.finger, t.led, t.movedTo 31, t.plain⟩) s → wpAny (model prog w) A (do
      if (order.filterMap (es[·]?)).size != es.size then unsupported u
      pure (order.filterMap (es[·]?), (⟨31, pl, #[], t.finger, t.led, t.movedTo 31, t.plain⟩ : SetTable))) R E s := fun u R hR => by
    rw [sz]
    simp only [bne_self_eq_false, Bool.false_eq_true, if_false]
    exact wpAny_pure hR
  refine wpAny_bind (re _ _ ?_)
  dsimp only
  refine wpAny_storeSet_of ho rfl (q _ _ pm ?_) (by rw [sz, h5, sizeLine_eq]; decide)
  rw [sz]
  refine ⟨by rw [h3, Array.size_map], rfl, .inr ⟨rfl, by omega⟩, h2, hpl, hld⟩
theorem add_ok {a p : Addr} {x : W} {es : Array (Int × Value)} {Q : Bool → Shared → Prop} (S : SetAt prog w s.heap a es) (hr : (wordKind prog w).room A) (hx : (wordKind prog w).is s.heap x p) (hn : es.size ≤ 10)
    (q : ∀ b h' es', SetAt prog w h' a es' → (∀ c o, c ≠ a → s.heap.get? c = some o → h'.get? c = some o) → es'.size ≤ es.size + 1 → (∀ e ∈ es'.toList, e ∈ es.toList ∨ e.2 = .ref p) → (∀ y, (∃ e ∈ es'.toList, Ent prog w h' e y) ↔ (∃ e ∈ es.toList, Ent prog w s.heap e y) ∨ y = x) → Q b { s with heap := h' }) :
    wpAny (model prog w) A (setAddHashed a (.ref p) ((wordKind prog w).hash x)) Q E s := by
  obtain ⟨⟨ep, t, ho, b⟩, he⟩ := S
  unfold setAddHashed setAddHashedIn
  refine wpAny_holding (wpAny_bind (wpAny_setState_of ho rfl b.fits ?_))
  dsimp only
  rw [byScan_no]
  simp only [Bool.false_eq_true, if_false]
  obtain ⟨k, hk, hnr⟩ := b.near ((wordKind prog w).hash x)
  have m31 : t.mask ≤ 31 := by rcases b.msk with ⟨h, _⟩ | ⟨h, _⟩ <;> omega
  have same : s = { s with heap := s.heap } := by cases s; rfl
  refine wpAny_bind ?_
  unfold setSearch
  refine search_ok ho b hr hx he ?_ ?_ k 100000 none (by unfold turns at hk; omega) hk rfl hnr
  · rintro ⟨e, hm, hE⟩
    dsimp only
    refine wpAny_pure ?_
    rw [same]
    refine q false s.heap es ⟨⟨ep, t, ho, b⟩, he⟩ (fun _ _ _ z => z) (Nat.le_succ _) (fun _ => .inl) fun y => ⟨.inl, fun z => z.elim id fun z => ?_⟩
    subst z
    exact ⟨e, hm, hE⟩
  · intro j hj
    dsimp only
    refine wpAny_bind (wpAny_setState_of ho rfl b.fits ?_)
    dsimp only
    have ejp : j ∉ t.place := slot_empty b.rise hj
    have ed : has t.dummies j = false := by rw [b.dm]; rfl
    have e1 : t.put j = (⟨t.mask, insertAt t.place (below t.place j) j, t.dummies, t.finger, t.led, t.moves, t.plain⟩, below t.place j) := by
      unfold put
      rw [ed]
      rfl
    rw [e1]
    dsimp only
    rw [b.plain, if_pos rfl]
    refine wpAny_bind (value_yes hx ?_)
    simp only [if_true]
    have pme : (insertAt es (below t.place j) ((wordKind prog w).hash x, Value.ref p)).toList.Perm (es.push ((wordKind prog w).hash x, Value.ref p)).toList := insertAt_perm ..
    have sze : (insertAt es (below t.place j) ((wordKind prog w).hash x, Value.ref p)).size = es.size + 1 := by
      rw [← Array.length_toList, pme.length_eq]; simp
    have szp : (insertAt t.place (below t.place j) j).size = es.size + 1 := by
      rw [← Array.length_toList, (insertAt_perm t.place (below t.place j) j).length_eq]; simp [b.sz]
    refine wpAny_bind (wpAny_storeSet_of ho rfl ?_ (by rw [sze, sizeLine_eq]; omega))
    have ho1 := get_put (es' := insertAt es (below t.place j) ((wordKind prog w).hash x, Value.ref p)) (t' := ⟨t.mask, insertAt t.place (below t.place j) j, t.dummies, t.finger, t.led, t.moves, true⟩) ho
    have kp1 : ∀ c o, c ≠ a → s.heap.get? c = some o → (s.heap.update a (Obj.putSet (insertAt es (below t.place j) ((wordKind prog w).hash x, Value.ref p)) ⟨t.mask, insertAt t.place (below t.place j) j, t.dummies, t.finger, t.led, t.moves, true⟩)).get? c = some o := fun c o nc e => by
      rw [Heap.get?_update_other _ _ (Ne.symm nc)]; exact e
    generalize s.heap.update a (Obj.putSet (insertAt es (below t.place j) ((wordKind prog w).hash x, Value.ref p)) ⟨t.mask, insertAt t.place (below t.place j) j, t.dummies, t.finger, t.led, t.moves, true⟩) = h1 at ho1 kp1 ⊢
    have ents : ∀ (h2 : Heap) (es2 : Array (Int × Value)), es2.toList.Perm (es.push ((wordKind prog w).hash x, Value.ref p)).toList → (∀ c o, c ≠ a → s.heap.get? c = some o → h2.get? c = some o) → (∀ e ∈ es2.toList, ∃ y, Ent prog w h2 e y) ∧ ∀ y, (∃ e ∈ es2.toList, Ent prog w h2 e y) ↔ (∃ e ∈ es.toList, Ent prog w s.heap e y) ∨ y = x := fun h2 es2 pm kp => by
      have xk : Ent prog w h2 ((wordKind prog w).hash x, Value.ref p) x := ⟨p, rfl, is_keep ho kp hx, rfl⟩
      have un : ∀ e y z, Ent prog w h2 e y → Ent prog w h2 e z → y = z := fun e y z ⟨p1, a1, a2, _⟩ ⟨p2, b1, b2, _⟩ => by
        rw [a1] at b1
        cases b1
        exact (wordKind prog w).inj a2 b2
      refine ⟨fun e hm => ?_, fun y => ⟨fun ⟨e, hm, hE⟩ => ?_, fun z => ?_⟩⟩
      · rcases (by simpa using pm.mem_iff.mp hm : e ∈ es ∨ e = ((wordKind prog w).hash x, Value.ref p)) with z | z
        · obtain ⟨y, hy⟩ := he e (by simpa using z)
          exact ⟨y, ent_keep ho kp hy⟩
        · subst z
          exact ⟨x, xk⟩
      · rcases (by simpa using pm.mem_iff.mp hm : e ∈ es ∨ e = ((wordKind prog w).hash x, Value.ref p)) with z | z
        · obtain ⟨y', hy'⟩ := he e (by simpa using z)
          have := un e y y' hE (ent_keep ho kp hy')
          subst this
          exact .inl ⟨e, by simpa using z, hy'⟩
        · subst z
          exact .inr (un _ _ _ hE xk)
      · rcases z with ⟨e, hm, hE⟩ | rfl
        · exact ⟨e, pm.mem_iff.mpr (by simp at hm ⊢; exact .inl hm), ent_keep ho kp hE⟩
        · exact ⟨_, pm.mem_iff.mpr (by simp), xk⟩
    have from' : ∀ (es2 : Array (Int × Value)), es2.toList.Perm (es.push ((wordKind prog w).hash x, Value.ref p)).toList → ∀ e ∈ es2.toList, e ∈ es.toList ∨ e.2 = .ref p := fun es2 pm e hm => by
      rcases (by simpa using pm.mem_iff.mp hm : e ∈ es ∨ e = ((wordKind prog w).hash x, Value.ref p)) with z | z
      · exact .inl (by simpa using z)
      · exact .inr (by rw [z])
    have fl : (⟨t.mask, insertAt t.place (below t.place j) j, t.dummies, t.finger, t.led, t.moves, true⟩ : SetTable).tooFull = decide ((es.size + 1) * 5 ≥ t.mask * 3) := by
      have ef : (⟨t.mask, insertAt t.place (below t.place j) j, t.dummies, t.finger, t.led, t.moves, true⟩ : SetTable).fill = es.size + 1 := (fill_of (t := ⟨t.mask, insertAt t.place (below t.place j) j, t.dummies, t.finger, t.led, t.moves, true⟩) b.dm).trans szp
      unfold tooFull
      rw [ef]
    rw [fl]
    by_cases c : (es.size + 1) * 5 ≥ t.mask * 3
    · have e4 : es.size = 4 := by rcases b.msk with ⟨h, h'⟩ | ⟨h, h'⟩ <;> omega
      have m7 : t.mask = 7 := by rcases b.msk with ⟨h, h'⟩ | ⟨h, h'⟩ <;> omega
      rw [decide_eq_true c]
      simp only [Bool.not_false, Bool.and_self, if_true]
      have g20 : SetTable.grown (es.size + 1) = 20 := by rw [e4]; rfl
      rw [g20]
      refine wpAny_bind (relay_ok ho1 (by rw [sze, e4]) (fits_of (by rw [szp, sze]) b.dm (by rw [sze, e4, m7]; decide)) rfl b.led fun es2 t2 pm tb => wpAny_pure ?_)
      have ho2 := get_put (es' := es2) (t' := t2) ho1
      have kp2 : ∀ c o, c ≠ a → s.heap.get? c = some o → (h1.update a (Obj.putSet es2 t2)).get? c = some o := fun c o nc e => by
        rw [Heap.get?_update_other _ _ (Ne.symm nc)]; exact kp1 c o nc e
      obtain ⟨z1, z2⟩ := ents _ es2 (pm.trans pme) kp2
      refine q true _ es2 ⟨⟨_, _, ho2, tb⟩, z1⟩ kp2 ?_ (from' _ (pm.trans pme)) z2
      have := pm.length_eq
      rw [Array.length_toList, Array.length_toList, sze] at this
      omega
    · rw [decide_eq_false c]
      simp only [Bool.and_false, Bool.false_eq_true, if_false]
      refine wpAny_pure ?_
      obtain ⟨z1, z2⟩ := ents _ _ pme kp1
      refine q true _ _ ⟨⟨_, _, ho1, ?_⟩, z1⟩ kp1 (by rw [sze]; exact Nat.le_refl _) (from' _ pme) z2
      rw [sze]
      refine ⟨szp, b.dm, ?_, rise_insert b.rise ejp, rfl, b.led⟩
      rcases b.msk with ⟨h, h'⟩ | ⟨h, h'⟩
      · exact .inl ⟨h, by rw [h] at c; omega⟩
      · exact .inr ⟨h, by omega⟩
end
end EoT

end

section
set_option autoImplicit false
set_option maxRecDepth 100000
set_option linter.all false
namespace EoT
open PySem PySem.SetTable EoD Eo
section
variable {prog : Program} {w : World} {A : Around} {E : Value → Shared → Prop} {s : Shared}
theorem is_keepI {h h' : Heap} {x : W} {p it l : Addr} {i : Nat} (hi : h.IsListIter it l i) (k : ∀ b o, b ≠ it → h.get? b = some o → h'.get? b = some o) (hx : (wordKind prog w).is h x p) : (wordKind prog w).is h' x p := by
  obtain ⟨o, its, n, h1, h2, h3, h4⟩ := hx
  obtain ⟨oi, g1, g2, g3⟩ := hi
  refine ⟨o, its, n, k p o (fun z => ?_) h1, h2, h3, h4⟩
  subst z
  rw [h1] at g1
  cases g1
  rw [h3] at g3
  cases g3
theorem SetAt.keepI {h h' : Heap} {a it l : Addr} {i : Nat} {es : Array (Int × Value)} (S : SetAt prog w h a es) (ne : a ≠ it) (hi : h.IsListIter it l i) (k : ∀ b o, b ≠ it → h.get? b = some o → h'.get? b = some o) : SetAt prog w h' a es :=
  ⟨let ⟨ep, t, h1, h2⟩ := S.ex; ⟨ep, t, k _ _ ne h1, h2⟩, fun e he => let ⟨y, p, h1, h2, h3⟩ := S.ents e he; ⟨y, p, h1, is_keepI hi k h2, h3⟩⟩
theorem loop_ok {R : Result → Shared → Prop} {it l S : Addr} {its : Array Value} {xs : List W} (hh : A.in1.handled = none) (ne : l ≠ it) (nS : S ≠ it) (nL : S ≠ l) (hr : (wordKind prog w).room A.in1) (lx : xs.length = its.size) (hn : its.size ≤ 10) :
    ∀ (k i : Nat) (s : Shared) (es : Array (Int × Value)), its.size - i = k → i ≤ its.size → s.heap.IsListIter it l i → s.heap.IsList l its → SetAt prog w s.heap S es → es.size ≤ i → (∀ e ∈ es.toList, e.2 ∈ its.toList) → (∀ y, (∃ e ∈ es.toList, Ent prog w s.heap e y) ↔ y ∈ xs.take i) →
      (∀ (j : Nat) (x : W), xs[j]? = some x → ∃ p, its[j]? = some (.ref p) ∧ (wordKind prog w).is s.heap x p) →
      (∀ h' tk es', SetAt prog w h' S es' → es'.size ≤ its.size → (∀ e ∈ es'.toList, e.2 ∈ its.toList) → (∀ y, (∃ e ∈ es'.toList, Ent prog w h' e y) ↔ y ∈ xs) → (∀ b o, b ≠ S → b ≠ it → s.heap.get? b = some o → h'.get? b = some o) → R (.ok (.ret .none)) { s with heap := h', toks := tk }) →
      codeAny (model prog w) A (.builtin "set.update.loop" ⟨[.ref S, .ref it], []⟩) R s := by
  intro k
  have wk := Walks.list (prog := prog) (w := w) hh it l ne its
  induction k with
  | zero =>
    intro i s es hk hi st1 st2 sa hz hfr hm hx hR
    have e : i = its.size := by omega
    subst e
    refine codeAny_builtin PyProof.Rows.F.entry_set_update_loop ?_
    rw [Around.under_plainId PyProof.Rows.F.plain_set_update_loop _]
    change wpAny _ A.in1 (pyNext (.ref it) >>= _) _ _ s
    refine wpAny_bind (wk.done s _ _ ⟨st1, st2⟩ fun h' tk kp => ?_)
    have kp' : ∀ b o, b ≠ it → s.heap.get? b = some o → h'.get? b = some o := fun b o nb z => kp b o (by simpa using nb) z
    refine wpAny_pure (hR h' tk es (sa.keepI nS st1 kp') hz hfr (fun y => ?_) fun b o _ nb z => kp' b o nb z)
    have hm' := hm y
    rw [← lx, List.take_length] at hm'
    rw [← hm']
    constructor
    · rintro ⟨e, h1, p, h2, h3, h4⟩
      obtain ⟨y', p', g2, g3, g4⟩ := sa.ents e h1
      rw [h2] at g2
      cases g2
      have := (wordKind prog w).inj h3 (is_keepI st1 kp' g3)
      subst this
      exact ⟨e, h1, p, h2, g3, h4⟩
    · rintro ⟨e, h1, p, h2, h3, h4⟩
      exact ⟨e, h1, p, h2, is_keepI st1 kp' h3, h4⟩
  | succ k ih =>
    intro i s es hk hi st1 st2 sa hz hfr hm hx hR
    have lt : i < its.size := by omega
    refine codeAny_builtin PyProof.Rows.F.entry_set_update_loop ?_
    rw [Around.under_plainId PyProof.Rows.F.plain_set_update_loop _]
    change wpAny _ A.in1 (pyNext (.ref it) >>= _) _ _ s
    refine wpAny_bind (wk.item i s _ _ lt ⟨st1, st2⟩ fun v h1 tk1 hv st kp => ?_)
    have kp' : ∀ b o, b ≠ it → s.heap.get? b = some o → h1.get? b = some o := fun b o nb z => kp b o (by simpa using nb) z
    obtain ⟨x, ex⟩ : ∃ x, xs[i]? = some x := ⟨xs[i]'(by omega), List.getElem?_eq_getElem (by omega)⟩
    obtain ⟨p, ep, hp⟩ := hx i x ex
    rw [ep] at hv
    cases hv
    have hp1 := is_keepI st1 kp' hp
    have sa1 := sa.keepI nS st1 kp'
    change wpAny _ A.in1 (holding [Value.ref p] (setAdd S (.ref p)) >>= _) _ _ _
    refine wpAny_bind (wpAny_holding ?_)
    unfold setAdd
    refine wpAny_holding (wpAny_bind ((wordKind prog w).pyHash hr hp1 ?_))
    refine add_ok (s := { heap := h1, gens := s.gens, drawn := s.drawn, toks := tk1 + (wordKind prog w).draws x, os := s.os }) sa1 hr hp1 (by omega) fun b h2 es2 sa2 kp2 sz2 fr2 mem2 => ?_
    obtain ⟨ep1, t1, ob1, _⟩ := sa1.ex
    have kl : h2.IsList l its := by
      obtain ⟨o, g1, g2⟩ := st.2
      exact ⟨o, kp2 l o (Ne.symm nL) g1, g2⟩
    have ki : h2.IsListIter it l (i + 1) := by
      obtain ⟨o, g1, g2⟩ := st.1
      exact ⟨o, kp2 it o (Ne.symm nS) g1, g2⟩
    refine wpAny_pure ⟨plainId_quiet PyProof.Rows.F.plain_set_update_loop _, ih (i + 1) _ es2 (by omega) lt ki kl sa2 (by omega) (fun e he => (fr2 e he).elim (hfr e) fun z => by rw [z]; exact Array.mem_toList_iff.mpr (Array.mem_of_getElem? ep)) (fun y => ?_) (fun j z hz' => ?_) fun h' tk es' a1 a2 a5 a3 a4 => ?_⟩
    · rw [mem2 y, List.take_add_one, ex, List.mem_append]
      have hm' := hm y
      rw [← hm']
      have e1 : (∃ e ∈ es.toList, Ent prog w h1 e y) ↔ ∃ e ∈ es.toList, Ent prog w s.heap e y := by
        constructor
        · rintro ⟨e, h1', p', h2', h3', h4'⟩
          obtain ⟨y', p'', g2, g3, g4⟩ := sa.ents e h1'
          rw [h2'] at g2
          cases g2
          have := (wordKind prog w).inj h3' (is_keepI st1 kp' g3)
          subst this
          exact ⟨e, h1', p', h2', g3, h4'⟩
        · rintro ⟨e, h1', p', h2', h3', h4'⟩
          exact ⟨e, h1', p', h2', is_keepI st1 kp' h3', h4'⟩
      have e2 : (∃ e ∈ es.toList, Ent prog w { heap := h1, gens := s.gens, drawn := s.drawn, toks := tk1 + (wordKind prog w).draws x, os := s.os : Shared }.heap e y) ↔ ∃ e ∈ es.toList, Ent prog w s.heap e y := e1
      rw [e2]
      simp
    · obtain ⟨p', g1, g2⟩ := hx j z hz'
      exact ⟨p', g1, is_keep ob1 kp2 (is_keepI st1 kp' g2)⟩
    · exact hR h' tk es' a1 a2 a5 a3 fun b o n1 n2 z => a4 b o n1 n2 (kp2 b o n1 (kp' b o n2 z))
/-- a new set, empty -/
abbrev noSet (w : World) : Obj := { cls := .type "set", dict := none, data := .set #[] 0 (.fresh 0 0 (!byT w)) }
theorem new_ok (v : Value) {R : Value → Shared → Prop} (q : R (.ref s.heap.objs.size) { s with heap := s.heap.push (noSet w) }) : codeAny (model prog w) A (.call (.builtin "set.__new__") ⟨[.type "set", v], []⟩) (wants R E) s := by
  refine codeAny_of_tree ?_
  change wpAny _ A.in1 (do checkBuiltinCall "set.__new__" ⟨[.type "set", v], []⟩; again (.builtin "set.__new__" ⟨[.type "set", v], []⟩)) _ _ s
  refine wpAny_bind (wpAny_of_eq (F.newCall_set_1 v) (wpAny_pure ⟨plainId_quiet F.plain_set_new _, codeAny_builtin F.entry_set_new ?_⟩))
  rw [Around.under_plainId F.plain_set_new _]; unfold Builtin.«set.__new__» Builtin.Frozenset.newClass; have self := sub_set_self
  obtain ⟨hp, g, d, tk, os⟩ := s
  dsimp only
  wp_walk
  refine wpAny_askSetting (wpAny_pure ?_); dsimp only; simp only [newObj]; exact wpAny_bind (wpAny_alloc (wpAny_pure (wpAny_pure q)))
set_option maxHeartbeats 3200000 in
theorem call_set {l : Addr} {its : Array Value} {xs : List W} {Q : Value → Shared → Prop} (hh : A.handled = none) (hu : A.units + 16 < cLine) (hl : s.heap.IsList l its) (lx : xs.length = its.size) (hn : its.size ≤ 10) (hx : ∀ (j : Nat) (x : W), xs[j]? = some x → ∃ p, its[j]? = some (.ref p) ∧ (wordKind prog w).is s.heap x p)
    (q : ∀ h' tk es, SetAt prog w h' s.heap.objs.size es → es.size ≤ its.size → (∀ e ∈ es.toList, e.2 ∈ its.toList) → (∀ y, (∃ e ∈ es.toList, Ent prog w h' e y) ↔ y ∈ xs) → (∀ b o, s.heap.get? b = some o → h'.get? b = some o) → Q (.ref s.heap.objs.size) { s with heap := h', toks := tk }) :
    wpAny (model prog w) A (call (.type "set") [.ref l]) Q E s := by
  obtain ⟨c, tl, mro⟩ := F.called_set.mro
  have made := F.called_set.made
  have sub := F.called_set.sub
  refine wpAny_call (codeAny_of_tree ?_); change wpAny _ _ (callAny (.type "set") _) _ _ _
  refine wpAny_pure (a := _) ⟨Code.quiet_builtin _ (by decide +kernel), codeAny_builtin F.entry_type_call ?_⟩; rw [Around.under_plain (weight_type_call_type "set" [.ref l] []) rfl]
  have n1 := F.called_set.notType
  have n2 := F.called_set.canCreate
  have n3 := F.typeCall_set_1 (.ref l); repeat (any_goals (first | assumption | wp_step))
  refine codeAny_mono (new_ok (.ref l) (E := E) (R := fun ob s1 => ob = .ref s.heap.objs.size ∧ s1 = { s with heap := s.heap.push (noSet w) }) ⟨rfl, rfl⟩) fun r s1 hr1 => ?_
  cases r with
  | error e => exact hr1
  | ok fl =>
    cases fl with
    | ret ob =>
      obtain ⟨rfl, rfl⟩ := hr1
      have e0 : (s.heap.push (noSet w)).get? s.heap.objs.size = some (noSet w) := Heap.get?_push_size _ rfl
      have ty : Shared.TypeIs { s with heap := s.heap.push (noSet w) } (.ref s.heap.objs.size) "set" := ⟨_, e0, rfl⟩
      have f1 := F.called_set.init.lookup
      have f2 := F.called_set.init.bind (.ref s.heap.objs.size); repeat (any_goals (first | assumption | wp_step))
      refine codeAny_mono (codeAny_call_builtin (R := wants (fun r s2 => r = .none ∧ ∃ h' tk es, s2 = { s with heap := h', toks := tk } ∧ SetAt prog w h' s.heap.objs.size es ∧ es.size ≤ its.size ∧ (∀ e ∈ es.toList, e.2 ∈ its.toList) ∧ (∀ y, (∃ e ∈ es.toList, Ent prog w h' e y) ↔ y ∈ xs) ∧ ∀ b o, s.heap.get? b = some o → h'.get? b = some o) E) F.called_set.init.plain F.entry_set_init (check_set_init_1 ty ?_)) fun r2 s2 hr2 => ?_
      · obtain ⟨ol, ho, hc, nl, hd⟩ := hl
        obtain ⟨oc, odi, oda, osl⟩ := ol
        simp only at hc hd
        subst hc; subst hd
        have g1 : (s.heap.push (noSet w)).get? l = some { cls := .type "list", dict := odi, data := .seq its nl, slots := osl } := Heap.get?_push_of_some _ ho
        have b1 := F.sub_list_set
        have b2 := F.sub_list_frozenset
        have b3 : (Value.type "list" == Value.type "dict") = false := by decide
        have li : (s.heap.push (noSet w)).IsList l its := ⟨_, g1, rfl, nl, rfl⟩
        unfold Builtin.«set.__init__» noKeywords Builtin.Frozenset.updateFrom; generalize hPI : pyIter = PI
        wp_walk
        subst hPI
        refine wpAny_pyIter_list li ?_; refine wpAny_bind (wpAny_runValue ?_)
        have lt : l < s.heap.objs.size := Heap.lt_size ho
        have z1 : (s.heap.push (noSet w)).objs.size = s.heap.objs.size + 1 := Heap.size_push ..
        have free3 : A.in1.in1.in1.handled = none := by simp [hh]
        have dom : ∀ (b : Addr) (o : Obj), s.heap.get? b = some o → ((s.heap.push (noSet w)).push { cls := .type "list_iterator", data := .fields #[.ref l, .int 0 0] }).get? b = some o := fun b o e => Heap.get?_push_of_some _ (Heap.get?_push_of_some _ e)
        refine loop_ok (A := A.in1.in1) (l := l) (its := its) (xs := xs) (S := s.heap.objs.size) (it := (s.heap.push (noSet w)).objs.size) free3 (by rw [z1]; exact Nat.ne_of_lt (Nat.lt_succ_of_lt lt)) (by rw [z1]; exact Nat.ne_of_lt (Nat.lt_succ_self _)) (Nat.ne_of_gt lt) (by show A.units + 1 + 1 + 1 < cLine; omega) lx hn (its.size - 0) 0 _ #[] (by omega) (Nat.zero_le _) ⟨_, Heap.get?_push_size _ rfl, rfl, rfl⟩ (li.push _) ⟨⟨0, _, Heap.get?_push_of_some _ e0, ?_⟩, fun e he => by simp at he⟩ (Nat.le_refl _) (fun e he => by simp at he) (fun y => by simp) (fun j x hj => ?_) fun h' tk es a1 a2 a5 a3 a4 => ?_
        · exact ⟨rfl, rfl, .inl ⟨rfl, Nat.zero_le _⟩, List.Pairwise.nil, rfl, rfl⟩
        · obtain ⟨p, h1, o, i', n', h2, h3⟩ := hx j x hj
          exact ⟨p, h1, o, i', n', dom _ _ h2, h3⟩
        · change wpAny _ _ _ _ _ _
          refine wpAny_pure ?_
          change wpAny _ _ (ret Value.none) _ _ _
          refine wpAny_pure ⟨rfl, h', tk, es, rfl, a1, a2, a5, a3, fun b o e => a4 b o (Nat.ne_of_lt (Heap.lt_size e)) (by rw [z1]; exact Nat.ne_of_lt (Nat.lt_succ_of_lt (Heap.lt_size e))) (dom b o e)⟩
      · cases r2 with
        | error e => exact hr2
        | ok fl2 =>
          cases fl2 with
          | ret v =>
            obtain ⟨rfl, h', tk, es, rfl, a1, a2, a5, a3, a4⟩ := hr2
            (repeat (any_goals (first | assumption | wp_step))); exact q _ _ es a1 a2 a5 a3 a4
          | _ => exact hr2.elim
    | _ => exact hr1.elim
end
end EoT

end

section
set_option autoImplicit false
set_option maxRecDepth 100000
set_option linter.all false
namespace EoT
open PySem PySem.SetTable EoD Eo
theorem si_owner : Manifest.owners.lookup (String.ofList ['r', 'o', 't', 'a', 'r', 'e', 't', 'i', '_', 't', 'e', 's'].reverse) = some Manifest.sig_set_iterator := by kernel_rfl
theorem si_next : Slot "set_iterator" "__next__" "set_iterator.__next__" :=
  .of (owner := "set_iterator") (n := "__next__") (by rw [typeLookup_type, builtinLookup_eq_fast]; kernel_rfl) (by decide +kernel) (by decide +kernel) (by decide +kernel) (by first | exact .inl (by decide +kernel) | exact .inr (by decide +kernel)) (by rw [isSubtype_type]; kernel_rfl)
theorem si_iter : Slot "set_iterator" "__iter__" "set_iterator.__iter__" :=
  .of (owner := "set_iterator") (n := "__iter__") (by rw [typeLookup_type, builtinLookup_eq_fast]; kernel_rfl) (by decide +kernel) (by decide +kernel) (by decide +kernel) (by first | exact .inl (by decide +kernel) | exact .inr (by decide +kernel)) (by rw [isSubtype_type]; kernel_rfl)
theorem en_next : entryFor table "set_iterator.__next__" = some Builtin.«set_iterator.__next__» := entryFor_of_tree (by kernel_rfl)
theorem en_iter : entryFor table "set_iterator.__iter__" = some Builtin.«dict_keyiterator.__iter__» := entryFor_alias (id' := "dict_keyiterator.__iter__") (by kernel_rfl) rfl (by decide +kernel) (by kernel_rfl)
theorem ar_next (v : Value) : argsOk "set_iterator.__next__" ⟨[v], []⟩ := by
  unfold argsOk
  rw [signature?_of (id := "set_iterator.__next__") (n := ['_', '_', 't', 'x', 'e', 'n', '_', '_']) (o := ['r', 'o', 't', 'a', 'r', 'e', 't', 'i', '_', 't', 'e', 's']) (by kernel_rfl) si_owner]; kernel_rfl
theorem ar_iter (v : Value) : argsOk "set_iterator.__iter__" ⟨[v], []⟩ := by
  unfold argsOk
  rw [signature?_of (id := "set_iterator.__iter__") (n := ['_', '_', 'r', 'e', 't', 'i', '_', '_']) (o := ['r', 'o', 't', 'a', 'r', 'e', 't', 'i', '_', 't', 'e', 's']) (by kernel_rfl) si_owner]; kernel_rfl
theorem en_set_iter : entryFor table "set.__iter__" = some Builtin.«frozenset.__iter__» := entryFor_alias (id' := "frozenset.__iter__") (by kernel_rfl) rfl (by decide +kernel) (by kernel_rfl)
theorem pick_go {α : Type} (nx : Nat → Nat) : ∀ (f k : Nat) (l : List α) (out : Array α), f = l.length → (pickOrder.go nx f k l out).toList.Perm (out.toList ++ l)
  | 0, k, l, out, h => by
    have : l = [] := List.length_eq_zero_iff.mp h.symm
    subst this
    rw [pickOrder.go, List.append_nil]
  | f + 1, k, l, out, h => by
    have hi : nx k % l.length < l.length := Nat.mod_lt _ (by omega)
    rw [pickOrder.go, List.getElem?_eq_getElem hi]
    dsimp only
    refine (pick_go nx f (k + 1) _ _ (by rw [List.length_eraseIdx_of_lt hi]; omega)).trans ?_
    rw [Array.toList_push, List.append_assoc]
    refine List.Perm.append_left _ ?_
    rw [List.eraseIdx_eq_take_drop_succ]
    refine (List.perm_middle (a := l[nx k % l.length]) (l₁ := l.take (nx k % l.length)) (l₂ := l.drop (nx k % l.length + 1))).symm.trans ?_
    rw [← List.drop_eq_getElem_cons hi, List.take_append_drop]
def ord (w : World) (a : Addr) (ep : Nat) (es : Array (Int × Value)) : Array (Int × Value) := if byT w = true then pickOrder (w.params.setOrder a ep) es else es
theorem ord_perm (w : World) (a : Addr) (ep : Nat) (es : Array (Int × Value)) : (ord w a ep es).toList.Perm es.toList := by
  unfold ord
  split
  · have := pick_go (w.params.setOrder a ep) es.size 0 es.toList #[] (by simp)
    simpa [pickOrder] using this
  · exact List.Perm.refl _
theorem ord_size (w : World) (a : Addr) (ep : Nat) (es : Array (Int × Value)) : (ord w a ep es).size = es.size := by
  rw [← Array.length_toList, (ord_perm w a ep es).length_eq, Array.length_toList]
section
variable {prog : Program} {w : World} {A : Around} {E : Value → Shared → Prop} {s : Shared} {a it : Addr} {es : Array (Int × Value)} {ep i : Nat} {t : SetTable}
theorem byText_ok {Q : Bool → Shared → Prop} (q : Q (byT w) s) : wpAny (model prog w) A setsByText Q E s := by
  unfold setsByText
  exact wpAny_bind (wpAny_askSetting (wpAny_pure q))
theorem walk_ok {Q : Array (Int × Value) → Shared → Prop} (ho : s.heap.get? a = some (setObj es ep t)) (b : Tb w es.size t) (hb : byT w = true) (q : Q (ord w a ep es) s) : wpAny (model prog w) A (setWalk a) Q E s := by
  unfold setWalk
  refine wpAny_bind (wpAny_setState_of ho rfl b.fits ?_)
  dsimp only
  refine wpAny_bind (byText_ok ?_)
  rw [hb, if_pos rfl]
  refine wpAny_bind (wpAny_askSetting (wpAny_pure ?_))
  unfold ord at q
  rw [hb, if_pos rfl] at q
  exact q
/-- the next one: at a place below the size; behind the last -/
theorem next_ok {sl : Nat} {Q : Option (Value × Nat) → Shared → Prop} (ho : s.heap.get? a = some (setObj es ep t)) (b : Tb w es.size t) (hs : byT w = false → below t.place sl = i)
    (q1 : ∀ (h : i < (ord w a ep es).size) sl', (byT w = false → below t.place sl' = i + 1) → Q (some ((ord w a ep es)[i].2, sl')) s) (q2 : es.size ≤ i → Q none s) : wpAny (model prog w) A (setNext a sl i ep) Q E s := by
  unfold setNext
  refine wpAny_bind (wpAny_setState_of ho rfl b.fits ?_)
  dsimp only
  refine wpAny_bind (byText_ok ?_)
  have zo := ord_size w a ep es
  cases hb : byT w with
  | true =>
    rw [if_pos rfl]
    simp only [bne_self_eq_false, Bool.false_eq_true, if_false]
    refine wpAny_bind (walk_ok ho b hb (wpAny_pure ?_))
    by_cases hi : i < (ord w a ep es).size
    · rw [Array.getElem?_eq_getElem hi]
      exact q1 hi sl (fun z => by rw [hb] at z; cases z)
    · rw [Array.getElem?_eq_none (by omega)]
      exact q2 (by omega)
  | false =>
    rw [if_neg Bool.false_ne_true]
    have eo : ord w a ep es = es := by unfold ord; rw [hb, if_neg Bool.false_ne_true]
    have ld : t.led = true := by rw [b.led, hb]; rfl
    have dr : ∀ (u : String) (G : Sem (Option (Value × Nat))), wpAny (model prog w) A G Q E s → wpAny (model prog w) A (if (!t.plain && decide (es.size > 1)) = true then (do unsupported u; G) else G) Q E s := fun u G hG => by
      rw [b.plain]
      exact hG
    have ml : ∀ (u : String) (G : Unit → Sem (Option (Value × Nat))), wpAny (model prog w) A (G ()) Q E s → wpAny (model prog w) A ((if (!t.led && !es.isEmpty) = true then unsupported u else pure ()) >>= G) Q E s := fun u G hG => by
      rw [ld]
      exact wpAny_bind (wpAny_pure hG)
    refine dr _ _ (ml _ _ ?_)
    rw [hs hb]
    by_cases hi : i < es.size
    · have hp : i < t.place.size := by rw [b.sz]; exact hi
      rw [Array.getElem?_eq_getElem hi, Array.getElem?_eq_getElem hp]
      have z := q1 (by rw [zo]; exact hi) (t.place[i] + 1) fun _ => below_next b.rise hp
      simp only [eo] at z
      exact wpAny_pure z
    · rw [Array.getElem?_eq_none (by omega)]
      exact wpAny_pure (q2 (by omega))
def SetIt (w : World) (h : Heap) (it a : Addr) (i n ep : Nat) (t : SetTable) : Prop := ∃ (sl : Nat) (o : Obj), h.get? it = some o ∧ o.cls = .type "set_iterator" ∧ o.data = .fields #[.int sl 0, .int i 0, .ref a, .int n 0, .int ep 0] ∧ (byT w = false → below t.place sl = i)
theorem iter_ok {Q : Value → Shared → Prop} (ho : s.heap.get? a = some (setObj es ep t)) (b : Tb w es.size t)
    (q : Q (.ref s.heap.objs.size) { s with heap := s.heap.push { cls := .type "set_iterator", data := .fields #[.int 0 0, .int 0 0, .ref a, .int es.size 0, .int ep 0] } }) : wpAny (model prog w) A (pyIter (.ref a)) Q E s := by
  have ty : s.TypeIs (.ref a) "set" := ⟨_, ho, rfl⟩
  refine wpAny_pyIter_slot ty F.slot_set_iter (wpAny_call_entry F.slot_set_iter ty en_set_iter ?tree (F.args_set_iter_1 _))
  unfold Builtin.«frozenset.__iter__» Builtin.Frozenset.slot0 Builtin.Frozenset.sizeOf setDrawn
  refine wpAny_bind (wpAny_bind (wpAny_pure (wpAny_pure (a := a) ?_)))
  refine wpAny_bind (wpAny_bind (wpAny_setEntries_of ho rfl b.fits (wpAny_pure ?_)))
  refine wpAny_bind (wpAny_bind (wpAny_setState_of ho rfl b.fits ?_))
  dsimp only
  refine wpAny_bind (byText_ok (wpAny_pure ?_))
  have dr : ∀ {R : PySem.Fin → Shared → Prop} (G1 G2 : Sem PySem.Fin), wpAny (model prog w) A.in1 G2 R E s → wpAny (model prog w) A.in1 (if (!byT w && (!t.plain && decide (es.size > 1))) = true then G1 else G2) R E s := fun {R} G1 G2 hG => by
    rw [b.plain, Bool.not_true, Bool.false_and, Bool.and_false]
    exact hG
  refine dr _ _ (wpAny_bind (wpAny_pure (wpAny_bind (wpAny_setEpoch_of ho rfl b.fits (wpAny_bind (m := newFields _ _) ?_)))))
  unfold newFields
  refine wpAny_newObj_type ?_
  exact wpAny_pure ⟨_, rfl, "set_iterator", _, ⟨_, Heap.get?_push_size _ rfl, rfl⟩, si_next.lookup, q⟩
theorem it_item {Q : Option Value → Shared → Prop} (y : SetIt w s.heap it a i es.size ep t) (ho : s.heap.get? a = some (setObj es ep t)) (b : Tb w es.size t) (hi : i < (ord w a ep es).size)
    (q : ∀ h', SetIt w h' it a (i + 1) es.size ep t → Heap.SameBut it s.heap h' → Q (some (ord w a ep es)[i].2) { s with heap := h' }) : wpAny (model prog w) A (pyNext (.ref it)) Q E s := by
  obtain ⟨sl, oi, f1, f2, f3, f4⟩ := id y
  have ty : s.TypeIs (.ref it) "set_iterator" := ⟨oi, f1, f2⟩
  unfold pyNext
  refine wpAny_bind (wpAny_attempt (wpAny_callSpecial?_slot (name := Str.ofString "__next__") ty si_next (wpAny_call_entry si_next ty en_next ?tree (ar_next _))))
  unfold Builtin.«set_iterator.__next__»
  refine wpAny_bind (wpAny_pure (wpAny_bind (wpAny_fieldsOf f1 f3 ?_)))
  dsimp only
  refine wpAny_bind (wpAny_setEntries_of ho rfl b.fits ?_)
  simp only [bne_self_eq_false, Bool.false_eq_true, if_false]
  refine wpAny_bind (next_ok (sl := (sl : Int).toNat) (i := (i : Int).toNat) ho b (fun z => f4 z) (fun h sl' z => ?_) fun z => absurd hi (by rw [ord_size]; simpa using z))
  dsimp only
  have g1 : (s.heap.update it (Obj.mapFields (·.setIfInBounds 0 (rawInt sl')))).get? it = some (oi.mapFields (·.setIfInBounds 0 (rawInt sl'))) := Heap.get?_update_self _ f1 (Obj.isFreed_of_fields (Obj.data_mapFields f3 _))
  have d1 : (oi.mapFields (·.setIfInBounds 0 (rawInt sl'))).data = .fields #[.int sl' 0, .int i 0, .ref a, .int es.size 0, .int ep 0] := by
    rw [Obj.data_mapFields f3]
    simp [rawInt]
  refine wpAny_bind (m := setField (.ref it) 0 (rawInt sl')) (wpAny_setField f1 f3 (by simp) ?_)
  refine wpAny_bind (m := setField (.ref it) 1 (rawInt ((i : Int) + 1))) (wpAny_setField g1 d1 (by simp) ?_)
  refine wpAny_pure ⟨_, rfl, wpAny_pure (q _ ⟨sl', _, Heap.get?_update_self _ g1 (Obj.isFreed_of_fields (Obj.data_mapFields d1 _)), ?_, ?_, fun zz => by simpa using z zz⟩ ?_)⟩
  · rw [Obj.cls_mapFields, Obj.cls_mapFields]; exact f2
  · rw [Obj.data_mapFields d1]
    simp [rawInt]
  · exact (Heap.SameBut.update ..).trans (Heap.SameBut.update ..)
theorem it_end {Q : Option Value → Shared → Prop} (hh : A.handled = none) (y : SetIt w s.heap it a i es.size ep t) (ho : s.heap.get? a = some (setObj es ep t)) (b : Tb w es.size t) (hi : es.size ≤ i) (q : ∀ h', Heap.ExtBut it s.heap h' → Q none { s with heap := h' }) : wpAny (model prog w) A (pyNext (.ref it)) Q E s := by
  obtain ⟨sl, oi, f1, f2, f3, f4⟩ := id y
  have ty : s.TypeIs (.ref it) "set_iterator" := ⟨oi, f1, f2⟩
  unfold pyNext
  refine wpAny_bind (wpAny_attempt (wpAny_callSpecial?_slot (name := Str.ofString "__next__") ty si_next (wpAny_call_entry si_next ty en_next ?tree (ar_next _))))
  unfold Builtin.«set_iterator.__next__»
  refine wpAny_bind (wpAny_pure (wpAny_bind (wpAny_fieldsOf f1 f3 ?_)))
  dsimp only
  refine wpAny_bind (wpAny_setEntries_of ho rfl b.fits ?_)
  simp only [bne_self_eq_false, Bool.false_eq_true, if_false]
  refine wpAny_bind (next_ok (sl := (sl : Int).toNat) (i := (i : Int).toNat) ho b (fun z => f4 z) (fun h sl' z => absurd h (by rw [ord_size]; simpa using hi)) fun z => ?_)
  dsimp only
  refine wpAny_bind (m := setField (.ref it) 2 .none) (wpAny_setField f1 f3 (by simp) (wpAny_bind (m := newExc (.type "StopIteration") []) ?_))
  simp only [newExc, newTuple]
  refine wpAny_bind (wpAny_newObj_type (wpAny_bind (m := firstArgMember _ _) (wpAny_of_eq (a := Value.none) (by first | rfl | (simp only [firstArgMember]; rfl)) (wpAny_newObj_type (h := ?_) (hd := by size_fits)))) (by size_fits))
  simp only [raiseNew]
  refine wpAny_bind (wpAny_handled ?_)
  have h1 : A.in1.handled = none := hh
  rw [h1]
  refine wpAny_bind (wpAny_pure (wpAny_throw ?thrown))
  refine wpAny_bind (wpAny_isInstance (b := true) (T := "StopIteration") ⟨_, Heap.get?_push_size _ rfl, rfl⟩ isSubtype_stop (wpAny_pure (q _ ?_)))
  exact ((Heap.SameBut.update ..).extBut.push _).push _
theorem it_self {Q : Value → Shared → Prop} (y : SetIt w s.heap it a i es.size ep t) (q : Q (.ref it) s) : wpAny (model prog w) A (pyIter (.ref it)) Q E s := by
  obtain ⟨sl, oi, f1, f2, _⟩ := y
  have ty : s.TypeIs (.ref it) "set_iterator" := ⟨oi, f1, f2⟩
  refine wpAny_pyIter_slot ty si_iter (wpAny_call_entry si_iter ty en_iter ?_ (ar_iter _))
  exact wpAny_pure ⟨_, rfl, "set_iterator", _, ty, si_next.lookup, q⟩
theorem set_walks (hh : A.handled = none) (ne : a ≠ it) (b : Tb w es.size t) : Walks prog w A it [it, a] [it] es.size (fun i v => ∃ e, (ord w a ep es)[i]? = some e ∧ v = e.2) (fun i h => SetIt w h it a i es.size ep t ∧ h.get? a = some (setObj es ep t)) where
  sub := fun c hc => by
    rw [List.mem_singleton.mp hc]
    simp
  frame := fun _ _ _ st k => ⟨let ⟨sl, o, e, r⟩ := st.1; ⟨sl, o, k it (by simp) o e, r⟩, k a (by simp) _ st.2⟩
  item := fun i s Q E hi st q => it_item st.1 st.2 b (by rw [ord_size]; exact hi) fun h' y sb => by
    have other : ∀ c o, c ∉ [it] → s.heap.get? c = some o → h'.get? c = some o := fun c o hc e => sb.extBut c o (fun z => hc (by simp [z])) e
    exact q _ h' s.toks ⟨_, Array.getElem?_eq_getElem (by rw [ord_size]; exact hi), rfl⟩ ⟨y, other a _ (by simpa using ne) st.2⟩ other
  done := fun s Q E st q => it_end hh st.1 st.2 b (Nat.le_refl _) fun h' ex => q h' s.toks fun c o hc e => ex c o (fun z => hc (by simp [z])) e
  self := fun _ _ _ _ st q => it_self st.1 q
end
end EoT

end

section
set_option autoImplicit false
set_option maxRecDepth 100000
namespace EoS
open PySem.W PyProof.Rows
section
variable {n : Nat} {lt : Nat → Nat → Bool}
theorem rev_any {p : Array Nat} (hp : Sh n p) (i j : Nat) : Sh n (kas_rev p i j) := ⟨(mirror_perm p i j _).trans hp.perm⟩
theorem asc_any {p : Array Nat} (hp : Sh n p) : ∀ (f m : Nat), 1 ≤ m → m + f ≤ n → Ok n lt (kas_asc p f m) fun r => m ≤ r ∧ r ≤ n
  | 0, m, _, h => ⟨Nat.le_refl _, by omega⟩
  | f + 1, m, h1, h => by
    refine ⟨hp.lt (by omega), hp.lt (by omega), ?_⟩
    change Ok n lt (if _ = true then _ else _) _
    split
    · exact ⟨Nat.le_refl _, by omega⟩
    · exact Ok.mono (fun r z => ⟨by omega, z.2⟩) (asc_any hp f (m + 1) (by omega) (by omega))
theorem desc_any : ∀ (f : Nat) (p : Array Nat) (m q : Nat), Sh n p → 1 ≤ m → m + f ≤ n → Ok n lt (kas_desc f p m q) fun r => Sh n r.1 ∧ 1 ≤ r.2.1 ∧ r.2.1 ≤ n
  | 0, p, m, q, hp, h1, h => ⟨hp, h1, by show m ≤ n; omega⟩
  | f + 1, p, m, q, hp, h1, h => by
    refine ⟨hp.lt (by omega), hp.lt (by omega), ?_⟩
    change Ok n lt (if _ = true then _ else _) _
    split
    · split
      · exact desc_any f _ (m + 1) 0 (rev_any hp _ _) (by omega) (by omega)
      · exact desc_any f p (m + 1) 0 hp (by omega) (by omega)
    · refine ⟨hp.lt (by omega), hp.lt (by omega), ?_⟩
      change Ok n lt (if _ = true then _ else _) _
      split
      · exact ⟨hp, h1, by show m ≤ n; omega⟩
      · exact desc_any f p (m + 1) (q + 1) hp (by omega) (by omega)
theorem tail_any {p : Array Nat} {m : Nat} (hp : Sh n p) (h1 : 1 ≤ m) (h : m ≤ n) : Ok n lt (kas_tail3 m n p) fun r => Sh n r.2 ∧ 1 ≤ r.1 ∧ r.1 ≤ n := by
  unfold kas_tail3
  exact Ok.bind (Ok.mono (fun r z => ⟨rev_any hp _ _, by show 1 ≤ r; omega, z.2⟩) (asc_any (rev_any hp _ _) (n - m) m h1 (by omega)))
theorem part_any {p : Array Nat} {m : Nat} (hp : Sh n p) (h1 : 1 ≤ m) (h : m + 1 ≤ n) : Ok n lt (kas_descPart m n p) fun r => Sh n r.2 ∧ 1 ≤ r.1 ∧ r.1 ≤ n := by
  unfold kas_descPart
  refine Ok.bind (Ok.mono (fun r z => ?_) (desc_any (n - (m + 1)) p (m + 1) 0 hp (by omega) (by omega)))
  split
  · exact tail_any (rev_any z.1 _ _) z.2.1 z.2.2
  · exact tail_any z.1 z.2.1 z.2.2
theorem count_any {p : Array Nat} (hp : Sh n p) (h2 : 2 ≤ n) : Ok n lt (kas_count n p) fun r => Sh n r.2 ∧ 1 ≤ r.1 ∧ r.1 ≤ n := by
  unfold kas_count
  refine Ok.bind (Ok.mono (fun r z => ?_) (asc_any hp (n - 1) 1 (Nat.le_refl _) (by omega)))
  split
  · exact ⟨hp, z⟩
  · rename_i c
    have ne : r ≠ n := by simpa using c
    split
    · refine ⟨hp.lt (by omega), hp.lt (by omega), ?_⟩
      change Ok n lt (if _ = true then _ else _) _
      split
      · exact ⟨hp, z⟩
      · exact part_any (rev_any hp _ _) z.1 (by omega)
    · exact part_any hp z.1 (by omega)
theorem place_any {p : Array Nat} (hp : Sh n p) {k : Nat} (hk : k < n) : ∀ (f l r : Nat), l ≤ k → r ≤ k → Ok n lt (kas_place p k f l r) fun l' => l' ≤ k
  | 0, l, r, h1, _ => h1
  | f + 1, l, r, h1, h2 => by
    unfold kas_place
    split
    · exact h1
    · refine ⟨hp.lt hk, hp.lt (by omega), ?_⟩
      change Ok n lt (if _ = true then _ else _) _
      split
      · exact place_any hp hk f l _ h1 (by omega)
      · exact place_any hp hk f _ r (by omega) h2
theorem bin_any : ∀ (f : Nat) (p : Array Nat) (k : Nat), Sh n p → k + f ≤ n → Ok n lt (kas_bin f p k) fun q => Sh n q
  | 0, p, k, hp, _ => hp
  | f + 1, p, k, hp, h => by
    unfold kas_bin
    exact Ok.bind (Ok.mono (fun l _ => bin_any f _ (k + 1) (bub_sh hp k _) (by omega)) (place_any hp (show k < n by omega) k 0 k (Nat.zero_le _) (Nat.le_refl _)))
theorem sort_any (h2 : 2 ≤ n) : Ok n lt (kas_sort n) fun p => Sh n p := by
  unfold kas_sort
  refine Ok.bind (Ok.mono (fun r z => ?_) (count_any (p := List.toArray (List.range n)) ⟨Array.Perm.refl _⟩ h2))
  split
  · exact bin_any _ _ _ z.1 (by omega)
  · exact z.1
end
end EoS

end

section
set_option autoImplicit false
set_option maxRecDepth 100000
set_option linter.all false
namespace L2
open PySem PySem.Spec PyProof.Rows EoD Eo EoT
def SO (P : Program) (w : World) (a : Addr) (zs : List (W × Addr)) : HO := .ext fun h => ∃ es ep t, h.get? a = some (setObj es ep t) ∧ Tb w es.size t ∧ es.toList = zs.map fun z => ((wordKind P w).hash z.1, Value.ref z.2)
theorem so_ok {P : Program} {w : World} {H : Hp} {h : Heap} {a : Addr} {zs : List (W × Addr)} {es : Array (Int × Value)} {ep : Nat} {t : SetTable} (e : h.get? a = some (setObj es ep t)) (b : Tb w es.size t) (c : es.toList = zs.map fun z => ((wordKind P w).hash z.1, Value.ref z.2)) : ObjOk P w H h a (SO P w a zs) :=
  ⟨⟨es, ep, t, e, b, c⟩, ⟨_, e⟩, fun h1 h2 ⟨es, ep, t, e, b, c⟩ k => ⟨es, ep, t, k _ e, b, c⟩⟩
/-- the set at a holds the words xs -/
structure SW (P : Program) (w : World) (H : Hp) (a : Addr) (xs : List W) : Prop where
  ex : ∃ zs : List (W × Addr), H a = some (SO P w a zs) ∧ (∀ z ∈ zs, H z.2 = some (.tup [.int z.1.1, .bl z.1.2])) ∧ (∀ x, x ∈ zs.map (·.1) ↔ x ∈ xs) ∧ zs.length ≤ 12
def rSetW (K : PySem.W.Frag) (P : Program) (w : World) : List V → Hp → VK → Prop := fun vs H Q => ∃ a us xs, vs = [.ref a] ∧ SqL K H a us ∧ Ws H us xs ∧ us.length ≤ 10 ∧ ∀ p o, H p = none → SW P w (upd H p o) p xs → Q (.ref p) (upd H p o)
theorem bt_set : bootBuiltins "set" = some (.type "set") := by decide +kernel
theorem vals_at : ∀ {vs : List V} {us : List Value}, Vals vs us → ∀ {i : Nat} {v : V}, vs[i]? = some v → ∃ u, us[i]? = some u ∧ RelV v u
  | _, _, .nil, i, v, h => by simp at h
  | _, _, .cons r t, 0, v, h => by simp at h; subst h; exact ⟨_, rfl, r⟩
  | _, _, .cons r t, i + 1, v, h => by
    obtain ⟨u, h1, h2⟩ := vals_at t (i := i) (v := v) (by simpa using h)
    exact ⟨u, by simpa using h1, h2⟩
section
variable {X : Cx}
theorem call_setW (hc : X.calm = true) (hu : X.A.units + 64 < cLine) : CallR X (.type "set") (rSetW X.K X.prog X.w) := by
  intro pins s σ H xs us Q I r ⟨a, vs, ws, e, hq, hw, hn, q⟩
  subst e
  obtain ⟨u, rfl, ru⟩ := vals1 r
  cases ru
  obtain ⟨its, rv, pl, hz⟩ := I.list hq
  have lw : vs.length = ws.length := Paired.length hw
  have li : vs.length = its.length := rv.length
  have hx : ∀ (j : Nat) (x : W), ws[j]? = some x → ∃ p, its.toArray[j]? = some (.ref p) ∧ H p = some (.tup [.int x.1, .bl x.2]) := fun j x hj => by
    obtain ⟨v, hv, p, rfl, hp⟩ := paired_get' hw hj
    obtain ⟨u, hu', r'⟩ := vals_at rv hv
    cases r'
    exact ⟨p, by simpa using hu', hp⟩
  refine call_set (xs := ws) (I.ok.hd hc) (by omega) pl.isList (by simp; omega) (by simp; omega) (fun j x hj => let ⟨p, h1, h2⟩ := hx j x hj; ⟨p, h1, key_at I h2⟩) fun h' tk es sa sz fr mem kp => ?_
  obtain ⟨⟨ep, t, ob, tb⟩, ents⟩ := sa
  have key : ∀ e ∈ es.toList, ∃ z : W × Addr, e = ((wordKind X.prog X.w).hash z.1, Value.ref z.2) ∧ H z.2 = some (.tup [.int z.1.1, .bl z.1.2]) := fun e he => by
    obtain ⟨y, p, e2, hy, e1⟩ := ents e he
    obtain ⟨j, hj⟩ := List.mem_iff_getElem?.mp (fr e he)
    have hj' : its[j]? = some e.2 := by simpa using hj
    have jl : j < ws.length := by
      have := (List.getElem?_eq_some_iff.mp hj').1
      omega
    obtain ⟨p', h1, h2⟩ := hx j ws[j] (List.getElem?_eq_getElem jl)
    have h1' : its[j]? = some (Value.ref p') := by simpa using h1
    rw [hj', e2] at h1'
    cases h1'
    have k0 : (wordKind X.prog X.w).is h' ws[j] p := by
      obtain ⟨o, i', n', g1, g2⟩ := key_at I h2
      exact ⟨o, i', n', kp _ _ g1, g2⟩
    have := (wordKind X.prog X.w).inj hy k0
    subst this
    exact ⟨(ws[j], p), Prod.ext e1 e2, h2⟩
  have build : ∀ l : List (Int × Value), (∀ e ∈ l, ∃ z : W × Addr, e = ((wordKind X.prog X.w).hash z.1, Value.ref z.2) ∧ H z.2 = some (.tup [.int z.1.1, .bl z.1.2])) → ∃ zs : List (W × Addr), l = zs.map (fun z => ((wordKind X.prog X.w).hash z.1, Value.ref z.2)) ∧ ∀ z ∈ zs, H z.2 = some (.tup [.int z.1.1, .bl z.1.2]) := by
    intro l
    induction l with
    | nil => intro _; exact ⟨[], rfl, fun z hz => by simp at hz⟩
    | cons e l ih =>
      intro hl
      obtain ⟨z, h1, h2⟩ := hl e List.mem_cons_self
      obtain ⟨zs, h3, h4⟩ := ih fun e' he' => hl e' (List.mem_cons_of_mem _ he')
      refine ⟨z :: zs, by rw [List.map_cons, ← h1, ← h3], fun z' hz' => ?_⟩
      rcases List.mem_cons.mp hz' with rfl | hz'
      · exact h2
      · exact h4 z' hz'
  obtain ⟨zs, ez, tz⟩ := build _ key
  have hD : H s.heap.objs.size = none := I.hok.fresh (Nat.le_refl _)
  have tne : ∀ {b : Addr} {o : HO}, H b = some o → b ≠ s.heap.objs.size := fun {b o} e z => by rw [z, hD] at e; cases e
  have lz : zs.length = es.size := by rw [← Array.length_toList, ez, List.length_map]
  refine ⟨.ref s.heap.objs.size, _, I.laid (t' := tk) kp (Nat.le_refl _) (so_ok ob tb ez), rfl, q _ _ hD ⟨zs, upd_same, fun z hz' => ?_, fun x => ?_, ?_⟩⟩
  · rw [upd_ne (tne (tz z hz'))]
    exact tz z hz'
  · rw [← mem x]
    constructor
    · intro hx'
      obtain ⟨z, hz', rfl⟩ := List.mem_map.mp hx'
      refine ⟨_, (by rw [ez]; exact List.mem_map.mpr ⟨z, hz', rfl⟩), z.2, rfl, ?_, rfl⟩
      obtain ⟨o, i', n', g1, g2⟩ := key_at I (tz z hz')
      exact ⟨o, i', n', kp _ _ g1, g2⟩
    · rintro ⟨e, he, p, e2, hy, e1⟩
      rw [ez] at he
      obtain ⟨z, hz', rfl⟩ := List.mem_map.mp he
      cases e2
      have k0 : (wordKind X.prog X.w).is h' z.1 z.2 := by
        obtain ⟨o, i', n', g1, g2⟩ := key_at I (tz z hz')
        exact ⟨o, i', n', kp _ _ g1, g2⟩
      rw [(wordKind X.prog X.w).inj hy k0]
      exact List.mem_map.mpr ⟨z, hz', rfl⟩
  · have : its.toArray.size = its.length := by simp
    omega
end
theorem perm_map_inv {α β : Type} {f : α → β} {l l2 : List β} (h : l.Perm l2) : ∀ {m : List α}, m.map f = l2 → ∃ m' : List α, m'.Perm m ∧ l = m'.map f := by
  induction h with
  | nil =>
    intro m e
    have : m = [] := by simpa using e
    subst this
    exact ⟨[], List.Perm.refl _, rfl⟩
  | cons a _ ih =>
    intro m e
    cases m with
    | nil => simp at e
    | cons b m =>
      simp only [List.map_cons, List.cons.injEq] at e
      obtain ⟨m', h1, h2⟩ := ih e.2
      exact ⟨b :: m', h1.cons b, by rw [List.map_cons, e.1, h2]⟩
  | swap a b l =>
    intro m e
    match m, e with
    | [], e => simp at e
    | [_], e => simp at e
    | x :: y :: m, e =>
      simp only [List.map_cons, List.cons.injEq] at e
      exact ⟨y :: x :: m, List.Perm.swap .., by simp [e.1, e.2.1, e.2.2]⟩
  | trans _ _ ih1 ih2 =>
    intro m e
    obtain ⟨m2, h1, h2⟩ := ih2 e
    obtain ⟨m1, h3, h4⟩ := ih1 h2.symm
    exact ⟨m1, h3.trans h1, h4⟩
theorem hint_set {prog : Program} {w : World} {A : Around} {E : Value → Shared → Prop} {s : Shared} {r : Addr} {Q : Bool → Shared → Prop} (ty : s.TypeIs (.ref r) "set") (q : Q false s) : wpAny (model prog w) A (Builtin.List.listLengthHint (.ref r)) Q E s := by
  unfold Builtin.List.listLengthHint
  refine wpAny_bind (wpAny_specialOf ty PySem.F.slot_set_len.lookup ?_)
  generalize hid : ("set.__len__" : String) = i0
  wp_delta
  rw [show splitId i0 = some ("set", "__len__") from by subst hid; decide +kernel]
  subst hid
  refine wpAny_bind (wpAny_isInstance (T := "set") (b := true) ty (by rw [isSubtype_type]; kernel_rfl) ?_)
  refine wpAny_ite_split (fun z => absurd z (by decide)) (fun _ => ?_)
  refine wpAny_ite_split (fun _ => ?_) (fun z => absurd (by decide +kernel) z)
  exact wpAny_bind (wpAny_typeOf ty (wpAny_pure q))
theorem set_src {prog : Program} {w : World} {a : Addr} {es : Array (Int × Value)} {ep : Nat} {t : SetTable} (b : Tb w es.size t) : PySem.W.KdlSrc prog w "set" a a es.size (fun i v => ∃ e, (ord w a ep es)[i]? = some e ∧ v = e.2) (fun h => h.get? a = some (setObj es ep t)) where
  type := fun s x => ⟨_, x, rfl⟩
  there := fun h x => ⟨Heap.lt_size x, Heap.lt_size x⟩
  keep := fun h h' x k => k a (.inl rfl) _ x
  notList := by decide
  notTuple := by decide
  hint := fun A E s Q x q => hint_set ⟨_, x, rfl⟩ q
  iter := fun A s hh x => ⟨_, _, fun E Q q => iter_ok x b q, set_walks hh (Nat.ne_of_lt (Heap.lt_size x)) b, ⟨⟨0, _, Heap.get?_push_size _ rfl, rfl, rfl, fun _ => below_zero b.rise⟩, Heap.get?_push_of_some _ x⟩⟩
def rSortedS (P : Program) (w : World) : List V → Hp → VK → Prop := fun vs H Q => ∃ a xs, vs = [.ref a] ∧ SW P w H a xs ∧ xs ≠ [] ∧ ∀ l us ys, H l = none → Ws H us ys → (∀ x, x ∈ ys ↔ x ∈ xs) → us.length ≤ 12 → Q (.ref l) (upd H l (.lst us))
section
variable {X : Cx}
theorem call_sortedS (hc : X.calm = true) : CallR X (.builtin "sorted") (rSortedS X.prog X.w) := by
  intro pins s σ H xs us Q I r ⟨a, ws, e, d, ne, q⟩
  subst e
  obtain ⟨u, rfl, ru⟩ := vals1 r
  cases ru
  obtain ⟨zs0, eH, tz, mem, z12⟩ := d.ex
  obtain ⟨⟨es, ep, t, ob, tb, ez⟩, _⟩ := (show ObjOk X.prog X.w H s.heap a (SO X.prog X.w a zs0) from I.hok a _ eH)
  obtain ⟨zs, pz, eo⟩ := perm_map_inv ((ord_perm X.w a ep es).trans (by rw [ez])) (m := zs0) rfl
  have tz : ∀ z ∈ zs, H z.2 = some (.tup [.int z.1.1, .bl z.1.2]) := fun z hz => tz z (pz.mem_iff.mp hz)
  have mem : ∀ x, x ∈ zs.map (·.1) ↔ x ∈ ws := fun x => ((pz.map (·.1)).mem_iff).trans (mem x)
  have z12 : zs.length ≤ 12 := by rw [pz.length_eq]; exact z12
  have n1 : 1 ≤ zs.length := by
    cases zs with
    | nil =>
      obtain ⟨x, hx⟩ := List.exists_mem_of_ne_nil ws ne
      have := (mem x).2 hx
      simp at this
    | cons _ _ => simp
  have hsz : es.size = zs.length := by rw [← ord_size X.w a ep es, ← Array.length_toList, eo, List.length_map]
  obtain ⟨m, F⟩ := I.fr
  have ysL : (zs.map fun z => (z.1, z.2, Value.none)).length = zs.length := List.length_map ..
  have tup : ∀ y ∈ (zs.map fun z => (z.1, z.2, Value.none)), TupAt s.heap y := fun y hy => by
    obtain ⟨z, hz, rfl⟩ := List.mem_map.mp hy
    obtain ⟨_, its, rv, o', g1, g2, n, g3⟩ := (show ObjOk X.prog X.w H s.heap z.2 (.tup _) from I.hok _ _ (tz z hz))
    obtain ⟨u1, u2, rfl, ⟨tk, rfl⟩, rb⟩ := vals2 rv
    cases rb
    exact ⟨o', _, n, tk, g1, g2, g3, rfl⟩
  refine PySem.W.kdu_sorted (set_src tb) (I.ok.hd hc) F (news_all (g := X.base) (h := s.heap) (L := X.env.locals)) ob (by rw [hsz, sizeLine_eq]; omega) fun D h1 tk vs F1 N1 lt1 hl hv => ?_
  have evs : vs = zs.map fun z => Value.ref z.2 := by
    apply List.ext_getElem?
    intro i
    cases z : vs[i]? with
    | none =>
      have : vs.length ≤ i := List.getElem?_eq_none_iff.mp z
      rw [List.getElem?_eq_none_iff.mpr (by rw [List.length_map]; omega)]
    | some v =>
      obtain ⟨en, g1, g2⟩ := hv i v z
      rw [← Array.getElem?_toList, eo, List.getElem?_map] at g1
      obtain ⟨y, g3, g4⟩ := Option.map_eq_some_iff.mp g1
      rw [List.getElem?_map, g3, g2, ← g4]
      rfl
  subst evs
  obtain ⟨nD1, nD2, nD3⟩ := N1 _ (List.mem_cons_self ..)
  have sD : s.heap.get? D = none := by
    cases z : s.heap.get? D with
    | none => rfl
    | some o' => exact absurd (lt1 (D, o') (mem_allNews nD2 nD3 z)) (Nat.lt_irrefl _)
  have lenV : (zs.map fun z => Value.ref z.2).length = zs.length := List.length_map ..
  have fin : ∀ (p : List Nat) (h2 : Heap) (c : Nat), p.Perm (List.range zs.length) → (∀ b o, b ≠ X.env.locals → s.heap.get? b = some o → h2.get? b = some o) → h2.Ns X.env.locals m → h2.get? D = some { cls := .type "list", data := .seq (p.map fun i => (zs.map fun z => Value.ref z.2).getD i Value.none).toArray c } → EP X pins σ Q (.ref D) { s with heap := h2, toks := tk } := by
    intro p h2 c hp k hns e
    have pr : (p.map fun i => zs.getD i ((0, false), 0)).Perm zs := by
      refine (hp.map _).trans ?_
      have : (List.range zs.length).map (fun i => zs.getD i ((0, false), 0)) = zs := List.ext_getElem (by simp) fun i h1 h2 => by simp at h1; simp [List.getD, h1]
      rw [this]
    have ei : (p.map fun i => (zs.map fun z => Value.ref z.2).getD i Value.none) = (p.map fun i => zs.getD i ((0, false), 0)).map fun z => Value.ref z.2 := by
      rw [List.map_map]
      refine List.map_congr_left fun i hi => ?_
      have hi' : i < zs.length := List.mem_range.mp (hp.mem_iff.mp hi)
      simp [List.getD, hi']
    rw [ei] at e
    generalize (p.map fun i => zs.getD i ((0, false), 0)) = ys at pr e
    have rel : ∀ l : List (W × Addr), (∀ z ∈ l, z ∈ zs) → Vals (l.map fun z => V.ref z.2) (l.map fun z => Value.ref z.2) ∧ Ws H (l.map fun z => V.ref z.2) (l.map (·.1)) := by
      intro l
      induction l with
      | nil => intro _; exact ⟨.nil, .nil⟩
      | cons z l ih =>
        intro hl'
        obtain ⟨r1, r2⟩ := ih fun z' hz' => hl' z' (List.mem_cons_of_mem _ hz')
        exact ⟨.cons rfl r1, .cons ⟨z.2, rfl, tz z (hl' z List.mem_cons_self)⟩ r2⟩
    obtain ⟨r1, r2⟩ := rel ys fun z hz => pr.mem_iff.mp hz
    have ly := pr.length_eq
    obtain ⟨hD, I'⟩ := Inv.grew (t' := tk) I sD nD2 k (fun m' hm' => by rw [← ns_one F.ns hm']; exact hns) e r1 (by rw [List.length_map, ly, sizeLine_eq]; omega)
    exact ⟨.ref D, _, I', rfl, q D _ _ hD r2 (fun x => ((pr.map (·.1)).mem_iff).trans (mem x)) (by rw [List.length_map, ly]; exact z12)⟩
  have tailN : News X.base X.env.locals h1 (allNews X.base s.heap X.env.locals) := fun p hp => N1 p (List.mem_cons_of_mem _ hp)
  by_cases one : zs.length = 1
  · obtain ⟨y, ey⟩ := List.length_eq_one_iff.mp one
    subst ey
    refine wpAny_call_entry slot_list_sort ⟨_, nD1, rfl⟩ entry_list_sort (sort_one nD1 fun h2 c g1 g2 => ⟨_, rfl, ?_⟩) (args_list_sort _)
    refine fin [0] h2 c (List.Perm.refl _) (fun b o hb e => g2 b o (fun z => by rw [z, sD] at e; cases e) (news_keep F F1 tailN (fun _ hp => hp) b o hb e)) ?_ g1
    obtain ⟨oL, es', ep', f1, f2⟩ := F1.ns
    exact ⟨oL, es', ep', g2 _ _ nD2.symm f1, f2⟩
  · have two : 2 ≤ (zs.map fun z => Value.ref z.2).length := by rw [lenV]; omega
    refine wpAny_call_entry slot_list_sort ⟨_, nD1, rfl⟩ entry_list_sort (PySem.W.kat_list_sort F1 tailN nD1 nD2 nD3 (fun p hp => Nat.ne_of_lt (lt1 p hp)) two (by rw [lenV]; omega) fun c1 h2 F2 N2 => ?_) (args_list_sort _)
    have k2 := news_keep F F2 N2 fun p hp => List.mem_cons_of_mem _ hp
    have tup2 : ∀ y ∈ (zs.map fun z => (z.1, z.2, Value.none)), TupAt h2 y := fun y hy => by
      obtain ⟨o', its, n, tk', g1, g2⟩ := tup y hy
      obtain ⟨z, hz, rfl⟩ := List.mem_map.mp hy
      exact ⟨o', its, n, tk', k2 _ _ (fun w => by have w : z.2 = _ := w; have := tz z hz; rw [w, I.free] at this; cases this) g1, g2⟩
    obtain ⟨fs, f1, f2, f3⟩ := firsts tup2
    have em : ((zs.map fun z => (z.1, z.2, Value.none)).map fun y : W × Addr × Value => Value.ref y.2.1) = zs.map fun z => Value.ref z.2 := by rw [List.map_map]; rfl
    rw [em] at f2
    refine PySem.W.kat_kind (T := .type "int") f2 (by omega) (fun v hv => ?_) rfl ?_
    · obtain ⟨i, tk', rfl⟩ := f3 v hv
      exact PySem.W.Looks.of_pure rfl
    change (PySem.W.kas_sort (zs.map fun z => Value.ref z.2).length).kasWp (PySem.W.kas_ask X.prog X.w _ (tuples' true) (zs.map fun z => Value.ref z.2)) _ _
    refine EoS.Ok.wp (J := fun s' => s' = { s with heap := h2, toks := tk }) (lt := fun i j => decide (code (zs.getD i ((0, false), 0)).1 < code (zs.getD j ((0, false), 0)).1)) (fun i j C s' hi hj es' hC => ?_) (fun p s' hp es' => ?_) _ _ (EoS.sort_any two) rfl
    · subst es'
      rw [lenV] at hi hj
      change wpAny _ _ (keyLt' (tuples' true) ((zs.map fun z => Value.ref z.2).getD i Value.none) ((zs.map fun z => Value.ref z.2).getD j Value.none)) C _ _
      rw [getD_map hi, getD_map hj]
      obtain ⟨o1, i1, n1', t1, g1, _, g2, g3⟩ := tup2 (zs[i].1, zs[i].2, Value.none) (List.mem_map.mpr ⟨_, List.getElem_mem hi, rfl⟩)
      obtain ⟨o2, i2, n2', t2, g4, _, g5, g6⟩ := tup2 (zs[j].1, zs[j].2, Value.none) (List.mem_map.mpr ⟨_, List.getElem_mem hj, rfl⟩)
      refine word_lt (s := { s with heap := h2, toks := tk }) (x := zs[i].1) (y := zs[j].1) g1 g2 g3 g4 g5 g6 ?_
      have := hC _ rfl
      simpa [List.getD, hi, hj] using this
    · subst es'
      have pm := hp.perm.toList
      rw [lenV] at pm
      refine PySem.W.KasFin.intro F2 N2 (.head fun p hp => Nat.ne_of_lt (lt1 p hp)) fun h3 c F3 N3 => ⟨_, rfl, ?_⟩
      exact fin p.toList h3 c (by simpa using pm) (news_keep F F3 N3 fun p hp => List.mem_cons_of_mem _ hp) F3.ns (N3 _ List.mem_cons_self).1
end
end L2

end

section
set_option autoImplicit false
set_option maxRecDepth 100000
set_option linter.all false
namespace L2
open PySem PySem.Spec PyProof.Rows EoD Eo
section
variable {X : Cx} {elt iter : Expr} {x x2 : Str} {px px2 pt pos : Pos} {kt : Nat} {ifs : List Expr} {sc : Scope} {wi : TI} {ys : List Str} {js : List Nat} {tc : TT} {te : TE}
theorem ps_comp2 {j : Nat} {y : Str} {py spos : Pos} (hc : (0 : Nat) = 0) (hcm : X.calm = true) (hXN : X.N.Nodup) (hj : X.N[j]? = some y) (hy : X.env.scope.names.lookup y = some .local) (S : ScOk X sc x) (S2 : sc.names.lookup x2 = some .local) (Fo : FreeOk X sc ys js) (hN : (x :: x2 :: ys).Nodup) (hi : PI X (.Tuple [.Name x px, .Name x2 px2] kt pt) iter wi)
    (hifs : ∀ s H fp pins C, PIfs (cxC X (x :: x2 :: ys) sc s H fp pins C) ifs tc) (helt : ∀ s H fp pins C, PE (cxC X (x :: x2 :: ys) sc s H fp pins C) elt te)
    (hsw : swapsWith (.ListComp elt [⟨.Tuple [.Name x px, .Name x2 px2] kt pt, iter, ifs, 0⟩] sc pos) (some (.Name y py)) spos.line X.env = pure true := by rfl) (hs : ∀ v, foldedSetIterable iter X.env v = pure v := by intro _; rfl) :
    PS X (.Assign [.Name y py] (.ListComp elt [⟨.Tuple [.Name x px, .Name x2 px2] kt pt, iter, ifs, 0⟩] sc pos) spos) (tAsg (tComp2 X.K wi js tc te) (gName j)) := by
  intro pins s σ H D I h
  rw [exec_Assign_Name_used _ _ _ _ hsw]
  refine wpAny_bind (wpAny_standAt (wpAny_bind ?_))
  refine wpAny_bind (m := comprehension (.ListComp elt [⟨.Tuple [.Name x px, .Name x2 px2] kt pt, iter, ifs, 0⟩] sc pos) sc X.env _ (newList []) _ _ (some (assign (.Name y py) X.env))) ?_
  refine wpAny_comprehension_free rfl hs (closure_of (S.cells I)) S.kind S.names (comp_core2 (Q := fun v H' => gName j v σ H' D.nx) hc hcm S S2 Fo hN hi hifs helt I h fun E C H' s' m I' hn fo q => ?_)
  refine wpAny_assign_Name (store_ok2 I' hXN hj (.inl hy) (v := .ref E) rfl (fun s3 I3 hs3 => ?_) (.inr hy))
  obtain ⟨a, sb, ha⟩ := hs3
  have neC : C ≠ a := by
    rcases ha with e | e
    · rw [e]; exact fo.2.1
    · exact (fo.2.2.2.2.1 y a e).symm
  refine ⟨m, hn.sameBut sb neC, fun h' sb' => ?_⟩
  have I5 : Inv X pins (σ.set j (some (.ref E))) H' { s3 with heap := h' } := I3.turned (t' := s3.toks) (fun b o ne e => sb'.extBut b o ne e) fo.1 fo.2.1 fo.2.2.2.1 fo.2.2.2.2.1 fo.2.2.2.2.2
  exact wpAny_pure (wpAny_pure ⟨_, H', I5, q⟩)
end
/-- is not, of two truths -/
theorem op_isnotB {X : Cx} : OpR X (compareOp .IsNot) (fun x y H Q => ∃ a b, x = .bl a ∧ y = .bl b ∧ Q (.bl (!decide (a = b))) H) := by
  intro pins s σ H x y v u Q I rx ry h
  obtain ⟨a, b, rfl, rfl, q⟩ := h
  cases rx
  cases ry
  refine wpAny_isNot_plain rfl (fin_bl I q ?_)
  cases a <;> cases b <;> rfl
end L2

end

section
set_option autoImplicit false
set_option maxRecDepth 100000
set_option linter.all false
namespace L2
open PySem PySem.Spec PyProof.Rows EoD Eo
def top (i : Nat) : Stmt := PySem.Challenge.pw_eitheror_k03_whole_keeping.main.body.getD i (.Pass ⟨0, 0, 0, 0⟩)
abbrev S_uninit : Stmt := inClass (top 5) 0
abbrev S_init : Stmt := inClass (top 10) 0
abbrev S_wishes : Stmt := inClass (top 10) 1
abbrev S_chain : Stmt := top 11
abbrev S_disp : Stmt := top 12
abbrev S_num : Stmt := top 13
abbrev S_word : Stmt := top 14
abbrev S_wish : Stmt := top 15
abbrev S_isch : Stmt := top 16
abbrev S_check : Stmt := top 17
abbrev S_has : Stmt := top 18
abbrev S_pls : Stmt := top 19
abbrev S_opp : Stmt := top 20
abbrev S_said : Stmt := top 21
abbrev S_ahead : Stmt := top 22
abbrev S_plinit : Stmt := inClass (top 25) 0
abbrev S_plholds : Stmt := inClass (top 25) 1
abbrev S_toinit : Stmt := inClass (top 26) 0
abbrev S_toholds : Stmt := inClass (top 26) 1
abbrev S_clinit : Stmt := inClass (top 27) 0
abbrev S_clholds : Stmt := inClass (top 27) 1
abbrev S_tell : Stmt := top 28
abbrev S_keep : Stmt := top 29
abbrev S_cwords : Stmt := top 30
abbrev S_cpls : Stmt := top 31
abbrev S_allch : Stmt := top 32
abbrev S_plsch : Stmt := top 33
abbrev S_ftorn : Stmt := top 34
abbrev S_fclash : Stmt := top 35
abbrev S_ischain : Stmt := top 36
abbrev S_leads : Stmt := top 37
abbrev S_cell : Stmt := top 39
abbrev S_draw : Stmt := top 40
abbrev S_told : Stmt := top 41
abbrev S_lword : Stmt := top 42
abbrev S_lnot : Stmt := top 43
abbrev S_lpls : Stmt := top 44
abbrev S_lchoices : Stmt := top 45
abbrev S_lnext : Stmt := top 46
abbrev S_lchain : Stmt := top 47
abbrev S_lwords : Stmt := top 48
abbrev S_l3ref : Stmt := top 50
abbrev S_l3right : Stmt := top 51
abbrev S_law : Stmt := top 52
end L2

end

section
set_option autoImplicit false
set_option maxRecDepth 100000
set_option linter.all false
namespace L2
open PySem PySem.Spec PyProof.Rows EoD Eo
section
variable {P : Program} {w : World} {K : PySem.W.Frag} {mg : Str → Option Value} {base : Heap}
inductive X_sp_num  (vs : List V) (H : Hp) (Q : VK) (E : XK) : Prop
  | mk (i : _) (z_1 : vs = [.int i]) (z_2 : Q (.bl true) H)
def sp_num : Sp := fun vs H Q E => X_sp_num  vs H Q E
theorem sc_num : FnScope ["value"] ["value"] (defScope S_num) := ⟨rfl, rfl, rfl, by decide +kernel, rfl, by decide +kernel, by decide +kernel⟩
theorem ok_num (D : Def K mg "is_number" S_num ["value"]) (B : Bare mg) : Cal P w K mg base "is_number" 1 ["value"] sp_num := by
  refine D.cal (k := 0) sc_num (fun vs H Q E h => by obtain ⟨i, rfl, _⟩ := h; rfl) (fun f cdv A outer s H vs Q E hr h => ?_)
  obtain ⟨i, rfl, k⟩ := h
  refine ⟨_, pss_one (ps_ret (pe_and (pe_isin B (pv 0) rfl rfl B.int bt_int) (pe_one (pe_not (pe_isin B (pv 0) rfl rfl B.bool bt_bool))))), ?_⟩
  refine ⟨_, rfl, _, _, _, true, rfl, .int i, rfl, true, rfl, iteT ⟨_, rfl, _, _, _, false, rfl, .int i, rfl, false, rfl, k⟩⟩
inductive X_sp_word  (vs : List V) (H : Hp) (Q : VK) (E : XK) : Prop
  | mk (N : Nat) (v : V) (x : W) (z_1 : vs = [.int N, v]) (z_2 : IsW H v x) (z_3 : InN N x) (z_4 : Q (.bl true) H)
def sp_word : Sp := fun vs H Q E => X_sp_word  vs H Q E
theorem sc_word : FnScope ["names", "value"] ["names", "value"] (defScope S_word) := ⟨rfl, rfl, rfl, by decide +kernel, rfl, by decide +kernel, by decide +kernel⟩
theorem ok_word (D : Def K mg "is_word" S_word ["names", "value"]) (B : Bare mg) (cn : Cal P w K mg base "is_number" 1 ["value"] sp_num) : Cal P w K mg base "is_word" 2 ["names", "value"] sp_word := by
  refine D.cal (k := 1) sc_word (fun vs H Q E h => by obtain ⟨N, v, x, rfl, _⟩ := h; rfl) (fun f cdv A outer s H vs Q E hr h => ?_)
  obtain ⟨N, v, x, rfl, ⟨p, rfl, hp⟩, hx, k⟩ := h
  refine ⟨_, pss_cons (ps_if (PW.pt (pw_or (pt_not (pt_val (pe_isin B (pv 1) rfl rfl B.tup bt_tuple))) (pw_or1 (pt_cmpR op_ne (pe_callB call_len_seq rfl B.len bt_len (pa_cons (pv 1) pa_nil)) pe_int (nomark _))))) (pss_one (ps_ret pe_bl)) pss_nil)
    (pss_one (ps_ret (pe_and (pe_cal cn hr rfl (pa_cons (pe_ix ix_tup (pv 1) pe_int (fun _ _ => rfl)) pa_nil)) (pe_and (pe_chain op_le op_lt pe_int (pe_ix ix_tup (pv 1) pe_int (fun _ _ => rfl)) (pv 0)) (pe_one (pe_isin B (pe_ix ix_tup (pv 1) pe_int (fun _ _ => rfl)) rfl rfl B.bool bt_bool)))))), ?_⟩
  have h0 : atI [V.int x.1, V.bl x.2] 0 = some (V.int x.1) := rfl
  have h1 : atI [V.int x.1, V.bl x.2] 1 = some (V.bl x.2) := rfl
  refine ⟨_, rfl, _, _, _, true, rfl, .tup hp, rfl, true, rfl, iteF ⟨_, rfl, p, _, rfl, .inr (SqT.of hp), rfl, _, rfl, iteNS rfl ?_⟩⟩
  refine ⟨_, rfl, p, _, 0, _, rfl, rfl, SqT.of hp, h0, x.1, rfl, true, rfl, iteT ?_⟩
  refine ⟨_, rfl, p, _, 0, _, rfl, rfl, SqT.of hp, h0, ?_⟩
  refine ⟨_, _, rfl, rfl, _, rfl, iteP hx.1 ⟨_, rfl, _, _, rfl, rfl, _, rfl, iteP hx.2 ?_⟩⟩
  exact ⟨_, rfl, p, _, 1, _, rfl, rfl, SqT.of hp, h1, _, _, _, true, rfl, .bl _, rfl, k⟩
inductive X_sp_wish  (vs : List V) (H : Hp) (Q : VK) (E : XK) : Prop
  | mk (N : Nat) (v : V) (x : W × W) (z_1 : vs = [.int N, v]) (z_2 : IsP H v x) (z_3 : InN N x.1) (z_4 : InN N x.2) (z_5 : Q (.bl true) H)
def sp_wish : Sp := fun vs H Q E => X_sp_wish  vs H Q E
theorem sc_wish : FnScope ["names", "value"] ["names", "value"] (defScope S_wish) := ⟨rfl, rfl, rfl, by decide +kernel, rfl, by decide +kernel, by decide +kernel⟩
theorem ok_wish (D : Def K mg "is_wish" S_wish ["names", "value"]) (B : Bare mg) (cw : Cal P w K mg base "is_word" 2 ["names", "value"] sp_word) : Cal P w K mg base "is_wish" 3 ["names", "value"] sp_wish := by
  refine D.cal (k := 2) sc_wish (fun vs H Q E h => by obtain ⟨N, v, x, rfl, _⟩ := h; rfl) (fun f cdv A outer s H vs Q E hr h => ?_)
  obtain ⟨N, v, x, rfl, ⟨p, a, b, rfl, hp, ha, hb⟩, h1, h2, k⟩ := h
  refine ⟨_, pss_cons (ps_if (PW.pt (pw_or (pt_not (pt_val (pe_isin B (pv 1) rfl rfl B.tup bt_tuple))) (pw_or1 (pt_cmpR op_ne (pe_callB call_len_seq rfl B.len bt_len (pa_cons (pv 1) pa_nil)) pe_int (nomark _))))) (pss_one (ps_ret pe_bl)) pss_nil)
    (pss_one (ps_ret (pe_and (pe_cal cw hr rfl (pa_cons (pv 0) (pa_cons (pe_ix ix_tup (pv 1) pe_int (fun _ _ => rfl)) pa_nil))) (pe_one (pe_cal cw hr rfl (pa_cons (pv 0) (pa_cons (pe_ix ix_tup (pv 1) pe_int (fun _ _ => rfl)) pa_nil))))))), ?_⟩
  have i0 : atI [a, b] 0 = some a := rfl
  have i1 : atI [a, b] 1 = some b := rfl
  refine ⟨_, rfl, _, _, _, true, rfl, .tup hp, rfl, true, rfl, iteF ⟨_, rfl, p, _, rfl, .inr (SqT.of hp), rfl, _, rfl, iteNS rfl ?_⟩⟩
  refine ⟨_, rfl, _, rfl, p, _, 0, _, rfl, rfl, SqT.of hp, i0, N, a, x.1, rfl, ha, h1, true, rfl, iteT ?_⟩
  exact ⟨_, rfl, _, rfl, p, _, 1, _, rfl, rfl, SqT.of hp, i1, N, b, x.2, rfl, hb, h2, k⟩
/-- what the walk asks of the class House -/
structure TxtH (K : PySem.W.Frag) (C : Addr) : Prop where
  cl : Cls K C
  nN : NoAttr K C "names"
  nK : NoAttr K C "kept"
inductive X_sp_check (C : Addr) (vs : List V) (H : Hp) (Q : VK) (E : XK) : Prop
  | mk (h v : V) (N : Nat) (ws : List (W × W)) (x : W) (z_1 : vs = [h, v]) (z_2 : HouseAt C H h N ws) (z_3 : IsW H v x) (z_4 : InN N x) (z_5 : Q .non H)
def sp_check (C : Addr) : Sp := fun vs H Q E => X_sp_check C vs H Q E
theorem sc_check : FnScope ["house", "value"] ["house", "value"] (defScope S_check) := ⟨rfl, rfl, rfl, by decide +kernel, rfl, by decide +kernel, by decide +kernel⟩
theorem ok_check {C : Addr} (D : Def K mg "check_word" S_check ["house", "value"]) (T : TxtH K C) (cw : Cal P w K mg base "is_word" 2 ["names", "value"] sp_word) : Cal P w K mg base "check_word" 3 ["house", "value"] (sp_check C) := by
  refine D.cal (k := 2) sc_check (fun vs H Q E h => by obtain ⟨_, _, _, _, _, rfl, _⟩ := h; rfl) (fun f cdv A outer s H vs Q E hr h => ?_)
  obtain ⟨h, v, N, ws, x, rfl, ⟨p, dx, q, us, rfl, hp, _⟩, hv, hx, k⟩ := h
  refine ⟨_, pss_one (ps_if (pt_not (pt_val (pe_cal cw hr rfl (pa_cons (pe_fld (pv 0) rfl) (pa_cons (pv 1) pa_nil))))) pss_never pss_nil), ?_⟩
  exact ⟨_, rfl, p, C, dx, _, _, rfl, hp, T.cl, T.nN, flds_names _ _, _, rfl, N, v, x, rfl, hv, hx, true, rfl, iteF k⟩
inductive X_sp_opp  (vs : List V) (H : Hp) (Q : VK) (E : XK) : Prop
  | mk (v : V) (x : W) (z_1 : vs = [v]) (z_2 : IsW H v x) (z_3 : ∀ H' v', Same H H' → IsW H' v' (neg x) → Q v' H')
def sp_opp : Sp := fun vs H Q E => X_sp_opp  vs H Q E
theorem sc_opp : FnScope ["word"] ["word"] (defScope S_opp) := ⟨rfl, rfl, rfl, by decide +kernel, rfl, by decide +kernel, by decide +kernel⟩
theorem ok_opp (D : Def K mg "opposite" S_opp ["word"]) : Cal P w K mg base "opposite" 1 ["word"] sp_opp := by
  refine D.cal (k := 0) sc_opp (fun vs H Q E h => by obtain ⟨_, _, rfl, _⟩ := h; rfl) (fun f cdv A outer s H vs Q E hr h => ?_)
  obtain ⟨v, x, rfl, ⟨p, rfl, hp⟩, k⟩ := h
  refine ⟨_, pss_one (ps_ret (pe_tup (pa_cons (pe_ix ix_tup (pv 0) pe_int (fun _ _ => rfl)) (pa_cons (pe_not (pe_ix ix_tup (pv 0) pe_int (fun _ _ => rfl))) pa_nil)))), ?_⟩
  have i0 : atI [V.int x.1, V.bl x.2] 0 = some (V.int x.1) := rfl
  have i1 : atI [V.int x.1, V.bl x.2] 1 = some (V.bl x.2) := rfl
  refine ⟨_, rfl, p, _, 0, _, rfl, rfl, SqT.of hp, i0, _, rfl, p, _, 1, _, rfl, rfl, SqT.of hp, i1, _, rfl, (by show 2 ≤ sizeLine; decide), fun q hq => ?_⟩
  exact k _ _ (Same.laid hq) ⟨q, rfl, upd_same⟩
end
end L2

end

section
set_option autoImplicit false
set_option maxRecDepth 100000
set_option linter.all false
namespace L2
open PySem PySem.Spec PyProof.Rows EoD Eo
/-- a new list of words -/
def NewWs (H H' : Hp) (v : V) (l : List W) : Prop := ∃ a vs, v = .ref a ∧ H a = none ∧ H' a = some (.lst vs) ∧ Ws H' vs l
section
variable {P : Program} {w : World} {K : PySem.W.Frag} {mg : Str → Option Value} {base : Heap} {C : Addr}
inductive X_sp_wishes (C : Addr) (vs : List V) (H : Hp) (Q : VK) (E : XK) : Prop
  | mk (h : V) (N : Nat) (ws : List (W × W)) (z_1 : vs = [h]) (z_2 : HouseAt C H h N ws) (z_3 : ∀ l us, H l = none → Ps H us ws → us.length ≤ 24 → Q (.ref l) (upd H l (.lst us)))
def sp_wishes (C : Addr) : Sp := fun vs H Q E => X_sp_wishes C vs H Q E
theorem sc_wishes : FnScope ["self"] ["self"] (defScope S_wishes) := ⟨rfl, rfl, rfl, by decide +kernel, rfl, by decide +kernel, by decide +kernel⟩
theorem ok_wishes {f : Addr} {fd : FuncData} (F : Fun K "wishes" "House.wishes" S_wishes f fd) (B : Bare mg) (T : TxtH K C) : FnOk P w K mg base CX0 1 f fd ["self"] (sp_wishes C) := by
  refine F.ok sc_wishes (fun vs H Q E h => by obtain ⟨_, _, _, rfl, _⟩ := h; rfl) (fun cdv A outer s H vs Q E hr h => ?_)
  obtain ⟨h, N, ws, rfl, ⟨p, dx, q, us, rfl, hp, hq, hu, hn⟩, k⟩ := h
  refine ⟨_, pss_one (ps_ret (pe_callTy call_list_of rfl B.lst bt_list (pa_cons (pe_fld (pv 0) rfl) pa_nil))), ?_⟩
  exact ⟨_, rfl, p, C, dx, _, _, rfl, hp, T.cl, T.nK, flds_kept _ _, q, us, rfl, .inr (SqT.of hq), fun l hl => k l us hl hu hn⟩
/-- the method wishes may be called -/
def CalW (P : Program) (w : World) (K : PySem.W.Frag) (mg : Str → Option Value) (base : Heap) (C : Addr) : Prop := ∃ f fd, FnOk P w K mg base CX0 1 f fd ["self"] (sp_wishes C) ∧ Meth K C "wishes" f ∧ Binds K fd ["self"] []
theorem pe_wishes {X : Cx} {o : Expr} {to : TE} {p1 p2 : Pos} (c : CalW X.prog X.w X.K X.mg X.base C) (T : TxtH X.K C) (hr : Room 1 X.A) (ho : PE X o to) {pl : Sem Bool}
    (ht : eval (.Call (.Attribute o "wishes" p1) [] [] p2) X.env = (do
      let ov ← eval o X.env
      standAt p1.atName
      let (f, first) ← holding [ov] (getMethod ov "wishes" pl)
      callWith p2 f first (backTo p2 (starEach [] X.env)) (backToKw p2 (keywordEach [] X.env))) := by rfl) : PE X (.Call (.Attribute o "wishes" p1) [] [] p2) (tMeth C "wishes" (sp_wishes C) [] E0 to tNil) :=
  let ⟨_, _, F, m, b⟩ := c; pe_meth0 ho T.cl m F hr b .nil pass0 ht
end
end L2

end

section
set_option autoImplicit false
set_option maxRecDepth 100000
set_option linter.all false
namespace L2
open PySem PySem.Spec PyProof.Rows EoD Eo
theorem said_take (ws : List (W × W)) (x : W) (i : Nat) (p : W × W) (h : ws[i]? = some p) : said (ws.take (i + 1)) x = said (ws.take i) x ++ (if p.1 = neg x then [p.2] else []) ++ (if p.2 = neg x then [p.1] else []) := by
  rw [List.take_add_one, h]
  unfold said
  rw [List.flatMap_append]
  simp [List.append_assoc]
section
variable {P : Program} {w : World} {K : PySem.W.Frag} {mg : Str → Option Value} {base : Heap} {C : Addr}
theorem said_if {i j : Int} {D : Ends} {σ : St} {H : Hp} {wq f : Addr} {a b ai aj dv : V} {xi d : W} {vs : List V} (e4 : σ[4]? = some (some (.ref wq))) (e2 : σ[2]? = some (some dv)) (e3 : σ[3]? = some (some (.ref f))) (hw : H wq = some (.tup [a, b])) (hi : atI [a, b] i = some ai) (hj : atI [a, b] j = some aj)
    (wi : IsW H ai xi) (wdv : IsW H dv d) (ef : H f = some (.lst vs)) (sz : vs.length < sizeLine) (k1 : xi = d → D.nx σ (upd H f (.lst (vs ++ [aj])))) (k2 : ¬ xi = d → D.nx σ H) :
    tIfS (tTest (tOp rEqW (tOp (rIxT K) (tVar 4) (tC (.int i))) (tVar 2))) (tDrop (tBM K "list" rAppend (tVar 3) (tCons (tOp (rIxT K) (tVar 4) (tC (.int j))) tNil))) tNext D σ H := by
  refine ⟨_, e4, wq, _, i, _, rfl, rfl, SqT.of hw, hi, _, e2, xi, d, wi, wdv, _, rfl, iteD (fun e => ?_) (fun e => k2 e)⟩
  exact ⟨_, e3, .inl ⟨rfl, _, SqL.of ef⟩, _, e4, wq, _, j, _, rfl, rfl, SqT.of hw, hj, f, vs, _, rfl, rfl, ef, sz, k1 e⟩
inductive X_sp_said (C : Addr) (vs : List V) (H : Hp) (Q : VK) (E : XK) : Prop
  | mk (h v : V) (N : Nat) (ws : List (W × W)) (x : W) (z_1 : vs = [h, v]) (z_2 : HouseAt C H h N ws) (z_3 : IsW H v x) (z_4 : ∀ H' v', Same H H' → NewWs H H' v' (said ws x) → Q v' H')
def sp_said (C : Addr) : Sp := fun vs H Q E => X_sp_said C vs H Q E
theorem sc_said : FnScope ["house", "word", "denied", "found", "wish"] ["house", "word"] (defScope S_said) := ⟨rfl, rfl, rfl, by decide +kernel, rfl, by decide +kernel, by decide +kernel⟩
theorem ok_said (D : Def K mg "said_next" S_said ["house", "word"]) (T : TxtH K C) (co : Cal P w K mg base "opposite" 1 ["word"] sp_opp) (cw : CalW P w K mg base C) : Cal P w K mg base "said_next" 2 ["house", "word"] (sp_said C) := by
  refine D.cal (k := 1) sc_said (fun vs H Q E h => by obtain ⟨_, _, _, _, _, rfl, _⟩ := h; rfl) (fun f cdv A outer s H vs Q E hr h => ?_)
  obtain ⟨h, v, N, ws, x, rfl, hh, hv, k⟩ := h
  have hu := hr.units
  refine ⟨_, pss_cons (ps_set (i := 2) sc_said.nd rfl (Or.inl rfl) (pe_cal co hr rfl (pa_cons (pv 1) pa_nil))) (pss_cons (ps_set (i := 3) sc_said.nd rfl (Or.inl rfl) (pe_lst pa_nil)) (pss_cons (ps_for PassesOwn.never rfl (pi_list (pe_wishes cw T hr (pv 0))) (pg_name (i := 4) sc_said.nd rfl (Or.inl rfl))
    (pss_cons (ps_if (pt_cmpR (op_eqW hu) (pe_ix ix_tup (pv 4) pe_int (fun _ _ => rfl)) (pv 2) (nomark _)) (pss_one (ps_app (pv 3) (pe_ix ix_tup (pv 4) pe_int (fun _ _ => rfl)))) pss_nil)
      (pss_one (ps_if (pt_cmpR (op_eqW hu) (pe_ix ix_tup (pv 4) pe_int (fun _ _ => rfl)) (pv 2) (nomark _)) (pss_one (ps_app (pv 3) (pe_ix ix_tup (pv 4) pe_int (fun _ _ => rfl)))) pss_nil)))) (pss_one (ps_ret (pv 3))))), ?_⟩
  refine ⟨_, rfl, v, x, rfl, hv, fun H1 dv s1 hd => ⟨Nat.zero_le _, fun g hg => ?_⟩⟩
  have s2 : Same H (upd H1 g (.lst [])) := s1.laidT hg
  have hh2 := hh.same s2
  obtain ⟨p, dx, q, us0, rfl, hp, _⟩ := id hh2
  have ng : H g = none := s1.free hg
  refine ⟨_, rfl, p, dx, _, rfl, hp, flds_no _ _ (by decide +kernel) (by decide +kernel), _, N, ws, rfl, hh2, fun l us hl hu' hn => ⟨l, rfl, ⟨_, SqL.of upd_same⟩, ?_⟩⟩
  have lg : l ≠ g := fun z => by rw [z, upd_same] at hl; cases hl
  have nl : H l = none := s2.free hl
  refine for_list (K := K) (a := l) (xs := us) (fun i σ H2 => ∃ (vs : List V) (z : Option V), σ = [some (.ref p), some v, some dv, some (.ref g), z] ∧ Same H H2 ∧ H2 l = some (.lst us) ∧ Ps H2 us ws ∧ IsW H2 dv (neg x) ∧ H2 g = some (.lst vs) ∧ Ws H2 vs (said (ws.take i) x) ∧ vs.length ≤ 2 * i)
    ⟨[], none, rfl, s2.laidT hl, upd_same, hu'.same (Same.laid hl), hd.same ((Same.laid hg).laidT hl), by rw [upd_ne lg.symm]; exact upd_same, .nil, Nat.le_refl _⟩ (fun i σ H2 _ ⟨_, _, _, _, z, _⟩ => SqL.of z) ?_ ?_
  · rintro i y σ H2 hi ⟨vs, z, rfl, sH, el, pu, wd', eg, wv, nv⟩
    obtain ⟨pr, hpr, wq, a, b, rfl, hw, ha, hb⟩ := paired_get pu hi
    have hil : i < us.length := (List.getElem?_eq_some_iff.mp hi).1
    have i0 : atI [a, b] 0 = some a := rfl
    have i1 : atI [a, b] 1 = some b := rfl
    have sz : vs.length < sizeLine := by rw [sizeLine_eq]; omega
    have tpg : ∀ {H3 : Hp} {vs' : List V} {o : HO}, H3 g = some (.lst vs') → Tups H3 (upd H3 g o) := fun {H3 vs' o} e => Tups.upd (by rw [e]; intro _ z; cases z)
    have fin : ∀ (H3 : Hp) (vs3 : List V), Same H H3 → H3 l = some (.lst us) → Tups H2 H3 → H3 g = some (.lst vs3) → Ws H3 vs3 (said (ws.take (i + 1)) x) → vs3.length ≤ 2 * (i + 1) →
        ∃ (vs : List V) (z : Option V), [some (.ref p), some v, some dv, some (.ref g), some (.ref wq)] = [some (.ref p), some v, some dv, some (.ref g), z] ∧ Same H H3 ∧ H3 l = some (.lst us) ∧ Ps H3 us ws ∧ IsW H3 dv (neg x) ∧ H3 g = some (.lst vs) ∧ Ws H3 vs (said (ws.take (i + 1)) x) ∧ vs.length ≤ 2 * (i + 1) :=
      fun H3 vs3 a1 a2 a3 a4 a5 a6 => ⟨vs3, _, rfl, a1, a2, pu.tups a3, wd'.tups a3, a4, a5, a6⟩
    refine said_if (K := K) (xi := pr.1) rfl rfl rfl hw i0 i1 ha wd' eg sz (fun e1 => ?_) (fun e1 => ?_)
    · have t1 : Tups H2 (upd H2 g (.lst (vs ++ [b]))) := tpg eg
      refine said_if (K := K) (xi := pr.2) rfl rfl rfl (t1 _ _ hw) i1 i0 (hb.tups t1) (wd'.tups t1) upd_same (by rw [List.length_append, sizeLine_eq]; show vs.length + 1 < _; omega) (fun e2 => ?_) (fun e2 => ?_)
      · have t2 : Tups H2 (upd (upd H2 g (.lst (vs ++ [b]))) g (.lst (vs ++ [b] ++ [a]))) := t1.trans (tpg upd_same)
        refine fin _ (vs ++ [b] ++ [a]) ((sH.chg ng).chg ng) (by rw [upd_ne lg, upd_ne lg]; exact el) t2 upd_same ?_ (by simp; omega)
        rw [said_take ws x i pr hpr, if_pos e1, if_pos e2]
        exact ((Ws.tups t2 wv).snoc (hb.tups t2)).snoc (ha.tups t2)
      · refine fin _ (vs ++ [b]) (sH.chg ng) (by rw [upd_ne lg]; exact el) t1 upd_same ?_ (by simp; omega)
        rw [said_take ws x i pr hpr, if_pos e1, if_neg e2, List.append_nil]
        exact (Ws.tups t1 wv).snoc (hb.tups t1)
    · refine said_if (K := K) (xi := pr.2) rfl rfl rfl hw i1 i0 hb wd' eg sz (fun e2 => ?_) (fun e2 => ?_)
      · have t1 : Tups H2 (upd H2 g (.lst (vs ++ [a]))) := tpg eg
        refine fin _ (vs ++ [a]) (sH.chg ng) (by rw [upd_ne lg]; exact el) t1 upd_same ?_ (by simp; omega)
        rw [said_take ws x i pr hpr, if_neg e1, if_pos e2, List.append_nil]
        exact (Ws.tups t1 wv).snoc (ha.tups t1)
      · refine fin _ vs sH el (fun _ _ z => z) eg ?_ (by omega)
        rw [said_take ws x i pr hpr, if_neg e1, if_neg e2, List.append_nil, List.append_nil]
        exact wv
  · rintro σ H2 ⟨vs, z, rfl, sH, el, pu, wd', eg, wv, nv⟩
    have e : us.length = ws.length := Paired.length pu
    rw [e, List.take_length] at wv
    exact ⟨_, rfl, k H2 _ sH ⟨g, vs, rfl, ng, eg, wv⟩⟩
end
end L2

end

section
set_option autoImplicit false
set_option maxRecDepth 100000
set_option linter.all false
namespace L2
open PySem PySem.Spec PyProof.Rows EoD Eo
def AhV (H : Hp) (v : V) : Option W → Prop
  | none => v = .non
  | some u => IsW H v u
theorem AhV.tups {H H' : Hp} {v : V} {o : Option W} (e : Tups H H') (h : AhV H v o) : AhV H' v o := by
  cases o with
  | none => exact h
  | some u => exact IsW.tups e h
abbrev AhR (H : Hp) : List (W × V) → List T → Prop := Paired fun kv t => kv.1 = t.1 ∧ AhV H kv.2 t.2.1
theorem AhR.tups {H H' : Hp} {kvs : List (W × V)} {G : List T} (e : Tups H H') (h : AhR H kvs G) : AhR H' kvs G := Paired.mapP h fun _ _ z => ⟨z.1, z.2.tups e⟩
theorem AhR.keys {H : Hp} : ∀ {kvs : List (W × V)} {G : List T}, AhR H kvs G → kvs.map (·.1) = G.map (·.1)
  | _, _, .nil => rfl
  | _, _, .cons h t => by rw [List.map_cons, List.map_cons, h.1, AhR.keys t]
theorem val_none {kvs : List (W × V)} {k : W} : valV kvs k = none ↔ k ∉ kvs.map (·.1) := by
  have h := valV_any k kvs
  constructor
  · intro e hm
    obtain ⟨p, hp, ep⟩ := List.mem_map.mp hm
    have : (kvs.any fun kv => decide (kv.1 = k)) = true := List.any_eq_true.mpr ⟨p, hp, decide_eq_true ep⟩
    rw [h, e] at this
    cases this
  · intro hm
    cases e : valV kvs k with
    | none => rfl
    | some v =>
      rw [e] at h
      obtain ⟨p, hp, ep⟩ := List.any_eq_true.mp h
      exact absurd (List.mem_map.mpr ⟨p, hp, of_decide_eq_true ep⟩) hm
theorem AhR.val {H : Hp} {k : W} : ∀ {kvs : List (W × V)} {G : List T}, AhR H kvs G → (G.map (·.1)).Nodup → ∀ {q : Option W} {d : Nat}, (k, q, d) ∈ G → ∃ v, valV kvs k = some v ∧ AhV H v q
  | _, _, .nil, _, q, d, h => by simp at h
  | kv :: kvs, t :: G, .cons r rs, nd, q, d, h => by
    have nd' := List.nodup_cons.mp (show (t.1 :: G.map (·.1)).Nodup from nd)
    by_cases e : kv.1 = k
    · have e' : t.1 = k := r.1.symm.trans e
      rcases List.mem_cons.mp h with z | z
      · refine ⟨kv.2, valV_pos e, ?_⟩
        have := r.2
        rw [← z] at this
        exact this
      · exact absurd (List.mem_map.mpr ⟨_, z, e'.symm⟩) nd'.1
    · have e' : ¬ t.1 = k := fun z => e (r.1.trans z)
      rcases List.mem_cons.mp h with z | z
      · exact absurd (by rw [← z]) e'
      · obtain ⟨v, h1, h2⟩ := AhR.val rs nd'.2 z
        exact ⟨v, by rw [valV_neg e]; exact h1, h2⟩
theorem DW.obj {P : Program} {w : World} {H : Hp} {a : Addr} {kvs : List (W × V)} (d : DW P w H a kvs) : ∃ φ, H a = some (.ext φ) := let ⟨_, h, _⟩ := d.ex; ⟨_, h⟩
theorem DW.notup {P : Program} {w : World} {H : Hp} {a : Addr} {kvs : List (W × V)} (d : DW P w H a kvs) {o : HO} : Tups H (upd H a o) := by
  obtain ⟨φ, h⟩ := d.obj
  exact Tups.upd (by rw [h]; intro _ z; cases z)
theorem lst_notup {H : Hp} {a : Addr} {vs : List V} {o : HO} (h : H a = some (.lst vs)) : Tups H (upd H a o) := Tups.upd (by rw [h]; intro _ z; cases z)
theorem DW.upd {P : Program} {w : World} {H : Hp} {a b : Addr} {kvs : List (W × V)} {vs : List V} {o : HO} (d : DW P w H a kvs) (h : H b = some (.lst vs)) : DW P w (upd H b o) a kvs := by
  obtain ⟨xs, h1, h2, h3⟩ := d.ex
  refine ⟨⟨xs, ?_, fun x hx => lst_notup h _ _ (h2 x hx), h3⟩, d.len⟩
  rw [upd_ne (ne_of h1 h (by intro z; cases z))]
  exact h1
section
variable {P : Program} {w : World} {K : PySem.W.Frag} {mg : Str → Option Value} {base : Heap} {C : Addr}
inductive X_sp_ahead (P : Program) (w : World) (C : Addr) (vs : List V) (H : Hp) (Q : VK) (E : XK) : Prop
  | mk (h v : V) (N : Nat) (ws : List (W × W)) (x : W) (z_1 : vs = [h, v]) (z_2 : HouseAt C H h N ws) (z_3 : GoodH N ws) (z_4 : IsW H v x) (z_5 : InN N x) (z_6 : ∀ H' d G kvs, Same H H' → H d = none → Found ws x G → DW P w H' d kvs → AhR H' kvs G → Q (.ref d) H')
def sp_ahead (P : Program) (w : World) (C : Addr) : Sp := fun vs H Q E => X_sp_ahead P w C vs H Q E
theorem sc_ahead : FnScope ["house", "word", "ahead", "reached", "at", "current", "found"] ["house", "word"] (defScope S_ahead) := ⟨rfl, rfl, rfl, by decide +kernel, rfl, by decide +kernel, by decide +kernel⟩
theorem ok_ahead (D : Def K mg "words_ahead" S_ahead ["house", "word"]) (B : Bare mg) (cs : Cal P w K mg base "said_next" 2 ["house", "word"] (sp_said C)) : Cal P w K mg base "words_ahead" 3 ["house", "word"] (sp_ahead P w C) := by
  refine D.cal (k := 2) sc_ahead (fun vs H Q E h => by obtain ⟨_, _, _, _, _, rfl, _⟩ := h; rfl) (fun f cdv A outer s H vs Q E hr h => ?_)
  obtain ⟨h, v, N, ws, x, rfl, hh, gh, hv, hx, k⟩ := h
  have hu := hu_of hr
  refine ⟨_, pss_cons (ps_set (i := 2) sc_ahead.nd rfl (Or.inl rfl) (pe_wone hr.units0 (pv 1) pe_non)) (pss_cons (ps_set (i := 3) sc_ahead.nd rfl (Or.inl rfl) (pe_lst (pa_cons (pv 1) pa_nil))) (pss_cons (ps_set (i := 4) sc_ahead.nd rfl (Or.inl rfl) pe_int)
    (pss_cons (ps_while PassesOwn.never (pt_cmpR op_lt (pv 4) (pe_callB call_len_seq rfl B.len bt_len (pa_cons (pv 3) pa_nil)) (nomark _))
      (pss_cons (ps_set (i := 5) sc_ahead.nd rfl (Or.inl rfl) (pe_ix ix_list (pv 3) (pv 4) (fun _ _ => rfl)))
      (pss_cons (ps_for PassesOwn.never rfl (pi_list (pe_cal cs hr rfl (pa_cons (pv 0) (pa_cons (pv 5) pa_nil)))) (pg_name (i := 6) sc_ahead.nd rfl (Or.inl rfl))
        (pss_one (ps_if (pt_cmpR (op_niW hu) (pv 6) (pv 2) (by with_unfolding_all rfl)) (pss_cons (ps_wput hu (pv 2) (pv 6) (pv 5)) (pss_one (ps_app (pv 3) (pv 6)))) pss_nil)))
      (pss_one (ps_set (i := 4) sc_ahead.nd rfl (Or.inl rfl) (pe_op op_add (pv 4) pe_int)))))) (pss_one (ps_ret (pv 2)))))), ?_⟩
  intro d o hd
  have sd : Same H (upd H d o) := Same.laid hd
  refine ⟨_, rfl, x, hv.same sd, upd_same, fun o' dw => ⟨_, rfl, by show 1 ≤ sizeLine; decide, fun r hr' => ?_⟩⟩
  generalize hH1 : upd (upd H d o) d o' = H1 at dw hr' ⊢
  have s1 : Same H H1 := by rw [← hH1]; exact sd.chg hd
  have nr : H r = none := s1.free hr'
  have s2 : Same H (upd H1 r (.lst [v])) := s1.laidT hr'
  have t12 : Same H1 (upd H1 r (.lst [v])) := Same.laid hr'
  refine ⟨fun m σ H2 => ∃ (i : Nat) (G : List T) (kvs : List (W × V)) (rs : List V) (c1 c2 : Option V), σ = [some h, some v, some (.ref d), some (.ref r), some (.int i), c1, c2] ∧ m + i = 2 * N + 1 ∧ Same H H2 ∧ DW P w H2 d kvs ∧ AhR H2 kvs G ∧ H2 r = some (.lst rs) ∧ Ws H2 rs (G.map (·.1)) ∧ Bfs ws x i G ∧ i ≤ G.length,
    ⟨2 * N + 1, 0, [(x, none, 0)], [(x, .non)], [v], none, none, rfl, rfl, s2, dw.same t12, .cons ⟨rfl, rfl⟩ .nil, upd_same, .cons (hv.same s2) .nil, bfs_start ws x, by simp⟩, ?_⟩
  rintro m σ H2 ⟨i, G, kvs, rs, c1, c2, rfl, em, sH, dw2, ah, er, wr, bf, hi⟩
  have lr : rs.length = G.length := by rw [Paired.length wr, List.length_map]
  have lG := bf.toCore.len gh.good hx
  refine ⟨_, rfl, _, rfl, r, rs, rfl, .inl (SqL.of er), _, _, rfl, rfl, _, rfl, iteD (fun lt => ?_) (fun ge => ?_)⟩
  · have lt' : i < rs.length := by omega
    obtain ⟨cv, hcv⟩ : ∃ cv, rs[i]? = some cv := ⟨rs[i], List.getElem?_eq_getElem lt'⟩
    obtain ⟨cw, hcw, iscv⟩ := paired_get wr hcv
    obtain ⟨c, hc, ec⟩ : ∃ c, G[i]? = some c ∧ c.1 = cw := by
      rw [List.getElem?_map] at hcw
      obtain ⟨c, h1, h2⟩ := Option.map_eq_some_iff.mp hcw
      exact ⟨c, h1, h2⟩
    subst ec
    refine ⟨_, fun σ' H' nx => nx, ?_⟩
    refine ⟨_, rfl, _, rfl, r, rs, _, cv, rfl, rfl, SqL.of er, atI_nat hcv, ?_⟩
    refine ⟨_, rfl, _, rfl, h, cv, N, ws, c.1, rfl, hh.same sH, iscv, fun H3 sv s23 nw => ?_⟩
    obtain ⟨sl, ss, rfl, nsl, esl, wss⟩ := nw
    have dr : d ≠ r := by
      obtain ⟨φ, e⟩ := dw2.obj
      exact ne_of e er (by intro z; cases z)
    have nsr : sl ≠ r := (ne_of_none er nsl).symm
    have nsd : sl ≠ d := by
      obtain ⟨φ, e⟩ := dw2.obj
      exact (ne_of_none e nsl).symm
    refine ⟨sl, rfl, ⟨_, SqL.of esl⟩, for_list (K := K) (a := sl) (xs := ss) (fun j σ H4 => ∃ (G' : List T) (kvs' : List (W × V)) (rs' : List V) (c2 : Option V), σ = [some h, some v, some (.ref d), some (.ref r), some (.int i), some cv, c2] ∧ Same H H4 ∧ H4 sl = some (.lst ss) ∧ Ws H4 ss (said ws c.1) ∧ IsW H4 cv c.1 ∧
        DW P w H4 d kvs' ∧ AhR H4 kvs' G' ∧ H4 r = some (.lst rs') ∧ Ws H4 rs' (G'.map (·.1)) ∧ BfsIn ws x i c ((said ws c.1).take j) G')
      ⟨G, kvs, rs, c2, rfl, sH.trans s23, esl, wss, iscv.same s23, dw2.same s23, AhR.tups s23.tups ah, s23 _ _ er, wr.same s23, by simpa using bf.enter hc⟩ (fun j σ H4 _ ⟨_, _, _, _, _, _, z, _⟩ => SqL.of z) ?_ ?_⟩
    · rintro j y σ H4 hj ⟨G', kvs', rs', c2', rfl, s4, esl4, wss4, isc4, dw4, ah4, er4, wr4, bi⟩
      obtain ⟨u, hu', isy⟩ := paired_get wss4 hj
      have nx : Nx ws c.1 u := mem_said.1 (List.mem_of_getElem? hu')
      have etk : (said ws c.1).take (j + 1) = (said ws c.1).take j ++ [u] := by rw [List.take_add_one, hu']; rfl
      have lG' := bi.toCore.len gh.good hx
      have lk : kvs'.length = G'.length := Paired.length ah4
      have lr' : rs'.length = G'.length := by rw [Paired.length wr4, List.length_map]
      have N8 := gh.hi
      refine ⟨_, rfl, _, rfl, d, u, kvs', rfl, isy, dw4, _, rfl, ?_⟩
      cases ev : valV kvs' u with
      | some z =>
        refine iteF ?_
        have hm : u ∈ G'.map (·.1) := by
          rw [← AhR.keys ah4]
          by_cases q : u ∈ kvs'.map (·.1)
          · exact q
          · rw [val_none.2 q] at ev; cases ev
        refine ⟨G', kvs', rs', _, rfl, s4, esl4, wss4, isc4, dw4, ah4, er4, wr4, ?_⟩
        rw [etk]
        exact bi.old hm
      | none =>
        refine iteT ?_
        have hm : u ∉ G'.map (·.1) := by rw [← AhR.keys ah4]; exact val_none.1 ev
        refine ⟨_, rfl, _, rfl, _, rfl, d, u, kvs', rfl, isy, dw4, ev, by omega, fun o5 dw5 => ?_⟩
        have t5 : Tups H4 (upd H4 d o5) := dw4.notup
        have er5 : (upd H4 d o5) r = some (.lst rs') := by rw [upd_ne dr.symm]; exact er4
        refine ⟨_, rfl, .inl ⟨rfl, _, SqL.of er5⟩, _, rfl, r, rs', _, rfl, rfl, er5, by rw [sizeLine_eq]; omega, ?_⟩
        have t6 : Tups H4 (upd (upd H4 d o5) r (.lst (rs' ++ [y]))) := t5.trans (lst_notup er5)
        refine ⟨G' ++ [(u, some c.1, c.2.2 + 1)], kvs' ++ [(u, cv)], rs' ++ [y], _, rfl, (s4.chg hd).chg nr, by rw [upd_ne nsr, upd_ne nsd]; exact esl4, wss4.tups t6, isc4.tups t6, dw5.upd er5, (AhR.tups t6 ah4).snoc ⟨rfl, isc4.tups t6⟩, upd_same, ?_, ?_⟩
        · rw [List.map_append]
          exact (wr4.tups t6).snoc (isy.tups t6)
        · rw [etk]
          exact bi.new hm nx
    · rintro σ H4 ⟨G', kvs', rs', c2', rfl, s4, esl4, wss4, isc4, dw4, ah4, er4, wr4, bi⟩
      have lss : ss.length = (said ws c.1).length := Paired.length wss4
      rw [lss, List.take_length] at bi
      have hi' : i < G'.length := (List.getElem?_eq_some_iff.mp bi.at_).1
      refine ⟨_, rfl, _, _, rfl, rfl, m - 1, by omega, i + 1, G', kvs', rs', some cv, c2', rfl, by omega, s4, dw4, ah4, er4, wr4, bi.leave fun z hz => mem_said.2 hz, hi'⟩
  · refine ⟨_, rfl, k H2 d G kvs sH hd (bf.found ?_) dw2 ah⟩
    have : ¬ ((i : Int) < (rs.length : Int)) := ge
    omega
end
end L2

end

section
set_option autoImplicit false
set_option maxRecDepth 100000
set_option linter.all false
namespace L2
open PySem PySem.Spec PyProof.Rows EoD Eo
theorem paired_rev {α β : Type} {F : α → β → Prop} : ∀ {a : List α} {b : List β}, Paired F a b → Paired F a.reverse b.reverse
  | _, _, .nil => .nil
  | _, _, .cons h t => by
    rw [List.reverse_cons, List.reverse_cons]
    exact (paired_rev t).snoc h
def ChainOk (ws : List (W × W)) (x y : W) (cs : List W) : Prop := (¬ Reach ws x y ∧ cs = []) ∨ ∃ k, Dist ws x y k ∧ Chn ws cs ∧ cs.head? = some x ∧ cs.getLast? = some y ∧ cs.length = k + 1
section
variable {P : Program} {w : World} {K : PySem.W.Frag} {mg : Str → Option Value} {base : Heap} {C : Addr}
inductive X_sp_chain (C : Addr) (vs : List V) (H : Hp) (Q : VK) (E : XK) : Prop
  | mk (h v o : V) (N : Nat) (ws : List (W × W)) (x y : W) (z_1 : vs = [h, v, o]) (z_2 : HouseAt C H h N ws) (z_3 : GoodH N ws) (z_4 : IsW H v x) (z_5 : IsW H o y) (z_6 : InN N x) (z_7 : InN N y) (z_8 : ∀ H' v' cs, Same H H' → NewWs H H' v' cs → ChainOk ws x y cs → Q v' H')
def sp_chain (C : Addr) : Sp := fun vs H Q E => X_sp_chain C vs H Q E
theorem sc_chain : FnScope ["house", "word", "other", "ahead", "links", "link"] ["house", "word", "other"] (defScope S_chain) := ⟨rfl, rfl, rfl, by decide +kernel, rfl, by decide +kernel, by decide +kernel⟩
theorem ok_chain (D : Def K mg "chain" S_chain ["house", "word", "other"]) (B : Bare mg) (cc : Cal P w K mg base "check_word" 3 ["house", "value"] (sp_check C)) (ca : Cal P w K mg base "words_ahead" 3 ["house", "word"] (sp_ahead P w C)) : Cal P w K mg base "chain" 4 ["house", "word", "other"] (sp_chain C) := by
  refine D.cal (k := 3) sc_chain (fun vs H Q E h => by obtain ⟨_, _, _, _, _, _, _, rfl, _⟩ := h; rfl) (fun f cdv A outer s H vs Q E hr h => ?_)
  obtain ⟨h, v, o, N, ws, x, y, rfl, hh, gh, hv, ho, hx, hy, k⟩ := h
  have hu := hu_of hr
  refine ⟨_, pss_cons (ps_expr (pe_cal cc hr rfl (pa_cons (pv 0) (pa_cons (pv 1) pa_nil)))) (pss_cons (ps_expr (pe_cal cc hr rfl (pa_cons (pv 0) (pa_cons (pv 2) pa_nil))))
    (pss_cons (ps_set (i := 3) sc_chain.nd rfl (Or.inl rfl) (pe_cal ca hr rfl (pa_cons (pv 0) (pa_cons (pv 1) pa_nil))))
    (pss_cons (ps_if (pt_cmpR (op_niW hu) (pv 2) (pv 3) (by with_unfolding_all rfl)) (pss_one (ps_ret (pe_lst pa_nil))) pss_nil)
    (pss_cons (ps_set (i := 4) sc_chain.nd rfl (Or.inl rfl) (pe_lst pa_nil)) (pss_cons (ps_set (i := 5) sc_chain.nd rfl (Or.inl rfl) (pv 2))
    (pss_cons (ps_while PassesOwn.never (pt_cmp (pc_notN (pv 5))) (pss_cons (ps_app (pv 4) (pv 5)) (pss_one (ps_set (i := 5) sc_chain.nd rfl (Or.inl rfl) (pe_wget hu (pv 3) (pv 5) (fun _ _ => rfl))))))
    (pss_one (ps_ret (pe_listrev rfl (pv 4) rfl B.lst rfl B.rev bt_reversed))))))))), ?_⟩
  refine ⟨_, rfl, _, rfl, h, v, N, ws, x, rfl, hh, hv, hx, _, rfl, _, rfl, h, o, N, ws, y, rfl, hh, ho, hy, _, rfl, _, rfl, h, v, N, ws, x, rfl, hh, gh, hv, hx, fun H1 d G kvs s1 nd fo dw ah => ?_⟩
  refine ⟨_, rfl, _, rfl, d, y, kvs, rfl, ho.same s1, dw, _, rfl, ?_⟩
  cases ev : valV kvs y with
  | none =>
    have nm : ¬ Reach ws x y := fun z => val_none.1 ev (by rw [AhR.keys ah]; exact fo.mem.2 z)
    refine iteT ⟨Nat.zero_le _, fun l hl => k _ _ [] (s1.laidT hl) ⟨l, [], rfl, s1.free hl, upd_same, .nil⟩ (.inl ⟨nm, rfl⟩)⟩
  | some z =>
    refine iteF ⟨Nat.zero_le _, fun lk hlk => ?_⟩
    have hm : y ∈ G.map (·.1) := by
      rw [← AhR.keys ah]
      by_cases q : y ∈ kvs.map (·.1)
      · exact q
      · rw [val_none.2 q] at ev; cases ev
    obtain ⟨t, ht, et⟩ := List.mem_map.mp hm
    obtain ⟨y', qy, n⟩ := t
    have et' : y' = y := et
    subst et'
    have nlk : H lk = none := s1.free hlk
    have s2 : Same H1 (upd H1 lk (.lst [])) := Same.laid hlk
    have lG := fo.toCore.len gh.good hx
    have N8 := gh.hi
    have dn := (fo.dist ht).lt gh.good hx
    refine ⟨_, rfl, ?_⟩
    refine ⟨fun m σ H2 => ∃ (link : Option W) (lv : V) (l : List W) (us : List V), σ = [some h, some v, some o, some (.ref d), some (.ref lk), some lv] ∧ AhV H2 lv link ∧ H2 lk = some (.lst us) ∧ Ws H2 us l ∧ Back ws x y' G n link l ∧ m + l.length = n + 2 ∧ Same H H2 ∧ DW P w H2 d kvs ∧ AhR H2 kvs G,
      ⟨n + 2, some y', o, [], [], rfl, (ho.same s1).same s2, upd_same, .nil, Back.start ht, rfl, s1.laidT hlk, dw.same s2, AhR.tups s2.tups ah⟩, ?_⟩
    rintro m σ H2 ⟨link, lv, l, us, rfl, av, el, wl, bk, em, sH, dw2, ah2⟩
    have lu : us.length = l.length := Paired.length wl
    refine ⟨_, rfl, _, rfl, ?_⟩
    cases link with
    | none =>
      have e : lv = .non := av
      subst e
      refine iteNS rfl ?_
      obtain ⟨b1, b2, b3, b4⟩ := bk
      refine ⟨_, rfl, lk, us, rfl, SqL.of el, by omega, fun l' hl' => k _ _ l.reverse (sH.laidT hl') ⟨l', us.reverse, rfl, sH.free hl', upd_same, paired_rev (wl.same (Same.laid hl'))⟩ (.inr ⟨n, fo.dist ht, b1, b2, b3, by rw [List.length_reverse]; exact b4⟩)⟩
    | some u =>
      obtain ⟨p, rfl, hp⟩ := (show IsW H2 lv u from av)
      have e : decide (V.ref p = V.non) = false := by simp
      rw [e]
      obtain ⟨q', d', g1, g2, g3, g4⟩ := bk
      obtain ⟨bt, bl⟩ := Back.turn fo.toCore ⟨q', d', g1, g2, g3, g4⟩ g1
      refine iteT ⟨_, fun σ' H' nx => nx, _, rfl, .inl ⟨rfl, _, SqL.of el⟩, _, rfl, lk, us, _, rfl, rfl, el, by rw [sizeLine_eq]; omega, ?_⟩
      have t3 : Tups H2 (upd H2 lk (.lst (us ++ [V.ref p]))) := lst_notup el
      have dw3 := dw2.upd (o := .lst (us ++ [V.ref p])) el
      have ah3 := AhR.tups t3 ah2
      obtain ⟨nv, ev', anv⟩ := AhR.val ah3 fo.nd g1
      refine ⟨_, rfl, _, rfl, d, u, kvs, nv, rfl, ⟨p, rfl, t3 _ _ hp⟩, dw3, ev', ?_⟩
      exact ⟨m - 1, by omega, q', nv, l ++ [u], us ++ [V.ref p], rfl, anv, upd_same, (wl.tups t3).snoc ⟨p, rfl, t3 _ _ hp⟩, bt, by simp; omega, sH.chg nlk, dw3, ah3⟩
end
end L2

end

section
set_option autoImplicit false
set_option maxRecDepth 100000
set_option linter.all false
namespace L2
open PySem PySem.Spec PyProof.Rows EoD Eo
theorem Room.units5 {k : Nat} {A : Around} (r : Room k A) : A.units + 65 < cLine := by have := r.un; omega
def AllFree (X : Cx) : List (Str × NameKind) → Prop
  | [] => True
  | x :: r => (x.2 = .free → X.env.kindOf x.1 = some .cell) ∧ AllFree X r
theorem AllFree.all {X : Cx} : ∀ {l : List (Str × NameKind)}, AllFree X l → ∀ y ∈ l, y.2 = .free → X.env.kindOf y.1 = some .cell
  | [], _, y, hy => by simp at hy
  | x :: r, h, y, hy => by
    rcases List.mem_cons.mp hy with e | hy
    · subst e; exact h.1
    · exact AllFree.all h.2 y hy
theorem comp_list {K : PySem.W.Frag} {a D : Addr} {xs : List V} {js : List Nat} {tc : TT} {te : TE} {σ : St} {H : Hp} {Qd : Hp → Prop} (Pv : Nat → List V → Hp → Prop) (h0 : Pv 0 [] (upd H D (.lst []))) (hl : ∀ i acc H, i ≤ xs.length → Pv i acc H → SqL K H a xs ∧ H D = some (.lst acc) ∧ acc.length < sizeLine)
    (hs : ∀ i x acc H (R : List V → Hp → Prop), xs[i]? = some x → Pv i acc H → (∀ acc' H', Pv (i + 1) acc' H' → R acc' H') → tc (some x :: look σ js) H fun b H4 => if b = true then te (some x :: look σ js) H4 fun v H5 => H5 D = some (.lst acc) ∧ R (acc ++ [v]) (upd H5 D (.lst (acc ++ [v]))) else R acc H4)
    (hd : ∀ acc H, Pv xs.length acc H → Qd H) :
    ∃ W : Nat → Nat → List V → Hp → Prop, (∃ m, W 0 m [] (upd H D (.lst []))) ∧ ∀ i m acc H2, W i m acc H2 → H2 D = some (.lst acc) ∧ acc.length < sizeLine ∧ (((Itl K a).stop i H2 ∧ Qd H2) ∨
      ((Itl K a).go i H2 ∧ ∀ x H3, (Itl K a).yld i H2 x H3 → tc (some x :: look σ js) H3 fun b H4 => if b = true then te (some x :: look σ js) H4 fun v H5 => H5 D = some (.lst acc) ∧ ∃ m', m' < m ∧ W (i + 1) m' (acc ++ [v]) (upd H5 D (.lst (acc ++ [v])))
        else ∃ m', m' < m ∧ W (i + 1) m' acc H4)) := by
  refine ⟨fun i m acc H => m = xs.length - i ∧ i ≤ xs.length ∧ Pv i acc H, ⟨xs.length, by simp, Nat.zero_le _, h0⟩, ?_⟩
  rintro i m acc H2 ⟨rfl, hi, p⟩
  obtain ⟨q, eD, sz⟩ := hl i acc H2 hi p
  refine ⟨eD, sz, ?_⟩
  by_cases hlt : i < xs.length
  · refine .inr ⟨⟨xs, xs[i], q, by simp [hlt]⟩, fun x H3 y => ?_⟩
    obtain ⟨e, y⟩ := y
    subst e
    exact hs i x acc _ (fun acc' H' => ∃ m', m' < xs.length - i ∧ m' = xs.length - (i + 1) ∧ i + 1 ≤ xs.length ∧ Pv (i + 1) acc' H') (y xs q) p fun acc' H' p' => ⟨_, by omega, rfl, hlt, p'⟩
  · have e : i = xs.length := by omega
    subst e
    exact .inl ⟨⟨xs, q, Nat.le_refl _⟩, hd acc H2 p⟩
theorem comp_range {lo : Int} {n : Nat} {D : Addr} {js : List Nat} {tc : TT} {te : TE} {σ : St} {H : Hp} {Qd : Hp → Prop} (Pv : Nat → List V → Hp → Prop) (h0 : Pv 0 [] (upd H D (.lst []))) (hl : ∀ i acc H, i ≤ n → Pv i acc H → H D = some (.lst acc) ∧ acc.length < sizeLine)
    (hs : ∀ i acc H (R : List V → Hp → Prop), i < n → Pv i acc H → (∀ acc' H', Pv (i + 1) acc' H' → R acc' H') → tc (some (.int (lo + i)) :: look σ js) H fun b H4 => if b = true then te (some (.int (lo + i)) :: look σ js) H4 fun v H5 => H5 D = some (.lst acc) ∧ R (acc ++ [v]) (upd H5 D (.lst (acc ++ [v]))) else R acc H4)
    (hd : ∀ acc H, Pv n acc H → Qd H) :
    ∃ W : Nat → Nat → List V → Hp → Prop, (∃ m, W 0 m [] (upd H D (.lst []))) ∧ ∀ i m acc H2, W i m acc H2 → H2 D = some (.lst acc) ∧ acc.length < sizeLine ∧ (((Itr lo n).stop i H2 ∧ Qd H2) ∨
      ((Itr lo n).go i H2 ∧ ∀ x H3, (Itr lo n).yld i H2 x H3 → tc (some x :: look σ js) H3 fun b H4 => if b = true then te (some x :: look σ js) H4 fun v H5 => H5 D = some (.lst acc) ∧ ∃ m', m' < m ∧ W (i + 1) m' (acc ++ [v]) (upd H5 D (.lst (acc ++ [v])))
        else ∃ m', m' < m ∧ W (i + 1) m' acc H4)) := by
  refine ⟨fun i m acc H => m = n - i ∧ i ≤ n ∧ Pv i acc H, ⟨n, by simp, Nat.zero_le _, h0⟩, ?_⟩
  rintro i m acc H2 ⟨rfl, hi, p⟩
  obtain ⟨eD, sz⟩ := hl i acc H2 hi p
  refine ⟨eD, sz, ?_⟩
  by_cases hlt : i < n
  · refine .inr ⟨hlt, fun x H3 y => ?_⟩
    obtain ⟨e, y⟩ := y
    subst e; subst y
    exact hs i acc _ (fun acc' H' => ∃ m', m' < n - i ∧ m' = n - (i + 1) ∧ i + 1 ≤ n ∧ Pv (i + 1) acc' H') hlt p fun acc' H' p' => ⟨_, by omega, rfl, hlt, p'⟩
  · have e : i = n := by omega
    subst e
    exact .inl ⟨Nat.le_refl _, hd acc H2 p⟩

theorem NewWs.wl {H H' : Hp} {v : V} {l : List W} (h : NewWs H H' v l) {K : PySem.W.Frag} : WL K H' v l := let ⟨a, vs, h1, _, h3, h4⟩ := h; ⟨a, vs, h1, SqL.of h3, h4⟩
theorem paired_mem {α β : Type} {F G : α → β → Prop} : ∀ {l : List α} {m : List β}, Paired F l m → (∀ a b, a ∈ l → F a b → G a b) → Paired G l m
  | _, _, .nil, _ => .nil
  | _, _, .cons h t, f => .cons (f _ _ List.mem_cons_self h) (paired_mem t fun a b ha => f a b (List.mem_cons_of_mem _ ha))
section
variable {P : Program} {w : World} {K : PySem.W.Frag} {mg : Str → Option Value} {base : Heap} {C : Addr}
end
end L2

end

section
set_option autoImplicit false
set_option maxRecDepth 100000
set_option linter.all false
namespace L2
open PySem PySem.Spec PyProof.Rows EoD Eo
theorem all_rep (n : Nat) : (List.replicate n true).all id = true := by
  induction n with
  | zero => rfl
  | succ n ih => rw [List.replicate_succ, List.all_cons, ih]; rfl
section
variable {P : Program} {w : World} {K : PySem.W.Frag} {mg : Str → Option Value} {base : Heap} {C : Addr}
inductive X_sp_init (C : Addr) (vs : List V) (H : Hp) (Q : VK) (E : XK) : Prop
  | mk (p dx l : Addr) (N : Nat) (us : List V) (ws : List (W × W)) (z_1 : vs = [.ref p, .int N, .ref l]) (z_2 : H p = some (.ins C dx [])) (z_3 : GoodH N ws) (z_4 : H l = some (.lst us)) (z_5 : Ps H us ws) (z_6 : ∀ H', HouseAt C H' (.ref p) N ws → (∀ b o, H b = some o → b ≠ p → H' b = some o) → Q .non H')
def sp_init (C : Addr) : Sp := fun vs H Q E => X_sp_init C vs H Q E
theorem sc_init : FnScope ["self", "names", "wishes"] ["self", "names", "wishes"] (defScope S_init) := ⟨rfl, rfl, rfl, by decide +kernel, rfl, by decide +kernel, by decide +kernel⟩
theorem ok_init {f : Addr} {fd : FuncData} (F : Fun K "__init__" "House.__init__" S_init f fd) (B : Bare mg) (T : TxtH K C) (m8 : ∃ t, mg "MOST_NAMES" = some (.int 8 t)) (m24 : ∃ t, mg "MOST_WISHES" = some (.int 24 t)) (cn : Cal P w K mg base "is_number" 1 ["value"] sp_num) (cw : Cal P w K mg base "is_wish" 3 ["names", "value"] sp_wish) :
    FnOk P w K mg base CX0 4 f fd ["self", "names", "wishes"] (sp_init C) := by
  refine F.ok sc_init (fun vs H Q E h => by obtain ⟨_, _, _, _, _, _, rfl, _⟩ := h; rfl) (fun cdv A outer s H vs Q E hr h => ?_)
  obtain ⟨p, dx, l, N, us, ws, rfl, hp, gh, el, pu, k⟩ := h
  obtain ⟨t8, m8⟩ := m8
  obtain ⟨t24, m24⟩ := m24
  have hr1 : Room 1 _ := hr.mono (by decide)
  refine ⟨_, pss_cons (ps_if (PW.pt (pw_or (pt_not (pt_val (pe_cal cn hr1 rfl (pa_cons (pv 1) pa_nil)))) (pw_or1 (pt_not (pt_chain op_le op_le pe_int (pv 1) (pe_glob (v := .int 8) rfl m8 ⟨_, rfl⟩)))))) pss_never pss_nil)
    (pss_cons (ps_if (PW.pt (pw_or (pt_not (pt_val (pe_isin B (pv 2) rfl rfl B.lst bt_list))) (pw_or1 (pt_cmpR op_gt (pe_callB call_len_seq rfl B.len bt_len (pa_cons (pv 2) pa_nil)) (pe_glob (v := .int 24) rfl m24 ⟨_, rfl⟩) (nomark _))))) pss_never pss_nil)
    (pss_cons (ps_if (pt_not (pt_val (pe_callB (call_allB rfl) rfl B.all bt_all (pa_cons (pe_comp (tc := tYes) (te := tCall sp_wish [] E0 (tCons (tVar 1) (tCons (tVar 0) tNil))) rfl ⟨rfl, by decide +kernel, rfl, by decide +kernel, AllFree.all ⟨(fun e => nomatch e), (fun e => nomatch e), (fun e => nomatch e), fun _ => rfl, trivial⟩⟩
        (ys := ["names"]) (js := [1]) ⟨rfl, rfl, rfl, trivial⟩ (by decide +kernel) (pi_list (pv 2)) (fun _ _ _ _ _ => pifs_nil) (fun _ _ _ _ _ => pe_cal cw hr rfl (pa_cons (pv 1) (pa_cons (pv 0) pa_nil)))) pa_nil)))) pss_never pss_nil)
    (pss_cons (ps_fld (pv 0) (pv 1) rfl) (pss_one (ps_fld (pv 0) (pe_callTy call_tuple_of rfl B.tup bt_tuple (pa_cons (pv 2) pa_nil)) rfl))))), ?_⟩
  have N1 := gh.lo
  have N8 := gh.hi
  have lw : us.length ≤ 24 := by rw [Paired.length pu]; exact gh.len
  refine ⟨_, rfl, N, rfl, true, rfl, iteF ⟨_, rfl, _, _, rfl, rfl, _, rfl, iteP (by omega) ⟨_, _, rfl, rfl, _, rfl, iteNS (by omega) ?_⟩⟩⟩
  refine ⟨_, rfl, _, _, _, true, rfl, .lst el, rfl, true, rfl, iteF ⟨_, rfl, l, us, rfl, .inl (SqL.of el), _, _, rfl, rfl, _, rfl, iteN (by omega) ?_⟩⟩
  refine ⟨_, rfl, l, rfl, ⟨_, SqL.of el⟩, fun Dd hD => ?_⟩
  have s1 : ∀ {acc : List V}, Same H (upd H Dd (.lst acc)) := Same.laid hD
  refine comp_list (K := K) (a := l) (xs := us) (js := [1]) (tc := tYes) (te := tCall sp_wish [] E0 (tCons (tVar 1) (tCons (tVar 0) tNil))) (σ := start ["self", "names", "wishes"] [.ref p, .int N, .ref l]) (fun j acc H6 => H6 = upd H Dd (.lst acc) ∧ acc = (List.replicate j true).map V.bl) ⟨rfl, rfl⟩ ?_ ?_ ?_
  · rintro j acc H6 hj ⟨rfl, ea⟩
    refine ⟨SqL.of (s1 _ _ el), upd_same, ?_⟩
    rw [ea, List.length_map, List.length_replicate, sizeLine_eq]
    omega
  · rintro j x' acc H6 R' hj ⟨rfl, ea⟩ hR
    obtain ⟨pr, hpr, isx⟩ := paired_get pu hj
    have g := gh.good pr (List.mem_of_getElem? hpr)
    simp only [tYes, if_true]
    refine ⟨_, rfl, _, rfl, N, x', pr, rfl, isx.same s1, g.1, g.2, upd_same, hR _ _ ⟨upd_upd, ?_⟩⟩
    rw [ea, List.replicate_succ']
    simp
  · rintro acc H6 ⟨rfl, ea⟩
    refine ⟨Dd, List.replicate us.length true, rfl, SqL.of (by rw [← ea]; exact upd_same), _, rfl, ?_⟩
    rw [all_rep]
    refine iteF ?_
    have pD : p ≠ Dd := ne_of_none hp hD
    have lD : l ≠ Dd := ne_of_none el hD
    have lp : l ≠ p := ne_of el hp (by intro z; cases z)
    refine ⟨_, rfl, _, rfl, p, C, dx, [], rfl, s1 _ _ hp, T.cl, T.nN, (by show 0 < 1000; decide), ?_⟩
    refine ⟨_, rfl, l, us, rfl, .inl ⟨SqL.of (by rw [upd_ne lp, upd_ne lD]; exact el), fun q hq => ?_⟩⟩
    have pq : p ≠ q := fun z => by rw [← z, upd_same] at hq; cases hq
    refine ⟨_, rfl, p, C, dx, _, rfl, by rw [upd_ne pq]; exact upd_same, T.cl, T.nK, (by show 1 < 1000; decide), ?_⟩
    have keep : ∀ b o, H b = some o → b ≠ p → (upd (upd (upd (upd H Dd (.lst acc)) p (.ins C dx (putF "names" (.int N) []))) q (.tup us)) p (.ins C dx (putF "kept" (.ref q) (putF "names" (.int N) [])))) b = some o := fun b o e hb => by
      have bq : b ≠ q := fun z => by
        rw [← z, upd_ne hb, s1 _ _ e] at hq
        cases hq
      rw [upd_ne hb, upd_ne bq, upd_ne hb]
      exact s1 _ _ e
    have tp : Tups H (upd (upd (upd (upd H Dd (.lst acc)) p (.ins C dx (putF "names" (.int N) []))) q (.tup us)) p (.ins C dx (putF "kept" (.ref q) (putF "names" (.int N) [])))) := fun b xs e => keep b _ e (ne_of e hp (by intro z; cases z))
    exact k _ ⟨p, dx, q, us, rfl, upd_same, by rw [upd_ne pq.symm]; exact upd_same, pu.tups tp, lw⟩ keep
end
end L2

end

section
set_option autoImplicit false
set_option maxRecDepth 100000
set_option linter.all false
namespace L2
open PySem PySem.Spec PyProof.Rows EoD Eo
theorem atI_in {xs : List V} {i : Int} (h0 : 0 ≤ i) (h1 : i < xs.length) : ∃ v, atI xs i = some v ∧ v ∈ xs := by
  obtain ⟨j, rfl⟩ := Int.eq_ofNat_of_zero_le h0
  have hj : j < xs.length := by omega
  exact ⟨xs[j], atI_nat (List.getElem?_eq_getElem hj), List.getElem_mem hj⟩
theorem cmulR {i j : Int} (h1 : -(2 ^ 64) < j) (h2 : j < 2 ^ 64) : CMul i j := .inr ⟨h1, h2⟩
section
variable {P : Program} {w : World} {K : PySem.W.Frag} {mg : Str → Option Value} {base : Heap} {C : Addr}
inductive X_sp_cell (K : PySem.W.Frag) (vs : List V) (H : Hp) (Q : VK) (E : XK) : Prop
  | mk (a : Addr) (ns : List Int) (k : Int) (z_1 : vs = [.ref a, .int k]) (z_2 : SqL K H a (ns.map V.int)) (z_3 : 0 ≤ k) (z_4 : ∀ i, Q (.int i) H)
def sp_cell (K : PySem.W.Frag) : Sp := fun vs H Q E => X_sp_cell K vs H Q E
theorem sc_cell : FnScope ["_law_script", "_law_k"] ["_law_script", "_law_k"] (defScope S_cell) := ⟨rfl, rfl, rfl, by decide +kernel, rfl, by decide +kernel, by decide +kernel⟩
theorem ok_cell (D : Def K mg "_law_cell_at" S_cell ["_law_script", "_law_k"]) (B : Bare mg) : Cal P w K mg base "_law_cell_at" 1 ["_law_script", "_law_k"] (sp_cell K) := by
  refine D.cal (k := 0) sc_cell (fun vs H Q E h => by obtain ⟨_, _, _, rfl, _⟩ := h; rfl) (fun f cdv A outer s H vs Q E hr h => ?_)
  obtain ⟨a, ns, k, rfl, hq, hk, q⟩ := h
  refine ⟨_, pss_cons (ps_if (pt_cmpR op_lt (pv 1) (pe_callB call_len_seq rfl B.len bt_len (pa_cons (pv 0) pa_nil)) (nomark _)) (pss_one (ps_ret (pe_ix ix_list (pv 0) (pv 1) (fun _ _ => rfl)))) pss_nil) (pss_one (ps_ret pe_int)), ?_⟩
  refine ⟨_, rfl, _, rfl, a, _, rfl, .inl hq, _, _, rfl, rfl, _, rfl, iteD (fun h => ?_) (fun h => q 0)⟩
  obtain ⟨v, e, hm⟩ := atI_in (xs := ns.map V.int) hk h
  obtain ⟨n, _, rfl⟩ := List.mem_map.mp hm
  exact ⟨_, rfl, _, rfl, a, _, k, _, rfl, rfl, hq, e, q n⟩
inductive X_sp_draw  (vs : List V) (H : Hp) (Q : VK) (E : XK) : Prop
  | mk (c k m : Int) (z_1 : vs = [.int c, .int k, .int m]) (z_2 : 0 < m) (z_3 : ∀ H' r, Same H H' → 0 ≤ r → r < m → Q (.int r) H')
def sp_draw : Sp := fun vs H Q E => X_sp_draw  vs H Q E
theorem sc_draw : FnScope ["_law_cell", "_law_k", "_law_many", "_law_primes", "_law_blend"] ["_law_cell", "_law_k", "_law_many"] (defScope S_draw) := ⟨rfl, rfl, rfl, by decide +kernel, rfl, by decide +kernel, by decide +kernel⟩

set_option maxHeartbeats 4000000 in
theorem ok_draw (D : Def K mg "_law_draw" S_draw ["_law_cell", "_law_k", "_law_many"]) : Cal P w K mg base "_law_draw" 1 ["_law_cell", "_law_k", "_law_many"] sp_draw := by
  refine D.cal (k := 0) sc_draw (fun vs H Q E h => by obtain ⟨_, _, _, rfl, _⟩ := h; rfl) (fun f cdv A outer s H vs Q E hr h => ?_)
  obtain ⟨c, k, m, rfl, hm, q⟩ := h
  refine ⟨_, pss_cons (ps_set (i := 3) sc_draw.nd rfl (Or.inl rfl) (pe_tup (pa_cons pe_int (pa_cons pe_int (pa_cons pe_int (pa_cons pe_int (pa_cons pe_int (pa_cons pe_int (pa_cons pe_int (pa_cons pe_int pa_nil))))))))))
    (pss_cons (ps_set (i := 4) sc_draw.nd rfl (Or.inl rfl) (pe_op op_add (pe_op op_add (pe_op op_mul (pv 0) pe_int) (pe_op op_mul (pv 1) pe_int)) (pe_op op_mul (pe_op op_mod (pe_op op_fdiv (pv 0) pe_int) pe_int) pe_int)))
    (pss_one (ps_ret (pe_op op_mod (pe_op op_mod (pv 4) (pe_ix ix_tup (pv 3) (pe_op op_mod (pv 1) pe_int) (fun _ _ => rfl))) (pv 2))))), ?_⟩
  refine ⟨(by show 8 ≤ sizeLine; decide), fun p hp => ?_⟩
  refine ⟨_, rfl, _, _, rfl, rfl, cmulR (by decide) (by decide), _, rfl, _, _, rfl, rfl, cmulR (by decide) (by decide), _, _, rfl, rfl, ?_⟩
  refine ⟨_, rfl, _, _, rfl, rfl, ⟨by decide, by decide⟩, _, _, rfl, rfl, (show (0 : Int) < 1000003 by decide), _, _, rfl, rfl, cmulR (by decide) (by decide), _, _, rfl, rfl, ?_⟩
  have h0 : 0 ≤ k % 8 := Int.emod_nonneg _ (by decide)
  have h8 : k % 8 < 8 := Int.emod_lt_of_pos _ (by decide)
  obtain ⟨v, e, hv⟩ := atI_in (xs := [V.int 1000003, .int 1000033, .int 1000037, .int 1000039, .int 1000081, .int 1000099, .int 1000117, .int 1000121]) h0 h8
  have pv' : ∃ n : Int, v = .int n ∧ 0 < n := by
    simp only [List.mem_cons, List.not_mem_nil, or_false] at hv
    rcases hv with rfl | rfl | rfl | rfl | rfl | rfl | rfl | rfl <;> exact ⟨_, rfl, by decide⟩
  obtain ⟨n, rfl, hn⟩ := pv'
  refine ⟨_, rfl, _, rfl, _, rfl, _, _, rfl, rfl, (show (0 : Int) < 8 by decide), p, _, _, _, rfl, rfl, SqT.of upd_same, e, _, _, rfl, rfl, hn, _, rfl, _, _, rfl, rfl, hm, ?_⟩
  exact q _ _ (Same.laid hp) (Int.emod_nonneg _ (by omega)) (Int.emod_lt_of_pos _ hm)
inductive X_sp_lword  (vs : List V) (H : Hp) (Q : VK) (E : XK) : Prop
  | mk (c : Int) (N : Nat) (z_1 : vs = [.int c, .int N]) (z_2 : 1 ≤ N) (z_3 : ∀ H' v x, Same H H' → IsW H' v x → InN N x → Q v H')
def sp_lword : Sp := fun vs H Q E => X_sp_lword  vs H Q E
theorem sc_lword : FnScope ["_law_cell", "_law_names"] ["_law_cell", "_law_names"] (defScope S_lword) := ⟨rfl, rfl, rfl, by decide +kernel, rfl, by decide +kernel, by decide +kernel⟩
theorem ok_lword (D : Def K mg "_law_word" S_lword ["_law_cell", "_law_names"]) (cd : Cal P w K mg base "_law_draw" 1 ["_law_cell", "_law_k", "_law_many"] sp_draw) : Cal P w K mg base "_law_word" 2 ["_law_cell", "_law_names"] sp_lword := by
  refine D.cal (k := 1) sc_lword (fun vs H Q E h => by obtain ⟨_, _, rfl, _⟩ := h; rfl) (fun f cdv A outer s H vs Q E hr h => ?_)
  obtain ⟨c, N, rfl, hN, q⟩ := h
  refine ⟨_, pss_one (ps_ret (pe_tup (pa_cons (pe_cal cd hr rfl (pa_cons (pv 0) (pa_cons pe_int (pa_cons (pv 1) pa_nil)))) (pa_cons (pe_cmpR op_eq (pe_cal cd hr rfl (pa_cons (pv 0) (pa_cons pe_int (pa_cons pe_int pa_nil)))) pe_int (nomark _)) pa_nil)))), ?_⟩
  refine ⟨_, rfl, _, rfl, c, 1, N, rfl, by omega, fun H1 r1 s1 a1 a2 => ⟨_, rfl, c, 2, 2, rfl, by decide, fun H2 r2 s2 b1 b2 => ?_⟩⟩
  refine ⟨rfl, (by show 2 ≤ sizeLine; decide), fun p hp => ?_⟩
  exact q _ _ (r1, decide (V.int r2 = V.int 1)) ((s1.trans s2).laidT hp) ⟨p, rfl, upd_same⟩ ⟨a1, a2⟩
theorem sc_lnot : FnScope ["_law_word_here"] ["_law_word_here"] (defScope S_lnot) := ⟨rfl, rfl, rfl, by decide +kernel, rfl, by decide +kernel, by decide +kernel⟩
theorem ok_lnot (D : Def K mg "_law_not" S_lnot ["_law_word_here"]) : Cal P w K mg base "_law_not" 1 ["_law_word_here"] sp_opp := by
  refine D.cal (k := 0) sc_lnot (fun vs H Q E h => by obtain ⟨_, _, rfl, _⟩ := h; rfl) (fun f cdv A outer s H vs Q E hr h => ?_)
  obtain ⟨v, x, rfl, ⟨p, rfl, hp⟩, k⟩ := h
  refine ⟨_, pss_one (ps_ret (pe_tup (pa_cons (pe_ix ix_tup (pv 0) pe_int (fun _ _ => rfl)) (pa_cons (pe_not (pe_ix ix_tup (pv 0) pe_int (fun _ _ => rfl))) pa_nil)))), ?_⟩
  have i0 : atI [V.int x.1, V.bl x.2] 0 = some (V.int x.1) := rfl
  have i1 : atI [V.int x.1, V.bl x.2] 1 = some (V.bl x.2) := rfl
  refine ⟨_, rfl, p, _, 0, _, rfl, rfl, SqT.of hp, i0, _, rfl, p, _, 1, _, rfl, rfl, SqT.of hp, i1, _, rfl, (by show 2 ≤ sizeLine; decide), fun q hq => ?_⟩
  exact k _ _ (Same.laid hq) ⟨q, rfl, upd_same⟩
end
end L2

end

section
set_option autoImplicit false
set_option maxRecDepth 100000
set_option linter.all false
namespace L2
open PySem PySem.Spec PyProof.Rows EoD Eo
/-- a house, told plainly -/
def ToldAt (H : Hp) (v : V) (N : Nat) (ws : List (W × W)) : Prop := ∃ (p l : Addr) (us : List V), v = .ref p ∧ H p = some (.tup [.int N, .ref l]) ∧ H l = some (.lst us) ∧ Ps H us ws
theorem ToldAt.same {H H' : Hp} {v : V} {N : Nat} {ws : List (W × W)} (h : ToldAt H v N ws) (e : Same H H') : ToldAt H' v N ws := let ⟨p, l, us, h1, h2, h3, h4⟩ := h; ⟨p, l, us, h1, e _ _ h2, e _ _ h3, h4.same e⟩
theorem ps_last {H : Hp} {us : List V} {ws : List (W × W)} (h : Ps H us ws) (n : us ≠ []) : ∃ u pr, atI us (-1) = some u ∧ IsP H u pr ∧ pr ∈ ws := by
  have g : us[us.length - 1]? = some (us.getLast n) := by
    rw [List.getElem?_eq_getElem (by have := List.length_pos_iff.mpr n; omega), List.getLast_eq_getElem]
  obtain ⟨pr, h1, h2⟩ := paired_get h g
  have z := atI_last us.dropLast (us.getLast n)
  rw [List.dropLast_concat_getLast] at z
  exact ⟨us.getLast n, pr, z, h2, List.mem_of_getElem? h1⟩
section
variable {P : Program} {w : World} {K : PySem.W.Frag} {mg : Str → Option Value} {base : Heap} {C : Addr}
theorem told_app {D : Ends} {σ : St} {H : Hp} {l : Addr} {vo vt : V} {us : List V} (e6 : σ[6]? = some (some (.ref l))) (e8 : σ[8]? = some (some vo)) (e9 : σ[9]? = some (some vt)) (el : H l = some (.lst us)) (sz : us.length < sizeLine)
    (k : ∀ t, H t = none → D.nx σ (upd (upd H t (.tup [vo, vt])) l (.lst (us ++ [.ref t])))) : tDrop (tBM K "list" rAppend (tVar 6) (tCons (tTup (tCons (tVar 8) (tCons (tVar 9) tNil))) tNil)) D σ H :=
  ⟨_, e6, .inl ⟨rfl, _, SqL.of el⟩, _, e8, _, e9, (by show 2 ≤ sizeLine; decide), fun t ht => ⟨l, us, _, rfl, rfl, by rw [upd_ne (ne_of_none el ht)]; exact el, sz, k t ht⟩⟩
def PvTold (H : Hp) (a l : Addr) (f0 c o m : Int) (N : Nat) (i : Nat) (σ : St) (H4 : Hp) : Prop := ∃ (us : List V) (ws : List (W × W)) (z7 z8 z9 : Option V), σ = [some (.ref a), some (.int f0), some (.int c), some (.int o), some (.int N), some (.int m), some (.ref l), z7, z8, z9] ∧ Same H H4 ∧ H4 l = some (.lst us) ∧ Ps H4 us ws ∧ us.length = i ∧ Good N ws
inductive X_sp_told (K : PySem.W.Frag) (vs : List V) (H : Hp) (Q : VK) (E : XK) : Prop
  | mk (a : Addr) (ns : List Int) (f : Int) (z_1 : vs = [.ref a, .int f]) (z_2 : SqL K H a (ns.map V.int)) (z_3 : 0 ≤ f) (z_4 : ∀ H' v N ws, Same H H' → ToldAt H' v N ws → GoodH N ws → Q v H')
def sp_told (K : PySem.W.Frag) : Sp := fun vs H Q E => X_sp_told K vs H Q E
abbrev N_told : List Str := ["_law_script", "_law_first", "_law_cell", "_law_other", "_law_names", "_law_many", "_law_wishes", "_law_k", "_law_one", "_law_two"]
theorem sc_told : FnScope N_told ["_law_script", "_law_first"] (defScope S_told) := ⟨rfl, rfl, rfl, by decide +kernel, rfl, by decide +kernel, by decide +kernel⟩
set_option maxHeartbeats 4000000 in
theorem ok_told (D : Def K mg "_law_told" S_told ["_law_script", "_law_first"]) (B : Bare mg) (cc : Cal P w K mg base "_law_cell_at" 1 ["_law_script", "_law_k"] (sp_cell K)) (cd : Cal P w K mg base "_law_draw" 1 ["_law_cell", "_law_k", "_law_many"] sp_draw)
    (cw : Cal P w K mg base "_law_word" 2 ["_law_cell", "_law_names"] sp_lword) (cn : Cal P w K mg base "_law_not" 1 ["_law_word_here"] sp_opp) : Cal P w K mg base "_law_told" 3 ["_law_script", "_law_first"] (sp_told K) := by
  refine D.cal (k := 2) sc_told (fun vs H Q E h => by obtain ⟨_, _, _, rfl, _⟩ := h; rfl) (fun f cdv A outer s H vs Q E hr h => ?_)
  obtain ⟨a, ns, f0, rfl, hq, hf, k⟩ := h
  have hr1 : Room 1 _ := hr.mono (by decide)
  have T2 : ∃ u, PSs (cxOf CX0 P w K mg base N_told "_law_told" (defScope S_told) f cdv A outer s H E).nox ((defBody S_told).drop 4) u ∧
      ∀ (N : Nat) (H2 : Hp) (c o : Int), 1 ≤ N → N ≤ 8 → Same H H2 → u { nx := fun _ H' => Q .non H', rt := Q } [some (.ref a), some (.int f0), some (.int c), some (.int o), some (.int N), none, none, none, none, none] H2 := by
    refine ⟨_, pss_cons (ps_set (i := 5) sc_told.nd rfl (Or.inl rfl) (pe_cal cd hr1 rfl (pa_cons (pv 3) (pa_cons pe_int (pa_cons (pe_op op_add (pe_op op_mul (pe_ix ix_tup (pe_tup (pa_cons pe_int (pa_cons pe_int (pa_cons pe_int (pa_cons pe_int pa_nil))))) (pe_op op_mod (pe_op op_fdiv (pv 2) pe_int) pe_int) (fun _ _ => rfl)) (pv 4)) pe_int) pa_nil)))))
      (pss_cons (ps_set (i := 6) sc_told.nd rfl (Or.inl rfl) (pe_lst pa_nil))
      (pss_cons (ps_for PassesOwn.never rfl (pi_range1 rfl B.rng (pa_cons (pe_callB (call_min2 rfl) rfl B.min bt_min (pa_cons (pv 5) (pa_cons pe_int pa_nil))) pa_nil)) (pg_name (i := 7) sc_told.nd rfl (Or.inl rfl))
        (pss_cons (ps_set (i := 8) sc_told.nd rfl (Or.inl rfl) (pe_cal cw hr rfl (pa_cons (pe_op op_add (pe_op op_fdiv (pv 3) (pe_op op_add (pv 7) pe_int)) (pe_op op_mul pe_int (pv 7))) (pa_cons (pv 4) pa_nil))))
        (pss_cons (ps_set (i := 9) sc_told.nd rfl (Or.inl rfl) (pe_cal cw hr rfl (pa_cons (pe_op op_add (pe_op op_add (pe_op op_mul (pe_op op_fdiv (pv 3) (pe_op op_add (pv 7) pe_int)) pe_int) (pe_op op_mul pe_int (pv 7))) pe_int) (pa_cons (pv 4) pa_nil))))
        (pss_cons (ps_if (PW.pt (pw_and (pt_cmpR op_eq (pe_op op_mod (pe_op op_fdiv (pv 2) pe_int) pe_int) pe_int (nomark _)) (pw_and1 (pt_cmpR op_gt (pv 7) pe_int (nomark _)))))
          (pss_one (ps_set (i := 8) sc_told.nd rfl (Or.inl rfl) (pe_cal cn hr1 rfl (pa_cons (pe_ix ix_tup (pe_ix ix_list (pv 6) (pe_un un_neg pe_int) (fun _ _ => rfl)) pe_int (fun _ _ => rfl)) pa_nil)))) pss_nil)
        (pss_one (ps_app (pv 6) (pe_tup (pa_cons (pv 8) (pa_cons (pv 9) pa_nil)))))))))
      (pss_one (ps_ret (pe_tup (pa_cons (pv 4) (pa_cons (pv 6) pa_nil))))))), ?_⟩
    intro N H2 c o N1 N8 s2
    have h0 : 0 ≤ c / 16 % 4 := Int.emod_nonneg _ (by decide)
    have h4 : c / 16 % 4 < 4 := Int.emod_lt_of_pos _ (by decide)
    obtain ⟨v, e, hv⟩ := atI_in (xs := [V.int 2, .int 3, .int 4, .int 2]) h0 h4
    have pv' : ∃ n : Int, v = .int n ∧ 0 < n ∧ n < 8 := by
      simp only [List.mem_cons, List.not_mem_nil, or_false] at hv
      rcases hv with rfl | rfl | rfl | rfl <;> exact ⟨_, rfl, by decide, by decide⟩
    obtain ⟨n, rfl, n0, n8⟩ := pv'
    have hpos : 0 < n * (N : Int) + 1 := by
      have : 0 ≤ n * (N : Int) := Int.mul_nonneg (by omega) (by omega)
      omega
    refine ⟨_, rfl, (by show 4 ≤ sizeLine; decide), fun t ht => ⟨_, rfl, _, _, rfl, rfl, ⟨by decide, by decide⟩, _, _, rfl, rfl, (show (0 : Int) < 4 by decide), t, _, _, _, rfl, rfl, SqT.of upd_same, e, _, rfl, _, _, rfl, rfl, .inl ⟨by omega, by omega⟩, _, _, rfl, rfl, o, 0, _, rfl, hpos, fun H3 m s3 m0 _ => ?_⟩⟩
    refine ⟨Nat.zero_le _, fun l hl => ?_⟩
    have sH : Same H (upd H3 l (.lst [])) := (s2.trans ((Same.laid ht).trans s3)).laidT hl
    have nl : H l = none := (s2.trans ((Same.laid ht).trans s3)).free hl
    have m24 : (if (24 : Int) < m then (24 : Int) else m) ≤ 24 ∧ 0 ≤ (if (24 : Int) < m then (24 : Int) else m) := by split <;> omega
    refine ⟨_, rfl, m, 24, rfl, _, rfl, by omega, by omega, ?_⟩
    generalize (if (24 : Int) < m then (24 : Int) else m) = M at m24 ⊢
    refine for_range (lo := 0) (n := M.toNat) (PvTold H a l f0 c o m N) ⟨[], [], none, none, none, rfl, sH, upd_same, .nil, rfl, fun p hp => by simp at hp⟩ ?_ ?_
    · rintro i σ H4 hi ⟨us, ws, z7, z8, z9, rfl, s4, el, pu, lu, gd⟩
      have i24 : i < 24 := by omega
      refine ⟨_, rfl, _, rfl, _, _, rfl, rfl, _, _, rfl, rfl, ⟨by omega, by omega⟩, _, rfl, _, _, rfl, rfl, .inl ⟨by decide, by decide⟩, _, _, rfl, rfl, _, rfl, _, N, rfl, N1, fun H5 vo x s5 wo io => ?_⟩
      refine ⟨_, rfl, _, rfl, _, _, rfl, rfl, _, _, rfl, rfl, ⟨by omega, by omega⟩, _, _, rfl, rfl, cmulR (by decide) (by decide), _, rfl, _, _, rfl, rfl, .inl ⟨by decide, by decide⟩, _, _, rfl, rfl, _, _, rfl, rfl, _, rfl, _, N, rfl, N1, fun H6 vt y s6 wt it => ?_⟩
      have s46 : Same H4 H6 := s5.trans s6
      have fin : ∀ (H7 : Hp) (vo' : V) (x' : W) (Dd : Ends), Same H6 H7 → IsW H7 vo' x' → InN N x' → (∀ σ H', PvTold H a l f0 c o m N (i + 1) σ H' → Dd.nx σ H') →
          tDrop (tBM K "list" rAppend (tVar 6) (tCons (tTup (tCons (tVar 8) (tCons (tVar 9) tNil))) tNil)) Dd [some (.ref a), some (.int f0), some (.int c), some (.int o), some (.int N), some (.int m), some (.ref l), some (.int (0 + (i : Int))), some vo', some vt] H7 := by
        intro H7 vo' x' Dd s67 w' i' hD
        have s47 := s46.trans s67
        have el7 : H7 l = some (.lst us) := s47 _ _ el
        refine told_app rfl rfl rfl el7 (by rw [sizeLine_eq]; omega) fun t ht => hD _ _ ⟨us ++ [.ref t], ws ++ [(x', y)], _, _, _, rfl, ((s4.trans s47).laidT ht).chg nl, upd_same, ?_, by simp [lu], ?_⟩
        · have tl : t ≠ l := (ne_of_none el7 ht).symm
          have tp : Tups H7 (upd (upd H7 t (.tup [vo', vt])) l (.lst (us ++ [.ref t]))) := (Same.laid ht).tups.trans (Tups.upd (by rw [upd_ne tl.symm, el7]; intro _ z; cases z))
          exact ((pu.same s47).tups tp).snoc ⟨t, vo', vt, rfl, by rw [upd_ne tl]; exact upd_same, w'.tups tp, (wt.same s67).tups tp⟩
        · intro p hp
          rcases List.mem_append.mp hp with hp | hp
          · exact gd p hp
          · have e : p = (x', y) := by simpa using hp
            subst e
            exact ⟨i', it⟩
      refine ⟨_, rfl, _, _, rfl, rfl, ⟨by decide, by decide⟩, _, _, rfl, rfl, (show (0 : Int) < 3 by decide), rfl, _, rfl, iteD (fun _ => ⟨_, rfl, _, _, rfl, rfl, _, rfl, iteD (fun hk => ?_) (fun _ => fin H6 vo x _ (Same.refl _) (wo.same s6) io fun _ _ z => z)⟩) (fun _ => iteF (fin H6 vo x _ (Same.refl _) (wo.same s6) io fun _ _ z => z))⟩
      have ne : us ≠ [] := fun z => by
        rw [z] at lu
        have : i = 0 := by simpa using lu.symm
        subst this
        exact absurd hk (by decide)
      obtain ⟨u, pr, eu, ⟨q, qa, qb, rfl, hq', ha', hb'⟩, hm⟩ := ps_last (pu.same s46) ne
      have i1 : atI [qa, qb] 1 = some qb := rfl
      exact ⟨_, rfl, 1, rfl, l, us, -1, _, rfl, rfl, SqL.of (s46 _ _ el), eu, q, _, 1, _, rfl, rfl, SqT.of hq', i1, qb, pr.2, rfl, hb', fun H7 v' s67 isn => fin H7 v' (neg pr.2) _ s67 isn (gd pr hm).2 fun _ _ z => z⟩
    · rintro σ H4 ⟨us, ws, z7, z8, z9, rfl, s4, el, pu, lu, gd⟩
      refine ⟨_, rfl, _, rfl, (by show 2 ≤ sizeLine; decide), fun p hp => k _ _ N ws (s4.laidT hp) ⟨p, l, us, rfl, upd_same, by rw [upd_ne (ne_of_none el hp)]; exact el, pu.same (Same.laid hp)⟩ ⟨N1, N8, ?_, gd⟩⟩
      have := Paired.length pu
      omega
  obtain ⟨u, hu, hu'⟩ := T2
  refine ⟨_, pss_cons (ps_set (i := 2) sc_told.nd rfl (Or.inl rfl) (pe_cal cc hr1 rfl (pa_cons (pv 0) (pa_cons (pv 1) pa_nil))))
    (pss_cons (ps_set (i := 3) sc_told.nd rfl (Or.inl rfl) (pe_cal cc hr1 rfl (pa_cons (pv 0) (pa_cons (pe_op op_add (pv 1) pe_int) pa_nil))))
    (pss_cons (ps_set (i := 4) sc_told.nd rfl (Or.inl rfl) (pe_ix ix_tup (pe_tup (pa_cons pe_int (pa_cons pe_int (pa_cons pe_int (pa_cons pe_int (pa_cons pe_int (pa_cons pe_int (pa_cons pe_int (pa_cons pe_int pa_nil))))))))) (pe_op op_mod (pv 2) pe_int) (fun _ _ => rfl)))
    (pss_cons (ps_if (pt_cmpR op_eq (pe_op op_mod (pe_op op_fdiv (pv 2) pe_int) pe_int) pe_int (nomark _)) (pss_one (ps_set (i := 4) sc_told.nd rfl (Or.inl rfl) (pe_op op_add pe_int (pe_op op_mod (pe_op op_fdiv (pv 2) pe_int) pe_int)))) pss_nil) hu))), ?_⟩
  refine ⟨_, rfl, _, rfl, a, ns, f0, rfl, hq, hf, fun c => ⟨_, rfl, _, rfl, _, _, rfl, rfl, a, ns, f0 + 1, rfl, hq, by omega, fun o => ?_⟩⟩
  have h0 : 0 ≤ c % 8 := Int.emod_nonneg _ (by decide)
  have h8 : c % 8 < 8 := Int.emod_lt_of_pos _ (by decide)
  obtain ⟨v, e, hv⟩ := atI_in (xs := [V.int 3, .int 4, .int 2, .int 5, .int 3, .int 4, .int 1, .int 6]) h0 h8
  have pv' : ∃ n : Int, v = .int n ∧ 0 < n ∧ n ≤ 8 := by
    simp only [List.mem_cons, List.not_mem_nil, or_false] at hv
    rcases hv with rfl | rfl | rfl | rfl | rfl | rfl | rfl | rfl <;> exact ⟨_, rfl, by decide, by decide⟩
  obtain ⟨n, rfl, n0, n8⟩ := pv'
  obtain ⟨N, rfl⟩ := Int.eq_ofNat_of_zero_le (Int.le_of_lt n0)
  refine ⟨(by show 8 ≤ sizeLine; decide), fun t ht => ⟨_, rfl, _, _, rfl, rfl, (show (0 : Int) < 8 by decide), t, _, _, _, rfl, rfl, SqT.of upd_same, e, ?_⟩⟩
  refine ⟨_, rfl, _, _, rfl, rfl, ⟨by decide, by decide⟩, _, _, rfl, rfl, (show (0 : Int) < 12 by decide), rfl, _, rfl, iteD (fun _ => ?_) (fun _ => hu' N _ c o (by omega) (by omega) (Same.laid ht))⟩
  refine ⟨_, rfl, _, _, rfl, rfl, ⟨by decide, by decide⟩, _, _, rfl, rfl, (show (0 : Int) < 2 by decide), _, _, rfl, rfl, ?_⟩
  have g0 : 0 ≤ c / 96 % 2 := Int.emod_nonneg _ (by decide)
  have g2 : c / 96 % 2 < 2 := Int.emod_lt_of_pos _ (by decide)
  obtain ⟨M, hM⟩ := Int.eq_ofNat_of_zero_le (show 0 ≤ 7 + c / 96 % 2 by omega)
  have z := hu' M (upd H t (.tup [V.int 3, .int 4, .int 2, .int 5, .int 3, .int 4, .int 1, .int 6])) c o (by omega) (by omega) (Same.laid ht)
  rw [← hM] at z
  exact z
end
end L2

end

section
set_option autoImplicit false
set_option maxRecDepth 100000
set_option linter.all false
namespace L2
open PySem PySem.Spec PyProof.Rows EoD Eo
section
variable {P : Program} {w : World} {K : PySem.W.Frag} {mg : Str → Option Value} {base : Heap} {C : Addr}
inductive X_sp_lnext  (vs : List V) (H : Hp) (Q : VK) (E : XK) : Prop
  | mk (t a b : V) (N : Nat) (ws : List (W × W)) (x y : W) (z_1 : vs = [t, a, b]) (z_2 : ToldAt H t N ws) (z_3 : IsW H a x) (z_4 : IsW H b y) (z_5 : ∀ H', Same H H' → Q (.bl (decide (Nx ws x y))) H')
def sp_lnext : Sp := fun vs H Q E => X_sp_lnext  vs H Q E
theorem sc_lnext : FnScope ["_law_told_here", "_law_word_here", "_law_other"] ["_law_told_here", "_law_word_here", "_law_other"] (defScope S_lnext) := ⟨rfl, rfl, rfl, by decide +kernel, rfl, by decide +kernel, by decide +kernel⟩
theorem sc_lchain : FnScope ["_law_told_here", "_law_links"] ["_law_told_here", "_law_links"] (defScope S_lchain) := ⟨rfl, rfl, rfl, by decide +kernel, rfl, by decide +kernel, by decide +kernel⟩
abbrev te_lchain (K : PySem.W.Frag) : TE := tCall sp_lnext [] E0 (tCons (tVar 1) (tCons (tOp (rIxL K) (tVar 2) (tOp (rI0 fun i j => .int (i - j)) (tVar 0) (tC (.int 1)))) (tCons (tOp (rIxL K) (tVar 2) (tVar 0)) tNil)))
inductive X_sp_lwords  (vs : List V) (H : Hp) (Q : VK) (E : XK) : Prop
  | mk (l : Addr) (N : Nat) (us : List V) (cs : List W) (z_1 : vs = [.ref l, .int N]) (z_2 : H l = some (.lst us)) (z_3 : Ws H us cs) (z_4 : (∀ x ∈ cs, InN N x)) (z_5 : Q (.bl true) H)
def sp_lwords : Sp := fun vs H Q E => X_sp_lwords  vs H Q E
theorem sc_lwords : FnScope ["_law_links", "_law_names", "_law_word_here"] ["_law_links", "_law_names"] (defScope S_lwords) := ⟨rfl, rfl, rfl, by decide +kernel, rfl, by decide +kernel, by decide +kernel⟩
end
end L2

end

section
set_option autoImplicit false
set_option maxRecDepth 100000
set_option linter.all false
namespace L2
open PySem PySem.Spec PyProof.Rows EoD Eo
section
variable {P : Program} {w : World} {K : PySem.W.Frag} {mg : Str → Option Value} {base : Heap} {C : Addr}
end
end L2

end

section
set_option autoImplicit false
set_option maxRecDepth 100000
set_option linter.all false
namespace L2
open PySem PySem.Spec PyProof.Rows EoD Eo
section
variable {P : Program} {w : World} {K : PySem.W.Frag} {mg : Str → Option Value} {base : Heap} {C : Addr}
end
end L2

end

section
set_option autoImplicit false
set_option maxRecDepth 100000
set_option linter.all false
namespace L2
open PySem PySem.Spec PyProof.Rows EoD Eo
theorem atI_map {α : Type} {f : α → V} {l : List α} {n : Int} {b : α} (h0 : 0 ≤ n) (h : l[n.toNat]? = some b) : atI (l.map f) n = some (f b) := by
  obtain ⟨i, rfl⟩ := Int.eq_ofNat_of_zero_le h0
  exact atI_nat (by rw [List.getElem?_map]; simpa using congrArg (Option.map f) h)
theorem fOf_get {c : List Bool} {N : Nat} {x : W} (hl : c.length = N) (hx : InN N x) : c[x.1.toNat]? = some (fOf c x.1) := by
  have h : x.1.toNat < c.length := by have := hx.1; have := hx.2; omega
  unfold fOf
  rw [List.getElem?_eq_getElem h, List.getD_eq_getElem?_getD, List.getElem?_eq_getElem h]
  rfl
section
variable {P : Program} {w : World} {K : PySem.W.Frag} {mg : Str → Option Value} {base : Heap} {C : Addr}
inductive X_sp_lpls (K : PySem.W.Frag) (vs : List V) (H : Hp) (Q : VK) (E : XK) : Prop
  | mk (a : Addr) (wv : V) (N : Nat) (bs : List Bool) (p : W × W) (z_1 : vs = [.ref a, wv]) (z_2 : SqL K H a (bs.map V.bl)) (z_3 : bs.length = N) (z_4 : IsP H wv p) (z_5 : InN N p.1) (z_6 : InN N p.2) (z_7 : Q (.bl (decide (Has (fOf bs) p.1 ∨ Has (fOf bs) p.2))) H)
def sp_lpls (K : PySem.W.Frag) : Sp := fun vs H Q E => X_sp_lpls K vs H Q E
theorem sc_lpls : FnScope ["_law_choice", "_law_wish"] ["_law_choice", "_law_wish"] (defScope S_lpls) := ⟨rfl, rfl, rfl, by decide +kernel, rfl, by decide +kernel, by decide +kernel⟩
theorem ok_lpls (D : Def K mg "_law_pleases" S_lpls ["_law_choice", "_law_wish"]) : Cal P w K mg base "_law_pleases" 1 ["_law_choice", "_law_wish"] (sp_lpls K) := by
  refine D.cal (k := 0) sc_lpls (fun vs H Q E h => by obtain ⟨_, _, _, _, _, rfl, _⟩ := h; rfl) (fun f cdv A outer s H vs Q E hr h => ?_)
  obtain ⟨a, wv, N, bs, pr, rfl, hq, hl, ⟨q, u, v, rfl, hw, ⟨pu, rfl, hu⟩, ⟨qv, rfl, hv⟩⟩, i1, i2, k⟩ := h
  refine ⟨_, pss_one (ps_ret (pe_or (pe_cmpR op_eq (pe_ix ix_list (pv 0) (pe_ix ix_tup (pe_ix ix_tup (pv 1) pe_int (fun _ _ => rfl)) pe_int (fun _ _ => rfl)) (fun _ _ => rfl)) (pe_ix ix_tup (pe_ix ix_tup (pv 1) pe_int (fun _ _ => rfl)) pe_int (fun _ _ => rfl)) (nomark _))
    (pe_one (pe_cmpR op_eq (pe_ix ix_list (pv 0) (pe_ix ix_tup (pe_ix ix_tup (pv 1) pe_int (fun _ _ => rfl)) pe_int (fun _ _ => rfl)) (fun _ _ => rfl)) (pe_ix ix_tup (pe_ix ix_tup (pv 1) pe_int (fun _ _ => rfl)) pe_int (fun _ _ => rfl)) (nomark _))))), ?_⟩
  have w0 : atI [V.ref pu, V.ref qv] 0 = some (V.ref pu) := rfl
  have w1 : atI [V.ref pu, V.ref qv] 1 = some (V.ref qv) := rfl
  have a0 : ∀ (x : W), atI [V.int x.1, V.bl x.2] 0 = some (V.int x.1) := fun _ => rfl
  have a1 : ∀ (x : W), atI [V.int x.1, V.bl x.2] 1 = some (V.bl x.2) := fun _ => rfl
  have c1 := atI_map (f := V.bl) i1.1 (fOf_get hl i1)
  have c2 := atI_map (f := V.bl) i2.1 (fOf_get hl i2)
  refine ⟨_, rfl, _, rfl, q, _, 0, _, rfl, rfl, SqT.of hw, w0, pu, _, 0, _, rfl, rfl, SqT.of hu, a0 _, a, _, _, _, rfl, rfl, hq, c1, _, rfl, q, _, 0, _, rfl, rfl, SqT.of hw, w0, pu, _, 1, _, rfl, rfl, SqT.of hu, a1 _, rfl, _, rfl, iteD (fun h => ?_) (fun h => ?_)⟩
  · rw [decide_eq_true (show Has (fOf bs) pr.1 ∨ Has (fOf bs) pr.2 from .inl (V.bl.inj h))] at k
    exact k
  · refine ⟨_, rfl, _, rfl, q, _, 1, _, rfl, rfl, SqT.of hw, w1, qv, _, 0, _, rfl, rfl, SqT.of hv, a0 _, a, _, _, _, rfl, rfl, hq, c2, _, rfl, q, _, 1, _, rfl, rfl, SqT.of hw, w1, qv, _, 1, _, rfl, rfl, SqT.of hv, a1 _, rfl, ?_⟩
    have e : decide (Has (fOf bs) pr.1 ∨ Has (fOf bs) pr.2) = decide (V.bl (fOf bs pr.2.1) = V.bl pr.2.2) := by
      rw [Bool.eq_iff_iff]
      simp only [decide_eq_true_iff]
      exact ⟨fun z => congrArg V.bl (z.resolve_left fun z' => h (congrArg V.bl z')), fun z => .inr (V.bl.inj z)⟩
    rw [e] at k
    exact k
inductive X_sp_lchoices  (vs : List V) (H : Hp) (Q : VK) (E : XK) : Prop
  | mk (t : V) (N : Nat) (ws : List (W × W)) (z_1 : vs = [t]) (z_2 : ToldAt H t N ws) (z_3 : GoodH N ws) (z_4 : ∀ H' v, Same H H' → NewCL H H' v (pleasing ws N) → Q v H')
def sp_lchoices : Sp := fun vs H Q E => X_sp_lchoices  vs H Q E
abbrev N_lchoices : List Str := ["_law_told_here", "_law_found", "_law_number", "_law_choice"]
theorem sc_lchoices : FnScope N_lchoices ["_law_told_here"] (defScope S_lchoices) := ⟨rfl, rfl, rfl, by decide +kernel, rfl, by decide +kernel, by decide +kernel⟩
abbrev te_lbit : TE := tOp rEq (tOp (rI0 fun i j => .int (Builtin.bitAnd i j)) (tOp (rI (fun _ j => 0 ≤ j) fun i j => .int (i / 2 ^ j.toNat)) (tVar 1) (tVar 0)) (tC (.int 1))) (tC (.int 1))
abbrev te_lpl (K : PySem.W.Frag) : TE := tCall (sp_lpls K) [] E0 (tCons (tVar 1) (tCons (tVar 0) tNil))
theorem bit_eq (k j : Nat) : decide (V.int (Builtin.bitAnd ((0 + (k : Int)) / 2 ^ (0 + (j : Int)).toNat) 1) = V.int 1) = (k / 2 ^ j % 2 == 1) := by
  rw [bitAnd_m1]
  have e1 : (0 + (j : Int)).toNat = j := by omega
  have e2 : (0 + (k : Int)) / 2 ^ j = ((k / 2 ^ j : Nat) : Int) := by rw [Int.zero_add, Int.natCast_ediv]; simp
  rw [e1, e2, Bool.eq_iff_iff, decide_eq_true_iff, beq_iff_eq, V.int.injEq]
  omega
set_option maxHeartbeats 4000000 in
theorem ok_lchoices (D : Def K mg "_law_choices" S_lchoices ["_law_told_here"]) (B : Bare mg) (cp : Cal P w K mg base "_law_pleases" 1 ["_law_choice", "_law_wish"] (sp_lpls K)) : Cal P w K mg base "_law_choices" 2 ["_law_told_here"] sp_lchoices := by
  refine D.cal (k := 1) sc_lchoices (fun vs H Q E h => by obtain ⟨_, _, _, rfl, _⟩ := h; rfl) (fun f cdv A outer s H vs Q E hr h => ?_)
  obtain ⟨t, N, ws, rfl, ⟨p, l, ts, rfl, hp, hl, pu⟩, gh, k⟩ := h
  refine ⟨_, pss_cons (ps_set (i := 1) sc_lchoices.nd rfl (Or.inl rfl) (pe_lst pa_nil))
    (pss_cons (ps_for PassesOwn.never rfl (pi_range1 rfl B.rng (pa_cons (pe_op op_shl pe_int (pe_ix ix_tup (pv 0) pe_int (fun _ _ => rfl))) pa_nil)) (pg_name (i := 2) sc_lchoices.nd rfl (Or.inr rfl))
      (pss_cons (ps_set (i := 3) sc_lchoices.nd rfl (Or.inr rfl) (pe_comp (tc := tYes) (te := te_lbit) rfl ⟨rfl, by decide +kernel, rfl, by decide +kernel, AllFree.all (by repeat (first | exact trivial | refine ⟨?_, ?_⟩ | (intro e; cases e <;> fail) | (intro _; rfl)))⟩ (ys := ["_law_number"]) (js := [2]) ⟨rfl, rfl, rfl, trivial⟩ (by decide +kernel) (pi_range1 rfl B.rng (pa_cons (pe_ix ix_tup (pv 0) pe_int (fun _ _ => rfl)) pa_nil)) (fun _ _ _ _ _ => pifs_nil)
        (fun _ _ _ _ _ => pe_cmpR op_eq (pe_op op_and (pe_op op_shr (pv 1) (pv 0)) pe_int) pe_int (nomark _))))
      (pss_one (ps_if (pt_val (pe_callB (call_allB rfl) rfl B.all bt_all (pa_cons (pe_comp (tc := tYes) (te := te_lpl K) rfl ⟨rfl, by decide +kernel, rfl, by decide +kernel, AllFree.all (by repeat (first | exact trivial | refine ⟨?_, ?_⟩ | (intro e; cases e <;> fail) | (intro _; rfl)))⟩ (ys := ["_law_choice"]) (js := [3]) ⟨rfl, rfl, rfl, trivial⟩ (by decide +kernel) (pi_list (pe_ix ix_tup (pv 0) pe_int (fun _ _ => rfl))) (fun _ _ _ _ _ => pifs_nil)
        (fun _ _ _ _ _ => pe_cal cp hr rfl (pa_cons (pv 1) (pa_cons (pv 0) pa_nil)))) pa_nil))) (pss_one (ps_app (pv 1) (pv 3))) pss_nil))))
    (pss_one (ps_ret (pv 1)))), ?_⟩
  have N8 := gh.hi
  have i0 : atI [V.int (N : Int), V.ref l] 0 = some (V.int N) := rfl
  have i1 : atI [V.int (N : Int), V.ref l] 1 = some (V.ref l) := rfl
  have lts : ts.length ≤ 24 := by rw [Paired.length pu]; exact gh.len
  have e2 : (1 * (2 : Int) ^ ((N : Int)).toNat) = ((2 ^ N : Nat) : Int) := by simp
  have p8 : 2 ^ N ≤ 256 := Nat.pow_le_pow_right (n := 2) (by decide) N8
  have b0 : (0 : Int) ≤ 1 * (2 : Int) ^ ((N : Int)).toNat := by rw [e2]; exact Int.natCast_nonneg _
  have b1 : 1 * (2 : Int) ^ ((N : Int)).toNat ≤ 256 := by rw [e2]; exact Int.ofNat_le.mpr p8
  have en : (1 * (2 : Int) ^ ((N : Int)).toNat).toNat = 2 ^ N := by rw [e2]; exact Int.toNat_natCast _
  refine ⟨Nat.zero_le _, fun g hg => ?_⟩
  have s1 : Same H (upd H g (.lst [])) := Same.laid hg
  refine ⟨_, rfl, p, _, 0, _, rfl, rfl, SqT.of (s1 _ _ hp), i0, _, _, rfl, rfl, ⟨by omega, by omega, by decide⟩, _, rfl, Int.le_trans (by decide) b0, Int.lt_of_le_of_lt b1 (by decide), for_range (lo := 0) (n := (1 * (2 : Int) ^ ((N : Int)).toNat).toNat)
    (fun i σ H2 => ∃ (gvs : List V) (z2 z3 : Option V), σ = [some (.ref p), some (.ref g), z2, z3] ∧ Same H H2 ∧ H2 g = some (.lst gvs) ∧ Paired (NewBs H H2) gvs (((List.range i).map (bitsOf N)).filter fun c => decide (Pls (fOf c) ws)) ∧ gvs.length ≤ i ∧ ∀ v ∈ gvs, v ≠ .ref g)
    ⟨[], none, none, rfl, s1, upd_same, .nil, Nat.le_refl _, fun v hv => by simp at hv⟩ ?_ ?_⟩
  · rintro i σ H2 hi ⟨gvs, z2, z3, rfl, s2, eg, pg, lg, ng⟩
    have i256 : i < 256 := by rw [en] at hi; exact Nat.lt_of_lt_of_le hi p8
    refine ⟨_, rfl, p, _, 0, _, rfl, rfl, SqT.of (s2 _ _ hp), i0, _, rfl, by omega, by omega, fun Dd hD => ?_⟩
    refine comp_range (lo := 0) (n := ((N : Int)).toNat) (js := [2]) (tc := tYes) (te := te_lbit) (σ := List.set [some (.ref p), some (.ref g), z2, z3] 2 (some (.int (0 + (i : Int))))) (fun j acc H6 => H6 = upd H2 Dd (.lst acc) ∧ acc = ((List.range j).map fun b => i / 2 ^ b % 2 == 1).map V.bl) ⟨rfl, rfl⟩ ?_ ?_ ?_
    · rintro j acc H6 hj ⟨rfl, ea⟩
      refine ⟨upd_same, ?_⟩
      rw [ea, List.length_map, List.length_map, List.length_range, sizeLine_eq]
      omega
    · rintro j acc H6 R' hj ⟨rfl, ea⟩ hR
      simp only [tYes, if_true]
      refine ⟨_, rfl, _, rfl, _, _, rfl, rfl, (show (0 : Int) ≤ 0 + (j : Int) by omega), _, _, rfl, rfl, rfl, upd_same, hR _ _ ⟨upd_upd, ?_⟩⟩
      rw [ea, List.range_succ, List.map_append, List.map_append]
      show _ ++ [V.bl (decide (V.int (Builtin.bitAnd ((0 + (i : Int)) / 2 ^ (0 + (j : Int)).toNat) 1) = V.int 1))] = _
      rw [bit_eq]
      rfl
    · rintro acc H6 ⟨rfl, ea⟩
      have ea : acc = (bitsOf N i).map V.bl := by rw [ea]; simp [bitsOf]
      subst ea
      have s3 : Same H2 (upd H2 Dd (.lst ((bitsOf N i).map V.bl))) := Same.laid hD
      have s03 := s2.trans s3
      have nD : H Dd = none := s2.free hD
      have Dg : Dd ≠ g := (ne_of_none eg hD).symm
      have new : NewBs H (upd H2 Dd (.lst ((bitsOf N i).map V.bl))) (.ref Dd) (bitsOf N i) := ⟨Dd, rfl, nD, upd_same⟩
      have pg3 := Paired.mapP pg fun _ _ z => NewBs.same z s3
      have eg3 : upd H2 Dd (.lst ((bitsOf N i).map V.bl)) g = some (.lst gvs) := s3 _ _ eg
      have eD3 : upd H2 Dd (.lst ((bitsOf N i).map V.bl)) Dd = some (.lst ((bitsOf N i).map V.bl)) := upd_same
      generalize upd H2 Dd (.lst ((bitsOf N i).map V.bl)) = H3 at s3 s03 new pg3 eg3 eD3 ⊢
      refine ⟨_, rfl, p, _, 1, _, rfl, rfl, SqT.of (s03 _ _ hp), i1, l, rfl, ⟨_, SqL.of (s03 _ _ hl)⟩, fun De hE => ?_⟩
      have s4 : ∀ {acc : List V}, Same H3 (upd H3 De (.lst acc)) := Same.laid hE
      refine comp_list (K := K) (a := l) (xs := ts) (js := [3]) (tc := tYes) (te := te_lpl K) (σ := List.set (List.set [some (.ref p), some (.ref g), z2, z3] 2 (some (.int (0 + (i : Int))))) 3 (some (.ref Dd))) (fun j acc H6 => H6 = upd H3 De (.lst acc) ∧ acc = ((ws.take j).map fun q => decide (Has (fOf (bitsOf N i)) q.1 ∨ Has (fOf (bitsOf N i)) q.2)).map V.bl) ⟨rfl, by simp⟩ ?_ ?_ ?_
      · rintro j acc H6 hj ⟨rfl, ea⟩
        refine ⟨SqL.of (s4 _ _ (s03 _ _ hl)), upd_same, ?_⟩
        rw [ea, List.length_map, List.length_map, List.length_take, sizeLine_eq]
        omega
      · rintro j x' acc H6 R' hj ⟨rfl, ea⟩ hR
        obtain ⟨q, hq, isq⟩ := paired_get pu hj
        have g2 := gh.good q (List.mem_of_getElem? hq)
        simp only [tYes, if_true]
        refine ⟨_, rfl, _, rfl, Dd, x', N, bitsOf N i, q, rfl, SqL.of (s4 _ _ eD3), bits_len N i, (isq.same s03).same s4, g2.1, g2.2, upd_same, hR _ _ ⟨upd_upd, ?_⟩⟩
        rw [ea, List.take_add_one, hq, List.map_append, List.map_append]
        rfl
      · rintro acc H6 ⟨rfl, ea⟩
        have lw : ts.length = ws.length := Paired.length pu
        rw [lw, List.take_length] at ea
        refine ⟨De, _, rfl, SqL.of (by rw [← ea]; exact upd_same), _, rfl, ?_⟩
        have s5 : Same H3 (upd H3 De (.lst acc)) := s4
        have ef : ((List.range (i + 1)).map (bitsOf N)).filter (fun c => decide (Pls (fOf c) ws)) = ((List.range i).map (bitsOf N)).filter (fun c => decide (Pls (fOf c) ws)) ++ (if decide (Pls (fOf (bitsOf N i)) ws) = true then [bitsOf N i] else []) := by
          rw [List.range_succ, List.map_append, List.filter_append]
          congr 1
          show [bitsOf N i].filter _ = _
          rw [List.filter_cons]
          rfl
        have ea2 : (ws.map fun q => decide (Has (fOf (bitsOf N i)) q.1 ∨ Has (fOf (bitsOf N i)) q.2)).all id = decide (Pls (fOf (bitsOf N i)) ws) := by
          rw [Bool.eq_iff_iff, decide_eq_true_iff, List.all_eq_true]
          constructor
          · intro h q hq
            exact of_decide_eq_true (h _ (List.mem_map.mpr ⟨q, hq, rfl⟩))
          · intro h b hb
            obtain ⟨q, hq, rfl⟩ := List.mem_map.mp hb
            exact decide_eq_true (h q hq)
        rw [ea2]
        refine iteB (fun hb => ?_) (fun hb => ?_)
        · refine ⟨_, rfl, .inl ⟨rfl, _, SqL.of (s5 _ _ eg3)⟩, _, rfl, g, gvs, _, rfl, rfl, s5 _ _ eg3, by rw [sizeLine_eq]; omega, ?_⟩
          have keep : ∀ {v : V} {bs : List Bool}, NewBs H H3 v bs → v ≠ .ref g → NewBs H (upd (upd H3 De (.lst acc)) g (.lst (gvs ++ [.ref Dd]))) v bs := fun {v bs} ⟨a, h1, h2, h3⟩ ne => by
            subst h1
            exact ⟨a, rfl, h2, by rw [upd_ne (fun q => ne (by rw [q]))]; exact s5 _ _ h3⟩
          refine ⟨gvs ++ [.ref Dd], _, _, rfl, (s03.trans s5).chg hg, upd_same, ?_, by simp; omega, fun v hv => ?_⟩
          · rw [ef, if_pos hb]
            exact Paired.snoc (paired_mem pg3 fun v bs hv z => keep z (ng v hv)) (keep new (by intro q; cases q; exact Dg rfl))
          · rcases List.mem_append.mp hv with hv | hv
            · exact ng v hv
            · have : v = .ref Dd := by simpa using hv
              rw [this]
              intro q; cases q; exact Dg rfl
        · refine ⟨gvs, _, _, rfl, s03.trans s5, s5 _ _ eg3, ?_, by omega, ng⟩
          rw [ef, if_neg (by rw [hb]; exact Bool.false_ne_true), List.append_nil]
          exact Paired.mapP pg3 fun _ _ z => z.same s5
  · rintro σ H2 ⟨gvs, z2, z3, rfl, s2, eg, pg, lg, ng⟩
    rw [en] at pg
    exact ⟨_, rfl, k _ _ s2 ⟨g, gvs, rfl, hg, eg, pg⟩⟩
end
end L2

end

section
set_option autoImplicit false
set_option maxRecDepth 100000
set_option linter.all false
namespace L2
open PySem PySem.Spec PyProof.Rows EoD Eo
def plz (bs : List Bool) (p : W × W) : Bool := decide (Has (fOf bs) p.1 ∨ Has (fOf bs) p.2)
def disF (ws : List (W × W)) (bs : List Bool) (i : Nat) : Bool := match ws[i]? with
  | some p => !plz bs p
  | none => false
def dis (ws : List (W × W)) (bs : List Bool) : List Nat := (List.range ws.length).filter (disF ws bs)
theorem dis_nil {ws : List (W × W)} {bs : List Bool} : dis ws bs = [] ↔ Pls (fOf bs) ws := by
  unfold dis
  rw [List.filter_eq_nil_iff]
  constructor
  · intro h p hp
    obtain ⟨i, hi, e⟩ := List.mem_iff_getElem.mp hp
    have := h i (List.mem_range.2 hi)
    unfold disF at this
    rw [List.getElem?_eq_getElem hi, e] at this
    have this : ¬ Has (fOf bs) p.1 → Has (fOf bs) p.2 := by simpa [plz] using this
    by_cases c : Has (fOf bs) p.1
    · exact .inl c
    · exact .inr (this c)
  · intro h i hi
    have hi := List.mem_range.1 hi
    unfold disF
    rw [List.getElem?_eq_getElem hi]
    have := h _ (List.getElem_mem hi)
    simp [plz, this]
/-- a new list of places -/
def NewPs (H H' : Hp) (v : V) (l : List Nat) : Prop := ∃ a, v = .ref a ∧ H a = none ∧ H' a = some (.lst (plV l))
theorem reps_pl {K : PySem.W.Frag} {H : Hp} : ∀ l : List Nat, Reps K H (plV l) (l.map fun i : Nat => PyData.int i)
  | [] => .nil
  | i :: l => .cons (.int i) (reps_pl l)
theorem eqv_pn (x y : Nat) : PyData.eqv (.int (x : Int)) (.int (y : Int)) = decide (x = y) := by
  simp only [PyData.eqv]
  rw [Bool.eq_iff_iff]
  simp
  constructor <;> intro h <;> omega
theorem lay_pn (x : Nat) : (PyData.int (x : Int)).canLay0 = true := rfl
theorem dep_pn (x : Nat) : (PyData.int (x : Int)).depth ≤ 8 := by simp [PyData.depth]
/-- a list of places, compared -/
def PLs (K : PySem.W.Frag) (H : Hp) (v : V) (l : List Nat) : Prop := ∃ a, v = .ref a ∧ SqL K H a (plV l)
theorem PLs.rep {K : PySem.W.Frag} {H : Hp} {v : V} {l : List Nat} (h : PLs K H v l) : Rep K H v (.list (l.map fun i : Nat => PyData.int i)) := by
  obtain ⟨a, rfl, h1⟩ := h
  exact .lst h1 (reps_pl l)
theorem eqv_pls (l m : List Nat) : PyData.eqv (.list (l.map fun i : Nat => PyData.int i)) (.list (m.map fun i : Nat => PyData.int i)) = decide (l = m) := by
  simp only [PyData.eqv]
  exact eqvAll_map eqv_pn l m
inductive X_rEqPs (K : PySem.W.Frag) (x : V) (y : V) (H : Hp) (Q : VK) : Prop
  | mk (a : _) (b : _) (z_1 : PLs K H x a) (z_2 : PLs K H y b) (z_3 : Q (.bl (decide (a = b))) H)
def rEqPs (K : PySem.W.Frag) : R2 := fun x y H Q => X_rEqPs K x y H Q
theorem op_eqPs {X : Cx} (hu : X.A.units + 64 < cLine) : OpR X (compareOp .Eq) (rEqPs X.K) := (op_eqD hu).imp fun x y H Q ⟨a, b, h1, h2, q⟩ => ⟨_, _, h1.rep, h2.rep, shp_list lay_pn dep_pn (by decide) a, shp_list lay_pn dep_pn (by decide) b, by rw [eqv_pls]; exact q⟩
/-- more built-in names stand as they were -/
structure Bare2 (mg : Str → Option Value) : Prop where
  enu : mg "enumerate" = none
  zip : mg "zip" = none
theorem iteNT {c A B : Prop} [Decidable c] (hc : ¬ c) (h : A) : if (!decide c) = true then A else B := by rw [decide_eq_false hc]; exact iteT h
section
variable {P : Program} {w : World} {K : PySem.W.Frag} {mg : Str → Option Value} {base : Heap} {C : Addr}
inductive X_sp_isch (C : Addr) (vs : List V) (H : Hp) (Q : VK) (E : XK) : Prop
  | mk (h : V) (a : Addr) (N : Nat) (ws : List (W × W)) (bs : List Bool) (z_1 : vs = [h, .ref a]) (z_2 : HouseAt C H h N ws) (z_3 : H a = some (.lst (bs.map V.bl))) (z_4 : bs.length ≤ 1000) (z_5 : ∀ H', Same H H' → Q (.bl (decide (bs.length = N))) H')
def sp_isch (C : Addr) : Sp := fun vs H Q E => X_sp_isch C vs H Q E
theorem sc_isch : FnScope ["house", "value"] ["house", "value"] (defScope S_isch) := ⟨rfl, rfl, rfl, by decide +kernel, rfl, by decide +kernel, by decide +kernel⟩
theorem ok_isch (D : Def K mg "is_choice" S_isch ["house", "value"]) (B : Bare mg) (T : TxtH K C) : Cal P w K mg base "is_choice" 1 ["house", "value"] (sp_isch C) := by
  refine D.cal (k := 0) sc_isch (fun vs H Q E h => by obtain ⟨_, _, _, _, _, rfl, _⟩ := h; rfl) (fun f cdv A outer s H vs Q E hr h => ?_)
  obtain ⟨h, a, N, ws, bs, rfl, ⟨p, dx, q, us, rfl, hp, _⟩, ea, lb, k⟩ := h
  refine ⟨_, pss_cons (ps_if (PW.pt (pw_or (pt_not (pt_val (pe_isin B (pv 1) rfl rfl B.lst bt_list))) (pw_or1 (pt_cmpR op_ne (pe_callB call_len_seq rfl B.len bt_len (pa_cons (pv 1) pa_nil)) (pe_fld (pv 0) rfl) (nomark _))))) (pss_one (ps_ret pe_bl)) pss_nil)
    (pss_one (ps_ret (pe_callB (call_allB rfl) rfl B.all bt_all (pa_cons (pe_comp (tc := tYes) (te := tIsT K (tVar 0) "bool") rfl ⟨rfl, by decide +kernel, rfl, by decide +kernel, AllFree.all (by repeat (first | exact trivial | refine ⟨?_, ?_⟩ | (intro e; cases e <;> fail) | (intro _; rfl)))⟩
        (ys := []) (js := []) trivial (by decide +kernel) (pi_list (pv 1)) (fun _ _ _ _ _ => pifs_nil) (fun _ _ _ _ _ => pe_isin B (pv 0) rfl rfl B.bool bt_bool)) pa_nil)))), ?_⟩
  refine ⟨_, rfl, _, _, _, true, rfl, .lst ea, rfl, true, rfl, iteF ⟨_, rfl, a, _, rfl, .inl (SqL.of ea), _, rfl, p, C, dx, _, _, rfl, hp, T.cl, T.nN, flds_names _ _, rfl, _, rfl, ?_⟩⟩
  by_cases e : bs.length = N
  · refine iteNS (by rw [List.length_map, e]) ?_
    refine ⟨_, rfl, a, rfl, ⟨_, SqL.of ea⟩, fun Dd hD => ?_⟩
    refine bools1 (J := Itl K a) (n := (bs.map V.bl).length) (f := fun _ => true) hD (by rw [List.length_map, sizeLine_eq]; omega) (fun i H' hi s => itl_go s (SqL.of ea) hi) (fun H' s => itl_stop s (SqL.of ea)) ?_ ?_
    · intro i x H' H'' Q' hi s y kk
      obtain ⟨rfl, hx⟩ := itl_yld s (SqL.of ea) y
      obtain ⟨b, hb, rfl⟩ : ∃ b, bs[i]? = some b ∧ V.bl b = x := by
        rw [List.getElem?_map] at hx
        cases q : bs[i]? with
        | none => rw [q] at hx; cases hx
        | some b => rw [q] at hx; exact ⟨b, rfl, Option.some.inj hx⟩
      exact ⟨_, rfl, _, _, _, true, rfl, .bl _, rfl, kk _ (Same.refl _)⟩
    · intro H' s eD
      refine ⟨Dd, _, rfl, SqL.of eD, ?_⟩
      have : ((List.range (bs.map V.bl).length).map fun _ => true).all id = true := by simp
      rw [this]
      have z := k H' s
      rw [decide_eq_true e] at z
      exact z
  · refine iteNT (fun z => e (by have := V.int.inj z; rw [List.length_map] at this; omega)) ?_
    have z := k H (Same.refl _)
    rw [decide_eq_false e] at z
    exact z
inductive X_sp_has (K : PySem.W.Frag) (vs : List V) (H : Hp) (Q : VK) (E : XK) : Prop
  | mk (a : Addr) (v : V) (N : Nat) (bs : List Bool) (x : W) (z_1 : vs = [.ref a, v]) (z_2 : SqL K H a (bs.map V.bl)) (z_3 : bs.length = N) (z_4 : IsW H v x) (z_5 : InN N x) (z_6 : Q (.bl (decide (Has (fOf bs) x))) H)
def sp_has (K : PySem.W.Frag) : Sp := fun vs H Q E => X_sp_has K vs H Q E
theorem sc_has : FnScope ["choice", "word"] ["choice", "word"] (defScope S_has) := ⟨rfl, rfl, rfl, by decide +kernel, rfl, by decide +kernel, by decide +kernel⟩
theorem ok_has (D : Def K mg "has_word" S_has ["choice", "word"]) : Cal P w K mg base "has_word" 1 ["choice", "word"] (sp_has K) := by
  refine D.cal (k := 0) sc_has (fun vs H Q E h => by obtain ⟨_, _, _, _, _, rfl, _⟩ := h; rfl) (fun f cdv A outer s H vs Q E hr h => ?_)
  obtain ⟨a, v, N, bs, x, rfl, hq, hl, ⟨p, rfl, hp⟩, ix, k⟩ := h
  refine ⟨_, pss_one (ps_ret (pe_cmpR op_eq (pe_ix ix_list (pv 0) (pe_ix ix_tup (pv 1) pe_int (fun _ _ => rfl)) (fun _ _ => rfl)) (pe_ix ix_tup (pv 1) pe_int (fun _ _ => rfl)) (nomark _))), ?_⟩
  have a0 : atI [V.int x.1, V.bl x.2] 0 = some (V.int x.1) := rfl
  have a1 : atI [V.int x.1, V.bl x.2] 1 = some (V.bl x.2) := rfl
  have c1 := atI_map (f := V.bl) ix.1 (fOf_get hl ix)
  refine ⟨_, rfl, _, rfl, p, _, 0, _, rfl, rfl, SqT.of hp, a0, a, _, _, _, rfl, rfl, hq, c1, _, rfl, p, _, 1, _, rfl, rfl, SqT.of hp, a1, rfl, ?_⟩
  have e : decide (V.bl (fOf bs x.1) = V.bl x.2) = decide (Has (fOf bs) x) := by
    rw [Bool.eq_iff_iff]
    simp only [decide_eq_true_iff]
    exact ⟨fun z => V.bl.inj z, fun z => congrArg V.bl z⟩
  rw [e]
  exact k
inductive X_sp_pls (K : PySem.W.Frag) (vs : List V) (H : Hp) (Q : VK) (E : XK) : Prop
  | mk (a : Addr) (wv : V) (N : Nat) (bs : List Bool) (p : W × W) (z_1 : vs = [.ref a, wv]) (z_2 : SqL K H a (bs.map V.bl)) (z_3 : bs.length = N) (z_4 : IsP H wv p) (z_5 : InN N p.1) (z_6 : InN N p.2) (z_7 : Q (.bl (plz bs p)) H)
def sp_pls (K : PySem.W.Frag) : Sp := fun vs H Q E => X_sp_pls K vs H Q E
theorem sc_pls : FnScope ["choice", "wish"] ["choice", "wish"] (defScope S_pls) := ⟨rfl, rfl, rfl, by decide +kernel, rfl, by decide +kernel, by decide +kernel⟩
theorem ok_pls (D : Def K mg "pleases" S_pls ["choice", "wish"]) (ch : Cal P w K mg base "has_word" 1 ["choice", "word"] (sp_has K)) : Cal P w K mg base "pleases" 2 ["choice", "wish"] (sp_pls K) := by
  refine D.cal (k := 1) sc_pls (fun vs H Q E h => by obtain ⟨_, _, _, _, _, rfl, _⟩ := h; rfl) (fun f cdv A outer s H vs Q E hr h => ?_)
  obtain ⟨a, wv, N, bs, pr, rfl, hq, hl, ⟨q, u, v, rfl, hw, hu, hv⟩, i1, i2, k⟩ := h
  refine ⟨_, pss_one (ps_ret (pe_or (pe_cal ch hr rfl (pa_cons (pv 0) (pa_cons (pe_ix ix_tup (pv 1) pe_int (fun _ _ => rfl)) pa_nil))) (pe_one (pe_cal ch hr rfl (pa_cons (pv 0) (pa_cons (pe_ix ix_tup (pv 1) pe_int (fun _ _ => rfl)) pa_nil)))))), ?_⟩
  have w0 : atI [u, v] 0 = some u := rfl
  have w1 : atI [u, v] 1 = some v := rfl
  refine ⟨_, rfl, _, rfl, q, _, 0, _, rfl, rfl, SqT.of hw, w0, a, u, N, bs, pr.1, rfl, hq, hl, hu, i1, _, rfl, iteD (fun h => ?_) (fun h => ?_)⟩
  · have e : plz bs pr = true := decide_eq_true (.inl h)
    rw [e] at k
    exact k
  · refine ⟨_, rfl, _, rfl, q, _, 1, _, rfl, rfl, SqT.of hw, w1, a, v, N, bs, pr.2, rfl, hq, hl, hv, i2, ?_⟩
    have e : decide (Has (fOf bs) pr.2) = plz bs pr := by
      unfold plz
      rw [Bool.eq_iff_iff]
      simp only [decide_eq_true_iff]
      exact ⟨.inr, fun z => z.resolve_left h⟩
    rw [e]
    exact k
inductive X_sp_disp (C : Addr) (vs : List V) (H : Hp) (Q : VK) (E : XK) : Prop
  | mk (h : V) (a : Addr) (N : Nat) (ws : List (W × W)) (bs : List Bool) (z_1 : vs = [h, .ref a]) (z_2 : HouseAt C H h N ws) (z_3 : GoodH N ws) (z_4 : H a = some (.lst (bs.map V.bl))) (z_5 : bs.length = N) (z_6 : ∀ H' v, Same H H' → NewPs H H' v (dis ws bs) → Q v H')
def sp_disp (C : Addr) : Sp := fun vs H Q E => X_sp_disp C vs H Q E
theorem sc_disp : FnScope ["house", "choice"] ["house", "choice"] (defScope S_disp) := ⟨rfl, rfl, rfl, by decide +kernel, rfl, by decide +kernel, by decide +kernel⟩
abbrev tc_disp (K : PySem.W.Frag) : TT := tNot (tTest (tCall (sp_pls K) [] E0 (tCons (tVar 2) (tCons (tVar 1) tNil))))
theorem ok_disp (D : Def K mg "displeased" S_disp ["house", "choice"]) (B2 : Bare2 mg) (T : TxtH K C) (ci : Cal P w K mg base "is_choice" 1 ["house", "value"] (sp_isch C)) (cp : Cal P w K mg base "pleases" 2 ["choice", "wish"] (sp_pls K)) (cw : CalW P w K mg base C) :
    Cal P w K mg base "displeased" 3 ["house", "choice"] (sp_disp C) := by
  refine D.cal (k := 2) sc_disp (fun vs H Q E h => by obtain ⟨_, _, _, _, _, rfl, _⟩ := h; rfl) (fun f cdv A outer s H vs Q E hr h => ?_)
  obtain ⟨h, a, N, ws, bs, rfl, hh, gh, ea, lb, k⟩ := h
  have hr1 : Room 1 _ := hr.mono (by decide)
  have N8 := gh.hi
  refine ⟨_, pss_cons (ps_if (pt_not (pt_val (pe_cal ci hr1 rfl (pa_cons (pv 0) (pa_cons (pv 1) pa_nil))))) pss_never pss_nil)
    (pss_one (ps_ret (pe_comp2 (tc := tc_disp K) (te := tVar 0) rfl rfl ⟨rfl, by decide +kernel, rfl, by decide +kernel, AllFree.all (by repeat (first | exact trivial | refine ⟨?_, ?_⟩ | (intro e; cases e <;> fail) | (intro _; rfl)))⟩ rfl
        (ys := ["choice"]) (js := [1]) ⟨rfl, rfl, rfl, trivial⟩ (by decide +kernel) (pi_enum (pe_wishes cw T hr1 (pv 0)) rfl B2.enu) (fun _ _ _ _ _ => pifs_one (pt_not (pt_val (pe_cal cp hr rfl (pa_cons (pv 2) (pa_cons (pv 1) pa_nil)))))) (fun _ _ _ _ _ => pv 0)))), ?_⟩
  refine ⟨_, rfl, _, rfl, h, a, N, ws, bs, rfl, hh, ea, by omega, fun H1 s1 => ⟨_, rfl, ?_⟩⟩
  rw [decide_eq_true lb]
  refine iteF ?_
  have hh1 := hh.same s1
  obtain ⟨p, dx, q, us0, rfl, hp, _⟩ := id hh1
  refine ⟨_, rfl, p, dx, _, rfl, hp, flds_no _ _ (by decide +kernel) (by decide +kernel), _, N, ws, rfl, hh1, fun l us hl hu hn => ⟨l, rfl, ⟨_, SqL.of upd_same⟩, fun Dd hD => ?_⟩⟩
  have s2 : Same H1 (upd H1 l (.lst us)) := Same.laid hl
  have s12 := s1.trans s2
  have lu : us.length = ws.length := Paired.length hu
  have hul : SqL K (upd H1 l (.lst us)) l us := SqL.of upd_same
  refine places2 (K := K) (J := Ite K l) (n := us.length) (f := disF ws bs) hD (by rw [sizeLine_eq]; omega) (fun i H' hi s => ite_go s hul hi) (fun H' s => ite_stop s hul) ?_ ?_
  · intro i x H' H'' hi s y
    obtain ⟨t, v, rfl, hv, sy, eT⟩ := ite_yld s hul y
    obtain ⟨pr, hpr, isp⟩ := paired_get hu hv
    have g2 := gh.good pr (List.mem_of_getElem? hpr)
    have s3 := (s12.trans s).trans sy
    refine ⟨t, .int i, v, rfl, SqT.of eT, fun Q' kk => ?_, fun H3 Q' _ q' => ⟨_, rfl, q'⟩⟩
    refine ⟨_, rfl, _, rfl, a, v, N, bs, pr, rfl, SqL.of (s3 _ _ ea), lb, ((isp.same s2).same s).same sy, g2.1, g2.2, _, rfl, ?_⟩
    have e : disF ws bs i = !plz bs pr := by unfold disF; rw [hpr]
    have z := kk _ sy
    rw [e] at z
    exact z
  · intro H' s eD
    rw [lu] at eD
    exact k H' _ (s12.trans s) ⟨Dd, rfl, s12.free hD, eD⟩
end
end L2

end

section
set_option autoImplicit false
set_option maxRecDepth 100000
set_option linter.all false
namespace L2
open PySem PySem.Spec PyProof.Rows EoD Eo
section
variable {P : Program} {w : World} {K : PySem.W.Frag} {mg : Str → Option Value} {base : Heap} {C : Addr}
inductive X_sp_allch (C : Addr) (vs : List V) (H : Hp) (Q : VK) (E : XK) : Prop
  | mk (h : V) (N : Nat) (ws : List (W × W)) (z_1 : vs = [h]) (z_2 : HouseAt C H h N ws) (z_3 : N ≤ 8) (z_4 : ∀ H' v, Same H H' → NewCL H H' v (allC N) → Q v H')
def sp_allch (C : Addr) : Sp := fun vs H Q E => X_sp_allch C vs H Q E
theorem sc_allch : FnScope ["house", "choices", "name"] ["house"] (defScope S_allch) := ⟨rfl, rfl, rfl, by decide +kernel, rfl, by decide +kernel, by decide +kernel⟩
abbrev te_cat (b : Bool) : TE := tOp rCat (tVar 0) (tLst (tCons (tC (.bl b)) tNil))
theorem cat_step {b : Bool} {K : PySem.W.Frag} {cur Dd : Addr} {vs : List V} {cs : List (List Bool)} {H0 H : Hp} {σ : St} {Qd : Hp → Prop} (hD : H Dd = none) (ec : H cur = some (.lst vs)) (pv' : Paired (NewBs H0 H) vs cs) (s0 : Same H0 H) (l8 : ∀ c ∈ cs, c.length ≤ 8) (ln : vs.length ≤ 256)
    (hd : ∀ H' us, Same H H' → H' Dd = some (.lst us) → Paired (NewBs H0 H') us (cs.map (· ++ [b])) → Qd H') :
    ∃ W : Nat → Nat → List V → Hp → Prop, (∃ m, W 0 m [] (upd H Dd (.lst []))) ∧ ∀ i m acc H2, W i m acc H2 → H2 Dd = some (.lst acc) ∧ acc.length < sizeLine ∧ (((Itl K cur).stop i H2 ∧ Qd H2) ∨
      ((Itl K cur).go i H2 ∧ ∀ x H3, (Itl K cur).yld i H2 x H3 → tYes (some x :: look σ []) H3 fun c H4 => if c = true then te_cat b (some x :: look σ []) H4 fun v H5 => H5 Dd = some (.lst acc) ∧ ∃ m', m' < m ∧ W (i + 1) m' (acc ++ [v]) (upd H5 Dd (.lst (acc ++ [v])))
        else ∃ m', m' < m ∧ W (i + 1) m' acc H4)) := by
  have lv : vs.length = cs.length := Paired.length pv'
  refine lists1 (J := Itl K cur) (n := vs.length) (cs := fun i => (cs.getD i []) ++ [b]) hD (by rw [sizeLine_eq]; omega) (fun i H' hi s => itl_go s (SqL.of ec) hi) (fun H' s => itl_stop s (SqL.of ec)) ?_ ?_
  · intro i x H' H'' Q hi s y kk
    obtain ⟨rfl, hx⟩ := itl_yld s (SqL.of ec) y
    obtain ⟨c, hc, a, rfl, na, ea⟩ := paired_get pv' hx
    have eg : cs.getD i [] = c := by rw [List.getD_eq_getElem?_getD, hc]; rfl
    have lc := l8 c (List.mem_of_getElem? hc)
    refine ⟨_, rfl, (by show 1 ≤ sizeLine; decide), fun q hq => ?_⟩
    have s1 : Same H'' (upd H'' q (.lst [V.bl b])) := Same.laid hq
    refine ⟨a, q, c.map V.bl, [V.bl b], rfl, rfl, s1 _ _ (s _ _ ea), upd_same, by rw [List.length_map, sizeLine_eq]; show c.length + 1 ≤ _; omega, fun p hp => ?_⟩
    refine kk _ p (s1.laidT hp) (s1.free hp) ?_
    rw [upd_same, eg, List.map_append]
    rfl
  · intro H' us s eD pu
    refine hd H' us s eD ?_
    have e : (List.range vs.length).map (fun i => (cs.getD i []) ++ [b]) = cs.map (· ++ [b]) := by
      rw [lv]
      apply List.ext_getElem
      · simp
      · intro i h1 h2
        simp only [List.getElem_map, List.getElem_range]
        have hi : i < cs.length := by simpa using h2
        rw [List.getD_eq_getElem?_getD, List.getElem?_eq_getElem hi]
        rfl
    rw [e] at pu
    exact Paired.mapP pu fun _ _ z => z.old s0
theorem ok_allch (D : Def K mg "all_choices" S_allch ["house"]) (B : Bare mg) (T : TxtH K C) : Cal P w K mg base "all_choices" 1 ["house"] (sp_allch C) := by
  refine D.cal (k := 0) sc_allch (fun vs H Q E h => by obtain ⟨_, _, _, rfl, _⟩ := h; rfl) (fun f cdv A outer s H vs Q E hr h => ?_)
  obtain ⟨h, N, ws, rfl, ⟨p, dx, q, us, rfl, hp, _⟩, hN, k⟩ := h
  refine ⟨_, pss_cons (ps_set (i := 1) sc_allch.nd rfl (Or.inl rfl) (pe_lst (pa_cons (pe_lst pa_nil) pa_nil))) (pss_cons (ps_for PassesOwn.never rfl (pi_range1 rfl B.rng (pa_cons (pe_fld (pv 0) rfl) pa_nil)) (pg_name (i := 2) sc_allch.nd rfl (Or.inl rfl))
    (pss_one (ps_set (i := 1) sc_allch.nd rfl (Or.inl rfl) (pe_op op_cat
      (pe_comp (tc := tYes) (te := te_cat false) rfl ⟨rfl, by decide +kernel, rfl, by decide +kernel, AllFree.all (by repeat (first | exact trivial | refine ⟨?_, ?_⟩ | (intro e; cases e <;> fail) | (intro _; rfl)))⟩ (ys := []) (js := []) trivial (by decide +kernel) (pi_list (pv 1)) (fun _ _ _ _ _ => pifs_nil) (fun _ _ _ _ _ => pe_op op_cat (pv 0) (pe_lst (pa_cons pe_bl pa_nil))))
      (pe_comp (tc := tYes) (te := te_cat true) rfl ⟨rfl, by decide +kernel, rfl, by decide +kernel, AllFree.all (by repeat (first | exact trivial | refine ⟨?_, ?_⟩ | (intro e; cases e <;> fail) | (intro _; rfl)))⟩ (ys := []) (js := []) trivial (by decide +kernel) (pi_list (pv 1)) (fun _ _ _ _ _ => pifs_nil) (fun _ _ _ _ _ => pe_op op_cat (pv 0) (pe_lst (pa_cons pe_bl pa_nil)))))))) (pss_one (ps_ret (pv 1)))), ?_⟩
  refine ⟨Nat.zero_le _, fun e0 he0 => ⟨(by show 1 ≤ sizeLine; decide), fun l hl => ?_⟩⟩
  have s0 : Same H (upd H e0 (.lst [])) := Same.laid he0
  have s1 : Same H (upd (upd H e0 (.lst [])) l (.lst [.ref e0])) := s0.laidT hl
  have nl : H l = none := s0.free hl
  have el : e0 ≠ l := ne_of_none upd_same hl
  refine ⟨_, rfl, p, C, dx, _, _, rfl, s1 _ _ hp, T.cl, T.nN, flds_names _ _, (N : Int), rfl, by omega, by omega, for_range (n := (N : Int).toNat) (fun i σ H2 => ∃ (cur : Addr) (vs : List V) (z : Option V), σ = [some (.ref p), some (.ref cur), z] ∧ Same H H2 ∧ H cur = none ∧ H2 cur = some (.lst vs) ∧ Paired (NewBs H H2) vs (allC i))
    ⟨l, [.ref e0], none, rfl, s1, nl, upd_same, .cons ⟨e0, rfl, he0, by rw [upd_ne el]; exact upd_same⟩ .nil⟩ ?_ ?_⟩
  · rintro i σ H2 hi ⟨cur, vs, z, rfl, s2, nc, ec, pc⟩
    have hi' : i < N := by simpa using hi
    have p8 : 2 ^ i ≤ 128 := Nat.le_trans (Nat.pow_le_pow_right (n := 2) (by decide) (show i ≤ 7 by omega)) (by decide)
    have lv : vs.length = 2 ^ i := by rw [Paired.length pc, allC_len]
    have l8 : ∀ c ∈ allC i, c.length ≤ 8 := fun c hc => by have := allC_mem hc; omega
    refine ⟨_, rfl, cur, rfl, ⟨_, SqL.of ec⟩, fun D1 hD1 => cat_step (K := K) hD1 ec pc s2 l8 (by omega) fun H3 us1 s3 e1 p1 => ?_⟩
    refine ⟨_, rfl, cur, rfl, ⟨_, SqL.of (s3 _ _ ec)⟩, fun D2 hD2 => cat_step (K := K) hD2 (s3 _ _ ec) (Paired.mapP pc fun _ _ z => z.same s3) (s2.trans s3) l8 (by omega) fun H4 us2 s4 e2 p2 => ?_⟩
    have l1 : us1.length = 2 ^ i := by rw [Paired.length p1, List.length_map, allC_len]
    have l2 : us2.length = 2 ^ i := by rw [Paired.length p2, List.length_map, allC_len]
    refine ⟨D1, D2, us1, us2, rfl, rfl, s4 _ _ e1, e2, by rw [sizeLine_eq]; omega, fun q' hq' => ?_⟩
    have s5 := (s2.trans s3).trans s4
    have s6 : Same H4 (upd H4 q' (.lst (us1 ++ us2))) := Same.laid hq'
    refine ⟨q', us1 ++ us2, _, rfl, s5.trans s6, s5.free hq', upd_same, ?_⟩
    rw [allC]
    exact pairs_append (Paired.mapP p1 fun _ _ z => (z.same s4).same s6) (Paired.mapP p2 fun _ _ z => z.same s6)
  · rintro σ H2 ⟨cur, vs, z, rfl, s2, nc, ec, pc⟩
    have e : (N : Int).toNat = N := by simp
    rw [e] at pc
    exact ⟨_, rfl, k H2 _ s2 ⟨cur, vs, rfl, nc, ec, pc⟩⟩
inductive X_sp_plsch (C : Addr) (vs : List V) (H : Hp) (Q : VK) (E : XK) : Prop
  | mk (h : V) (N : Nat) (ws : List (W × W)) (z_1 : vs = [h]) (z_2 : HouseAt C H h N ws) (z_3 : GoodH N ws) (z_4 : ∀ H' v, Same H H' → NewCL H H' v (pleasing ws N) → Q v H')
def sp_plsch (C : Addr) : Sp := fun vs H Q E => X_sp_plsch C vs H Q E
theorem sc_plsch : FnScope ["house"] ["house"] (defScope S_plsch) := ⟨rfl, rfl, rfl, by decide +kernel, rfl, by decide +kernel, by decide +kernel⟩
abbrev tc_plsch (K : PySem.W.Frag) (C : Addr) : TT := tTest (tOp (rEqPs K) (tCall (sp_disp C) [] E0 (tCons (tVar 1) (tCons (tVar 0) tNil))) (tLst tNil))
theorem ok_plsch (D : Def K mg "pleasing_choices" S_plsch ["house"]) (ca : Cal P w K mg base "all_choices" 1 ["house"] (sp_allch C)) (cd : Cal P w K mg base "displeased" 3 ["house", "choice"] (sp_disp C)) : Cal P w K mg base "pleasing_choices" 4 ["house"] (sp_plsch C) := by
  refine D.cal (k := 3) sc_plsch (fun vs H Q E h => by obtain ⟨_, _, _, rfl, _⟩ := h; rfl) (fun f cdv A outer s H vs Q E hr h => ?_)
  obtain ⟨h, N, ws, rfl, hh, gh, k⟩ := h
  have hr1 : Room 1 _ := hr.mono (by decide)
  have hu := hr.units
  refine ⟨_, pss_one (ps_ret (pe_comp (tc := tc_plsch K C) (te := tVar 0) rfl ⟨rfl, by decide +kernel, rfl, by decide +kernel, AllFree.all (by repeat (first | exact trivial | refine ⟨?_, ?_⟩ | (intro e; cases e <;> fail) | (intro _; rfl)))⟩ (ys := ["house"]) (js := [0]) ⟨rfl, rfl, rfl, trivial⟩ (by decide +kernel) (pi_list (pe_cal ca hr1 rfl (pa_cons (pv 0) pa_nil)))
      (fun _ _ _ _ _ => pifs_one (pt_cmpR (op_eqPs hu) (pe_cal cd hr rfl (pa_cons (pv 1) (pa_cons (pv 0) pa_nil))) (pe_lst pa_nil) (nomark _))) (fun _ _ _ _ _ => pv 0))), ?_⟩
  refine ⟨_, rfl, h, N, ws, rfl, hh, gh.hi, fun H1 v s1 nc => ?_⟩
  obtain ⟨l, us, rfl, nl, el, pu⟩ := nc
  have p8 : 2 ^ N ≤ 256 := Nat.pow_le_pow_right (n := 2) (by decide) gh.hi
  have lu : us.length = 2 ^ N := by rw [Paired.length pu, allC_len]
  refine ⟨l, rfl, ⟨_, SqL.of el⟩, fun Dd hD => sel1 (R := NewBs H H1) (allC N) (fun c => decide (Pls (fOf c) ws)) hD (SqL.of el) (by rw [sizeLine_eq]; omega) pu ?_ ?_⟩
  · intro i x c H' Q' hx hc rx s kk
    obtain ⟨a, rfl, na, ea⟩ := rx
    have hh' := (hh.same s1).same s
    refine ⟨_, rfl, _, rfl, h, a, N, ws, c, rfl, hh', gh, s _ _ ea, allC_mem (List.mem_of_getElem? hc), fun H2 v2 s2 nw => ⟨Nat.zero_le _, fun q hq => ?_⟩⟩
    obtain ⟨b, rfl, nb, eb⟩ := nw
    have s3 : Same H2 (upd H2 q (.lst [])) := Same.laid hq
    refine ⟨dis ws c, [], ⟨b, rfl, SqL.of (s3 _ _ eb)⟩, ⟨q, rfl, SqL.of upd_same⟩, _, rfl, ?_⟩
    have e : decide (dis ws c = []) = decide (Pls (fOf c) ws) := by
      rw [Bool.eq_iff_iff]
      simp only [decide_eq_true_iff]
      exact dis_nil
    have z := kk _ (s2.trans s3)
    rw [← e] at z
    exact z
  · intro H' acc s eD pa
    rw [pleasing_all] at pa
    exact k H' _ (s1.trans s) ⟨Dd, acc, rfl, s1.free hD, eD, Paired.mapP pa fun _ _ z => z.same s⟩
end
end L2

end

section
set_option autoImplicit false
set_option maxRecDepth 100000
set_option linter.all false
namespace L2
open PySem PySem.Spec PyProof.Rows EoD Eo
instance (ws : List (W × W)) (u v : W) : Decidable (Nx ws u v) := inferInstanceAs (Decidable (_ ∨ _))
def nxF (ws : List (W × W)) (cs : List W) (i : Nat) : Bool := match cs[i]?, cs[i + 1]? with
  | some a, some b => decide (Nx ws a b)
  | _, _ => true
theorem chn_iff {ws : List (W × W)} : ∀ {cs : List W}, Chn ws cs ↔ ∀ i, i + 1 < cs.length → nxF ws cs i = true
  | [] => by simp [Chn]
  | [a] => by simp [Chn]
  | a :: b :: r => by
    have ih := chn_iff (ws := ws) (cs := b :: r)
    constructor
    · rintro h i hi
      cases i with
      | zero =>
        have : Nx ws a b := h.1
        simp [nxF, this]
      | succ i =>
        have := ih.1 h.2 i (by simpa using hi)
        simpa [nxF] using this
    · intro h
      refine ⟨?_, ih.2 fun i hi => ?_⟩
      · have := h 0 (by simp)
        simpa [nxF] using this
      · have := h (i + 1) (by simpa using hi)
        simpa [nxF] using this
instance (ws : List (W × W)) (cs : List W) : Decidable (Chn ws cs) := by
  refine decidable_of_iff ((List.range (cs.length - 1)).all (nxF ws cs) = true) ?_
  rw [chn_iff, List.all_eq_true]
  constructor
  · exact fun h i hi => h i (List.mem_range.2 (by omega))
  · exact fun h i hi => h i (by have := List.mem_range.1 hi; omega)
theorem all_nx (ws : List (W × W)) (cs : List W) : ((List.range (cs.length - 1)).map (nxF ws cs)).all id = decide (Chn ws cs) := by
  rw [Bool.eq_iff_iff, decide_eq_true_iff, chn_iff, List.all_eq_true]
  constructor
  · exact fun h i hi => h _ (List.mem_map.2 ⟨i, List.mem_range.2 (by omega), rfl⟩)
  · intro h b hb
    obtain ⟨i, hi, rfl⟩ := List.mem_map.1 hb
    exact h i (by have := List.mem_range.1 hi; omega)
/-- whether words make a chain -/
def chB (ws : List (W × W)) (cs : List W) : Bool := decide (cs ≠ [] ∧ Chn ws cs)
/-- whether it leads from a word to the opposite -/
def ldB (ws : List (W × W)) (cs : List W) : Bool := decide (cs ≠ [] ∧ Chn ws cs ∧ cs.getLast? = cs.head?.map neg)
theorem pe_m1 {X : Cx} {p q : Pos} {k : Nat} : PE X (.UnaryOp .USub (.Constant (.int 1) k p) q) (tC (.int (-1))) := fun pins s σ H Q I h => pe_un un_neg pe_int pins s σ H Q I ⟨1, rfl, h⟩
theorem atI_end {α : Type} {l : List α} {x : α} (h : l.getLast? = some x) : atI l (-1) = some x := by
  have ne : l ≠ [] := fun e => by rw [e] at h; cases h
  have lp := List.length_pos_iff.mpr ne
  unfold atI ixN
  rw [if_neg (by omega), if_pos (by omega)]
  show l[((-1 : Int) + l.length).toNat]? = some x
  rw [List.getLast?_eq_getElem?] at h
  rw [← h]
  congr 1
  omega
theorem atI_head {α : Type} {l : List α} {x : α} (h : l.head? = some x) : atI l 0 = some x := by
  rw [List.head?_eq_getElem?] at h
  exact atI_nat (j := 0) h
theorem Ws.head {H : Hp} {vs : List V} {cs : List W} (h : Ws H vs cs) (ne : cs ≠ []) : ∃ v x, vs.head? = some v ∧ cs.head? = some x ∧ IsW H v x := by
  cases h with
  | nil => exact absurd rfl ne
  | cons a b => exact ⟨_, _, rfl, rfl, a⟩
theorem Ws.last {H : Hp} {vs : List V} {cs : List W} (h : Ws H vs cs) (ne : cs ≠ []) : ∃ v x, vs.getLast? = some v ∧ cs.getLast? = some x ∧ IsW H v x := by
  have e : vs.length = cs.length := Paired.length h
  have lp := List.length_pos_iff.mpr ne
  obtain ⟨x, hx, wx⟩ := paired_get h (List.getElem?_eq_getElem (show vs.length - 1 < vs.length by omega))
  refine ⟨_, x, ?_, ?_, wx⟩
  · rw [List.getLast?_eq_getElem?]
    exact List.getElem?_eq_getElem (by omega)
  · rw [List.getLast?_eq_getElem?, ← e]
    exact hx
theorem cut_tail (us : List V) : cutV us (some 1) none = us.tail := by
  unfold cutV HT.sIx
  cases us with
  | nil => rfl
  | cons a r => simp
section
variable {P : Program} {w : World} {K : PySem.W.Frag} {mg : Str → Option Value} {base : Heap} {C : Addr}
inductive X_sp_ischain (C : Addr) (vs : List V) (H : Hp) (Q : VK) (E : XK) : Prop
  | mk (h : V) (a : Addr) (N : Nat) (ws : List (W × W)) (us : List V) (cs : List W) (z_1 : vs = [h, .ref a]) (z_2 : HouseAt C H h N ws) (z_3 : H a = some (.lst us)) (z_4 : Ws H us cs) (z_5 : us.length ≤ 1000) (z_6 : (∀ x ∈ cs, InN N x)) (z_7 : ∀ H', Same H H' → Q (.bl (chB ws cs)) H')
def sp_ischain (C : Addr) : Sp := fun vs H Q E => X_sp_ischain C vs H Q E
theorem sc_ischain : FnScope ["house", "links"] ["house", "links"] (defScope S_ischain) := ⟨rfl, rfl, rfl, by decide +kernel, rfl, by decide +kernel, by decide +kernel⟩
abbrev te_isw (K : PySem.W.Frag) : TE := tCall sp_word [] E0 (tCons (tFld K (tVar 1) "names") (tCons (tVar 0) tNil))
abbrev te_nxt (K : PySem.W.Frag) (C : Addr) : TE := tOp (rInWL K) (tVar 1) (tCall (sp_said C) [] E0 (tCons (tVar 2) (tCons (tVar 0) tNil)))
theorem ok_ischain (D : Def K mg "is_chain" S_ischain ["house", "links"]) (B : Bare mg) (B2 : Bare2 mg) (T : TxtH K C) (cw : Cal P w K mg base "is_word" 2 ["names", "value"] sp_word) (cs' : Cal P w K mg base "said_next" 2 ["house", "word"] (sp_said C)) : Cal P w K mg base "is_chain" 3 ["house", "links"] (sp_ischain C) := by
  refine D.cal (k := 2) sc_ischain (fun vs H Q E h => by obtain ⟨_, _, _, _, _, _, rfl, _⟩ := h; rfl) (fun f cdv A outer s H vs Q E hr h => ?_)
  obtain ⟨h, a, N, ws, us, cs, rfl, hh, ea, wu, lu, hin, k⟩ := h
  have hu5 := hr.units5
  refine ⟨_, pss_cons (ps_if (PW.pt (pw_or (pt_not (pt_truth (pv 1) (fun _ => rfl))) (pw_or1 (pt_not (pt_val (pe_callB (call_allB rfl) rfl B.all bt_all (pa_cons (pe_comp (tc := tYes) (te := te_isw K) rfl ⟨rfl, by decide +kernel, rfl, by decide +kernel, AllFree.all (by repeat (first | exact trivial | refine ⟨?_, ?_⟩ | (intro e; cases e <;> fail) | (intro _; rfl)))⟩
        (ys := ["house"]) (js := [0]) ⟨rfl, rfl, rfl, trivial⟩ (by decide +kernel) (pi_list (pv 1)) (fun _ _ _ _ _ => pifs_nil) (fun _ _ _ _ _ => pe_cal cw hr rfl (pa_cons (pe_fld (pv 1) rfl) (pa_cons (pv 0) pa_nil)))) pa_nil))))))) (pss_one (ps_ret pe_bl)) pss_nil)
    (pss_one (ps_ret (pe_callB (call_allB rfl) rfl B.all bt_all (pa_cons (pe_comp2 (tc := tYes) (te := te_nxt K C) rfl rfl ⟨rfl, by decide +kernel, rfl, by decide +kernel, AllFree.all (by repeat (first | exact trivial | refine ⟨?_, ?_⟩ | (intro e; cases e <;> fail) | (intro _; rfl)))⟩ rfl
        (ys := ["house"]) (js := [0]) ⟨rfl, rfl, rfl, trivial⟩ (by decide +kernel) (pi_zip (pv 1) (pe_slice sl_list (pv 1) (po_some pe_int) po_none) rfl B2.zip) (fun _ _ _ _ _ => pifs_nil)
        (fun _ _ _ _ _ => pe_cmpR (op_inWL hu5) (pv 1) (pe_cal cs' hr rfl (pa_cons (pv 2) (pa_cons (pv 0) pa_nil))) (by with_unfolding_all rfl))) pa_nil)))), ?_⟩
  have lc : us.length = cs.length := Paired.length wu
  refine ⟨_, rfl, !us.isEmpty, .inl ⟨us, SqL.of ea, rfl⟩, ?_⟩
  by_cases e0 : cs = []
  · have eu : us = [] := by
      rw [e0] at lc
      exact List.length_eq_zero_iff.mp lc
    rw [eu]
    have z := k H (Same.refl _)
    rw [show chB ws cs = false from decide_eq_false fun z => z.1 e0] at z
    exact iteT z
  have ne : us.isEmpty = false := by
    cases us with
    | nil => exact absurd (List.length_eq_zero_iff.mp lc.symm) e0
    | cons _ _ => rfl
  rw [ne]
  refine iteF ?_
  obtain ⟨p, dx, q, us0, rfl, hp, _⟩ := id hh
  refine ⟨_, rfl, a, rfl, ⟨_, SqL.of ea⟩, fun D1 hD1 => bools1 (J := Itl K a) (n := us.length) (f := fun _ => true) hD1 (by rw [sizeLine_eq]; omega) (fun i H' hi s => itl_go s (SqL.of ea) hi) (fun H' s => itl_stop s (SqL.of ea)) ?_ ?_⟩
  · intro i x H' H'' Q' hi s y kk
    obtain ⟨rfl, hx⟩ := itl_yld s (SqL.of ea) y
    obtain ⟨c, hc, wc⟩ := paired_get wu hx
    exact ⟨_, rfl, p, C, dx, _, _, rfl, s _ _ hp, T.cl, T.nN, flds_names _ _, _, rfl, N, x, c, rfl, wc.same s, hin c (List.mem_of_getElem? hc), kk _ (Same.refl _)⟩
  intro H1 s1 eD1
  refine ⟨D1, _, rfl, SqL.of eD1, ?_⟩
  have ra : ((List.range us.length).map fun _ => true).all id = true := by simp
  rw [ra]
  refine ⟨_, rfl, iteF ?_⟩
  refine ⟨_, rfl, _, rfl, _, rfl, a, us, rfl, SqL.of (s1 _ _ ea), fun t ht => ⟨a, t, rfl, rfl, ?_⟩⟩
  rw [cut_tail]
  have s2 : Same H1 (upd H1 t (.lst us.tail)) := Same.laid ht
  have s12 := s1.trans s2
  have qa : SqL K (upd H1 t (.lst us.tail)) a us := SqL.of (s12 _ _ ea)
  have qt : SqL K (upd H1 t (.lst us.tail)) t us.tail := SqL.of upd_same
  have lt : us.tail.length = us.length - 1 := List.length_tail
  refine ⟨⟨_, qa⟩, ⟨_, qt⟩, fun D2 hD2 => bools2 (K := K) (J := Itz K a t) (n := us.length - 1) (f := nxF ws cs) hD2 (by rw [sizeLine_eq]; omega) (fun i H' hi s => itz_go s qa qt (by omega) (by omega)) (fun H' s => itz_stop s qa qt (.inr (by omega))) ?_ ?_⟩
  · intro i x H' H'' hi s y
    obtain ⟨T', u, v, rfl, hu, hv, sy, eT⟩ := itz_yld s qa qt y
    obtain ⟨c, hc, wc⟩ := paired_get wu hu
    have hv' : us[i + 1]? = some v := by
      rw [← List.getElem?_tail]
      exact hv
    obtain ⟨d, hd, wd'⟩ := paired_get wu hv'
    have s3 := (s12.trans s).trans sy
    refine ⟨T', u, v, rfl, SqT.of eT, fun Q' kk => ?_⟩
    refine ⟨_, rfl, _, rfl, _, rfl, .ref p, u, N, ws, c, rfl, hh.same s3, wc.same s3, fun H3 fv s4 nw => ?_⟩
    have e : nxF ws cs i = decide (d ∈ said ws c) := by
      unfold nxF
      rw [hc, hd, Bool.eq_iff_iff]
      simp only [decide_eq_true_iff]
      exact mem_said.symm
    refine ⟨d, said ws c, (wd'.same s3).same s4, nw.wl, ?_⟩
    have z := kk _ (sy.trans s4)
    rw [e] at z
    exact z
  · intro H3 s3 eD
    refine ⟨D2, _, rfl, SqL.of eD, ?_⟩
    rw [lc, all_nx]
    have z := k H3 (s12.trans s3)
    have e : chB ws cs = decide (Chn ws cs) := by
      unfold chB
      rw [Bool.eq_iff_iff]
      simp [e0]
    rw [e] at z
    exact z
inductive X_sp_leads (C : Addr) (vs : List V) (H : Hp) (Q : VK) (E : XK) : Prop
  | mk (h : V) (a : Addr) (N : Nat) (ws : List (W × W)) (us : List V) (cs : List W) (z_1 : vs = [h, .ref a]) (z_2 : HouseAt C H h N ws) (z_3 : H a = some (.lst us)) (z_4 : Ws H us cs) (z_5 : us.length ≤ 1000) (z_6 : (∀ x ∈ cs, InN N x)) (z_7 : ∀ H', Same H H' → Q (.bl (ldB ws cs)) H')
def sp_leads (C : Addr) : Sp := fun vs H Q E => X_sp_leads C vs H Q E
theorem sc_leads : FnScope ["house", "links"] ["house", "links"] (defScope S_leads) := ⟨rfl, rfl, rfl, by decide +kernel, rfl, by decide +kernel, by decide +kernel⟩
theorem ok_leads (D : Def K mg "leads_to_opposite" S_leads ["house", "links"]) (cc : Cal P w K mg base "is_chain" 3 ["house", "links"] (sp_ischain C)) (co : Cal P w K mg base "opposite" 1 ["word"] sp_opp) : Cal P w K mg base "leads_to_opposite" 4 ["house", "links"] (sp_leads C) := by
  refine D.cal (k := 3) sc_leads (fun vs H Q E h => by obtain ⟨_, _, _, _, _, _, rfl, _⟩ := h; rfl) (fun f cdv A outer s H vs Q E hr h => ?_)
  obtain ⟨h, a, N, ws, us, cs, rfl, hh, ea, wu, lu, hin, k⟩ := h
  have hr1 : Room 1 _ := hr.mono (by decide)
  have hu := hr.units
  refine ⟨_, pss_one (ps_ret (pe_and (pe_cal cc hr rfl (pa_cons (pv 0) (pa_cons (pv 1) pa_nil))) (pe_one (pe_cmpR (op_eqW hu) (pe_ix ix_list (pv 1) pe_m1 (fun _ _ => rfl)) (pe_cal co hr1 rfl (pa_cons (pe_ix ix_list (pv 1) pe_int (fun _ _ => rfl)) pa_nil)) (by with_unfolding_all rfl))))), ?_⟩
  refine ⟨_, rfl, _, rfl, h, a, N, ws, us, cs, rfl, hh, ea, wu, lu, hin, fun H1 s1 => ⟨_, rfl, iteB (fun e => ?_) (fun e => ?_)⟩⟩
  · have hc := of_decide_eq_true e
    obtain ⟨hv, hx, ehv, ehx, wh⟩ := Ws.head wu hc.1
    obtain ⟨lv, lx, elv, elx, wl⟩ := Ws.last wu hc.1
    refine ⟨_, rfl, a, us, -1, lv, rfl, rfl, SqL.of (s1 _ _ ea), atI_end elv, _, rfl, a, us, 0, hv, rfl, rfl, SqL.of (s1 _ _ ea), atI_head ehv, hv, hx, rfl, wh.same s1, fun H2 nv s2 wn => ?_⟩
    refine ⟨lx, neg hx, (wl.same s1).same s2, wn, ?_⟩
    have z := k H2 (s1.trans s2)
    have e2 : ldB ws cs = decide (lx = neg hx) := by
      unfold ldB
      rw [Bool.eq_iff_iff, elx, ehx]
      simp [hc.1, hc.2]
    rw [e2] at z
    exact z
  · have z := k H1 s1
    have e2 : ldB ws cs = false := decide_eq_false fun z => (of_decide_eq_false e) ⟨z.1, z.2.1⟩
    rw [e2] at z
    exact z
end
end L2

end

section
set_option autoImplicit false
set_option maxRecDepth 100000
set_option linter.all false
namespace L2
open PySem PySem.Spec PyProof.Rows EoD Eo
def CalMt (P : Program) (w : World) (K : PySem.W.Frag) (mg : Str → Option Value) (base : Heap) (C : Addr) (m : Str) (k : Nat) (ps : List Str) (sp : Sp) : Prop := ∃ f fd, FnOk P w K mg base CX0 k f fd ps sp ∧ Meth K C m f ∧ Binds K fd ps []
def CalMk (P : Program) (w : World) (K : PySem.W.Frag) (mg : Str → Option Value) (base : Heap) (C : Addr) (x : Str) (k : Nat) (ps : List Str) (sp : Sp) : Prop := ∃ f fd, Mk K C f ∧ FnOk P w K mg base CX0 k f fd ps sp ∧ mg x = some (.ref C) ∧ Binds K fd ps []
theorem pe_mt {X : Cx} {C : Addr} {m : Str} {k : Nat} {ps : List Str} {sp : Sp} {o e : Expr} {es : List Expr} {to : TE} {t : TA} {apos pos : Pos} {pl : Sem Bool} (c : CalMt X.prog X.w X.K X.mg X.base C m k ps sp) (cl : Cls X.K C) (hr : Room k X.A) (ho : PE X o to) (ha : PA X (e :: es) t)
    (hst : starEach (e :: es) X.env = (false, eval e X.env) :: starEach es X.env := by rfl) (hpl : (backTo pos (starEach es X.env)).any (·.1) = false := by rfl)
    (ht : eval (.Call (.Attribute o m apos) (e :: es) [] pos) X.env = (do
      let ov ← eval o X.env
      standAt apos.atName
      let (f, first) ← holding [ov] (getMethod ov m pl)
      callWith pos f first (backTo pos (starEach (e :: es) X.env)) (backToKw pos (keywordEach [] X.env))) := by rfl) : PE X (.Call (.Attribute o m apos) (e :: es) [] pos) (tMeth C m sp [] E0 to t) :=
  let ⟨_, _, F, mm, b⟩ := c; pe_meth ho cl mm F hr b .nil pass0 ha hst hpl ht
theorem pe_mk {X : Cx} {C : Addr} {x : Str} {k : Nat} {ps : List Str} {sp : Sp} {e : Expr} {es : List Expr} {t : TA} {p pos : Pos} (c : CalMk X.prog X.w X.K X.mg X.base C x k ps sp) (hr : Room (k + 1) X.A) (hg : Gl X x) (ha : PA X (e :: es) t)
    (hdb : (x == ("__debug__" : Str)) = false := by decide) (he : starEach (e :: es) X.env = (false, eval e X.env) :: starEach es X.env := by rfl) (hpl : (backTo pos (starEach es X.env)).any (·.1) = false := by rfl) : PE X (.Call (.Name x p) (e :: es) [] pos) (tMake C sp [] E0 t) :=
  let ⟨_, _, M, F, m, b⟩ := c; pe_make M F hr hg m b .nil pass0 ha hdb he hpl
def plF (a : Addr) : List (Str × V) := putF "choice" (.ref a) []
def toF (a b : Addr) : List (Str × V) := putF "back" (.ref b) (putF "there" (.ref a) [])
def clF (a b : Addr) : List (Str × V) := putF "links" (.ref b) (putF "words" (.ref a) [])
theorem plF_choice (a : Addr) : (plF a).lookup ("choice" : Str) = some (.ref a) := by unfold plF; rw [lookup_putF, if_pos rfl]
theorem toF_back (a b : Addr) : (toF a b).lookup ("back" : Str) = some (.ref b) := by unfold toF; rw [lookup_putF, if_pos rfl]
theorem toF_there (a b : Addr) : (toF a b).lookup ("there" : Str) = some (.ref a) := by unfold toF; rw [lookup_putF, if_neg (by decide +kernel), lookup_putF, if_pos rfl]
theorem clF_links (a b : Addr) : (clF a b).lookup ("links" : Str) = some (.ref b) := by unfold clF; rw [lookup_putF, if_pos rfl]
theorem clF_words (a b : Addr) : (clF a b).lookup ("words" : Str) = some (.ref a) := by unfold clF; rw [lookup_putF, if_neg (by decide +kernel), lookup_putF, if_pos rfl]
theorem plF_holds (a : Addr) : (plF a).lookup ("holds" : Str) = none := by unfold plF; rw [lookup_putF, if_neg (by decide +kernel)]; rfl
theorem clF_holds (a b : Addr) : (clF a b).lookup ("holds" : Str) = none := by unfold clF; rw [lookup_putF, if_neg (by decide +kernel), lookup_putF, if_neg (by decide +kernel)]; rfl
/-- what is asked of an own class whose objects are looked at -/
structure OwnC (K : PySem.W.Frag) (C : Addr) : Prop where
  cl : Cls K C
  ha : PySem.W.findIn K (.ref C) "__class__" = some (some (.builtin "object.__class__"))
  hn : PySem.W.specialIn K (.builtin "object.__class__") "__get__" = some (some (.builtin "getset_descriptor.__get__"))
  htk : PySem.W.takesIn K (.builtin "object.__class__") = some true
  hm : PySem.W.mroIn K C (.type "object") = some true
theorem OwnC.ty {K : PySem.W.Frag} {C : Addr} (o : OwnC K C) {H : Hp} {a dx : Addr} {fs : List (Str × V)} (e : H a = some (.ins C dx fs)) : TyOf K H (.ref a) (.ref C) := .ins e o.cl o.ha o.hn o.htk o.hm
structure TxtP (K : PySem.W.Frag) (CP : Addr) : Prop extends OwnC K CP where
  nC : NoAttr K CP "choice"
structure TxtT (K : PySem.W.Frag) (CT : Addr) : Prop extends OwnC K CT where
  nT : NoAttr K CT "there"
  nB : NoAttr K CT "back"
structure TxtC (K : PySem.W.Frag) (CC : Addr) : Prop extends OwnC K CC where
  nW : NoAttr K CC "words"
  nL : NoAttr K CC "links"
/-- an answer of a choice; of two chains; of words and a chain: new ones -/
def NewPl (CP : Addr) (H H' : Hp) (v : V) (bs : List Bool) : Prop := ∃ p dx a, v = .ref p ∧ H p = none ∧ H a = none ∧ H' p = some (.ins CP dx (plF a)) ∧ H' a = some (.lst (bs.map V.bl))
def NewTo (CT : Addr) (H H' : Hp) (v : V) (cs ds : List W) : Prop := ∃ p dx a b us vs, v = .ref p ∧ H p = none ∧ H a = none ∧ H b = none ∧ a ≠ b ∧ H' p = some (.ins CT dx (toF a b)) ∧ H' a = some (.lst us) ∧ Ws H' us cs ∧ H' b = some (.lst vs) ∧ Ws H' vs ds
def NewCl (CC : Addr) (H H' : Hp) (v : V) (xs cs : List W) : Prop := ∃ p dx a b us vs, v = .ref p ∧ H p = none ∧ H a = none ∧ H b = none ∧ a ≠ b ∧ H' p = some (.ins CC dx (clF a b)) ∧ H' a = some (.lst us) ∧ Ws H' us xs ∧ H' b = some (.lst vs) ∧ Ws H' vs cs
/-- what an answer's own word is -/
def plB (N : Nat) (ws : List (W × W)) (bs : List Bool) : Bool := decide (bs.length = N ∧ Pls (fOf bs) ws)
def toB (ws : List (W × W)) (cs ds : List W) : Bool := ldB ws cs && ldB ws ds && decide (ds.head? = cs.getLast?)
def clB (ws : List (W × W)) (xs cs : List W) : Bool := chB ws cs && (cs.head?.any fun a => decide (a ∈ xs)) && (cs.getLast?.any fun a => decide (neg a ∈ xs))
section
variable {P : Program} {w : World} {K : PySem.W.Frag} {mg : Str → Option Value} {base : Heap} {C CP CT CC : Addr}
inductive X_sp_plinit (K : PySem.W.Frag) (CP : Addr) (vs : List V) (H : Hp) (Q : VK) (E : XK) : Prop
  | mk (p dx a : Addr) (ys : List V) (z_1 : vs = [.ref p, .ref a]) (z_2 : H p = some (.ins CP dx [])) (z_3 : SqL K H a ys) (z_4 : ∀ l, H l = none → Q .non (upd (upd H l (.lst ys)) p (.ins CP dx (plF l))))
def sp_plinit (K : PySem.W.Frag) (CP : Addr) : Sp := fun vs H Q E => X_sp_plinit K CP vs H Q E
theorem sc_plinit : FnScope ["self", "choice"] ["self", "choice"] (defScope S_plinit) := ⟨rfl, rfl, rfl, by decide +kernel, rfl, by decide +kernel, by decide +kernel⟩
theorem ok_plinit {f : Addr} {fd : FuncData} (F : Fun K "__init__" "Pleased.__init__" S_plinit f fd) (B : Bare mg) (T : TxtP K CP) : FnOk P w K mg base CX0 1 f fd ["self", "choice"] (sp_plinit K CP) := by
  refine F.ok sc_plinit (fun vs H Q E h => by obtain ⟨_, _, _, _, rfl, _⟩ := h; rfl) (fun cdv A outer s H vs Q E hr h => ?_)
  obtain ⟨p, dx, a, ys, rfl, hp, hq, k⟩ := h
  refine ⟨_, pss_one (ps_fld (pv 0) (pe_callTy call_list_of rfl B.lst bt_list (pa_cons (pv 1) pa_nil)) rfl), ?_⟩
  refine ⟨_, rfl, a, ys, rfl, .inl hq, fun l hl => ⟨_, rfl, p, CP, dx, [], rfl, ?_, T.cl, T.nC, (by show 0 < 1000; decide), k l hl⟩⟩
  rw [upd_ne (ne_of_none hp hl)]
  exact hp
theorem make_pl {H1 : Hp} {a : Addr} {ys : List V} {Q : VK} (hq : SqL K H1 a ys) (k : ∀ H' p dx l, Same H1 H' → H1 p = none → H1 l = none → H' p = some (.ins CP dx (plF l)) → H' l = some (.lst ys) → Q (.ref p) H') :
    ∀ x dx, H1 x = none → H1 dx = none → dx ≠ x → sp_plinit K CP (.ref x :: ([.ref a] ++ [])) (upd (upd H1 dx (.own x)) x (.ins CP dx [])) (fun v H2 => v = .non ∧ Q (.ref x) H2) E0 := by
  intro x dx hx hdx ne
  have s1 : Same H1 (upd (upd H1 dx (.own x)) x (.ins CP dx [])) := (Same.laid hdx).laidT (by rw [upd_ne ne.symm]; exact hx)
  refine ⟨x, dx, a, ys, rfl, upd_same, s1.seq hq, fun l hl => ⟨rfl, ?_⟩⟩
  have lx : l ≠ x := fun z => by rw [z, upd_same] at hl; cases hl
  exact k _ x dx l ((s1.laidT hl).chg hx) hx (s1.free hl) upd_same (by rw [upd_ne lx]; exact upd_same)
inductive X_sp_plholds (C CP : Addr) (vs : List V) (H : Hp) (Q : VK) (E : XK) : Prop
  | mk (p dx a : Addr) (h : V) (N : Nat) (ws : List (W × W)) (bs : List Bool) (z_1 : vs = [.ref p, h]) (z_2 : H p = some (.ins CP dx (plF a))) (z_3 : H a = some (.lst (bs.map V.bl))) (z_4 : bs.length ≤ 1000) (z_5 : HouseAt C H h N ws) (z_6 : GoodH N ws) (z_7 : ∀ H', Same H H' → Q (.bl (plB N ws bs)) H')
def sp_plholds (C CP : Addr) : Sp := fun vs H Q E => X_sp_plholds C CP vs H Q E
theorem sc_plholds : FnScope ["self", "house"] ["self", "house"] (defScope S_plholds) := ⟨rfl, rfl, rfl, by decide +kernel, rfl, by decide +kernel, by decide +kernel⟩
theorem ok_plholds {f : Addr} {fd : FuncData} (F : Fun K "holds" "Pleased.holds" S_plholds f fd) (T : TxtP K CP) (ci : Cal P w K mg base "is_choice" 1 ["house", "value"] (sp_isch C)) (cd : Cal P w K mg base "displeased" 3 ["house", "choice"] (sp_disp C)) : FnOk P w K mg base CX0 4 f fd ["self", "house"] (sp_plholds C CP) := by
  refine F.ok sc_plholds (fun vs H Q E h => by obtain ⟨_, _, _, _, _, _, _, rfl, _⟩ := h; rfl) (fun cdv A outer s H vs Q E hr h => ?_)
  obtain ⟨p, dx, a, h, N, ws, bs, rfl, hp, ea, lb, hh, gh, k⟩ := h
  have hr1 : Room 1 _ := hr.mono (by decide)
  have hu := hr.units
  refine ⟨_, pss_one (ps_ret (pe_and (pe_cal ci hr1 rfl (pa_cons (pv 1) (pa_cons (pe_fld (pv 0) rfl) pa_nil))) (pe_one (pe_cmpR (op_eqPs hu) (pe_cal cd hr rfl (pa_cons (pv 1) (pa_cons (pe_fld (pv 0) rfl) pa_nil))) (pe_lst pa_nil) (nomark _))))), ?_⟩
  refine ⟨_, rfl, _, rfl, p, CP, dx, _, _, rfl, hp, T.cl, T.nC, plF_choice _, h, a, N, ws, bs, rfl, hh, ea, lb, fun H1 s1 => ⟨_, rfl, iteD (fun e => ?_) (fun e => ?_)⟩⟩
  · refine ⟨_, rfl, _, rfl, p, CP, dx, _, _, rfl, s1 _ _ hp, T.cl, T.nC, plF_choice _, h, a, N, ws, bs, rfl, hh.same s1, gh, s1 _ _ ea, e, fun H2 v s2 nw => ⟨Nat.zero_le _, fun q hq => ?_⟩⟩
    obtain ⟨b, rfl, nb, eb⟩ := nw
    have s3 : Same H2 (upd H2 q (.lst [])) := Same.laid hq
    refine ⟨dis ws bs, [], ⟨b, rfl, SqL.of (s3 _ _ eb)⟩, ⟨q, rfl, SqL.of upd_same⟩, ?_⟩
    have z := k _ ((s1.trans s2).trans s3)
    have e2 : plB N ws bs = decide (dis ws bs = []) := by
      unfold plB
      rw [Bool.eq_iff_iff]
      simp only [decide_eq_true_iff]
      exact ⟨fun z => dis_nil.2 z.2, fun z => ⟨e, dis_nil.1 z⟩⟩
    rw [e2] at z
    exact z
  · have z := k _ s1
    rw [show plB N ws bs = false from decide_eq_false fun z => e z.1] at z
    exact z
inductive X_sp_toinit (K : PySem.W.Frag) (CT : Addr) (vs : List V) (H : Hp) (Q : VK) (E : XK) : Prop
  | mk (p dx a b : Addr) (ys zs : List V) (z_1 : vs = [.ref p, .ref a, .ref b]) (z_2 : H p = some (.ins CT dx [])) (z_3 : SqL K H a ys) (z_4 : SqL K H b zs) (z_5 : a ≠ p) (z_6 : b ≠ p) (z_7 : ∀ l m H', H l = none → H m = none → l ≠ m → H' p = some (.ins CT dx (toF l m)) → H' l = some (.lst ys) → H' m = some (.lst zs) → (∀ c o, c ≠ p → H c = some o → H' c = some o) → Q .non H')
def sp_toinit (K : PySem.W.Frag) (CT : Addr) : Sp := fun vs H Q E => X_sp_toinit K CT vs H Q E
theorem sc_toinit : FnScope ["self", "there", "back"] ["self", "there", "back"] (defScope S_toinit) := ⟨rfl, rfl, rfl, by decide +kernel, rfl, by decide +kernel, by decide +kernel⟩
theorem sq_but {H H' : Hp} {a p : Addr} {ys : List V} (h : SqL K H a ys) (ne : a ≠ p) (k : ∀ c o, c ≠ p → H c = some o → H' c = some o) : SqL K H' a ys := by
  rcases h with (h | ⟨o, h⟩) | h
  · exact .inl (.inl (k _ _ ne h))
  · exact .inl (.inr ⟨o, k _ _ ne h⟩)
  · exact .inr h
theorem ok_toinit {f : Addr} {fd : FuncData} (F : Fun K "__init__" "Torn.__init__" S_toinit f fd) (B : Bare mg) (T : TxtT K CT) : FnOk P w K mg base CX0 1 f fd ["self", "there", "back"] (sp_toinit K CT) := by
  refine F.ok sc_toinit (fun vs H Q E h => by obtain ⟨_, _, _, _, _, _, rfl, _⟩ := h; rfl) (fun cdv A outer s H vs Q E hr h => ?_)
  obtain ⟨p, dx, a, b, ys, zs, rfl, hp, hq, hq', ap, bp, k⟩ := h
  refine ⟨_, pss_cons (ps_fld (pv 0) (pe_callTy call_list_of rfl B.lst bt_list (pa_cons (pv 1) pa_nil)) rfl) (pss_one (ps_fld (pv 0) (pe_callTy call_list_of rfl B.lst bt_list (pa_cons (pv 2) pa_nil)) rfl)), ?_⟩
  refine ⟨_, rfl, a, ys, rfl, .inl hq, fun l hl => ⟨_, rfl, p, CT, dx, [], rfl, by rw [upd_ne (ne_of_none hp hl)]; exact hp, T.cl, T.nT, (by show 0 < 1000; decide), ?_⟩⟩
  have lp : l ≠ p := (ne_of_none hp hl).symm
  have k1 : ∀ c o, c ≠ p → H c = some o → (upd (upd H l (.lst ys)) p (.ins CT dx (putF "there" (.ref l) []))) c = some o := fun c o nc e => by
    rw [upd_ne nc, upd_ne (ne_of_none e hl)]
    exact e
  refine ⟨_, rfl, b, zs, rfl, .inl (sq_but hq' bp k1), fun m hm => ?_⟩
  have mp : m ≠ p := fun z => by rw [z, upd_same] at hm; cases hm
  have ml : m ≠ l := fun z => by rw [z, upd_ne lp, upd_same] at hm; cases hm
  refine ⟨_, rfl, p, CT, dx, _, rfl, by rw [upd_ne mp.symm]; exact upd_same, T.cl, T.nB, (by show 1 < 1000; decide), ?_⟩
  have nm : H m = none := by
    rw [upd_ne mp, upd_ne ml] at hm
    exact hm
  refine k l m _ hl nm ml.symm upd_same (by rw [upd_ne lp, upd_ne ml.symm, upd_ne lp]; exact upd_same) (by rw [upd_ne mp]; exact upd_same) fun c o nc e => ?_
  rw [upd_ne nc, upd_ne (ne_of_none e nm)]
  exact k1 c o nc e
theorem make_to {H1 : Hp} {a b : Addr} {ys zs : List V} {Q : VK} (hq : H1 a = some (.lst ys)) (hq' : H1 b = some (.lst zs)) (k : ∀ H' p dx l m, Same H1 H' → H1 p = none → H1 l = none → H1 m = none → l ≠ m → H' p = some (.ins CT dx (toF l m)) → H' l = some (.lst ys) → H' m = some (.lst zs) → Q (.ref p) H') :
    ∀ x dx, H1 x = none → H1 dx = none → dx ≠ x → sp_toinit K CT (.ref x :: ([.ref a, .ref b] ++ [])) (upd (upd H1 dx (.own x)) x (.ins CT dx [])) (fun v H2 => v = .non ∧ Q (.ref x) H2) E0 := by
  intro x dx hx hdx ne
  have s1 : Same H1 (upd (upd H1 dx (.own x)) x (.ins CT dx [])) := (Same.laid hdx).laidT (by rw [upd_ne ne.symm]; exact hx)
  refine ⟨x, dx, a, b, ys, zs, rfl, upd_same, SqL.of (s1 _ _ hq), SqL.of (s1 _ _ hq'), ne_of_none hq hx, ne_of_none hq' hx, fun l m H' hl hm lm e1 e2 e3 kp => ⟨rfl, ?_⟩⟩
  exact k _ x dx l m (fun c o e => kp c o (ne_of_none e hx) (s1 _ _ e)) hx (s1.free hl) (s1.free hm) lm e1 e2 e3
inductive X_sp_toholds (C CT : Addr) (vs : List V) (H : Hp) (Q : VK) (E : XK) : Prop
  | mk (p dx a b : Addr) (h : V) (N : Nat) (ws : List (W × W)) (us vs' : List V) (cs ds : List W) (z_1 : vs = [.ref p, h]) (z_2 : H p = some (.ins CT dx (toF a b))) (z_3 : H a = some (.lst us)) (z_4 : Ws H us cs) (z_5 : H b = some (.lst vs')) (z_6 : Ws H vs' ds) (z_7 : us.length ≤ 1000) (z_8 : vs'.length ≤ 1000) (z_9 : (∀ x ∈ cs, InN N x)) (z_10 : (∀ x ∈ ds, InN N x)) (z_11 : HouseAt C H h N ws) (z_12 : ∀ H', Same H H' → Q (.bl (toB ws cs ds)) H')
def sp_toholds (C CT : Addr) : Sp := fun vs H Q E => X_sp_toholds C CT vs H Q E
theorem sc_toholds : FnScope ["self", "house"] ["self", "house"] (defScope S_toholds) := ⟨rfl, rfl, rfl, by decide +kernel, rfl, by decide +kernel, by decide +kernel⟩
theorem ok_toholds {f : Addr} {fd : FuncData} (F : Fun K "holds" "Torn.holds" S_toholds f fd) (T : TxtT K CT) (cl : Cal P w K mg base "leads_to_opposite" 4 ["house", "links"] (sp_leads C)) : FnOk P w K mg base CX0 5 f fd ["self", "house"] (sp_toholds C CT) := by
  refine F.ok sc_toholds (fun vs H Q E h => by obtain ⟨_, _, _, _, _, _, _, _, _, _, _, rfl, _⟩ := h; rfl) (fun cdv A outer s H vs Q E hr h => ?_)
  obtain ⟨p, dx, a, b, h, N, ws, us, vs', cs, ds, rfl, hp, ea, wa, eb, wb, la, lb, ia, ib, hh, k⟩ := h
  have hu := hr.units
  refine ⟨_, pss_cons (ps_if (PW.pt (pw_or (pt_not (pt_val (pe_cal cl hr rfl (pa_cons (pv 1) (pa_cons (pe_fld (pv 0) rfl) pa_nil))))) (pw_or1 (pt_not (pt_val (pe_cal cl hr rfl (pa_cons (pv 1) (pa_cons (pe_fld (pv 0) rfl) pa_nil)))))))) (pss_one (ps_ret pe_bl)) pss_nil)
    (pss_one (ps_ret (pe_cmpR (op_eqW hu) (pe_ix ix_list (pe_fld (pv 0) rfl) pe_int (fun _ _ => rfl)) (pe_ix ix_list (pe_fld (pv 0) rfl) pe_m1 (fun _ _ => rfl)) (nomark _)))), ?_⟩
  refine ⟨_, rfl, _, rfl, p, CT, dx, _, _, rfl, hp, T.cl, T.nT, toF_there _ _, h, a, N, ws, us, cs, rfl, hh, ea, wa, la, ia, fun H1 s1 => ⟨_, rfl, iteB (fun e => ?_) (fun e => ?_)⟩⟩
  · have e1 : ldB ws cs = false := by simpa using e
    have z := k _ s1
    rw [show toB ws cs ds = false by unfold toB; rw [e1]; rfl] at z
    exact z
  have e1 : ldB ws cs = true := by simpa using e
  refine ⟨_, rfl, _, rfl, p, CT, dx, _, _, rfl, s1 _ _ hp, T.cl, T.nB, toF_back _ _, h, b, N, ws, vs', ds, rfl, hh.same s1, s1 _ _ eb, wb.same s1, lb, ib, fun H2 s2 => ⟨_, rfl, iteB (fun e' => ?_) (fun e' => ?_)⟩⟩
  · have e2 : ldB ws ds = false := by simpa using e'
    have z := k _ (s1.trans s2)
    rw [show toB ws cs ds = false by unfold toB; rw [e1, e2]; rfl] at z
    exact z
  have e2 : ldB ws ds = true := by simpa using e'
  have s12 := s1.trans s2
  obtain ⟨lv, lx, elv, elx, wl⟩ := Ws.last wa (of_decide_eq_true e1).1
  obtain ⟨hv, hx, ehv, ehx, wh⟩ := Ws.head wb (of_decide_eq_true e2).1
  refine ⟨_, rfl, p, CT, dx, _, _, rfl, s12 _ _ hp, T.cl, T.nB, toF_back _ _, b, vs', 0, hv, rfl, rfl, SqL.of (s12 _ _ eb), atI_head ehv, _, rfl, p, CT, dx, _, _, rfl, s12 _ _ hp, T.cl, T.nT, toF_there _ _, a, us, -1, lv, rfl, rfl, SqL.of (s12 _ _ ea), atI_end elv, hx, lx, wh.same s12, wl.same s12, ?_⟩
  have z := k _ s12
  have e3 : toB ws cs ds = decide (hx = lx) := by
    unfold toB
    rw [e1, e2, ehx, elx]
    simp
  rw [e3] at z
  exact z
inductive X_sp_clinit (K : PySem.W.Frag) (CC : Addr) (vs : List V) (H : Hp) (Q : VK) (E : XK) : Prop
  | mk (p dx a b : Addr) (ys zs : List V) (z_1 : vs = [.ref p, .ref a, .ref b]) (z_2 : H p = some (.ins CC dx [])) (z_3 : SqL K H a ys) (z_4 : SqL K H b zs) (z_5 : a ≠ p) (z_6 : b ≠ p) (z_7 : ∀ l m H', H l = none → H m = none → l ≠ m → H' p = some (.ins CC dx (clF l m)) → H' l = some (.lst ys) → H' m = some (.lst zs) → (∀ c o, c ≠ p → H c = some o → H' c = some o) → Q .non H')
def sp_clinit (K : PySem.W.Frag) (CC : Addr) : Sp := fun vs H Q E => X_sp_clinit K CC vs H Q E
theorem sc_clinit : FnScope ["self", "words", "links"] ["self", "words", "links"] (defScope S_clinit) := ⟨rfl, rfl, rfl, by decide +kernel, rfl, by decide +kernel, by decide +kernel⟩
theorem ok_clinit {f : Addr} {fd : FuncData} (F : Fun K "__init__" "Clash.__init__" S_clinit f fd) (B : Bare mg) (T : TxtC K CC) : FnOk P w K mg base CX0 1 f fd ["self", "words", "links"] (sp_clinit K CC) := by
  refine F.ok sc_clinit (fun vs H Q E h => by obtain ⟨_, _, _, _, _, _, rfl, _⟩ := h; rfl) (fun cdv A outer s H vs Q E hr h => ?_)
  obtain ⟨p, dx, a, b, ys, zs, rfl, hp, hq, hq', ap, bp, k⟩ := h
  refine ⟨_, pss_cons (ps_fld (pv 0) (pe_callTy call_list_of rfl B.lst bt_list (pa_cons (pv 1) pa_nil)) rfl) (pss_one (ps_fld (pv 0) (pe_callTy call_list_of rfl B.lst bt_list (pa_cons (pv 2) pa_nil)) rfl)), ?_⟩
  refine ⟨_, rfl, a, ys, rfl, .inl hq, fun l hl => ⟨_, rfl, p, CC, dx, [], rfl, by rw [upd_ne (ne_of_none hp hl)]; exact hp, T.cl, T.nW, (by show 0 < 1000; decide), ?_⟩⟩
  have lp : l ≠ p := (ne_of_none hp hl).symm
  have k1 : ∀ c o, c ≠ p → H c = some o → (upd (upd H l (.lst ys)) p (.ins CC dx (putF "words" (.ref l) []))) c = some o := fun c o nc e => by
    rw [upd_ne nc, upd_ne (ne_of_none e hl)]
    exact e
  refine ⟨_, rfl, b, zs, rfl, .inl (sq_but hq' bp k1), fun m hm => ?_⟩
  have mp : m ≠ p := fun z => by rw [z, upd_same] at hm; cases hm
  have ml : m ≠ l := fun z => by rw [z, upd_ne lp, upd_same] at hm; cases hm
  refine ⟨_, rfl, p, CC, dx, _, rfl, by rw [upd_ne mp.symm]; exact upd_same, T.cl, T.nL, (by show 1 < 1000; decide), ?_⟩
  have nm : H m = none := by
    rw [upd_ne mp, upd_ne ml] at hm
    exact hm
  refine k l m _ hl nm ml.symm upd_same (by rw [upd_ne lp, upd_ne ml.symm, upd_ne lp]; exact upd_same) (by rw [upd_ne mp]; exact upd_same) fun c o nc e => ?_
  rw [upd_ne nc, upd_ne (ne_of_none e nm)]
  exact k1 c o nc e
theorem make_cl {H1 : Hp} {a b : Addr} {ys zs : List V} {Q : VK} (hq : SqL K H1 a ys) (na : H1 a ≠ none) (hq' : SqL K H1 b zs) (nb : H1 b ≠ none) (k : ∀ H' p dx l m, Same H1 H' → H1 p = none → H1 l = none → H1 m = none → l ≠ m → H' p = some (.ins CC dx (clF l m)) → H' l = some (.lst ys) → H' m = some (.lst zs) → Q (.ref p) H') :
    ∀ x dx, H1 x = none → H1 dx = none → dx ≠ x → sp_clinit K CC (.ref x :: ([.ref a, .ref b] ++ [])) (upd (upd H1 dx (.own x)) x (.ins CC dx [])) (fun v H2 => v = .non ∧ Q (.ref x) H2) E0 := by
  intro x dx hx hdx ne
  have s1 : Same H1 (upd (upd H1 dx (.own x)) x (.ins CC dx [])) := (Same.laid hdx).laidT (by rw [upd_ne ne.symm]; exact hx)
  refine ⟨x, dx, a, b, ys, zs, rfl, upd_same, s1.seq hq, s1.seq hq', fun z => na (by rw [z]; exact hx), fun z => nb (by rw [z]; exact hx), fun l m H' hl hm lm e1 e2 e3 kp => ⟨rfl, ?_⟩⟩
  exact k _ x dx l m (fun c o e => kp c o (ne_of_none e hx) (s1 _ _ e)) hx (s1.free hl) (s1.free hm) lm e1 e2 e3
inductive X_sp_clholds (C CC : Addr) (vs : List V) (H : Hp) (Q : VK) (E : XK) : Prop
  | mk (p dx a b : Addr) (h : V) (N : Nat) (ws : List (W × W)) (us vs' : List V) (xs cs : List W) (z_1 : vs = [.ref p, h]) (z_2 : H p = some (.ins CC dx (clF a b))) (z_3 : H a = some (.lst us)) (z_4 : Ws H us xs) (z_5 : H b = some (.lst vs')) (z_6 : Ws H vs' cs) (z_7 : us.length ≤ 1000) (z_8 : vs'.length ≤ 1000) (z_9 : (∀ x ∈ cs, InN N x)) (z_10 : HouseAt C H h N ws) (z_11 : ∀ H', Same H H' → Q (.bl (clB ws xs cs)) H')
def sp_clholds (C CC : Addr) : Sp := fun vs H Q E => X_sp_clholds C CC vs H Q E
theorem sc_clholds : FnScope ["self", "house"] ["self", "house"] (defScope S_clholds) := ⟨rfl, rfl, rfl, by decide +kernel, rfl, by decide +kernel, by decide +kernel⟩
theorem ok_clholds {f : Addr} {fd : FuncData} (F : Fun K "holds" "Clash.holds" S_clholds f fd) (T : TxtC K CC) (cc : Cal P w K mg base "is_chain" 3 ["house", "links"] (sp_ischain C)) (co : Cal P w K mg base "opposite" 1 ["word"] sp_opp) : FnOk P w K mg base CX0 4 f fd ["self", "house"] (sp_clholds C CC) := by
  refine F.ok sc_clholds (fun vs H Q E h => by obtain ⟨_, _, _, _, _, _, _, _, _, _, _, rfl, _⟩ := h; rfl) (fun cdv A outer s H vs Q E hr h => ?_)
  obtain ⟨p, dx, a, b, h, N, ws, us, vs', xs, cs, rfl, hp, ea, wa, eb, wb, la, lb, ib, hh, k⟩ := h
  have hr1 : Room 1 _ := hr.mono (by decide)
  have hu5 := hr.units5
  refine ⟨_, pss_cons (ps_if (pt_not (pt_val (pe_cal cc hr rfl (pa_cons (pv 1) (pa_cons (pe_fld (pv 0) rfl) pa_nil))))) (pss_one (ps_ret pe_bl)) pss_nil)
    (pss_one (ps_ret (pe_and (pe_cmpR (op_inWL hu5) (pe_ix ix_list (pe_fld (pv 0) rfl) pe_int (fun _ _ => rfl)) (pe_fld (pv 0) rfl) (by with_unfolding_all rfl)) (pe_one (pe_cmpR (op_inWL hu5) (pe_cal co hr1 rfl (pa_cons (pe_ix ix_list (pe_fld (pv 0) rfl) pe_m1 (fun _ _ => rfl)) pa_nil)) (pe_fld (pv 0) rfl) (by with_unfolding_all rfl)))))), ?_⟩
  refine ⟨_, rfl, _, rfl, p, CC, dx, _, _, rfl, hp, T.cl, T.nL, clF_links _ _, h, b, N, ws, vs', cs, rfl, hh, eb, wb, lb, ib, fun H1 s1 => ⟨_, rfl, iteB (fun e => ?_) (fun e => ?_)⟩⟩
  · have e1 : chB ws cs = false := by simpa using e
    have z := k _ s1
    rw [show clB ws xs cs = false by unfold clB; rw [e1]; rfl] at z
    exact z
  have e1 : chB ws cs = true := by simpa using e
  have ne := (of_decide_eq_true e1).1
  obtain ⟨hv, hx, ehv, ehx, wh⟩ := Ws.head wb ne
  obtain ⟨lv, lx, elv, elx, wl⟩ := Ws.last wb ne
  have eB : clB ws xs cs = (decide (hx ∈ xs) && decide (neg lx ∈ xs)) := by
    unfold clB
    rw [e1, ehx, elx]
    rfl
  refine ⟨_, rfl, p, CC, dx, _, _, rfl, s1 _ _ hp, T.cl, T.nL, clF_links _ _, b, vs', 0, hv, rfl, rfl, SqL.of (s1 _ _ eb), atI_head ehv, _, rfl, p, CC, dx, _, _, rfl, s1 _ _ hp, T.cl, T.nW, clF_words _ _, hx, xs, wh.same s1, ⟨a, us, rfl, SqL.of (s1 _ _ ea), wa.same s1⟩, _, rfl, iteD (fun h1 => ?_) (fun h1 => ?_)⟩
  · refine ⟨_, rfl, p, CC, dx, _, _, rfl, s1 _ _ hp, T.cl, T.nL, clF_links _ _, b, vs', -1, lv, rfl, rfl, SqL.of (s1 _ _ eb), atI_end elv, lv, lx, rfl, wl.same s1, fun H2 nv s2 wn => ?_⟩
    have s12 := s1.trans s2
    refine ⟨_, rfl, p, CC, dx, _, _, rfl, s12 _ _ hp, T.cl, T.nW, clF_words _ _, neg lx, xs, wn, ⟨a, us, rfl, SqL.of (s12 _ _ ea), wa.same s12⟩, ?_⟩
    have z := k _ s12
    rw [eB, decide_eq_true h1, Bool.true_and] at z
    exact z
  · have z := k _ s1
    rw [eB, decide_eq_false h1, Bool.false_and] at z
    exact z
end
end L2

end

section
set_option autoImplicit false
set_option maxRecDepth 100000
set_option linter.all false
namespace L2
open PySem PySem.Spec PyProof.Rows EoD Eo
theorem chain_in {N : Nat} {ws : List (W × W)} {x y : W} {cs : List W} (g : Good N ws) (hx : InN N x) (h : ChainOk ws x y cs) : (∀ z ∈ cs, InN N z) ∧ cs.length ≤ 2 * N + 1 := by
  rcases h with ⟨_, rfl⟩ | ⟨k, di, ch, hh, _, hl⟩
  · exact ⟨fun z hz => by simp at hz, by simp⟩
  · refine ⟨fun z hz => ?_, by have := di.lt g hx; omega⟩
    obtain ⟨i, hi, ez⟩ := List.mem_iff_getElem.mp hz
    cases i with
    | zero =>
      have : cs[0]? = some x := by rw [← List.head?_eq_getElem?]; exact hh
      rw [List.getElem?_eq_getElem hi] at this
      have e : cs[0] = x := Option.some.inj this
      rw [← ez, e]; exact hx
    | succ i =>
      have := ch.at (k := i) (a := cs[i]'(by omega)) (b := z) (List.getElem?_eq_getElem (by omega)) (by rw [List.getElem?_eq_getElem hi, ez])
      exact this.inN g
theorem ld_of {ws : List (W × W)} {x y : W} {cs : List W} (h : Chn ws cs) (e1 : cs.head? = some x) (e2 : cs.getLast? = some y) (e : y = neg x) : ldB ws cs = true := by
  refine decide_eq_true ⟨fun z => ?_, h, ?_⟩
  · rw [z] at e1; cases e1
  · rw [e1, e2, e]; rfl
theorem chain_len {N : Nat} {ws : List (W × W)} {x y : W} {cs : List W} (g : GoodH N ws) (hx : InN N x) (h : ChainOk ws x y cs) : (∀ z ∈ cs, InN N z) ∧ cs.length ≤ 17 := by
  obtain ⟨h1, h2⟩ := chain_in g.good hx h
  have := g.hi
  exact ⟨h1, by omega⟩
section
variable {P : Program} {w : World} {K : PySem.W.Frag} {mg : Str → Option Value} {base : Heap} {C CP CT CC : Addr}
inductive X_sp_ftorn (C CT : Addr) (vs : List V) (H : Hp) (Q : VK) (E : XK) : Prop
  | mk (h : V) (N : Nat) (ws : List (W × W)) (z_1 : vs = [h]) (z_2 : HouseAt C H h N ws) (z_3 : GoodH N ws) (z_4 : (∃ x, InN N x ∧ Reach ws x (neg x) ∧ Reach ws (neg x) x)) (z_5 : ∀ H' v cs ds, Same H H' → NewTo CT H H' v cs ds → toB ws cs ds = true → (∀ x ∈ cs, InN N x) → (∀ x ∈ ds, InN N x) → cs.length ≤ 17 → ds.length ≤ 17 → Q v H')
def sp_ftorn (C CT : Addr) : Sp := fun vs H Q E => X_sp_ftorn C CT vs H Q E
theorem sc_ftorn : FnScope ["house", "name", "there", "back"] ["house"] (defScope S_ftorn) := ⟨rfl, rfl, rfl, by decide +kernel, rfl, by decide +kernel, by decide +kernel⟩
theorem ok_ftorn (D : Def K mg "find_torn" S_ftorn ["house"]) (B : Bare mg) (T : TxtH K C) (cc : Cal P w K mg base "chain" 4 ["house", "word", "other"] (sp_chain C)) (cm : CalMk P w K mg base CT "Torn" 1 ["self", "there", "back"] (sp_toinit K CT)) : Cal P w K mg base "find_torn" 5 ["house"] (sp_ftorn C CT) := by
  refine D.cal (k := 4) sc_ftorn (fun vs H Q E h => by obtain ⟨_, _, _, rfl, _⟩ := h; rfl) (fun f cdv A outer s H vs Q E hr h => ?_)
  obtain ⟨h, N, ws, rfl, hh, gh, ⟨x0, ix0, r1, r2⟩, k⟩ := h
  have hr2 : Room 2 _ := hr.mono (by decide)
  refine ⟨_, pss_cons (ps_for PassesOwn.never rfl (pi_range1 rfl B.rng (pa_cons (pe_fld (pv 0) rfl) pa_nil)) (pg_name (i := 1) sc_ftorn.nd rfl (Or.inl rfl))
    (pss_cons (ps_set (i := 2) sc_ftorn.nd rfl (Or.inl rfl) (pe_cal cc hr rfl (pa_cons (pv 0) (pa_cons (pe_tup (pa_cons (pv 1) (pa_cons pe_bl pa_nil))) (pa_cons (pe_tup (pa_cons (pv 1) (pa_cons pe_bl pa_nil))) pa_nil)))))
    (pss_cons (ps_set (i := 3) sc_ftorn.nd rfl (Or.inl rfl) (pe_cal cc hr rfl (pa_cons (pv 0) (pa_cons (pe_tup (pa_cons (pv 1) (pa_cons pe_bl pa_nil))) (pa_cons (pe_tup (pa_cons (pv 1) (pa_cons pe_bl pa_nil))) pa_nil)))))
    (pss_one (ps_if (PW.pt (pw_and (pt_truth (pv 2) (fun _ => rfl)) (pw_and1 (pt_truth (pv 3) (fun _ => rfl))))) (pss_one (ps_ret (pe_mk cm hr2 rfl (pa_cons (pv 2) (pa_cons (pv 3) pa_nil))))) pss_nil))))) (pss_one (ps_ret pe_non)), ?_⟩
  obtain ⟨p, dx, q, us, rfl, hp, _⟩ := id hh
  have N8 := gh.hi
  refine ⟨_, rfl, p, C, dx, _, _, rfl, hp, T.cl, T.nN, flds_names _ _, (N : Int), rfl, by omega, by omega, for_range (n := (N : Int).toNat) (fun i σ H2 => ∃ (z1 z2 z3 : Option V), σ = [some (.ref p), z1, z2, z3] ∧ Same H H2 ∧ ∀ j, j < i → ¬ (Reach ws ((j : Int), false) ((j : Int), true) ∧ Reach ws ((j : Int), true) ((j : Int), false)))
    ⟨none, none, none, rfl, Same.refl _, fun j hj => by omega⟩ ?_ ?_⟩
  · rintro i σ H2 hi ⟨z1, z2, z3, rfl, s2, no⟩
    have hi' : i < N := by simpa using hi
    have iF : InN N ((i : Int), false) := ⟨by show (0 : Int) ≤ i; omega, by show (i : Int) < N; omega⟩
    have iT : InN N ((i : Int), true) := iF
    refine ⟨_, rfl, _, rfl, (by show 2 ≤ sizeLine; decide), fun t1 h1 => ⟨_, rfl, (by show 2 ≤ sizeLine; decide), fun t2 h2 => ?_⟩⟩
    have s3 : Same H2 (upd H2 t1 (.tup [V.int (0 + (i : Int)), V.bl false])) := Same.laid h1
    have s4 := s3.laidT (o := .tup [V.int (0 + (i : Int)), V.bl true]) h2
    have s04 := s2.trans s4
    have n12 : t1 ≠ t2 := ne_of_none upd_same h2
    have w1 : IsW (upd (upd H2 t1 (.tup [V.int (0 + (i : Int)), V.bl false])) t2 (.tup [V.int (0 + (i : Int)), V.bl true])) (.ref t1) ((i : Int), false) := ⟨t1, rfl, by rw [upd_ne n12, upd_same]; simp⟩
    have w2 : IsW (upd (upd H2 t1 (.tup [V.int (0 + (i : Int)), V.bl false])) t2 (.tup [V.int (0 + (i : Int)), V.bl true])) (.ref t2) ((i : Int), true) := ⟨t2, rfl, by rw [upd_same]; simp⟩
    refine ⟨_, _, _, N, ws, ((i : Int), false), ((i : Int), true), rfl, hh.same s04, gh, w1, w2, iF, iT, fun H5 v5 cs s5 nw5 ok5 => ?_⟩
    have s05 := s04.trans s5
    refine ⟨_, rfl, _, rfl, (by show 2 ≤ sizeLine; decide), fun t3 h3 => ⟨_, rfl, (by show 2 ≤ sizeLine; decide), fun t4 h4 => ?_⟩⟩
    have s6 : Same H5 (upd H5 t3 (.tup [V.int (0 + (i : Int)), V.bl true])) := Same.laid h3
    have s7 := s6.laidT (o := .tup [V.int (0 + (i : Int)), V.bl false]) h4
    have s07 := s05.trans s7
    have n34 : t3 ≠ t4 := ne_of_none upd_same h4
    have w3 : IsW (upd (upd H5 t3 (.tup [V.int (0 + (i : Int)), V.bl true])) t4 (.tup [V.int (0 + (i : Int)), V.bl false])) (.ref t3) ((i : Int), true) := ⟨t3, rfl, by rw [upd_ne n34, upd_same]; simp⟩
    have w4 : IsW (upd (upd H5 t3 (.tup [V.int (0 + (i : Int)), V.bl true])) t4 (.tup [V.int (0 + (i : Int)), V.bl false])) (.ref t4) ((i : Int), false) := ⟨t4, rfl, by rw [upd_same]; simp⟩
    refine ⟨_, _, _, N, ws, ((i : Int), true), ((i : Int), false), rfl, hh.same s07, gh, w3, w4, iT, iF, fun H8 v8 ds s8 nw8 ok8 => ?_⟩
    have s08 := s07.trans s8
    have s58 := s7.trans s8
    obtain ⟨a, ua, rfl, na, ea, wa⟩ := nw5
    obtain ⟨b, ub, rfl, nb, eb, wb⟩ := nw8
    have ea8 := s58 _ _ ea
    have la : ua.length = cs.length := Paired.length wa
    have lb : ub.length = ds.length := Paired.length wb
    have next : (¬ (Reach ws ((i : Int), false) ((i : Int), true) ∧ Reach ws ((i : Int), true) ((i : Int), false))) → ∃ (z1 z2 z3 : Option V), [some (V.ref p), some (.int (0 + (i : Int))), some (.ref a), some (.ref b)] = [some (.ref p), z1, z2, z3] ∧ Same H H8 ∧ ∀ j, j < i + 1 → ¬ (Reach ws ((j : Int), false) ((j : Int), true) ∧ Reach ws ((j : Int), true) ((j : Int), false)) := fun nn => by
      refine ⟨_, _, _, rfl, s08, fun j hj => ?_⟩
      by_cases e : j = i
      · subst e; exact nn
      · exact no j (by omega)
    refine ⟨_, rfl, _, .inl ⟨ua, SqL.of ea8, rfl⟩, ?_⟩
    rcases ok5 with ⟨nr, rfl⟩ | ⟨k5, d5, c5, h5, l5, n5⟩
    · have : ua = [] := List.length_eq_zero_iff.mp la
      rw [this]
      exact iteF (next fun z => nr z.1)
    have ne5 : ua.isEmpty = false := by
      cases ua with
      | nil => simp at la; omega
      | cons _ _ => rfl
    rw [ne5]
    refine iteT ⟨_, rfl, _, .inl ⟨ub, SqL.of eb, rfl⟩, ?_⟩
    rcases ok8 with ⟨nr, rfl⟩ | ⟨k8, d8, c8, h8', l8, n8⟩
    · have : ub = [] := List.length_eq_zero_iff.mp lb
      rw [this]
      exact iteF (next fun z => nr z.2)
    have ne8 : ub.isEmpty = false := by
      cases ub with
      | nil => simp at lb; omega
      | cons _ _ => rfl
    rw [ne8]
    refine iteT ⟨_, rfl, _, rfl, make_to ea8 eb fun H9 pp dd l m s9 np nl nm lm e1 e2 e3 => ?_⟩
    have ab := chain_len gh iF (.inr ⟨k5, d5, c5, h5, l5, n5⟩)
    have ab' := chain_len gh iT (.inr ⟨k8, d8, c8, h8', l8, n8⟩)
    refine k H9 _ cs ds (s08.trans s9) ⟨pp, dd, l, m, ua, ub, rfl, s08.free np, s08.free nl, s08.free nm, lm, e1, e2, ((wa.same s58).same s9), e3, wb.same s9⟩ ?_ ab.1 ab'.1 ab.2 ab'.2
    unfold toB
    rw [ld_of c5 h5 l5 rfl, ld_of c8 h8' l8 rfl, h8', l5]
    simp
  · rintro σ H2 ⟨z1, z2, z3, rfl, s2, no⟩
    exfalso
    obtain ⟨n, b⟩ := x0
    have h0 : 0 ≤ n := ix0.1
    have h1 : n < (N : Int) := ix0.2
    obtain ⟨j, rfl⟩ := Int.eq_ofNat_of_zero_le h0
    refine no j (by simp; omega) ?_
    cases b with
    | true => exact ⟨r2, r1⟩
    | false => exact ⟨r1, r2⟩
inductive X_sp_tell (C CP CT : Addr) (vs : List V) (H : Hp) (Q : VK) (E : XK) : Prop
  | mk (h : V) (N : Nat) (ws : List (W × W)) (z_1 : vs = [h]) (z_2 : HouseAt C H h N ws) (z_3 : GoodH N ws) (z_4 : (∀ H' v bs, Same H H' → NewPl CP H H' v bs → bs.length = N → Pls (fOf bs) ws → Q v H')) (z_5 : (pleasing ws N = [] → ∀ H' v cs ds, Same H H' → NewTo CT H H' v cs ds → toB ws cs ds = true → (∀ x ∈ cs, InN N x) → (∀ x ∈ ds, InN N x) → cs.length ≤ 17 → ds.length ≤ 17 → Q v H'))
def sp_tell (C CP CT : Addr) : Sp := fun vs H Q E => X_sp_tell C CP CT vs H Q E
theorem sc_tell : FnScope ["house", "choices"] ["house"] (defScope S_tell) := ⟨rfl, rfl, rfl, by decide +kernel, rfl, by decide +kernel, by decide +kernel⟩
theorem torn_of {N : Nat} {ws : List (W × W)} (g : GoodH N ws) (h : pleasing ws N = []) : ∃ x, InN N x ∧ Reach ws x (neg x) ∧ Reach ws (neg x) x :=
  (pls_or_torn g.good).resolve_left fun z => (pleasing_ne g.good).2 z h
theorem ok_tell (D : Def K mg "telling" S_tell ["house"]) (cp : Cal P w K mg base "pleasing_choices" 4 ["house"] (sp_plsch C)) (cm : CalMk P w K mg base CP "Pleased" 1 ["self", "choice"] (sp_plinit K CP)) (cf : Cal P w K mg base "find_torn" 5 ["house"] (sp_ftorn C CT)) : Cal P w K mg base "telling" 6 ["house"] (sp_tell C CP CT) := by
  refine D.cal (k := 5) sc_tell (fun vs H Q E h => by obtain ⟨_, _, _, rfl, _⟩ := h; rfl) (fun f cdv A outer s H vs Q E hr h => ?_)
  obtain ⟨h, N, ws, rfl, hh, gh, k1, k2⟩ := h
  have hr2 : Room 2 _ := hr.mono (by decide)
  have hr4 : Room 4 _ := hr.mono (by decide)
  refine ⟨_, pss_cons (ps_set (i := 1) sc_tell.nd rfl (Or.inl rfl) (pe_cal cp hr4 rfl (pa_cons (pv 0) pa_nil)))
    (pss_cons (ps_if (pt_truth (pv 1) (fun _ => rfl)) (pss_one (ps_ret (pe_mk cm hr2 rfl (pa_cons (pe_ix ix_list (pv 1) pe_int (fun _ _ => rfl)) pa_nil)))) pss_nil) (pss_one (ps_ret (pe_cal cf hr rfl (pa_cons (pv 0) pa_nil))))), ?_⟩
  refine ⟨_, rfl, h, N, ws, rfl, hh, gh, fun H1 v s1 nc => ?_⟩
  obtain ⟨l, us, rfl, nl, el, pu⟩ := nc
  refine ⟨_, rfl, _, .inl ⟨us, SqL.of el, rfl⟩, ?_⟩
  cases us with
  | nil =>
    refine iteF ⟨_, rfl, h, N, ws, rfl, hh.same s1, gh, ?_, fun H2 v cs ds s2 nt => ?_⟩
    · exact torn_of gh (List.length_eq_zero_iff.mp (Paired.length pu).symm)
    · exact k2 (List.length_eq_zero_iff.mp (Paired.length pu).symm) H2 v cs ds (s1.trans s2) (let ⟨p, dx, a, b, us, vs, h1, h2, h3, h4, r⟩ := nt; ⟨p, dx, a, b, us, vs, h1, s1.free h2, s1.free h3, s1.free h4, r⟩)
  | cons u r =>
    refine iteT ?_
    obtain ⟨c, hc, a, rfl, na, ea⟩ := paired_get pu (i := 0) rfl
    have mc := mem_pleasing.1 (List.mem_of_getElem? hc)
    refine ⟨_, rfl, l, _, 0, _, rfl, rfl, SqL.of el, atI_nat (j := 0) rfl, make_pl (SqL.of ea) fun H2 p dx l' s2 np nl' e1 e2 => ?_⟩
    exact k1 H2 _ c (s1.trans s2) ⟨p, dx, l', rfl, s1.free np, s1.free nl', e1, e2⟩ mc.1 mc.2
end
end L2

end

section
set_option autoImplicit false
set_option maxRecDepth 100000
set_option linter.all false
namespace L2
open PySem PySem.Spec PyProof.Rows EoD Eo
section
variable {P : Program} {w : World} {K : PySem.W.Frag} {mg : Str → Option Value} {base : Heap} {C CP CT CC CA : Addr}
inductive X_sp_lchB  (vs : List V) (H : Hp) (Q : VK) (E : XK) : Prop
  | mk (t : V) (l : Addr) (N : Nat) (ws : List (W × W)) (us : List V) (cs : List W) (z_1 : vs = [t, .ref l]) (z_2 : ToldAt H t N ws) (z_3 : H l = some (.lst us)) (z_4 : Ws H us cs) (z_5 : us.length ≤ 1000) (z_6 : ∀ H', Same H H' → Q (.bl (chB ws cs)) H')
def sp_lchB : Sp := fun vs H Q E => X_sp_lchB  vs H Q E
end
end L2

end

section
set_option autoImplicit false
set_option maxRecDepth 100000
set_option linter.all false
namespace L2
open PySem PySem.Spec PyProof.Rows EoD Eo
theorem kit_t {K : PySem.W.Frag} {C : Addr} {t : Value} (y : PySem.W.isClsIn K C = true) (x : PySem.W.typeIn K (.ref C) = some (.type "type")) (s : PySem.W.subIn K t (.ref C) = some true) : PySem.W.kitOne K t (.ref C) = some true := by
  unfold PySem.W.kitOne
  split
  · rfl
  · unfold PySem.W.kitCls
    have e : ((PySem.W.clsIn K C).isSome && PySem.W.typeIn K (.ref C) == some (.type "type")) = true := by
      have y : (PySem.W.clsIn K C).isSome = true := y
      rw [y, x]; rfl
    simp only [e, if_true]
    exact s
theorem kit_f {K : PySem.W.Frag} {A C : Addr} (y : PySem.W.isClsIn K C = true) (x : PySem.W.typeIn K (.ref C) = some (.type "type")) (r : PySem.W.subIn K (.ref A) (.ref A) = some true) (s : PySem.W.subIn K (.ref A) (.ref C) = some false) : PySem.W.kitOne K (.ref A) (.ref C) = some false := by
  unfold PySem.W.kitOne
  rw [if_neg]
  · unfold PySem.W.kitCls
    have e : ((PySem.W.clsIn K C).isSome && PySem.W.typeIn K (.ref C) == some (.type "type")) = true := by
      have y : (PySem.W.clsIn K C).isSome = true := y
      rw [y, x]; rfl
    simp only [e, if_true]
    exact s
  · intro z
    have z : Value.ref A = Value.ref C := by simpa using z
    cases z
    rw [r] at s
    cases s
theorem all_plz (ws : List (W × W)) (bs : List Bool) : ((List.range ws.length).map fun i => !disF ws bs i).all id = decide (Pls (fOf bs) ws) := by
  rw [Bool.eq_iff_iff, decide_eq_true_iff, ← dis_nil, List.all_eq_true]
  unfold dis
  rw [List.filter_eq_nil_iff]
  constructor
  · intro h i hi
    have := h _ (List.mem_map.2 ⟨i, hi, rfl⟩)
    simpa using this
  · intro h b hb
    obtain ⟨i, hi, rfl⟩ := List.mem_map.1 hb
    have := h i hi
    simpa using this
theorem toB_law {ws : List (W × W)} {cs ds : List W} {hx lx hy ly : W} (c1 : chB ws cs = true) (c2 : chB ws ds = true) (e1 : cs.head? = some hx) (e2 : cs.getLast? = some lx) (e3 : ds.head? = some hy) (e4 : ds.getLast? = some ly) :
    toB ws cs ds = (decide (lx = neg hx) && (decide (hy = lx) && decide (ly = hx))) := by
  have a := of_decide_eq_true c1
  have b := of_decide_eq_true c2
  have l1 : ldB ws cs = decide (lx = neg hx) := by
    unfold ldB
    rw [Bool.eq_iff_iff, e1, e2]
    simp [a.1, a.2]
  have l2 : ldB ws ds = decide (ly = neg hy) := by
    unfold ldB
    rw [Bool.eq_iff_iff, e3, e4]
    simp [b.1, b.2]
  unfold toB
  rw [l1, l2, e3, e2, Bool.eq_iff_iff]
  simp only [Bool.and_eq_true, decide_eq_true_iff, Option.some.injEq]
  constructor
  · rintro ⟨⟨p, q⟩, r⟩
    refine ⟨p, r, ?_⟩
    rw [q, r, p, neg_neg]
  · rintro ⟨p, r, q⟩
    refine ⟨⟨p, ?_⟩, r⟩
    rw [q, r, p, neg_neg]
section
variable {P : Program} {w : World} {K : PySem.W.Frag} {mg : Str → Option Value} {base : Heap} {C CP CT CC CA : Addr}
abbrev te_lis (K : PySem.W.Frag) : TE := tCall (sp_lpls K) [] E0 (tCons (tFld K (tVar 1) "choice") (tCons (tVar 0) tNil))
end
end L2

end

section
set_option autoImplicit false
set_option maxRecDepth 100000
set_option linter.all false
namespace L2
open PySem PySem.Spec PyProof.Rows EoD Eo
inductive X_sp_law (K : PySem.W.Frag) (vs : List V) (H : Hp) (Q : VK) (E : XK) : Prop
  | mk (a : Addr) (ns : List Int) (z_1 : vs = [.ref a]) (z_2 : SqL K H a (ns.map V.int)) (z_3 : ∀ H', Q (.bl true) H')
def sp_law (K : PySem.W.Frag) : Sp := fun vs H Q E => X_sp_law K vs H Q E
theorem ps_clear {X : Cx} {o : Expr} {to : TE} {p1 p2 p3 : Pos} (ho : PE X o to) (hb : attributeBase o "clear" X.env (eval o X.env) = eval o X.env := by rfl) (hl : (p1.endLine == p2.line) = true := by rfl) (hs : swapsWith (.Call (.Attribute o "clear" p1) [] [] p2) none p3.line X.env = pure false := by rfl) :
    PS X (.Expr (.Call (.Attribute o "clear" p1) [] [] p2) p3) (tDrop (tBM0 X.K "list" rClear to)) := ps_expr (pe_bm0 (hbase := hb) (hline := hl) PySem.F.plainAttrs_list PySem.F.slot_list_clear PySem.F.type_list_clear mt_clear ho) hs
theorem made_house {C : Addr} {H1 : Hp} {l x dx : Addr} {N : Nat} {ts : List V} {ws : List (W × W)} {R : Hp → Prop} (nx : H1 x = none) (ndx : H1 dx = none) (nex : dx ≠ x) (hl : H1 l = some (.lst ts)) (pu : Ps H1 ts ws) (gh : GoodH N ws) (k : ∀ H', Same H1 H' → HouseAt C H' (.ref x) N ws → R H') :
    sp_init C (.ref x :: ([.int N, .ref l] ++ [])) (upd (upd H1 dx (.own x)) x (.ins C dx [])) (fun v H2 => v = .non ∧ R H2) E0 := by
  have s0 : Same H1 (upd (upd H1 dx (.own x)) x (.ins C dx [])) := fun b o e => by
    rw [upd_ne (ne_of_none e nx), upd_ne (ne_of_none e ndx)]
    exact e
  refine ⟨x, dx, l, N, ts, ws, rfl, upd_same, gh, s0 _ _ hl, pu.same s0, fun H3 hh kp => ⟨rfl, ?_⟩⟩
  exact k H3 (fun b o e => kp b o (s0 b o e) (ne_of_none e nx)) hh
theorem plB_true {N : Nat} {ws : List (W × W)} {bs : List Bool} (h1 : bs.length = N) (h2 : Pls (fOf bs) ws) : plB N ws bs = true := decide_eq_true ⟨h1, h2⟩
theorem plB_nil {N : Nat} {ws : List (W × W)} (h : 1 ≤ N) : plB N ws [] = false := decide_eq_false fun z => by have := z.1; simp at this; omega
end L2

end

section
set_option autoImplicit false
set_option maxRecDepth 100000
set_option linter.all false
namespace L2
open PySem PySem.Spec PyProof.Rows EoD Eo
/-- an exception class with an own __init__ that sets one field -/
structure ExF (K : PySem.W.Frag) (mg : Str → Option Value) (CW CU f : Addr) (x n : Str) : Prop where
  mW : mg "WishError" = some (.ref CW)
  bW : BaseOf K CW
  M : xclIn K CU (some (.ref f)) = true
  xc : PySem.W.XC K CU
  na : NoAttr K CU n
  kp : PySem.W.keepIn K (.ref CU) = true
  isf : PySem.W.isFn K (.ref f) = true
  mU : mg x = some (.ref CU)
  up : PySem.W.mroIn K CU (.ref CW) = some true
inductive X_sp_xinit (CU : Addr) (n : Str) (vs : List V) (H : Hp) (Q : VK) (E : XK) : Prop
  | mk (e : Addr) (v : V) (z_1 : vs = [.ref e, v]) (z_2 : H e = some (XE CU none e)) (z_3 : ∀ d, H d = none → d ≠ e → Q .non (upd (upd H d (.xd [(n, v)])) e (XE CU (some d) e)))
def sp_xinit (CU : Addr) (n : Str) : Sp := fun vs H Q E => X_sp_xinit CU n vs H Q E
theorem xs_same {H : Hp} {e d : Addr} {o1 o2 o3 : HO} (he : H e = none) (hd : upd H e o1 d = none) : Same H (del (upd (upd (upd H e o1) d o2) e o3) e) := fun b o h => by
  have nbe := ne_of_none h he
  have nde : d ≠ e := fun z => by rw [z, upd_same] at hd; cases hd
  rw [upd_ne nde] at hd
  rw [del_ne nbe, upd_ne nbe, upd_ne (ne_of_none h hd), upd_ne nbe]
  exact h
theorem xs_at {H : Hp} {e d : Addr} {o1 o2 o3 : HO} (nde : d ≠ e) : del (upd (upd (upd H e o1) d o2) e o3) e d = some o2 := by rw [del_ne nde, upd_ne nde, upd_same]
theorem NewTo.same {CT : Addr} {H H' H2 : Hp} {v : V} {cs ds : List W} (h : NewTo CT H H' v cs ds) (e : Same H' H2) : NewTo CT H H2 v cs ds :=
  let ⟨p, dx, a, b, us, vs, h1, h2, h3, h4, h5, h6, h7, h8, h9, h10⟩ := h; ⟨p, dx, a, b, us, vs, h1, h2, h3, h4, h5, e _ _ h6, e _ _ h7, h8.same e, e _ _ h9, h10.same e⟩
theorem NewTo.from {CT : Addr} {H0 H H' : Hp} {v : V} {cs ds : List W} (h : NewTo CT H H' v cs ds) (e : Same H0 H) : NewTo CT H0 H' v cs ds :=
  let ⟨p, dx, a, b, us, vs, h1, h2, h3, h4, r⟩ := h; ⟨p, dx, a, b, us, vs, h1, e.free h2, e.free h3, e.free h4, r⟩
/-- behind an Unpleased: its dict at d holds two chains that tear a name -/
def TornX (CT : Addr) (N : Nat) (ws : List (W × W)) (H H' : Hp) (d : Addr) : Prop := ∃ v cs ds, NewTo CT H H' v cs ds ∧ toB ws cs ds = true ∧ (∀ x ∈ cs, InN N x) ∧ (∀ x ∈ ds, InN N x) ∧ cs.length ≤ 17 ∧ ds.length ≤ 17 ∧ H' d = some (.xd [("torn", v)])
section
variable {P : Program} {w : World} {K : PySem.W.Frag} {mg : Str → Option Value} {base : Heap} {C CT CW CU fU : Addr}
theorem sc_uninit : FnScope ["self", "torn"] ["self", "torn"] (defScope S_uninit) := ⟨rfl, rfl, rfl, by decide +kernel, rfl, by decide +kernel, by decide +kernel⟩
theorem ok_uninit {fd : FuncData} (F : Fun K "__init__" "Unpleased.__init__" S_uninit fU fd) (Z : ExF K mg CW CU fU "Unpleased" "torn") : FnOk P w K mg base CX0 1 fU fd ["self", "torn"] (sp_xinit CU "torn") := by
  refine F.ok (k := 0) sc_uninit (fun vs H Q E h => by obtain ⟨_, _, rfl, _⟩ := h; rfl) (fun cdv A outer s H vs Q E hr h => ?_)
  obtain ⟨e, v, rfl, he, k⟩ := h
  refine ⟨_, pss_cons (ps_expr (pe_base rfl Z.mW Z.bW Z.M (pa_cons (pv 0) (pa_cons pe_str pa_nil)))) (pss_one (ps_xfld (pv 0) (pv 1) rfl)), ?_⟩
  exact ⟨_, rfl, e, none, _, rfl, he, _, rfl, _, rfl, e, CU, rfl, Z.xc, Z.na, he, fun d hd hn => k d hd hn⟩
inductive X_sp_cpls (C CT CU : Addr) (vs : List V) (H : Hp) (Q : VK) (E : XK) : Prop
  | mk (h : V) (N : Nat) (ws : List (W × W)) (z_1 : vs = [h]) (z_2 : HouseAt C H h N ws) (z_3 : GoodH N ws) (z_4 : (pleasing ws N ≠ [] → ∀ H', Same H H' → Q .non H')) (z_5 : (pleasing ws N = [] → ∀ H' d, Same H H' → TornX CT N ws H H' d → E (.ref CU) (some d) H'))
def sp_cpls (C CT CU : Addr) : Sp := fun vs H Q E => X_sp_cpls C CT CU vs H Q E
theorem sc_cpls : FnScope ["house"] ["house"] (defScope S_cpls) := ⟨rfl, rfl, rfl, by decide +kernel, rfl, by decide +kernel, by decide +kernel⟩
theorem ok_cpls {fd : FuncData} (D : Def K mg "check_pleased" S_cpls ["house"]) (Z : ExF K mg CW CU fU "Unpleased" "torn") (F : FnOk P w K mg base CX0 1 fU fd ["self", "torn"] (sp_xinit CU "torn")) (bn : Binds K fd ["self", "torn"] [])
    (cp : Cal P w K mg base "pleasing_choices" 4 ["house"] (sp_plsch C)) (cf : Cal P w K mg base "find_torn" 5 ["house"] (sp_ftorn C CT)) : CalX P w K mg base "check_pleased" 6 ["house"] (sp_cpls C CT CU) := by
  refine D.calX (k := 5) sc_cpls (fun vs H Q E h => by obtain ⟨_, _, _, rfl, _⟩ := h; rfl) (fun f cdv A outer s H vs Q E hr h => ?_)
  obtain ⟨h, N, ws, rfl, hh, gh, k1, k2⟩ := h
  have hr2 : Room 2 _ := hr.mono (by decide)
  have hr4 : Room 4 _ := hr.mono (by decide)
  refine ⟨_, pss_one (ps_if (pt_not (pt_truth (pe_cal cp hr4 rfl (pa_cons (pv 0) pa_nil)) (fun _ => rfl)))
    (pss_one (ps_raiseI rfl Z.M Z.kp Z.isf F hr2 rfl Z.mU bn (thr_xp _ E) (pa_cons (pe_cal cf hr rfl (pa_cons (pv 0) pa_nil)) pa_nil))) pss_nil), ?_⟩
  refine ⟨_, rfl, h, N, ws, rfl, hh, gh, fun H1 v s1 nc => ?_⟩
  obtain ⟨l, us, rfl, nl, el, pu⟩ := nc
  refine ⟨_, .inl ⟨us, SqL.of el, rfl⟩, ?_⟩
  cases us with
  | nil =>
    have e0 : pleasing ws N = [] := List.length_eq_zero_iff.mp (Paired.length pu).symm
    refine iteT ⟨_, rfl, h, N, ws, rfl, hh.same s1, gh, torn_of gh e0, fun H2 v cs ds s2 nt tb ic id lc ld => ⟨(by show 1 ≤ sizeLine; decide), fun e he => ⟨e, v, rfl, upd_same, fun d hd nd => ⟨rfl, some d, upd_same, ?_⟩⟩⟩⟩
    have s3 := xs_same (o2 := .xd [("torn", v)]) (o3 := XE CU (some d) e) he hd
    exact k2 e0 _ d ((s1.trans s2).trans s3) ⟨v, cs, ds, (nt.from s1).same s3, tb, ic, id, lc, ld, xs_at nd⟩
  | cons u r =>
    refine iteF (k1 (fun z => ?_) _ s1)
    have := Paired.length pu
    rw [z] at this
    simp at this
end
end L2

end

section
set_option autoImplicit false
set_option maxRecDepth 100000
set_option linter.all false
namespace L2
open PySem PySem.Spec PyProof.Rows EoD Eo
section
variable {P : Program} {w : World} {K : PySem.W.Frag} {mg : Str → Option Value} {base : Heap} {C : Addr}
theorem okH_lnot (D : Def K mg "_law_not" S_lnot ["_law_word_here"]) : CalH P w K mg base "_law_not" 1 ["_law_word_here"] sp_opp := by
  refine D.calH (k := 0) sc_lnot (fun vs H Q E h => by obtain ⟨_, _, rfl, _⟩ := h; rfl) (fun f cdv A outer s H vs Q E hr h => ?_)
  obtain ⟨v, x, rfl, ⟨p, rfl, hp⟩, k⟩ := h
  refine ⟨_, pss_one (ps_ret (pe_tup (pa_cons (pe_ix ix_tup (pv 0) pe_int (fun _ _ => rfl)) (pa_cons (pe_not (pe_ix ix_tup (pv 0) pe_int (fun _ _ => rfl))) pa_nil)))), ?_⟩
  have i0 : atI [V.int x.1, V.bl x.2] 0 = some (V.int x.1) := rfl
  have i1 : atI [V.int x.1, V.bl x.2] 1 = some (V.bl x.2) := rfl
  refine ⟨_, rfl, p, _, 0, _, rfl, rfl, SqT.of hp, i0, _, rfl, p, _, 1, _, rfl, rfl, SqT.of hp, i1, _, rfl, (by show 2 ≤ sizeLine; decide), fun q hq => ?_⟩
  exact k _ _ (Same.laid hq) ⟨q, rfl, upd_same⟩
theorem okH_lnext (D : Def K mg "_law_next" S_lnext ["_law_told_here", "_law_word_here", "_law_other"]) (cn : CalH P w K mg base "_law_not" 1 ["_law_word_here"] sp_opp) : CalH P w K mg base "_law_next" 2 ["_law_told_here", "_law_word_here", "_law_other"] sp_lnext := by
  refine D.calH (k := 1) sc_lnext (fun vs H Q E h => by obtain ⟨_, _, _, _, _, _, _, rfl, _⟩ := h; rfl) (fun f cdv A outer s H vs Q E hr h => ?_)
  obtain ⟨t, a, b, N, ws, x, y, rfl, ⟨p, l, us, rfl, hp, hl, pu⟩, wa, wb, k⟩ := h
  have hu5 := hr.units5
  refine ⟨_, pss_one (ps_ret (pe_or (pe_cmpR (op_inPL hu5) (pe_tup (pa_cons (pe_calH cn hr rfl (pa_cons (pv 1) pa_nil)) (pa_cons (pv 2) pa_nil))) (pe_ix ix_tup (pv 0) pe_int (fun _ _ => rfl)) (by with_unfolding_all rfl))
    (pe_one (pe_cmpR (op_inPL hu5) (pe_tup (pa_cons (pv 2) (pa_cons (pe_calH cn hr rfl (pa_cons (pv 1) pa_nil)) pa_nil))) (pe_ix ix_tup (pv 0) pe_int (fun _ _ => rfl)) (by with_unfolding_all rfl))))), ?_⟩
  have i1 : atI [V.int (N : Int), V.ref l] 1 = some (V.ref l) := rfl
  refine ⟨_, rfl, a, x, rfl, wa, fun H1 n s1 wn => ⟨_, rfl, (by show 2 ≤ sizeLine; decide), fun q hq => ?_⟩⟩
  have s2 : Same H (upd H1 q (.tup [n, b])) := s1.laidT hq
  refine ⟨_, rfl, p, _, 1, _, rfl, rfl, SqT.of (s2 _ _ hp), i1, (neg x, y), ws, ⟨q, n, b, rfl, upd_same, wn.same (Same.laid hq), wb.same s2⟩, ⟨l, us, rfl, SqL.of (s2 _ _ hl), pu.same s2⟩, _, rfl, iteD (fun h => ?_) (fun h => ?_)⟩
  · have z := k _ s2
    rw [show ∀ i : Decidable (Nx ws x y), @decide (Nx ws x y) i = true from fun i => @decide_eq_true _ i (.inl h)] at z
    exact z
  refine ⟨_, rfl, _, rfl, a, x, rfl, wa.same s2, fun H3 n3 s3 wn3 => ⟨(by show 2 ≤ sizeLine; decide), fun q3 hq3 => ?_⟩⟩
  have s4 : Same H (upd H3 q3 (.tup [b, n3])) := (s2.trans s3).laidT hq3
  refine ⟨_, rfl, p, _, 1, _, rfl, rfl, SqT.of (s4 _ _ hp), i1, (y, neg x), ws, ⟨q3, b, n3, rfl, upd_same, wb.same s4, wn3.same (Same.laid hq3)⟩, ⟨l, us, rfl, SqL.of (s4 _ _ hl), pu.same s4⟩, ?_⟩
  have z := k _ s4
  have e : ∀ i : Decidable (Nx ws x y), @decide (Nx ws x y) i = decide ((y, neg x) ∈ ws) := fun i => by
    rw [Bool.eq_iff_iff]
    simp only [decide_eq_true_iff]
    exact ⟨fun z => z.resolve_left h, .inr⟩
  rw [e] at z
  exact z
theorem okH_lchB (D : Def K mg "_law_chain" S_lchain ["_law_told_here", "_law_links"]) (B : Bare mg) (cx : CalH P w K mg base "_law_next" 2 ["_law_told_here", "_law_word_here", "_law_other"] sp_lnext) : CalH P w K mg base "_law_chain" 3 ["_law_told_here", "_law_links"] sp_lchB := by
  refine D.calH (k := 2) sc_lchain (fun vs H Q E h => by obtain ⟨_, _, _, _, _, _, rfl, _⟩ := h; rfl) (fun f cdv A outer s H vs Q E hr h => ?_)
  obtain ⟨t, l, N, ws, us, cs, rfl, ht, el, wu, lu, k⟩ := h
  refine ⟨_, pss_cons (ps_if (pt_cmpR (op_eqWL hr.units) (pv 1) (pe_lst pa_nil) (nomark _)) (pss_one (ps_ret pe_bl)) pss_nil)
    (pss_one (ps_ret (pe_callB (call_allB rfl) rfl B.all bt_all (pa_cons (pe_comp (tc := tYes) (te := te_lchain K) rfl ⟨rfl, by decide +kernel, rfl, by decide +kernel, AllFree.all (by repeat (first | exact trivial | refine ⟨?_, ?_⟩ | (intro e; cases e <;> fail) | (intro _; rfl)))⟩
        (ys := ["_law_told_here", "_law_links"]) (js := [0, 1]) ⟨rfl, rfl, rfl, rfl, rfl, rfl, trivial⟩ (by decide +kernel) (pi_range2 rfl B.rng (pa_cons pe_int (pa_cons (pe_callB call_len_seq rfl B.len bt_len (pa_cons (pv 1) pa_nil)) pa_nil))) (fun _ _ _ _ _ => pifs_nil)
        (fun _ _ _ _ _ => pe_calH cx hr rfl (pa_cons (pv 1) (pa_cons (pe_ix ix_list (pv 2) (pe_op op_sub (pv 0) pe_int) (fun _ _ => rfl)) (pa_cons (pe_ix ix_list (pv 2) (pv 0) (fun _ _ => rfl)) pa_nil))))) pa_nil)))), ?_⟩
  have lc : us.length = cs.length := Paired.length wu
  refine ⟨_, rfl, Nat.zero_le _, fun q hq => ⟨cs, [], ⟨l, us, rfl, SqL.of (Same.laid hq _ _ el), wu.same (Same.laid hq)⟩, ⟨q, [], rfl, SqL.of upd_same, .nil⟩, _, rfl, iteD (fun e0 => ?_) (fun e0 => ?_)⟩⟩
  · have z := k _ (Same.laid (o := .lst []) hq)
    rw [show chB ws cs = false from decide_eq_false fun z => z.1 e0] at z
    exact z
  have l1 : 1 ≤ us.length := by rw [lc]; exact List.length_pos_iff.mpr e0
  have s1 : Same H (upd H q (.lst [])) := Same.laid hq
  refine ⟨_, rfl, l, us, rfl, .inl (SqL.of (s1 _ _ el)), 1, us.length, rfl, ⟨by decide, by decide, by omega, by omega⟩, fun Dd hD => ?_⟩
  have en : ((us.length : Int) - 1).toNat = us.length - 1 := by omega
  rw [en]
  refine bools1 (J := Itr 1 (us.length - 1)) (n := us.length - 1) (f := nxF ws cs) hD (by rw [sizeLine_eq]; omega) (fun i H' hi _ => hi) (fun H' _ => Nat.le_refl _) ?_ ?_
  · rintro j x H' H'' Q' hj s ⟨rfl, rfl⟩ kk
    have s16 := s1.trans s
    have hj1 : j + 1 < us.length := by omega
    obtain ⟨x, hx, wx⟩ := paired_get wu (List.getElem?_eq_getElem (show j < us.length by omega))
    obtain ⟨y, hy, wy⟩ := paired_get wu (List.getElem?_eq_getElem hj1)
    have e1 : 1 + (j : Int) - 1 = (j : Int) := by omega
    have e2 : 1 + (j : Int) = ((j + 1 : Nat) : Int) := by omega
    have i0 : atI us (1 + (j : Int) - 1) = some us[j] := by rw [e1]; exact atI_nat (List.getElem?_eq_getElem (show j < us.length by omega))
    have i1 : atI us (1 + (j : Int)) = some us[j + 1] := by rw [e2]; exact atI_nat (List.getElem?_eq_getElem hj1)
    refine ⟨_, rfl, _, rfl, _, rfl, _, _, rfl, rfl, l, us, _, _, rfl, rfl, SqL.of (s16 _ _ el), i0, _, rfl, _, rfl, l, us, _, _, rfl, rfl, SqL.of (s16 _ _ el), i1, t, us[j], us[j + 1], N, ws, x, y, rfl, ht.same s16, wx.same s16, wy.same s16, fun H7 s7 => ?_⟩
    have e : nxF ws cs j = decide (Nx ws x y) := by
      unfold nxF
      rw [hx, hy]
    have z := kk _ s7
    rw [e] at z
    exact z
  · intro H6 s6 eD
    refine ⟨Dd, _, rfl, SqL.of eD, ?_⟩
    rw [lc, all_nx]
    have z := k _ (s1.trans s6)
    have e : chB ws cs = decide (Chn ws cs) := by
      unfold chB
      rw [Bool.eq_iff_iff]
      simp [e0]
    rw [e] at z
    exact z
theorem okH_lwords (D : Def K mg "_law_words" S_lwords ["_law_links", "_law_names"]) (B : Bare mg) : CalH P w K mg base "_law_words" 1 ["_law_links", "_law_names"] sp_lwords := by
  refine D.calH (k := 0) sc_lwords (fun vs H Q E h => by obtain ⟨_, _, _, _, rfl, _⟩ := h; rfl) (fun f cdv A outer s H vs Q E hr h => ?_)
  obtain ⟨l, N, us, cs, rfl, el, wu, hc, k⟩ := h
  refine ⟨_, pss_cons (ps_if (pt_not (pt_val (pe_isin B (pv 0) rfl rfl B.lst bt_list))) (pss_one (ps_ret pe_bl)) pss_nil)
    (pss_cons (ps_for PassesOwn.never rfl (pi_list (pv 0)) (pg_name (i := 2) sc_lwords.nd rfl (Or.inl rfl))
      (pss_cons (ps_if (PW.pt (pw_or (pt_not (pt_val (pe_isin B (pv 2) rfl rfl B.tup bt_tuple))) (pw_or (pt_cmpR op_ne (pe_callB call_len_seq rfl B.len bt_len (pa_cons (pv 2) pa_nil)) pe_int (nomark _)) (pw_or1 (pt_not (pt_val (pe_isin B (pe_ix ix_tup (pv 2) pe_int (fun _ _ => rfl)) rfl rfl B.bool bt_bool))))))) (pss_one (ps_ret pe_bl)) pss_nil)
      (pss_one (ps_if (PW.pt (pw_or (pt_val (pe_isin B (pe_ix ix_tup (pv 2) pe_int (fun _ _ => rfl)) rfl rfl B.bool bt_bool)) (pw_or (pt_not (pt_val (pe_isin B (pe_ix ix_tup (pv 2) pe_int (fun _ _ => rfl)) rfl rfl B.int bt_int))) (pw_or1 (pt_not (pt_chain op_le op_lt pe_int (pe_ix ix_tup (pv 2) pe_int (fun _ _ => rfl)) (pv 1))))))) (pss_one (ps_ret pe_bl)) pss_nil))))
    (pss_one (ps_ret pe_bl))), ?_⟩
  refine ⟨_, rfl, _, _, _, true, rfl, .lst el, rfl, true, rfl, iteF ⟨_, rfl, l, rfl, ⟨_, SqL.of el⟩, ?_⟩⟩
  refine for_list (K := K) (a := l) (xs := us) (fun i σ H2 => ∃ z, σ = [some (.ref l), some (.int N), z] ∧ H2 = H) ⟨none, rfl, rfl⟩ (fun i σ H2 _ ⟨_, _, z⟩ => by rw [z]; exact SqL.of el) ?_ ?_
  · rintro i y σ H2 hi ⟨z, rfl, rfl⟩
    obtain ⟨x, hx', p, rfl, hp⟩ := paired_get wu hi
    have hx := hc x (List.mem_of_getElem? hx')
    have i0 : atI [V.int x.1, V.bl x.2] 0 = some (V.int x.1) := rfl
    have i1 : atI [V.int x.1, V.bl x.2] 1 = some (V.bl x.2) := rfl
    refine ⟨_, rfl, _, _, _, true, rfl, .tup hp, rfl, true, rfl, iteF ⟨_, rfl, p, _, rfl, .inr (SqT.of hp), rfl, _, rfl, iteNS rfl ?_⟩⟩
    refine ⟨_, rfl, p, _, 1, _, rfl, rfl, SqT.of hp, i1, _, _, _, true, rfl, .bl _, rfl, true, rfl, iteF ?_⟩
    refine ⟨_, rfl, p, _, 0, _, rfl, rfl, SqT.of hp, i0, _, _, _, false, rfl, .int _, rfl, false, rfl, iteF ?_⟩
    refine ⟨_, rfl, p, _, 0, _, rfl, rfl, SqT.of hp, i0, _, _, _, true, rfl, .int _, rfl, true, rfl, iteF ?_⟩
    refine ⟨_, rfl, p, _, 0, _, rfl, rfl, SqT.of hp, i0, _, _, rfl, rfl, _, rfl, iteP hx.1 ⟨_, rfl, _, _, rfl, rfl, _, rfl, iteNS hx.2 ?_⟩⟩
    exact ⟨_, rfl, rfl⟩
  · rintro σ H2 ⟨z, rfl, rfl⟩
    exact k
end
end L2

end

section
set_option autoImplicit false
set_option maxRecDepth 100000
set_option linter.all false
namespace L2
open PySem PySem.Spec PyProof.Rows EoD Eo
/-- the other refusals, and that an Unpleased is none of them -/
structure ExA (K : PySem.W.Frag) (mg : Str → Option Value) (CU BC BH BW BT : Addr) : Prop where
  mC : mg "BadChoice" = some (.ref BC)
  mH : mg "BadHouse" = some (.ref BH)
  mW : mg "BadWord" = some (.ref BW)
  mT : mg "BadText" = some (.ref BT)
  kC : PySem.W.kitOne K (.ref CU) (.ref BC) = some false
  kH : PySem.W.kitOne K (.ref CU) (.ref BH) = some false
  kW : PySem.W.kitOne K (.ref CU) (.ref BW) = some false
  kT : PySem.W.kitOne K (.ref CU) (.ref BT) = some false
  kU : PySem.W.kitOne K (.ref CU) (.ref CU) = some true
theorem kq {K : PySem.W.Frag} {CU D : Addr} {b : Bool} (h : PySem.W.kitOne K (.ref CU) (.ref D) = some b) : ∀ u, RelV (.ref D) u → PySem.W.kitOne K (.ref CU) u = some b := fun u hu => by
  obtain rfl : u = Value.ref D := hu
  exact h
theorem xd_one {n : Str} {v : V} : ([(n, v)] : List (Str × V)).lookup n = some v := by simp
theorem to_parts {ws : List (W × W)} {cs ds : List W} (h : toB ws cs ds = true) : chB ws cs = true ∧ chB ws ds = true := by
  unfold toB at h
  simp only [Bool.and_eq_true] at h
  have h1 := of_decide_eq_true h.1.1
  have h2 := of_decide_eq_true h.1.2
  exact ⟨decide_eq_true ⟨h1.1, h1.2.1⟩, decide_eq_true ⟨h2.1, h2.2.1⟩⟩
section
variable {P : Program} {w : World} {K : PySem.W.Frag} {mg : Str → Option Value} {base : Heap} {C CT CW CU fU BC BH BW BT : Addr}
end
end L2

end

section
set_option autoImplicit false
set_option maxRecDepth 100000
set_option linter.all false
namespace L2
open PySem PySem.Spec PyProof.Rows EoD Eo
def CLs (K : PySem.W.Frag) (H : Hp) (v : V) (g : List (List Bool)) : Prop := ∃ a vs, v = .ref a ∧ SqL K H a vs ∧ Paired (BLs K H) vs g
theorem clReps {K : PySem.W.Frag} {H : Hp} : ∀ {vs : List V} {g : List (List Bool)}, Paired (BLs K H) vs g → Reps K H vs (g.map fun l => .list (l.map PyData.bool))
  | _, _, .nil => .nil
  | _, _, .cons a b => .cons a.rep (clReps b)
theorem CLs.rep {K : PySem.W.Frag} {H : Hp} {v : V} {l : List (List Bool)} (h : CLs K H v l) : Rep K H v (.list (l.map fun l => .list (l.map PyData.bool))) := by
  obtain ⟨a, vs, rfl, h1, h2⟩ := h
  exact .lst h1 (clReps h2)
theorem eqv_cl (l m : List (List Bool)) : PyData.eqv (.list (l.map fun l => .list (l.map PyData.bool))) (.list (m.map fun l => .list (l.map PyData.bool))) = decide (l = m) := by
  simp only [PyData.eqv]
  exact eqvAll_map eqv_bls l m
theorem lay_bls (l : List Bool) : (PyData.list (l.map PyData.bool)).canLay0 = true := by change PyData.canLayAll0 _ = true; exact lay_all lay_bl l
theorem dep_bls (l : List Bool) : (PyData.list (l.map PyData.bool)).depth ≤ 20 := by
  have := dep_all dep_bl l
  simp only [PyData.depth]
  omega
inductive X_rEqCL (K : PySem.W.Frag) (x : V) (y : V) (H : Hp) (Q : VK) : Prop
  | mk (a : _) (b : _) (z_1 : CLs K H x a) (z_2 : CLs K H y b) (z_3 : Q (.bl (decide (a = b))) H)
def rEqCL (K : PySem.W.Frag) : R2 := fun x y H Q => X_rEqCL K x y H Q
inductive X_rNeCL (K : PySem.W.Frag) (x : V) (y : V) (H : Hp) (Q : VK) : Prop
  | mk (a : _) (b : _) (z_1 : CLs K H x a) (z_2 : CLs K H y b) (z_3 : Q (.bl (!decide (a = b))) H)
def rNeCL (K : PySem.W.Frag) : R2 := fun x y H Q => X_rNeCL K x y H Q
theorem op_eqCL {X : Cx} (hu : X.A.units + 64 < cLine) : OpR X (compareOp .Eq) (rEqCL X.K) := (op_eqD hu).imp fun x y H Q ⟨a, b, h1, h2, q⟩ => ⟨_, _, h1.rep, h2.rep, shp_list lay_bls dep_bls (by decide) a, shp_list lay_bls dep_bls (by decide) b, by rw [eqv_cl]; exact q⟩
theorem op_neCL {X : Cx} (hu : X.A.units + 64 < cLine) : OpR X (compareOp .NotEq) (rNeCL X.K) := (op_neD hu).imp fun x y H Q ⟨a, b, h1, h2, q⟩ => ⟨_, _, h1.rep, h2.rep, shp_list lay_bls dep_bls (by decide) a, shp_list lay_bls dep_bls (by decide) b, by rw [eqv_cl]; exact q⟩
/-- a list of choices at hand -/
def ClAt (H : Hp) (v : V) (bss : List (List Bool)) : Prop := ∃ a vs, v = .ref a ∧ H a = some (.lst vs) ∧ Paired (fun u bs => ∃ b, u = .ref b ∧ H b = some (.lst (bs.map V.bl))) vs bss
theorem ClAt.same {H H' : Hp} {v : V} {bss : List (List Bool)} (h : ClAt H v bss) (e : Same H H') : ClAt H' v bss := let ⟨a, vs, h1, h2, h3⟩ := h; ⟨a, vs, h1, e _ _ h2, Paired.mapP h3 fun _ _ ⟨b, z1, z2⟩ => ⟨b, z1, e _ _ z2⟩⟩
theorem NewCL.at {H H' : Hp} {v : V} {bss : List (List Bool)} (h : NewCL H H' v bss) : ClAt H' v bss := let ⟨a, vs, h1, _, h3, h4⟩ := h; ⟨a, vs, h1, h3, Paired.mapP h4 fun _ _ ⟨b, z1, _, z2⟩ => ⟨b, z1, z2⟩⟩
theorem ClAt.cls {K : PySem.W.Frag} {H : Hp} {v : V} {bss : List (List Bool)} (h : ClAt H v bss) : CLs K H v bss := let ⟨a, vs, h1, h2, h3⟩ := h; ⟨a, vs, h1, SqL.of h2, Paired.mapP h3 fun _ _ ⟨b, z1, z2⟩ => ⟨b, z1, SqL.of z2⟩⟩
section
variable {P : Program} {w : World} {K : PySem.W.Frag} {mg : Str → Option Value} {base : Heap} {C : Addr}
end
end L2

end

section
set_option autoImplicit false
set_option maxRecDepth 100000
set_option linter.all false
namespace L2
open PySem PySem.Spec PyProof.Rows EoD Eo
section
variable {P : Program} {w : World} {K : PySem.W.Frag} {mg : Str → Option Value} {base : Heap} {C CP CT CC CU : Addr}
inductive X_sp_cwords (C : Addr) (vs : List V) (H : Hp) (Q : VK) (E : XK) : Prop
  | mk (h : V) (a : Addr) (N : Nat) (ws : List (W × W)) (us : List V) (xs : List W) (z_1 : vs = [h, .ref a]) (z_2 : HouseAt C H h N ws) (z_3 : H a = some (.lst us)) (z_4 : Ws H us xs) (z_5 : (∀ x ∈ xs, InN N x)) (z_6 : Q .non H)
def sp_cwords (C : Addr) : Sp := fun vs H Q E => X_sp_cwords C vs H Q E
theorem sc_cwords : FnScope ["house", "value", "word"] ["house", "value"] (defScope S_cwords) := ⟨rfl, rfl, rfl, by decide +kernel, rfl, by decide +kernel, by decide +kernel⟩
theorem ok_cwords (D : Def K mg "check_words" S_cwords ["house", "value"]) (B : Bare mg) (cc : Cal P w K mg base "check_word" 3 ["house", "value"] (sp_check C)) : Cal P w K mg base "check_words" 4 ["house", "value"] (sp_cwords C) := by
  refine D.cal (k := 3) sc_cwords (fun vs H Q E h => by obtain ⟨_, _, _, _, _, _, rfl, _⟩ := h; rfl) (fun f cdv A outer s H vs Q E hr h => ?_)
  obtain ⟨h, a, N, ws, us, xs, rfl, hh, ea, wa, ia, k⟩ := h
  refine ⟨_, pss_cons (ps_if (pt_not (pt_val (pe_isin B (pv 1) rfl rfl B.lst bt_list))) pss_never pss_nil)
    (pss_one (ps_for PassesOwn.never rfl (pi_list (pv 1)) (pg_name (i := 2) sc_cwords.nd rfl (Or.inl rfl)) (pss_one (ps_expr (pe_cal cc hr rfl (pa_cons (pv 0) (pa_cons (pv 2) pa_nil))))))), ?_⟩
  refine ⟨_, rfl, _, _, _, true, rfl, .lst ea, rfl, true, rfl, iteF ⟨_, rfl, a, rfl, ⟨_, SqL.of ea⟩, ?_⟩⟩
  refine for_list (K := K) (a := a) (xs := us) (fun i σ H2 => ∃ z, σ = [some h, some (.ref a), z] ∧ H2 = H) ⟨none, rfl, rfl⟩ (fun i σ H2 _ ⟨_, _, z⟩ => by rw [z]; exact SqL.of ea) ?_ ?_
  · rintro i y σ H2 hi ⟨z, rfl, rfl⟩
    obtain ⟨x, hx, wx⟩ := paired_get wa hi
    exact ⟨_, rfl, _, rfl, h, y, N, ws, x, rfl, hh, wx, ia x (List.mem_of_getElem? hx), _, rfl, rfl⟩
  · rintro σ H2 ⟨z, rfl, rfl⟩
    exact k
inductive X_sp_fclash (C CC : Addr) (vs : List V) (H : Hp) (Q : VK) (E : XK) : Prop
  | mk (h : V) (a : Addr) (N : Nat) (ws : List (W × W)) (us : List V) (xs : List W) (z_1 : vs = [h, .ref a]) (z_2 : HouseAt C H h N ws) (z_3 : GoodH N ws) (z_4 : H a = some (.lst us)) (z_5 : Ws H us xs) (z_6 : (∀ x ∈ xs, InN N x)) (z_7 : us.length ≤ 8) (z_8 : (∃ x ∈ xs, ∃ y ∈ xs, Reach ws x (neg y))) (z_9 : ∀ H' v cs, Same H H' → NewCl CC H H' v xs cs → clB ws xs cs = true → (∀ x ∈ cs, InN N x) → cs.length ≤ 17 → Q v H')
def sp_fclash (C CC : Addr) : Sp := fun vs H Q E => X_sp_fclash C CC vs H Q E
abbrev N_fclash : List Str := ["house", "words", "asked", "word", "other", "links"]
theorem sc_fclash : FnScope N_fclash ["house", "words"] (defScope S_fclash) := ⟨rfl, rfl, rfl, by decide +kernel, rfl, by decide +kernel, by decide +kernel⟩
theorem clB_of {ws : List (W × W)} {x y : W} {xs cs : List W} (hx : x ∈ xs) (hy : y ∈ xs) (c : Chn ws cs) (e1 : cs.head? = some x) (e2 : cs.getLast? = some (neg y)) : clB ws xs cs = true := by
  have ne : cs ≠ [] := fun z => by rw [z] at e1; cases e1
  unfold clB
  rw [e1, e2, show chB ws cs = true from decide_eq_true ⟨ne, c⟩]
  simp [hx, neg_neg, hy]
theorem ok_fclash (D : Def K mg "find_clash" S_fclash ["house", "words"]) (B : Bare mg) (ms : mg "set" = none) (co : Cal P w K mg base "opposite" 1 ["word"] sp_opp) (cc : Cal P w K mg base "chain" 4 ["house", "word", "other"] (sp_chain C)) (cm : CalMk P w K mg base CC "Clash" 1 ["self", "words", "links"] (sp_clinit K CC)) :
    Cal P w K mg base "find_clash" 5 ["house", "words"] (sp_fclash C CC) := by
  refine D.cal (k := 4) sc_fclash (fun vs H Q E h => by obtain ⟨_, _, _, _, _, _, rfl, _⟩ := h; rfl) (fun f cdv A outer s H vs Q E hr h => ?_)
  obtain ⟨h, a, N, ws, us, xs, rfl, hh, gh, ea, wa, ia, l8, ⟨x0, hx0, y0, hy0, r0⟩, k⟩ := h
  have hr1 : Room 1 _ := hr.mono (by decide)
  have hr2 : Room 2 _ := hr.mono (by decide)
  refine ⟨_, pss_cons (ps_set (i := 2) sc_fclash.nd rfl (Or.inl rfl) (pe_callB (call_sortedS rfl) rfl B.srt bt_sorted (pa_cons (pe_callTy (call_setW rfl hr.units) rfl ms bt_set (pa_cons (pv 1) pa_nil)) pa_nil)))
    (pss_cons (ps_for PassesOwn.never rfl (pi_list (pv 2)) (pg_name (i := 3) sc_fclash.nd rfl (Or.inl rfl))
      (pss_one (ps_for PassesOwn.never rfl (pi_list (pv 2)) (pg_name (i := 4) sc_fclash.nd rfl (Or.inl rfl))
        (pss_cons (ps_set (i := 5) sc_fclash.nd rfl (Or.inl rfl) (pe_cal cc hr rfl (pa_cons (pv 0) (pa_cons (pv 3) (pa_cons (pe_cal co hr1 rfl (pa_cons (pv 4) pa_nil)) pa_nil)))))
        (pss_one (ps_if (pt_truth (pv 5) (fun _ => rfl)) (pss_one (ps_ret (pe_mk cm hr2 rfl (pa_cons (pv 1) (pa_cons (pv 5) pa_nil))))) pss_nil))))))
    (pss_one (ps_ret pe_non))), ?_⟩
  refine ⟨_, rfl, a, us, xs, rfl, SqL.of ea, wa, by omega, fun p o hp sw => ⟨p, xs, rfl, sw, List.ne_nil_of_mem hx0, fun l vs ys hl wl mem ll => ?_⟩⟩
  have s1 : Same H (upd H p o) := Same.laid hp
  have s2 : Same H (upd (upd H p o) l (.lst vs)) := s1.laidT hl
  have el : upd (upd H p o) l (.lst vs) l = some (.lst vs) := upd_same
  have wl2 := wl.same (Same.laid (o := .lst vs) hl)
  generalize upd (upd H p o) l (.lst vs) = H1 at s2 el wl2 ⊢
  refine ⟨_, rfl, l, rfl, ⟨_, SqL.of el⟩, ?_⟩
  refine for_list (K := K) (a := l) (xs := vs) (fun i σ H2 => ∃ (z3 z4 z5 : Option V), σ = [some h, some (.ref a), some (.ref l), z3, z4, z5] ∧ Same H1 H2 ∧ ∀ j x, j < i → ys[j]? = some x → ∀ y ∈ ys, ¬ Reach ws x (neg y)) ⟨none, none, none, rfl, Same.refl _, fun j x hj => by omega⟩ (fun i σ H2 _ ⟨_, _, _, _, s3, _⟩ => SqL.of (s3 _ _ el)) ?_ ?_
  · rintro i u σ H2 hi ⟨z3, z4, z5, rfl, s3, no⟩
    obtain ⟨x, hx, wx⟩ := paired_get wl2 hi
    have mx : x ∈ xs := (mem x).1 (List.mem_of_getElem? hx)
    refine ⟨_, rfl, l, rfl, ⟨_, SqL.of (s3 _ _ el)⟩, ?_⟩
    refine for_list (K := K) (a := l) (xs := vs) (fun i' σ H3 => ∃ (z4 z5 : Option V), σ = [some h, some (.ref a), some (.ref l), some u, z4, z5] ∧ Same H1 H3 ∧ ∀ j y, j < i' → ys[j]? = some y → ¬ Reach ws x (neg y)) ⟨_, _, rfl, s3, fun j y hj => by omega⟩ (fun i σ H3 _ ⟨_, _, _, s4, _⟩ => SqL.of (s4 _ _ el)) ?_ ?_
    · rintro i' u' σ H3 hi' ⟨z4', z5', rfl, s4, no'⟩
      obtain ⟨y, hy, wy⟩ := paired_get wl2 hi'
      have my : y ∈ xs := (mem y).1 (List.mem_of_getElem? hy)
      refine ⟨_, rfl, _, rfl, _, rfl, u', y, rfl, wy.same s4, fun H4 v4 s5 w4 => ?_⟩
      have s04 := s2.trans (s4.trans s5)
      refine ⟨h, u, v4, N, ws, x, neg y, rfl, hh.same s04, gh, wx.same (s4.trans s5), w4, ia x mx, (ia y my).neg, fun H5 v5 cs s6 nw ok => ?_⟩
      obtain ⟨b, ub, rfl, nb, eb, wb⟩ := nw
      have lb : ub.length = cs.length := Paired.length wb
      have s05 := s04.trans s6
      have s15 := (s4.trans s5).trans s6
      refine ⟨_, rfl, _, .inl ⟨ub, SqL.of eb, rfl⟩, ?_⟩
      rcases ok with ⟨nr, rfl⟩ | ⟨kk, d5, c5, h5, l5, n5⟩
      · have : ub = [] := List.length_eq_zero_iff.mp lb
        rw [this]
        refine iteF ⟨_, _, rfl, s15, fun j y' hj hy' => ?_⟩
        by_cases e : j = i'
        · subst e
          rw [hy] at hy'
          cases hy'
          exact nr
        · exact no' j y' (by omega) hy'
      have ne5 : ub.isEmpty = false := by
        cases ub with
        | nil => simp at lb; omega
        | cons _ _ => rfl
      rw [ne5]
      have ea5 := s05 _ _ ea
      refine iteT ⟨_, rfl, _, rfl, make_cl (SqL.of ea5) (by rw [ea5]; exact fun z => nomatch z) (SqL.of eb) (by rw [eb]; exact fun z => nomatch z) fun H9 pp dd la lm s9 np nl nm lne e1 e2 e3 => ?_⟩
      have ab := chain_len gh (ia x mx) (.inr ⟨kk, d5, c5, h5, l5, n5⟩)
      exact k H9 _ cs (s05.trans s9) ⟨pp, dd, la, lm, us, ub, rfl, s05.free np, s05.free nl, s05.free nm, lne, e1, e2, (wa.same s05).same s9, e3, wb.same s9⟩ (clB_of mx my c5 h5 l5) ab.1 ab.2
    · rintro σ H3 ⟨z4', z5', rfl, s4, no'⟩
      refine ⟨_, _, _, rfl, s4, fun j x' hj hx' y hy => ?_⟩
      by_cases e : j = i
      · subst e
        rw [hx] at hx'
        cases hx'
        obtain ⟨m, hm⟩ := List.mem_iff_getElem?.mp hy
        refine no' m y ?_ hm
        have := (List.getElem?_eq_some_iff.mp hm).1
        rw [Paired.length wl2]; exact this
      · exact no j x' (by omega) hx' y hy
  · rintro σ H2 ⟨z3, z4, z5, rfl, s3, no⟩
    exfalso
    obtain ⟨m, hm⟩ := List.mem_iff_getElem?.mp ((mem x0).2 hx0)
    refine no m x0 ?_ hm y0 ((mem y0).2 hy0) r0
    rw [Paired.length wl2]
    exact (List.getElem?_eq_some_iff.mp hm).1
def KeepOk (CP CC : Addr) (N : Nat) (ws : List (W × W)) (xs : List W) (H H' : Hp) (v : V) : Prop :=
  (∃ bs, NewPl CP H H' v bs ∧ bs.length = N ∧ Pls (fOf bs) ws ∧ ∀ x ∈ xs, Has (fOf bs) x) ∨ ∃ cs, NewCl CC H H' v xs cs ∧ clB ws xs cs = true ∧ (∀ x ∈ cs, InN N x) ∧ cs.length ≤ 17
inductive X_sp_keep (C CP CC CT CU : Addr) (vs : List V) (H : Hp) (Q : VK) (E : XK) : Prop
  | mk (h : V) (a : Addr) (N : Nat) (ws : List (W × W)) (us : List V) (xs : List W) (z_1 : vs = [h, .ref a]) (z_2 : HouseAt C H h N ws) (z_3 : GoodH N ws) (z_4 : H a = some (.lst us)) (z_5 : Ws H us xs) (z_6 : (∀ x ∈ xs, InN N x)) (z_7 : us.length ≤ 8) (z_8 : (pleasing ws N ≠ [] → ∀ H' v, Same H H' → KeepOk CP CC N ws xs H H' v → Q v H')) (z_9 : (pleasing ws N = [] → ∀ H' d, Same H H' → TornX CT N ws H H' d → E (.ref CU) (some d) H'))
def sp_keep (C CP CC CT CU : Addr) : Sp := fun vs H Q E => X_sp_keep C CP CC CT CU vs H Q E
theorem sc_keep : FnScope ["house", "words", "choice"] ["house", "words"] (defScope S_keep) := ⟨rfl, rfl, rfl, by decide +kernel, rfl, by decide +kernel, by decide +kernel⟩
abbrev te_keep (K : PySem.W.Frag) : TE := tCall (sp_has K) [] E0 (tCons (tVar 1) (tCons (tVar 0) tNil))
def hasF (xs : List W) (bs : List Bool) (i : Nat) : Bool := match xs[i]? with
  | some x => decide (Has (fOf bs) x)
  | none => true
theorem all_has (xs : List W) (bs : List Bool) : ((List.range xs.length).map (hasF xs bs)).all id = decide (∀ x ∈ xs, Has (fOf bs) x) := by
  rw [Bool.eq_iff_iff, List.all_eq_true, decide_eq_true_iff]
  constructor
  · intro h x hx
    obtain ⟨i, hi, e⟩ := List.mem_iff_getElem.mp hx
    have := h _ (List.mem_map.mpr ⟨i, List.mem_range.mpr hi, rfl⟩)
    unfold hasF at this
    rw [List.getElem?_eq_getElem hi, e] at this
    exact of_decide_eq_true this
  · intro h b hb
    obtain ⟨i, hi, rfl⟩ := List.mem_map.mp hb
    have hi := List.mem_range.mp hi
    unfold hasF
    rw [List.getElem?_eq_getElem hi]
    exact decide_eq_true (h _ (List.getElem_mem hi))
theorem keep_or {N : Nat} {ws : List (W × W)} {xs : List W} (g : GoodH N ws) (ne : pleasing ws N ≠ []) (ix : ∀ x ∈ xs, InN N x) (no : ∀ bs ∈ pleasing ws N, ¬ ∀ x ∈ xs, Has (fOf bs) x) : ∃ x ∈ xs, ∃ y ∈ xs, Reach ws x (neg y) := by
  refine Classical.byContradiction fun z => ?_
  obtain ⟨f0, p0⟩ := (pleasing_ne g.good).1 ne
  obtain ⟨f, pf, hf⟩ := keep_all p0 (fun x => x ∈ xs) fun s s' hs hs' r => z ⟨s, hs, s', hs', r⟩
  exact no (ofF N f) (mem_pleasing.2 ⟨ofF_len N f, (pls_ofF g.good).2 pf⟩) fun x hx => (has_ofF (ix x hx)).2 (hf x hx)
set_option maxHeartbeats 1000000 in
theorem ok_keep (D : Def K mg "keeping" S_keep ["house", "words"]) (B : Bare mg) (cw : Cal P w K mg base "check_words" 4 ["house", "value"] (sp_cwords C)) (cx : CalX P w K mg base "check_pleased" 6 ["house"] (sp_cpls C CT CU)) (cp : Cal P w K mg base "pleasing_choices" 4 ["house"] (sp_plsch C))
    (ch : Cal P w K mg base "has_word" 1 ["choice", "word"] (sp_has K)) (cm : CalMk P w K mg base CP "Pleased" 1 ["self", "choice"] (sp_plinit K CP)) (cf : Cal P w K mg base "find_clash" 5 ["house", "words"] (sp_fclash C CC)) : CalX P w K mg base "keeping" 7 ["house", "words"] (sp_keep C CP CC CT CU) := by
  refine D.calX (k := 6) sc_keep (fun vs H Q E h => by obtain ⟨_, _, _, _, _, _, rfl, _⟩ := h; rfl) (fun f cdv A outer s H vs Q E hr h => ?_)
  obtain ⟨h, a, N, ws, us, xs, rfl, hh, gh, ea, wa, ia, l8, k1, k2⟩ := h
  have hr1 : Room 1 _ := hr.mono (by decide)
  have hr2 : Room 2 _ := hr.mono (by decide)
  have hr4 : Room 4 _ := hr.mono (by decide)
  have hr5 : Room 5 _ := hr.mono (by decide)
  refine ⟨_, pss_cons (ps_expr (PE.nox (pe_cal cw hr4 rfl (pa_cons (pv 0) (pa_cons (pv 1) pa_nil)))))
    (pss_cons (ps_expr (pe_calX cx hr rfl (thr_xp _ E) (pa_cons (pv 0) pa_nil)))
    (PSs.nox (pss_cons (ps_for PassesOwn.never rfl (pi_list (pe_cal cp hr4 rfl (pa_cons (pv 0) pa_nil))) (pg_name (i := 2) sc_keep.nd rfl (Or.inr rfl))
        (pss_one (ps_if (pt_val (pe_callB (call_allB rfl) rfl B.all bt_all (pa_cons (pe_comp (tc := tYes) (te := te_keep K) rfl ⟨rfl, by decide +kernel, rfl, by decide +kernel, AllFree.all (by repeat (first | exact trivial | refine ⟨?_, ?_⟩ | (intro e; cases e <;> fail) | (intro _; rfl)))⟩ (ys := ["choice"]) (js := [2]) ⟨rfl, rfl, rfl, trivial⟩ (by decide +kernel) (pi_list (pv 1)) (fun _ _ _ _ _ => pifs_nil)
          (fun _ _ _ _ _ => pe_cal ch hr1 rfl (pa_cons (pv 1) (pa_cons (pv 0) pa_nil)))) pa_nil))) (pss_one (ps_ret (pe_mk cm hr2 rfl (pa_cons (pv 2) pa_nil)))) pss_nil)))
      (pss_one (ps_ret (pe_cal cf hr5 rfl (pa_cons (pv 0) (pa_cons (pv 1) pa_nil)))))))), ?_⟩
  refine ⟨_, rfl, _, rfl, h, a, N, ws, us, xs, rfl, hh, ea, wa, ia, ?_⟩
  refine ⟨_, rfl, h, N, ws, rfl, hh, gh, fun ne H1 s1 => ?_, fun e0 H1 d s1 tx => k2 e0 H1 d s1 tx⟩
  refine ⟨_, rfl, h, N, ws, rfl, hh.same s1, gh, fun H2 v s2 nc => ?_⟩
  obtain ⟨l, cvs, rfl, nl, el, pc⟩ := nc
  have s02 := s1.trans s2
  have lx : us.length = xs.length := Paired.length wa
  refine ⟨l, rfl, ⟨_, SqL.of el⟩, ?_⟩
  refine for_list (K := K) (a := l) (xs := cvs) (fun i σ H3 => ∃ z : Option V, σ = [some h, some (.ref a), z] ∧ Same H2 H3 ∧ ∀ j bs, j < i → (pleasing ws N)[j]? = some bs → ¬ ∀ x ∈ xs, Has (fOf bs) x) ⟨none, rfl, Same.refl _, fun j bs hj => by omega⟩ (fun i σ H3 _ ⟨_, _, s3, _⟩ => SqL.of (s3 _ _ el)) ?_ ?_
  · rintro i u σ H3 hi ⟨z, rfl, s3, no⟩
    obtain ⟨bs, hbs, b, rfl, nb, eb⟩ := paired_get pc hi
    have mb := mem_pleasing.1 (List.mem_of_getElem? hbs)
    have s03 := s02.trans s3
    refine ⟨_, rfl, a, rfl, ⟨_, SqL.of (s03 _ _ ea)⟩, fun Dd hD => ?_⟩
    refine bools1 (J := Itl K a) (n := us.length) (f := hasF xs bs) hD (by rw [sizeLine_eq]; omega) (fun j H' hj s => itl_go s (SqL.of (s03 _ _ ea)) hj) (fun H' s => itl_stop s (SqL.of (s03 _ _ ea))) ?_ ?_
    · intro j x' H' H'' Q' hj s y kk
      obtain ⟨rfl, hx'⟩ := itl_yld s (SqL.of (s03 _ _ ea)) y
      obtain ⟨x, hx, wx⟩ := paired_get wa hx'
      refine ⟨_, rfl, _, rfl, b, x', N, bs, x, rfl, SqL.of (s _ _ (s3 _ _ eb)), mb.1, (wx.same s03).same s, ia x (List.mem_of_getElem? hx), ?_⟩
      have z := kk _ (Same.refl _)
      unfold hasF at z
      rw [hx] at z
      exact z
    · intro H' s eD
      refine ⟨Dd, _, rfl, SqL.of eD, _, rfl, ?_⟩
      rw [lx, all_has]
      refine iteD (fun e => ?_) (fun e => ?_)
      · refine ⟨_, rfl, make_pl (SqL.of (s _ _ (s3 _ _ eb))) fun H4 p dx l' s4 np nl' e1 e2 => ?_⟩
        have s04 := s03.trans s
        exact k1 ne H4 _ (s04.trans s4) (.inl ⟨bs, ⟨p, dx, l', rfl, s04.free np, s04.free nl', e1, e2⟩, mb.1, mb.2, e⟩)
      · refine ⟨_, rfl, s3.trans s, fun j bs' hj hb' => ?_⟩
        by_cases ej : j = i
        · subst ej
          rw [hbs] at hb'
          cases hb'
          exact e
        · exact no j bs' (by omega) hb'
  · rintro σ H3 ⟨z, rfl, s3, no⟩
    have s03 := s02.trans s3
    have lc : cvs.length = (pleasing ws N).length := Paired.length pc
    refine ⟨_, rfl, _, rfl, h, a, N, ws, us, xs, rfl, hh.same s03, gh, s03 _ _ ea, wa.same s03, ia, l8, keep_or gh ne ia fun bs hb hx => ?_, fun H4 v cs s4 nw cb ic lcs => ?_⟩
    · obtain ⟨j, hj⟩ := List.mem_iff_getElem?.mp hb
      refine no j bs ?_ hj hx
      rw [lc]
      exact (List.getElem?_eq_some_iff.mp hj).1
    · refine k1 ne H4 v (s03.trans s4) (.inr ⟨cs, ?_, cb, ic, lcs⟩)
      obtain ⟨p, dx, a', b', us', vs', h1, h2, h3, h4, r⟩ := nw
      exact ⟨p, dx, a', b', us', vs', h1, s03.free h2, s03.free h3, s03.free h4, r⟩
end
end L2

end

section
set_option autoImplicit false
set_option maxRecDepth 100000
set_option linter.all false
namespace L2
open PySem PySem.Spec PyProof.Rows EoD Eo
theorem kqT {K : PySem.W.Frag} {CU : Addr} {T : String} {b : Bool} (h : PySem.W.kitOne K (.ref CU) (.type T) = some b) : ∀ u, RelV (.ty T) u → PySem.W.kitOne K (.ref CU) u = some b := fun u hu => by
  obtain rfl : u = Value.type T := hu
  exact h
theorem bt_ve : bootBuiltins "ValueError" = some (.type "ValueError") := by decide +kernel
section
variable {P : Program} {w : World} {K : PySem.W.Frag} {mg : Str → Option Value} {base : Heap} {C CP CT CC CW CU fU BC BH BW BT : Addr}
abbrev N_ref3 : List Str := ["_law_told_here", "_law_house", "_law_words_here", "error", "_law_others", "_law_torn", "_law_right_here"]
theorem sc_l3ref : FnScope N_ref3 ["_law_told_here", "_law_house", "_law_words_here"] (defScope S_l3ref) := ⟨rfl, rfl, rfl, by decide +kernel, rfl, by decide +kernel, by decide +kernel⟩
inductive X_sp_l3ref (C : Addr) (vs : List V) (H : Hp) (Q : VK) (E : XK) : Prop
  | mk (t h : V) (a0 : Addr) (N : Nat) (ws : List (W × W)) (us0 : List V) (xs : List W) (z_1 : vs = [t, h, .ref a0]) (z_2 : ToldAt H t N ws) (z_3 : HouseAt C H h N ws) (z_4 : GoodH N ws) (z_5 : H a0 = some (.lst us0)) (z_6 : Ws H us0 xs) (z_7 : (∀ x ∈ xs, InN N x)) (z_8 : us0.length ≤ 8) (z_9 : pleasing ws N = []) (z_10 : ∀ H', Same H H' → Q (.bl true) H')
def sp_l3ref (C : Addr) : Sp := fun vs H Q E => X_sp_l3ref C vs H Q E
set_option maxHeartbeats 4000000 in
theorem ok_l3ref (D : Def K mg "_law_refused" S_l3ref ["_law_told_here", "_law_house", "_law_words_here"]) (B : Bare mg) (any : mg "any" = none) (ve : mg "ValueError" = none) (Z : ExF K mg CW CU fU "Unpleased" "torn") (cW : PySem.W.CatchOf K CW) (Y : ExA K mg CU BC BH BW BT) (kVE : PySem.W.kitOne K (.ref CU) (.type "ValueError") = some true)
    (TT' : TxtT K CT) (mT : mg "Torn" = some (.ref CT)) (ktt : PySem.W.kitOne K (.ref CT) (.ref CT) = some true)
    (cs' : CalX P w K mg base "keeping" 7 ["house", "words"] (sp_keep C CP CC CT CU)) (cc : CalH P w K mg base "_law_chain" 3 ["_law_told_here", "_law_links"] sp_lchB) (cn : CalH P w K mg base "_law_not" 1 ["_law_word_here"] sp_opp) (cws : CalH P w K mg base "_law_words" 1 ["_law_links", "_law_names"] sp_lwords) :
    Cal P w K mg base "_law_refused" 8 ["_law_told_here", "_law_house", "_law_words_here"] (sp_l3ref C) := by
  refine D.cal (k := 7) sc_l3ref (fun vs H Q E h => by obtain ⟨_, _, _, _, _, _, _, rfl, _⟩ := h; rfl) (fun f cdv A outer s H vs Q E hr h => ?_)
  obtain ⟨t, h, a0, N, ws, us0, xs, rfl, ht, hh, gh, ea0, wa0, ia0, l80, e0, k⟩ := h
  have hr3 : ∀ e : Addr, RoomH 3 ((A.deeper (envOfC "_law_refused" (defScope S_l3ref) s.heap.objs.size f cdv)).mark (some (.ref e))) := fun e => (⟨hr.dp, hr.un⟩ : RoomH 7 ((A.deeper (envOfC "_law_refused" (defScope S_l3ref) s.heap.objs.size f cdv)).mark (some (.ref e)))).mono (by decide)
  have hr1 := fun e => (hr3 e).mono (show 1 ≤ 3 by decide)
  refine ⟨_, pss_cons (ps_try (i := 3) cs' hr rfl ⟨rfl, rfl⟩ (fun _ => pa_cons (pv 1) (pa_cons (pv 2) pa_nil)) rfl Z.mW cW sc_l3ref.nd rfl rfl (fun e oe ovs hda =>
      pss_cons (ps_set (i := 4) sc_l3ref.nd rfl (Or.inl rfl) (pe_lst (pa_cons (pe_isX B mem_hcx hda (pv 3) rfl rfl Y.mC) (pa_cons (pe_isX B mem_hcx hda (pv 3) rfl rfl Y.mH) (pa_cons (pe_isX B mem_hcx hda (pv 3) rfl rfl Y.mW) pa_nil)))))
      (pss_cons (ps_if (PW.pt (pw_or (pt_val (pe_callB (call_anyB rfl) rfl any bt_any (pa_cons (pv 4) pa_nil))) (pw_or (pt_val (pe_isX B mem_hcx hda (pv 3) rfl rfl Y.mT)) (pw_or1 (pt_not (pt_val (pe_isX B mem_hcx hda (pv 3) rfl rfl Z.mU))))))) (pss_one (ps_ret pe_bl)) pss_nil)
      (pss_cons (ps_set (i := 5) sc_l3ref.nd rfl (Or.inl rfl) (pe_xget mem_hcx hda (pv 3) rfl))
      (pss_cons (ps_if (PW.pt (pw_or (pt_not (pt_val (pe_isinC B (pv 5) rfl rfl mT))) (pw_or (pt_not (pt_val (pe_calH cws (hr1 e) rfl (pa_cons (pe_fld (pv 5) rfl) (pa_cons (pe_ix ix_tup (pv 0) pe_int (fun _ _ => rfl)) pa_nil))))) (pw_or1 (pt_not (pt_val (pe_calH cws (hr1 e) rfl (pa_cons (pe_fld (pv 5) rfl) (pa_cons (pe_ix ix_tup (pv 0) pe_int (fun _ _ => rfl)) pa_nil))))))))) (pss_one (ps_ret pe_bl)) pss_nil)
      (pss_cons (ps_if (PW.pt (pw_or (pt_not (pt_val (pe_calH cc (hr3 e) rfl (pa_cons (pv 0) (pa_cons (pe_fld (pv 5) rfl) pa_nil))))) (pw_or1 (pt_not (pt_val (pe_calH cc (hr3 e) rfl (pa_cons (pv 0) (pa_cons (pe_fld (pv 5) rfl) pa_nil)))))))) (pss_one (ps_ret pe_bl)) pss_nil)
      (pss_cons (ps_set (i := 6) sc_l3ref.nd rfl (Or.inl rfl) (pe_and (pe_cmpR (op_eqW (hr3 e).units) (pe_ix ix_list (pe_fld (pv 5) rfl) pe_m1 (fun _ _ => rfl)) (pe_calH cn (hr1 e) rfl (pa_cons (pe_ix ix_list (pe_fld (pv 5) rfl) pe_int (fun _ _ => rfl)) pa_nil)) (nomark _))
          (pe_one (pe_cmpR (op_eqW (hr3 e).units) (pe_ix ix_list (pe_fld (pv 5) rfl) pe_m1 (fun _ _ => rfl)) (pe_ix ix_list (pe_fld (pv 5) rfl) pe_int (fun _ _ => rfl)) (nomark _)))))
      (pss_cons (ps_set (i := 6) sc_l3ref.nd rfl (Or.inl rfl) (pe_and (pv 6) (pe_one (pe_cmpR (op_eqW (hr3 e).units) (pe_ix ix_list (pe_fld (pv 5) rfl) pe_m1 (fun _ _ => rfl)) (pe_ix ix_list (pe_fld (pv 5) rfl) pe_int (fun _ _ => rfl)) (nomark _)))))
      (pss_cons (ps_clear (pe_fld (pv 5) rfl))
      (pss_cons (ps_clear (pe_fld (pv 5) rfl))
      (pss_one (ps_ret (pe_and (pv 6) (pe_one (pe_isXT B mem_hcx hda (pv 3) rfl rfl ve bt_ve)))))))))))))))
    (pss_one (ps_ret pe_bl)), ?_⟩
  refine ⟨_, rfl, _, rfl, h, a0, N, ws, us0, xs, rfl, hh, gh, ea0, wa0, ia0, l80, fun ne => absurd e0 ne, fun _ H2 d s2 tx => ⟨CU, rfl, Z.up, fun e oe he ec ed => ?_⟩⟩
  obtain ⟨v, cs, ds, ⟨p, dx, a, b, us, vs', rfl, np, na, nb, nab, ep, ea, wa, eb, wb⟩, tb, ic, id', lc, ld, hd⟩ := tx
  obtain ⟨c1, c2⟩ := to_parts tb
  obtain ⟨q0, lw, ts, rfl, hq0, hl0, pu0⟩ := id ht
  have i0 : atI [V.int (N : Int), V.ref lw] 0 = some (V.int N) := rfl
  have la : us.length ≤ 1000 := by rw [Paired.length wa]; omega
  have lb : vs'.length ≤ 1000 := by rw [Paired.length wb]; omega
  refine ⟨_, rfl, _, CU, _, rfl, kq Y.kC, ec, Z.xc, .inr ⟨d, _, ed, hd⟩, _, rfl, _, CU, _, rfl, kq Y.kH, ec, Z.xc, .inr ⟨d, _, ed, hd⟩, _, rfl, _, CU, _, rfl, kq Y.kW, ec, Z.xc, .inr ⟨d, _, ed, hd⟩, (by show 3 ≤ sizeLine; decide), fun q hq => ?_⟩
  have s3 := s2.laidT (o := .lst [V.bl false, V.bl false, V.bl false]) hq
  have t3 : Same H2 (upd H2 q (.lst [V.bl false, V.bl false, V.bl false])) := Same.laid hq
  refine ⟨_, rfl, q, [false, false, false], rfl, SqL.of upd_same, _, rfl, iteF ⟨_, rfl, _, CU, _, rfl, kq Y.kT, ec, Z.xc, .inr ⟨d, _, ed, t3 _ _ hd⟩, _, rfl, iteF ⟨_, rfl, _, CU, _, rfl, kq Y.kU, ec, Z.xc, .inr ⟨d, _, ed, t3 _ _ hd⟩, _, rfl, iteF ?_⟩⟩⟩
  refine ⟨_, rfl, CU, d, _, _, rfl, ec, ed, Z.xc, Z.na, t3 _ _ hd, xd_one, ?_⟩
  have hq3 := s3 _ _ hq0
  refine ⟨_, rfl, _, _, _, true, rfl, TT'.toOwnC.ty (t3 _ _ ep), ktt, true, rfl, iteF ?_⟩
  refine ⟨_, rfl, p, CT, dx, _, _, rfl, t3 _ _ ep, TT'.cl, TT'.nT, toF_there _ _, _, rfl, q0, _, 0, _, rfl, rfl, SqT.of hq3, i0, a, N, us, cs, rfl, t3 _ _ ea, wa.same t3, ic, true, rfl, iteF ?_⟩
  refine ⟨_, rfl, p, CT, dx, _, _, rfl, t3 _ _ ep, TT'.cl, TT'.nB, toF_back _ _, _, rfl, q0, _, 0, _, rfl, rfl, SqT.of hq3, i0, b, N, vs', ds, rfl, t3 _ _ eb, wb.same t3, id', true, rfl, iteF ?_⟩
  refine ⟨_, rfl, _, rfl, p, CT, dx, _, _, rfl, t3 _ _ ep, TT'.cl, TT'.nT, toF_there _ _, _, a, N, ws, us, cs, rfl, ht.same s3, t3 _ _ ea, wa.same t3, la, fun H4 s4 => ⟨_, rfl, ?_⟩⟩
  rw [c1]
  have t4 := t3.trans s4
  refine iteF ⟨_, rfl, _, rfl, p, CT, dx, _, _, rfl, t4 _ _ ep, TT'.cl, TT'.nB, toF_back _ _, _, b, N, ws, vs', ds, rfl, ht.same (s3.trans s4), t4 _ _ eb, wb.same t4, lb, fun H5 s5 => ⟨_, rfl, ?_⟩⟩
  rw [c2]
  have t5 := t4.trans s5
  obtain ⟨hv, hx, ehv, ehx, wh⟩ := Ws.head wa (of_decide_eq_true c1).1
  obtain ⟨lv, lx, elv, elx, wl⟩ := Ws.last wa (of_decide_eq_true c1).1
  obtain ⟨hv2, hy, ehv2, ehy, wh2⟩ := Ws.head wb (of_decide_eq_true c2).1
  obtain ⟨lv2, ly, elv2, ely, wl2⟩ := Ws.last wb (of_decide_eq_true c2).1
  have eT := toB_law c1 c2 ehx elx ehy ely
  rw [tb] at eT
  have eT' := eT.symm
  simp only [Bool.and_eq_true, decide_eq_true_iff] at eT'
  obtain ⟨q1, q2, q3⟩ : lx = neg hx ∧ hy = lx ∧ ly = hx := by
    first
      | exact ⟨eT'.1.1, eT'.1.2, eT'.2⟩
      | exact ⟨eT'.1, eT'.2.1, eT'.2.2⟩
      | exact ⟨eT'.1.1, eT'.2, eT'.1.2⟩
  refine iteF ⟨_, rfl, p, CT, dx, _, _, rfl, t5 _ _ ep, TT'.cl, TT'.nT, toF_there _ _, a, us, -1, lv, rfl, rfl, SqL.of (t5 _ _ ea), atI_end elv, _, rfl, p, CT, dx, _, _, rfl, t5 _ _ ep, TT'.cl, TT'.nT, toF_there _ _, a, us, 0, hv, rfl, rfl, SqL.of (t5 _ _ ea), atI_head ehv, hv, hx, rfl, wh.same t5, fun H6 nv s6 wn => ?_⟩
  have t6 := t5.trans s6
  refine ⟨lx, neg hx, wl.same t6, wn, _, rfl, iteP q1 ⟨_, rfl, p, CT, dx, _, _, rfl, t6 _ _ ep, TT'.cl, TT'.nT, toF_there _ _, a, us, -1, lv, rfl, rfl, SqL.of (t6 _ _ ea), atI_end elv, _, rfl, p, CT, dx, _, _, rfl, t6 _ _ ep, TT'.cl, TT'.nB, toF_back _ _, b, vs', 0, hv2, rfl, rfl, SqL.of (t6 _ _ eb), atI_head ehv2, lx, hy, wl.same t6, wh2.same t6, ?_⟩⟩
  refine ⟨_, rfl, _, rfl, iteP q2.symm ⟨_, rfl, p, CT, dx, _, _, rfl, t6 _ _ ep, TT'.cl, TT'.nB, toF_back _ _, b, vs', -1, lv2, rfl, rfl, SqL.of (t6 _ _ eb), atI_end elv2, _, rfl, p, CT, dx, _, _, rfl, t6 _ _ ep, TT'.cl, TT'.nT, toF_there _ _, a, us, 0, hv, rfl, rfl, SqL.of (t6 _ _ ea), atI_head ehv, ly, hx, wl2.same t6, wh.same t6, ?_⟩⟩
  have ea6 := t6 _ _ ea
  have eb6 := t6 _ _ eb
  have ep6 := t6 _ _ ep
  have hd6 := t6 _ _ hd
  have npa : p ≠ a := ne_of ep6 ea6 (by intro z; cases z)
  have npb : p ≠ b := ne_of ep6 eb6 (by intro z; cases z)
  have nda : d ≠ a := ne_of hd6 ea6 (by intro z; cases z)
  have ndb : d ≠ b := ne_of hd6 eb6 (by intro z; cases z)
  refine ⟨_, rfl, p, CT, dx, _, _, rfl, ep6, TT'.cl, TT'.nT, toF_there _ _, .inl ⟨rfl, _, SqL.of ea6⟩, a, us, rfl, rfl, ea6, ?_⟩
  have eb7 : upd H6 a (.lst []) b = some (.lst vs') := by rw [upd_ne nab.symm]; exact eb6
  have ep7 : upd H6 a (.lst []) p = some (.ins CT dx (toF a b)) := by rw [upd_ne npa]; exact ep6
  refine ⟨_, rfl, p, CT, dx, _, _, rfl, ep7, TT'.cl, TT'.nB, toF_back _ _, .inl ⟨rfl, _, SqL.of eb7⟩, b, vs', rfl, rfl, eb7, ?_⟩
  have hd8 : upd (upd H6 a (.lst [])) b (.lst []) d = some (.xd [("torn", V.ref p)]) := by rw [upd_ne ndb, upd_ne nda]; exact hd6
  refine ⟨_, rfl, _, rfl, iteP q3 ⟨_, rfl, _, CU, _, rfl, kqT kVE, ec, Z.xc, .inr ⟨d, _, ed, hd8⟩, ?_⟩⟩
  exact k _ (((s2.trans t6).chg na).chg nb)
end
end L2

end

section
set_option autoImplicit false
set_option maxRecDepth 100000
set_option linter.all false
namespace L2
open PySem PySem.Spec PyProof.Rows EoD Eo
structure Kits3 (K : PySem.W.Frag) (CA CP CT CC : Addr) : Prop where
  pa : PySem.W.kitOne K (.ref CP) (.ref CA) = some true
  pt : PySem.W.kitOne K (.ref CP) (.ref CT) = some false
  pp : PySem.W.kitOne K (.ref CP) (.ref CP) = some true
  pc : PySem.W.kitOne K (.ref CP) (.ref CC) = some false
  ca : PySem.W.kitOne K (.ref CC) (.ref CA) = some true
  ct : PySem.W.kitOne K (.ref CC) (.ref CT) = some false
  cp : PySem.W.kitOne K (.ref CC) (.ref CP) = some false
  cc : PySem.W.kitOne K (.ref CC) (.ref CC) = some true
/-- an answer at p that is right, of the words xs -/
def RightAt (CP CC : Addr) (N : Nat) (ws : List (W × W)) (xs : List W) (H : Hp) (p : Addr) : Prop :=
  (∃ dx a bs, H p = some (.ins CP dx (plF a)) ∧ H a = some (.lst (bs.map V.bl)) ∧ bs.length = N ∧ Pls (fOf bs) ws ∧ ∀ x ∈ xs, Has (fOf bs) x) ∨
  ∃ dx a b us vs cs, H p = some (.ins CC dx (clF a b)) ∧ H a = some (.lst us) ∧ Ws H us xs ∧ H b = some (.lst vs) ∧ Ws H vs cs ∧ clB ws xs cs = true ∧ (∀ x ∈ cs, InN N x) ∧ cs.length ≤ 17
section
variable {P : Program} {w : World} {K : PySem.W.Frag} {mg : Str → Option Value} {base : Heap} {C CA CP CT CC : Addr}
abbrev N_r3 : List Str := ["_law_told_here", "_law_words_here", "_law_found"]
theorem sc_l3right : FnScope N_r3 N_r3 (defScope S_l3right) := ⟨rfl, rfl, rfl, by decide +kernel, rfl, by decide +kernel, by decide +kernel⟩
inductive X_sp_l3right (CP CC : Addr) (vs : List V) (H : Hp) (Q : VK) (E : XK) : Prop
  | mk (t : V) (a0 p : Addr) (N : Nat) (ws : List (W × W)) (us0 : List V) (xs : List W) (z_1 : vs = [t, .ref a0, .ref p]) (z_2 : ToldAt H t N ws) (z_3 : GoodH N ws) (z_4 : H a0 = some (.lst us0)) (z_5 : Ws H us0 xs) (z_6 : (∀ x ∈ xs, InN N x)) (z_7 : us0.length ≤ 8) (z_8 : RightAt CP CC N ws xs H p) (z_9 : ∀ H', Same H H' → Q (.bl true) H')
def sp_l3right (CP CC : Addr) : Sp := fun vs H Q E => X_sp_l3right CP CC vs H Q E
abbrev te_r3 (K : PySem.W.Frag) : TE := tOp rEq (tOp (rIxL K) (tFld K (tVar 2) "choice") (tVar 0)) (tVar 1)
set_option maxHeartbeats 4000000 in
theorem ok_l3right (D : Def K mg "_law_right" S_l3right N_r3) (B : Bare mg) (TP : TxtP K CP) (TC : TxtC K CC) (mA : mg "Answer" = some (.ref CA)) (mT : mg "Torn" = some (.ref CT)) (mP : mg "Pleased" = some (.ref CP)) (mC : mg "Clash" = some (.ref CC)) (kt : Kits3 K CA CP CT CC)
    (cp : Cal P w K mg base "_law_pleases" 1 ["_law_choice", "_law_wish"] (sp_lpls K)) (cws : Cal P w K mg base "_law_words" 1 ["_law_links", "_law_names"] sp_lwords) (cc : Cal P w K mg base "_law_chain" 3 ["_law_told_here", "_law_links"] sp_lchB) (cn : Cal P w K mg base "_law_not" 1 ["_law_word_here"] sp_opp) :
    Cal P w K mg base "_law_right" 4 N_r3 (sp_l3right CP CC) := by
  refine D.cal (k := 3) sc_l3right (fun vs H Q E h => by obtain ⟨_, _, _, _, _, _, _, rfl, _⟩ := h; rfl) (fun f cdv A outer s H vs Q E hr h => ?_)
  obtain ⟨t, a0, p, N, ws, us0, xs, rfl, ht, gh, ea0, wa0, ia0, l80, alt, k⟩ := h
  have hr1 : Room 1 _ := hr.mono (by decide)
  have hu := hr.units
  have hu5 := hr.units5
  refine ⟨_, pss_cons (ps_if (PW.pt (pw_or (pt_not (pt_val (pe_isinC B (pv 2) rfl rfl mA))) (pw_or1 (pt_val (pe_isinC B (pv 2) rfl rfl mT))))) (pss_one (ps_ret pe_bl)) pss_nil)
    (pss_cons (ps_if (pt_cmpR op_eq (pe_isinC B (pv 2) rfl rfl mP) (pe_isinC B (pv 2) rfl rfl mC) (nomark _)) (pss_one (ps_ret pe_bl)) pss_nil)
    (pss_cons (ps_if (pt_val (pe_isinC B (pv 2) rfl rfl mP))
      (pss_cons (ps_if (PW.pt (pw_or (pt_not (pt_val (pe_isin B (pe_fld (pv 2) rfl) rfl rfl B.lst bt_list))) (pw_or1 (pt_cmpR op_ne (pe_callB call_len_seq rfl B.len bt_len (pa_cons (pe_fld (pv 2) rfl) pa_nil)) (pe_ix ix_tup (pv 0) pe_int (fun _ _ => rfl)) (nomark _))))) (pss_one (ps_ret pe_bl)) pss_nil)
      (pss_cons (ps_if (pt_not (pt_val (pe_callB (call_allB rfl) rfl B.all bt_all (pa_cons (pe_comp (tc := tYes) (te := tIsT K (tVar 0) "bool") rfl ⟨rfl, by decide +kernel, rfl, by decide +kernel, AllFree.all (by repeat (first | exact trivial | refine ⟨?_, ?_⟩ | (intro e; cases e <;> fail) | (intro _; rfl)))⟩ (ys := []) (js := []) trivial (by decide +kernel)
          (pi_list (pe_fld (pv 2) rfl)) (fun _ _ _ _ _ => pifs_nil) (fun _ _ _ _ _ => pe_isin B (pv 0) rfl rfl B.bool bt_bool)) pa_nil)))) (pss_one (ps_ret pe_bl)) pss_nil)
      (pss_cons (ps_if (pt_not (pt_val (pe_callB (call_allB rfl) rfl B.all bt_all (pa_cons (pe_comp2 (tc := tYes) (te := te_r3 K) rfl rfl ⟨rfl, by decide +kernel, rfl, by decide +kernel, AllFree.all (by repeat (first | exact trivial | refine ⟨?_, ?_⟩ | (intro e; cases e <;> fail) | (intro _; rfl)))⟩ rfl (ys := ["_law_found"]) (js := [2]) ⟨rfl, rfl, rfl, trivial⟩ (by decide +kernel)
          (pi_list (pv 1)) (fun _ _ _ _ _ => pifs_nil) (fun _ _ _ _ _ => pe_cmpR op_eq (pe_ix ix_list (pe_fld (pv 2) rfl) (pv 0) (fun _ _ => rfl)) (pv 1) (nomark _))) pa_nil)))) (pss_one (ps_ret pe_bl)) pss_nil)
      (pss_one (ps_ret (pe_callB (call_allB rfl) rfl B.all bt_all (pa_cons (pe_comp (tc := tYes) (te := te_lis K) rfl ⟨rfl, by decide +kernel, rfl, by decide +kernel, AllFree.all (by repeat (first | exact trivial | refine ⟨?_, ?_⟩ | (intro e; cases e <;> fail) | (intro _; rfl)))⟩ (ys := ["_law_found"]) (js := [2]) ⟨rfl, rfl, rfl, trivial⟩ (by decide +kernel)
          (pi_list (pe_ix ix_tup (pv 0) pe_int (fun _ _ => rfl))) (fun _ _ _ _ _ => pifs_nil) (fun _ _ _ _ _ => pe_cal cp hr1 rfl (pa_cons (pe_fld (pv 1) rfl) (pa_cons (pv 0) pa_nil)))) pa_nil)))))))
      pss_nil)
    (pss_cons (ps_if (PW.pt (pw_or (pt_not (pt_val (pe_cal cws hr1 rfl (pa_cons (pe_fld (pv 2) rfl) (pa_cons (pe_ix ix_tup (pv 0) pe_int (fun _ _ => rfl)) pa_nil))))) (pw_or (pt_cmpR (op_neWL hu) (pe_fld (pv 2) rfl) (pv 1) (nomark _)) (pw_or1 (pt_not (pt_val (pe_cal cc hr rfl (pa_cons (pv 0) (pa_cons (pe_fld (pv 2) rfl) pa_nil))))))))) (pss_one (ps_ret pe_bl)) pss_nil)
    (pss_one (ps_ret (pe_and (pe_cmpR (op_inWL hu5) (pe_ix ix_list (pe_fld (pv 2) rfl) pe_int (fun _ _ => rfl)) (pv 1) (by with_unfolding_all rfl)) (pe_one (pe_cmpR (op_inWL hu5) (pe_cal cn hr1 rfl (pa_cons (pe_ix ix_list (pe_fld (pv 2) rfl) pe_m1 (fun _ _ => rfl)) pa_nil)) (pv 1) (by with_unfolding_all rfl))))))))), ?_⟩
  obtain ⟨q, l, ts, rfl, hq, hl, pu⟩ := id ht
  have i0 : atI [V.int (N : Int), V.ref l] 0 = some (V.int N) := rfl
  have i1 : atI [V.int (N : Int), V.ref l] 1 = some (V.ref l) := rfl
  have lx : us0.length = xs.length := Paired.length wa0
  rcases alt with ⟨dx, a, bs, hp, ea, lb, pl, hx⟩ | ⟨dx, a, b, us, vs', cs, hp, ea, wa, eb, wb, cb, ic, l17⟩
  · have ty := TP.toOwnC.ty hp
    refine ⟨_, rfl, _, _, _, true, rfl, ty, kt.pa, true, rfl, iteF ⟨_, rfl, _, _, _, false, rfl, ty, kt.pt, false, rfl, iteF ?_⟩⟩
    refine ⟨_, rfl, _, _, _, true, rfl, ty, kt.pp, _, rfl, _, _, _, false, rfl, ty, kt.pc, rfl, _, rfl, iteN (by decide) ?_⟩
    refine ⟨_, rfl, _, _, _, true, rfl, ty, kt.pp, true, rfl, iteT ?_⟩
    refine ⟨_, rfl, p, CP, dx, _, _, rfl, hp, TP.cl, TP.nC, plF_choice _, _, _, _, true, rfl, .lst ea, rfl, true, rfl, iteF ⟨_, rfl, p, CP, dx, _, _, rfl, hp, TP.cl, TP.nC, plF_choice _, a, _, rfl, .inl (SqL.of ea), _, rfl, q, _, 0, _, rfl, rfl, SqT.of hq, i0, rfl, _, rfl, iteNS (by rw [List.length_map, lb]) ?_⟩⟩
    have N8 := gh.hi
    refine ⟨_, rfl, p, CP, dx, _, _, rfl, hp, TP.cl, TP.nC, plF_choice _, a, rfl, ⟨_, SqL.of ea⟩, fun Dd hD => ?_⟩
    refine bools1 (J := Itl K a) (n := (bs.map V.bl).length) (f := fun _ => true) hD (by rw [List.length_map, sizeLine_eq]; omega) (fun i H' hi s => itl_go s (SqL.of ea) hi) (fun H' s => itl_stop s (SqL.of ea)) ?_ ?_
    · intro i x H' H'' Q' hi s y kk
      obtain ⟨rfl, hx'⟩ := itl_yld s (SqL.of ea) y
      obtain ⟨b', hb', rfl⟩ : ∃ b', bs[i]? = some b' ∧ V.bl b' = x := by
        rw [List.getElem?_map] at hx'
        cases q' : bs[i]? with
        | none => rw [q'] at hx'; cases hx'
        | some b' => rw [q'] at hx'; exact ⟨b', rfl, Option.some.inj hx'⟩
      exact ⟨_, rfl, _, _, _, true, rfl, .bl _, rfl, kk _ (Same.refl _)⟩
    intro H1 s1 eD1
    refine ⟨Dd, _, rfl, SqL.of eD1, _, rfl, ?_⟩
    have ra : ((List.range (bs.map V.bl).length).map fun _ => true).all id = true := by simp
    rw [ra]
    refine iteF ?_
    have qa0 : SqL K H1 a0 us0 := SqL.of (s1 _ _ ea0)
    refine ⟨_, rfl, a0, rfl, ⟨_, qa0⟩, fun D2 hD2 => bools2 (K := K) (J := Itl K a0) (n := us0.length) (f := hasF xs bs) hD2 (by rw [sizeLine_eq]; omega) (fun i H' hi s => itl_go s qa0 hi) (fun H' s => itl_stop s qa0) ?_ ?_⟩
    · intro i x H' H'' hi s y
      obtain ⟨rfl, hx'⟩ := itl_yld s qa0 y
      obtain ⟨z, hz, z', rfl, ez⟩ := paired_get wa0 hx'
      have s01 := s1.trans s
      refine ⟨z', _, _, rfl, SqT.of (s01 _ _ ez), fun Q' kk => ?_⟩
      have iz := ia0 z (List.mem_of_getElem? hz)
      have c1 := atI_map (f := V.bl) (n := z.1) iz.1 (fOf_get lb iz)
      refine ⟨_, rfl, p, CP, dx, _, _, rfl, s01 _ _ hp, TP.cl, TP.nC, plF_choice _, _, rfl, a, _, z.1, _, rfl, rfl, SqL.of (s01 _ _ ea), c1, _, rfl, rfl, ?_⟩
      have e : hasF xs bs i = decide (V.bl (fOf bs z.1) = V.bl z.2) := by
        unfold hasF
        rw [hz, Bool.eq_iff_iff]
        change (decide (Has (fOf bs) z) = true) ↔ (decide (V.bl (fOf bs z.1) = V.bl z.2) = true)
        rw [decide_eq_true_iff, decide_eq_true_iff]
        exact ⟨fun h => by rw [show fOf bs z.1 = z.2 from h], fun h => V.bl.inj h⟩
      have zz := kk _ (Same.refl _)
      rw [e] at zz
      exact zz
    intro H2 s2 eD2
    refine ⟨D2, _, rfl, SqL.of eD2, _, rfl, ?_⟩
    rw [lx, all_has, decide_eq_true hx]
    have s02 := s1.trans s2
    refine iteF ⟨_, rfl, q, _, 1, _, rfl, rfl, SqT.of (s02 _ _ hq), i1, l, rfl, ⟨_, SqL.of (s02 _ _ hl)⟩, fun D3 hD3 => ?_⟩
    have lt : ts.length = ws.length := Paired.length pu
    have l24 := gh.len
    have ql : SqL K H2 l ts := SqL.of (s02 _ _ hl)
    refine bools1 (J := Itl K l) (n := ts.length) (f := fun i => !disF ws bs i) hD3 (by rw [sizeLine_eq]; omega) (fun i H' hi s => itl_go s ql hi) (fun H' s => itl_stop s ql) ?_ ?_
    · intro i x H' H'' Q' hi s y kk
      obtain ⟨rfl, hx'⟩ := itl_yld s ql y
      obtain ⟨pr, hpr, isp⟩ := paired_get pu hx'
      have g2 := gh.good pr (List.mem_of_getElem? hpr)
      have s03 := s02.trans s
      refine ⟨_, rfl, p, CP, dx, _, _, rfl, s03 _ _ hp, TP.cl, TP.nC, plF_choice _, _, rfl, a, x, N, bs, pr, rfl, SqL.of (s03 _ _ ea), lb, isp.same s03, g2.1, g2.2, ?_⟩
      have e2 : (!disF ws bs i) = plz bs pr := by
        unfold disF
        rw [hpr]
        simp
      have z := kk _ (Same.refl _)
      rw [e2] at z
      exact z
    · intro H3 s3 eD3
      refine ⟨D3, _, rfl, SqL.of eD3, ?_⟩
      rw [lt, all_plz, decide_eq_true pl]
      exact k H3 (s02.trans s3)
  · have ty := TC.toOwnC.ty hp
    refine ⟨_, rfl, _, _, _, true, rfl, ty, kt.ca, true, rfl, iteF ⟨_, rfl, _, _, _, false, rfl, ty, kt.ct, false, rfl, iteF ?_⟩⟩
    refine ⟨_, rfl, _, _, _, false, rfl, ty, kt.cp, _, rfl, _, _, _, true, rfl, ty, kt.cc, rfl, _, rfl, iteN (by decide) ?_⟩
    refine ⟨_, rfl, _, _, _, false, rfl, ty, kt.cp, false, rfl, iteF ?_⟩
    have c1 : chB ws cs = true := by
      unfold clB at cb
      simp only [Bool.and_eq_true] at cb
      exact cb.1.1
    have lv : vs'.length ≤ 1000 := by rw [Paired.length wb]; omega
    obtain ⟨hv, hx, ehv, ehx, wh⟩ := Ws.head wb (of_decide_eq_true c1).1
    obtain ⟨lv', lx', elv, elx, wl⟩ := Ws.last wb (of_decide_eq_true c1).1
    obtain ⟨m1, m2⟩ : hx ∈ xs ∧ neg lx' ∈ xs := by
      unfold clB at cb
      rw [ehx, elx] at cb
      simp only [Bool.and_eq_true, Option.any_some, decide_eq_true_iff] at cb
      exact ⟨cb.1.2, cb.2⟩
    refine ⟨_, rfl, p, CC, dx, _, _, rfl, hp, TC.cl, TC.nL, clF_links _ _, _, rfl, q, _, 0, _, rfl, rfl, SqT.of hq, i0, b, N, vs', cs, rfl, eb, wb, ic, true, rfl, iteF ?_⟩
    refine ⟨_, rfl, p, CC, dx, _, _, rfl, hp, TC.cl, TC.nW, clF_words _ _, _, rfl, xs, xs, ⟨a, us, rfl, SqL.of ea, wa⟩, ⟨a0, us0, rfl, SqL.of ea0, wa0⟩, _, rfl, iteNS rfl ?_⟩
    refine ⟨_, rfl, _, rfl, p, CC, dx, _, _, rfl, hp, TC.cl, TC.nL, clF_links _ _, _, b, N, ws, vs', cs, rfl, ht, eb, wb, lv, fun H1 s1 => ⟨_, rfl, ?_⟩⟩
    rw [c1]
    refine iteF ⟨_, rfl, p, CC, dx, _, _, rfl, s1 _ _ hp, TC.cl, TC.nL, clF_links _ _, b, vs', 0, hv, rfl, rfl, SqL.of (s1 _ _ eb), atI_head ehv, _, rfl, hx, xs, wh.same s1, ⟨a0, us0, rfl, SqL.of (s1 _ _ ea0), wa0.same s1⟩, _, rfl, iteP m1 ?_⟩
    refine ⟨_, rfl, p, CC, dx, _, _, rfl, s1 _ _ hp, TC.cl, TC.nL, clF_links _ _, b, vs', -1, lv', rfl, rfl, SqL.of (s1 _ _ eb), atI_end elv, lv', lx', rfl, wl.same s1, fun H2 nv s2 wn => ⟨_, rfl, neg lx', xs, wn, ⟨a0, us0, rfl, SqL.of ((s1.trans s2) _ _ ea0), wa0.same (s1.trans s2)⟩, ?_⟩⟩
    rw [decide_eq_true m2]
    exact k _ (s1.trans s2)
end
end L2

end

section
set_option autoImplicit false
set_option maxRecDepth 100000
set_option linter.all false
namespace L2
open PySem PySem.Spec PyProof.Rows EoD Eo
/-- a list of at most eight words at hand -/
def WsAt (N : Nat) (H0 H : Hp) (l : Addr) (xs : List W) : Prop := ∃ us, H0 l = none ∧ H l = some (.lst us) ∧ Ws H us xs ∧ (∀ x ∈ xs, InN N x) ∧ us.length ≤ 8
theorem ws_cat {H : Hp} : ∀ {us vs : List V} {xs ys : List W}, Ws H us xs → Ws H vs ys → Ws H (us ++ vs) (xs ++ ys)
  | _, _, _, _, .nil, s => s
  | _, _, _, _, .cons r t, s => .cons r (ws_cat t s)
theorem clB_no {ws : List (W × W)} {cs : List W} : clB ws [] cs = false := by
  unfold clB
  cases cs.head? <;> simp
section
variable {P : Program} {w : World} {K : PySem.W.Frag} {mg : Str → Option Value} {base : Heap} {C CA CP CT CC CU : Addr}
abbrev N_law : List Str := ["_law_script", "_law_told_here", "_law_house", "_law_choices_here", "_law_cell", "_law_words_here", "_law_k", "_law_choice", "_law_again", "_law_handed", "_law_found"]
theorem sc_law : FnScope N_law ["_law_script"] (defScope S_law) := ⟨rfl, rfl, rfl, by decide +kernel, rfl, by decide +kernel, by decide +kernel⟩
structure Calls3 (P : Program) (w : World) (K : PySem.W.Frag) (mg : Str → Option Value) (base : Heap) (C CA CP CT CC CU : Addr) : Prop where
  B : Bare mg
  T : TxtH K C
  tP : TxtP K CP
  tC : TxtC K CC
  tT : TxtT K CT
  kt : Kits3 K CA CP CT CC
  tp : PySem.W.kitOne K (.ref CT) (.ref CP) = some false
  mP : mg "Pleased" = some (.ref CP)
  told : Cal P w K mg base "_law_told" 3 ["_law_script", "_law_first"] (sp_told K)
  make : CalMk P w K mg base C "House" 4 ["self", "names", "wishes"] (sp_init C)
  ch : Cal P w K mg base "_law_choices" 2 ["_law_told_here"] sp_lchoices
  cell : Cal P w K mg base "_law_cell_at" 1 ["_law_script", "_law_k"] (sp_cell K)
  word : Cal P w K mg base "_law_word" 2 ["_law_cell", "_law_names"] sp_lword
  keep : CalX P w K mg base "keeping" 7 ["house", "words"] (sp_keep C CP CC CT CU)
  ref : Cal P w K mg base "_law_refused" 8 ["_law_told_here", "_law_house", "_law_words_here"] (sp_l3ref C)
  right : Cal P w K mg base "_law_right" 4 N_r3 (sp_l3right CP CC)
  hP : CalMt P w K mg base CP "holds" 4 ["self", "house"] (sp_plholds C CP)
  hC : CalMt P w K mg base CC "holds" 4 ["self", "house"] (sp_clholds C CC)
  tell : Cal P w K mg base "telling" 6 ["house"] (sp_tell C CP CT)
abbrev te_l3a (K : PySem.W.Frag) : TE := tTup (tCons (tVar 0) (tCons (tOp (rIxL K) (tVar 2) (tVar 0)) tNil))
abbrev te_l3b (K : PySem.W.Frag) : TE := tCall sp_lword [] E0 (tCons (tOp (rI0 fun i j => .int (i + j)) (tOp (rI CDiv fun i j => .int (i / j)) (tCall (sp_cell K) [] E0 (tCons (tVar 1) (tCons (tC (.int 4)) tNil))) (tC (.int 3))) (tOp (rI CMul fun i j => .int (i * j)) (tC (.int 31)) (tVar 0))) (tCons (tOp (rIxT K) (tVar 2) (tC (.int 0))) tNil))
set_option maxHeartbeats 16000000 in
theorem ok_law (Z : Calls3 P w K mg base C CA CP CT CC CU) {f : Addr} {fd : FuncData} (F : Fun K "law" "law" S_law f fd) : FnOk P w K mg base CX0 9 f fd ["_law_script"] (sp_law K) := by
  refine F.ok (k := 8) sc_law (fun vs H Q E h => by obtain ⟨_, _, rfl, _⟩ := h; rfl) (fun cdv A outer s H vs Q E hr h => ?_)
  obtain ⟨a, ns, rfl, hq, k⟩ := h
  have hr1 : Room 1 _ := hr.mono (by decide)
  have hr2 : Room 2 _ := hr.mono (by decide)
  have hr3 : Room 3 _ := hr.mono (by decide)
  have hr4 : Room 4 _ := hr.mono (by decide)
  have hr5 : Room 5 _ := hr.mono (by decide)
  have hr6 : Room 6 _ := hr.mono (by decide)
  have hr7 : Room 7 _ := hr.mono (by decide)
  have hu := hr.units
  have B := Z.B
  have clP := Z.tP.cl
  have clC := Z.tC.cl
  have kt := Z.kt
  refine ⟨_, (pss_cons (ps_set (i := 1) sc_law.nd rfl (Or.inr rfl) (pe_cal Z.told hr3 rfl (pa_cons (pv 0) (pa_cons pe_int pa_nil))))
    (pss_cons (ps_set (i := 2) sc_law.nd rfl (Or.inl rfl) (pe_mk Z.make hr5 rfl (pa_cons (pe_ix ix_tup (pv 1) pe_int (fun _ _ => rfl)) (pa_cons (pe_ix ix_tup (pv 1) pe_int (fun _ _ => rfl)) pa_nil))))
    (pss_cons (ps_set (i := 3) sc_law.nd rfl (Or.inl rfl) (pe_cal Z.ch hr2 rfl (pa_cons (pv 1) pa_nil)))
    (pss_cons (ps_set (i := 4) sc_law.nd rfl (Or.inl rfl) (pe_cal Z.cell hr1 rfl (pa_cons (pv 0) (pa_cons pe_int pa_nil))))
    (pss_cons (ps_set (i := 5) sc_law.nd rfl (Or.inl rfl) (pe_lst pa_nil))
    (pss_cons (ps_for PassesOwn.never rfl (pi_range1 rfl B.rng (pa_cons (pe_op op_mod (pv 4) pe_int) pa_nil)) (pg_name (i := 6) sc_law.nd rfl (Or.inl rfl))
      (pss_one (ps_app (pv 5) (pe_cal Z.word hr2 rfl (pa_cons (pe_op op_add (pe_op op_fdiv (pe_cal Z.cell hr1 rfl (pa_cons (pv 0) (pa_cons pe_int pa_nil))) pe_int) (pe_op op_mul pe_int (pv 6))) (pa_cons (pe_ix ix_tup (pv 1) pe_int (fun _ _ => rfl)) pa_nil))))))
    (pss_cons (ps_cut (ps_if (PW.pt (pw_and (pt_cmpR op_eq (pe_op op_mod (pe_op op_fdiv (pv 4) pe_int) pe_int) pe_int (nomark _)) (pw_and1 (pt_cmpR (op_neCL hu) (pv 3) (pe_lst pa_nil) (nomark _)))))
      (pss_cons (ps_set (i := 7) sc_law.nd rfl (Or.inr rfl) (pe_ix ix_list (pv 3) (pe_op op_mod (pe_op op_fdiv (pv 4) pe_int) (pe_callB call_len_seq rfl B.len bt_len (pa_cons (pv 3) pa_nil))) (fun _ _ => rfl)))
      (pss_one (ps_comp2 (j := 5) (tc := tYes) (te := te_l3a K) rfl rfl sc_law.nd rfl rfl ⟨rfl, by decide +kernel, rfl, by decide +kernel, AllFree.all (by repeat (first | exact trivial | refine ⟨?_, ?_⟩ | (intro e; cases e <;> fail) | (intro _; rfl)))⟩ rfl (ys := ["_law_choice"]) (js := [7]) ⟨rfl, rfl, rfl, trivial⟩ (by decide +kernel) (pi_list (pv 5)) (fun _ _ _ _ _ => pifs_nil)
        (fun _ _ _ _ _ => pe_tup (pa_cons (pv 0) (pa_cons (pe_ix ix_list (pv 2) (pv 0) (fun _ _ => rfl)) pa_nil)))))) pss_nil))
    (pss_cons (ps_for PassesOwn.never rfl (pi_range1 rfl B.rng (pa_cons pe_int pa_nil)) (pg_name (i := 8) sc_law.nd rfl (Or.inl rfl))
      (pss_cons (ps_cut (ps_if (pt_cmpR op_eq (pv 8) pe_int (nomark _)) (pss_one (ps_comp (j := 5) (tc := tYes) (te := te_l3b K) rfl sc_law.nd rfl rfl ⟨rfl, by decide +kernel, rfl, by decide +kernel, AllFree.all (by repeat (first | exact trivial | refine ⟨?_, ?_⟩ | (intro e; cases e <;> fail) | (intro _; rfl)))⟩ (ys := ["_law_script", "_law_told_here"]) (js := [0, 1]) ⟨rfl, rfl, rfl, rfl, rfl, rfl, trivial⟩ (by decide +kernel)
          (pi_range1 rfl B.rng (pa_cons (pe_op op_mod (pe_op op_fdiv (pv 4) pe_int) pe_int) pa_nil)) (fun _ _ _ _ _ => pifs_nil)
          (fun _ _ _ _ _ => pe_cal Z.word hr2 rfl (pa_cons (pe_op op_add (pe_op op_fdiv (pe_cal Z.cell hr1 rfl (pa_cons (pv 1) (pa_cons pe_int pa_nil))) pe_int) (pe_op op_mul pe_int (pv 0))) (pa_cons (pe_ix ix_tup (pv 2) pe_int (fun _ _ => rfl)) pa_nil))))) pss_nil))
      (pss_cons (ps_set (i := 9) sc_law.nd rfl (Or.inl rfl) (pe_callTy call_list_of rfl B.lst bt_list (pa_cons (pv 5) pa_nil)))
      (pss_cons (ps_if (pt_cmpR (op_eqCL hu) (pv 3) (pe_lst pa_nil) (nomark _)) (pss_cons (ps_if (PW.pt (pw_or (pt_not (pt_val (pe_cal Z.ref hr rfl (pa_cons (pv 1) (pa_cons (pv 2) (pa_cons (pv 9) pa_nil)))))) (pw_or1 (pt_cmpR (op_neWL hu) (pv 9) (pv 5) (nomark _))))) (pss_one (ps_ret pe_bl)) pss_nil) (pss_one ps_continue)) pss_nil)
      (pss_cons (ps_set (i := 10) sc_law.nd rfl (Or.inl rfl) (pe_calX Z.keep hr7 rfl thr_never (pa_cons (pv 2) (pa_cons (pv 9) pa_nil))))
      (pss_cons (ps_if (PW.pt (pw_or (pt_not (pt_val (pe_cal Z.right hr4 rfl (pa_cons (pv 1) (pa_cons (pv 5) (pa_cons (pv 10) pa_nil)))))) (pw_or (pt_cmpR op_isnotB (pe_either (pe_mt Z.hP clP hr4 (pv 10) (pa_cons (pv 2) pa_nil)) (pe_mt Z.hC clC hr4 (pv 10) (pa_cons (pv 2) pa_nil))) pe_bl (nomark _)) (pw_or1 (pt_cmpR (op_neWL hu) (pv 9) (pv 5) (nomark _)))))) (pss_one (ps_ret pe_bl)) pss_nil)
      (pss_cons (ps_if (pt_val (pe_isinC B (pv 10) rfl rfl Z.mP)) (pss_one (ps_clear (pe_fld (pv 10) rfl))) (pss_cons (ps_cut (ps_if (pt_cmpR op_lt (pv 8) pe_int (nomark _)) (pss_one (ps_clear (pe_fld (pv 10) rfl))) pss_nil)) (pss_one (ps_clear (pe_fld (pv 10) rfl)))))
      (pss_one (ps_if (PW.pt (pw_or (pt_cmpR op_isnotB (pe_either (pe_mt Z.hP clP hr4 (pv 10) (pa_cons (pv 2) pa_nil)) (pe_mt Z.hC clC hr4 (pv 10) (pa_cons (pv 2) pa_nil))) pe_bl (nomark _)) (pw_or1 (pt_cmpR (op_neWL hu) (pv 9) (pv 5) (nomark _))))) (pss_one (ps_ret pe_bl)) pss_nil)))))))))
    (pss_one (ps_ret (pe_cmpR op_eq (pe_isinC B (pe_cal Z.tell hr6 rfl (pa_cons (pv 2) pa_nil)) rfl rfl Z.mP) (pe_cmpR (op_neCL hu) (pv 3) (pe_lst pa_nil) (nomark _)) (nomark _)))))))))))), ?_⟩
  refine ⟨_, rfl, a, ns, 0, rfl, hq, Int.le_refl _, fun H1 tv N ws s1 ht gh => ?_⟩
  obtain ⟨p, l, ts, rfl, hp, hl, pu⟩ := id ht
  have i0 : atI [V.int (N : Int), V.ref l] 0 = some (V.int N) := rfl
  have i1 : atI [V.int (N : Int), V.ref l] 1 = some (V.ref l) := rfl
  have N1 := gh.lo
  have N8 := gh.hi
  refine ⟨_, rfl, p, _, 0, _, rfl, rfl, SqT.of hp, i0, _, rfl, p, _, 1, _, rfl, rfl, SqT.of hp, i1, fun x dq nq ndq neq => made_house nq ndq neq hl pu gh fun H2 s2 hh => ?_⟩
  refine ⟨_, rfl, .ref p, N, ws, rfl, ht.same s2, gh, fun H3 vc s3 ncl => ?_⟩
  obtain ⟨c, cvs, rfl, nc, ec, pc⟩ := id ncl
  have lc : cvs.length = (pleasing ws N).length := Paired.length pc
  have s03 := (s1.trans s2).trans s3
  refine ⟨_, rfl, a, ns, 2, rfl, s03.seq hq, by decide, fun cell => ⟨Nat.zero_le _, fun w0 hw0 => ?_⟩⟩
  have s4 : Same H3 (upd H3 w0 (.lst [])) := Same.laid hw0
  have hh4 := hh.same (s3.trans s4)
  have ht4 := ht.same ((s2.trans s3).trans s4)
  have cl4 : ClAt (upd H3 w0 (.lst [])) (.ref c) (pleasing ws N) := ncl.at.same s4
  have hq4 := (s03.trans s4).seq hq
  have hp4 := ((s2.trans s3).trans s4) _ _ hp
  have c5 : 0 ≤ cell % 5 := Int.emod_nonneg _ (by decide)
  have c5' : cell % 5 < 5 := Int.emod_lt_of_pos _ (by decide)
  -- what stands from here on, over the heap H3
  have ew0 : upd H3 w0 (.lst []) w0 = some (.lst []) := upd_same
  generalize upd H3 w0 (.lst []) = H4 at s4 hh4 ht4 cl4 hq4 hp4 ew0 ⊢
  refine ⟨_, rfl, _, _, rfl, rfl, (show (0 : Int) < 5 by decide), _, rfl, by omega, by omega, for_range (lo := 0) (n := (cell % 5).toNat) (fun i σ H5 => ∃ (us : List V) (xs : List W) (z6 : Option V), σ = [some (.ref a), some (.ref p), some (.ref x), some (.ref c), some (.int cell), some (.ref w0), z6, none, none, none, none] ∧ Same H3 H5 ∧ H5 w0 = some (.lst us) ∧ Ws H5 us xs ∧ (∀ y ∈ xs, InN N y) ∧ us.length = i) ⟨[], [], none, rfl, s4, ew0, .nil, fun y hy => by simp at hy, rfl⟩ ?_ ?_⟩
  · rintro i σ H5 hi ⟨us, xs, z6, rfl, s5, ew, wx, ix, li⟩
    have s05 := s03.trans s5
    have hp5 := ((s2.trans s3).trans s5) _ _ hp
    refine ⟨_, rfl, .inl ⟨rfl, _, SqL.of ew⟩, _, rfl, a, ns, 3, rfl, s05.seq hq, by decide, fun cell3 => ?_⟩
    refine ⟨_, _, rfl, rfl, ⟨by decide, by decide⟩, _, rfl, _, _, rfl, rfl, .inl ⟨by decide, by decide⟩, _, _, rfl, rfl, _, rfl, p, _, 0, _, rfl, rfl, SqT.of hp5, i0, _, N, rfl, N1, fun H6 v y s6 wy iy => ?_⟩
    refine ⟨w0, us, v, rfl, rfl, s6 _ _ ew, by rw [sizeLine_eq]; omega, ?_⟩
    have tp : Tups H6 (upd H6 w0 (.lst (us ++ [v]))) := lst_notup (s6 _ _ ew)
    refine ⟨us ++ [v], xs ++ [y], _, rfl, (s5.trans s6).chg hw0, upd_same, ws_cat ((wx.same s6).tups tp) (.cons (wy.tups tp) .nil), fun y' hy' => ?_, by simp [li]⟩
    rcases List.mem_append.mp hy' with z | z
    · exact ix y' z
    · have : y' = y := by simpa using z
      subst this
      exact iy
  rintro σ H5 ⟨us, xs, z6, rfl, s5, ew, wx, ix, li⟩
  have s35 : Same H3 H5 := s5
  have cl5 : ClAt H5 (.ref c) (pleasing ws N) := ncl.at.same s5
  refine ⟨fun σ' H6 => ∃ (l' : Addr) (xs' : List W) (z7 : Option V), σ' = [some (.ref a), some (.ref p), some (.ref x), some (.ref c), some (.int cell), some (.ref l'), z6, z7, none, none, none] ∧ Same H3 H6 ∧ WsAt N H3 H6 l' xs', ?_, ?_⟩
  · have keep0 : ∀ H6, Same H5 H6 → ∃ (l' : Addr) (xs' : List W) (z7 : Option V), [some (V.ref a), some (.ref p), some (.ref x), some (.ref c), some (.int cell), some (.ref w0), z6, none, none, none, none] = [some (.ref a), some (.ref p), some (.ref x), some (.ref c), some (.int cell), some (.ref l'), z6, z7, none, none, none] ∧ Same H3 H6 ∧ WsAt N H3 H6 l' xs' := fun H6 s6 => ⟨w0, xs, none, rfl, s5.trans s6, us, hw0, s6 _ _ ew, wx.same s6, ix, by omega⟩
    refine ⟨_, rfl, _, _, rfl, rfl, ⟨by decide, by decide⟩, _, _, rfl, rfl, (show (0 : Int) < 3 by decide), rfl, _, rfl, iteD (fun _ => ?_) (fun _ => iteF (keep0 H5 (Same.refl _)))⟩
    refine ⟨_, rfl, Nat.zero_le _, fun q hq' => ⟨pleasing ws N, [], (cl5.same (Same.laid hq')).cls, ⟨q, [], rfl, SqL.of upd_same, .nil⟩, _, rfl, ?_⟩⟩
    have s6 : Same H5 (upd H5 q (.lst [])) := Same.laid hq'
    generalize upd H5 q (.lst []) = H6 at s6 ⊢
    refine iteB (fun ne => ?_) (fun _ => keep0 H6 s6)
    have ne' : pleasing ws N ≠ [] := by simpa using ne
    have lp : 1 ≤ (pleasing ws N).length := List.length_pos_iff.mpr ne'
    have s36 := s5.trans s6
    have pos : 0 < (cvs.length : Int) := by omega
    have m0 : 0 ≤ cell / 15 % (cvs.length : Int) := Int.emod_nonneg _ (by omega)
    have m1 : cell / 15 % (cvs.length : Int) < cvs.length := Int.emod_lt_of_pos _ pos
    obtain ⟨cv, hcv, mcv⟩ := atI_in (xs := cvs) m0 m1
    obtain ⟨ci, hci⟩ := List.mem_iff_getElem?.mp mcv
    obtain ⟨bs, hbs, b, rfl, nb, eb⟩ := paired_get pc hci
    have mb := mem_pleasing.1 (List.mem_of_getElem? hbs)
    refine ⟨_, rfl, _, rfl, _, _, rfl, rfl, ⟨by decide, by decide⟩, _, rfl, c, cvs, rfl, .inl (SqL.of (s36 _ _ ec)), _, _, rfl, rfl, pos, c, cvs, _, _, rfl, rfl, SqL.of (s36 _ _ ec), hcv, ?_⟩
    refine ⟨_, rfl, w0, rfl, ⟨_, SqL.of (s6 _ _ ew)⟩, fun Dd hD => ?_⟩
    have qw : SqL K H6 w0 us := SqL.of (s6 _ _ ew)
    refine ⟨fun i m acc H7 => m = us.length - i ∧ i ≤ us.length ∧ Same H6 H7 ∧ H7 Dd = some (.lst acc) ∧ ∃ ys : List W, Ws H7 acc ys ∧ acc.length = i ∧ ∀ y ∈ ys, InN N y, ⟨us.length, by omega, Nat.zero_le _, Same.laid hD, upd_same, [], .nil, rfl, fun y hy => by simp at hy⟩, ?_⟩
    rintro i m acc H7 ⟨rfl, hi, s7, eD, ys, wy, la, iy⟩
    refine ⟨eD, by rw [sizeLine_eq]; omega, ?_⟩
    by_cases hlt : i < us.length
    · refine .inr ⟨itl_go s7 qw hlt, fun y H8 yy => ?_⟩
      obtain ⟨rfl, hy⟩ := itl_yld s7 qw yy
      obtain ⟨z, hz, z', rfl, ez⟩ := paired_get wx hy
      have iz := ix z (List.mem_of_getElem? hz)
      have c1 := atI_map (f := V.bl) (n := z.1) iz.1 (fOf_get mb.1 iz)
      refine ⟨z', _, _, rfl, SqT.of ((s6.trans s7) _ _ ez), ?_⟩
      simp only [tYes, if_true]
      refine ⟨_, rfl, _, rfl, _, rfl, b, _, z.1, _, rfl, rfl, SqL.of ((s36.trans s7) _ _ eb), c1, (by show 2 ≤ sizeLine; decide), fun t ht' => ?_⟩
      have s8 := Same.laid (o := .tup [V.int z.1, V.bl (fOf bs z.1)]) ht'
      have eD8 := s8 _ _ eD
      have tp : Tups (upd H8 t (.tup [V.int z.1, V.bl (fOf bs z.1)])) (upd (upd H8 t (.tup [V.int z.1, V.bl (fOf bs z.1)])) Dd (.lst (acc ++ [.ref t]))) := lst_notup eD8
      refine ⟨eD8, _, (by omega : us.length - (i + 1) < us.length - i), rfl, hlt, (s7.trans s8).chg hD, upd_same, ys ++ [(z.1, fOf bs z.1)], ws_cat ((wy.same s8).tups tp) (.cons (IsW.tups tp ⟨t, rfl, upd_same⟩) .nil), by simp [la], fun y hy => ?_⟩
      rcases List.mem_append.mp hy with w' | w'
      · exact iy y w'
      · have : y = (z.1, fOf bs z.1) := by simpa using w'
        subst this
        exact iz
    · have e : i = us.length := by omega
      subst e
      refine .inl ⟨itl_stop s7 qw, ?_⟩
      exact ⟨Dd, ys, _, rfl, s36.trans s7, acc, s36.free hD, eD, wy, iy, by omega⟩
  rintro σ H6 ⟨l', xs', z7, rfl, s6, wl⟩
  refine ⟨3, rfl, by decide, by decide, for_range (lo := 0) (n := (3 : Int).toNat) (fun i σ H7 => ∃ (l7 : Addr) (xs7 : List W) (z6 z7 z8 z9 zA : Option V), σ = [some (.ref a), some (.ref p), some (.ref x), some (.ref c), some (.int cell), some (.ref l7), z6, z7, z8, z9, zA] ∧ Same H3 H7 ∧ WsAt N H3 H7 l7 xs7) ⟨l', xs', _, _, none, none, none, rfl, s6, wl⟩ ?_ ?_⟩
  · rintro i σ H7 hi ⟨l7, xs7, y6, y7, y8, y9, yA, rfl, s7, w7⟩
    have hi3 : i < 3 := hi
    refine ⟨fun σ' H8 => ∃ (l8 : Addr) (xs8 : List W), σ' = [some (.ref a), some (.ref p), some (.ref x), some (.ref c), some (.int cell), some (.ref l8), y6, y7, some (.int (0 + (i : Int))), y9, yA] ∧ Same H3 H8 ∧ WsAt N H3 H8 l8 xs8, ?_, ?_⟩
    · refine ⟨_, rfl, rfl, _, rfl, iteD (fun _ => ?_) (fun _ => ⟨l7, xs7, rfl, s7, w7⟩)⟩
      have c7 : 0 ≤ cell / 7 % 7 := Int.emod_nonneg _ (by decide)
      have c7' : cell / 7 % 7 < 7 := Int.emod_lt_of_pos _ (by decide)
      refine ⟨_, rfl, _, _, rfl, rfl, ⟨by decide, by decide⟩, _, _, rfl, rfl, (show (0 : Int) < 7 by decide), _, rfl, by omega, by omega, fun Dd hD => ?_⟩
      refine comp_range (lo := 0) (n := (cell / 7 % 7).toNat) (js := [0, 1]) (tc := tYes) (te := te_l3b K) (fun j acc H8 => Same H7 H8 ∧ H8 Dd = some (.lst acc) ∧ ∃ ys : List W, Ws H8 acc ys ∧ acc.length = j ∧ ∀ y ∈ ys, InN N y) ⟨Same.laid hD, upd_same, [], .nil, rfl, fun y hy => by simp at hy⟩ ?_ ?_ ?_
      · rintro j acc H8 hj ⟨_, eD, ys, _, la, _⟩
        exact ⟨eD, by rw [sizeLine_eq]; omega⟩
      · rintro j acc H8 R' hj ⟨s8, eD, ys, wy, la, iy⟩ hR
        simp only [tYes, if_true]
        have s08 := s03.trans (s7.trans s8)
        have hp8 := (((s2.trans s3).trans s7).trans s8) _ _ hp
        refine ⟨_, rfl, a, ns, 4, rfl, s08.seq hq, by decide, fun cell4 => ?_⟩
        refine ⟨_, _, rfl, rfl, ⟨by decide, by decide⟩, _, rfl, _, _, rfl, rfl, .inl ⟨by decide, by decide⟩, _, _, rfl, rfl, _, rfl, p, _, 0, _, rfl, rfl, SqT.of hp8, i0, _, N, rfl, N1, fun H9 v y s9 wy' iy' => ?_⟩
        have eD9 := s9 _ _ eD
        have tp : Tups H9 (upd H9 Dd (.lst (acc ++ [v]))) := lst_notup eD9
        refine ⟨eD9, hR _ _ ⟨(s8.trans s9).chg hD, upd_same, ys ++ [y], ws_cat ((wy.same s9).tups tp) (.cons (wy'.tups tp) .nil), by simp [la], fun y' hy' => ?_⟩⟩
        rcases List.mem_append.mp hy' with z | z
        · exact iy y' z
        · have : y' = y := by simpa using z
          subst this
          exact iy'
      · rintro acc H8 ⟨s8, eD, ys, wy, la, iy⟩
        exact ⟨Dd, ys, rfl, s7.trans s8, acc, s7.free hD, eD, wy, iy, by omega⟩
    rintro σ H8 ⟨l8, xs8, rfl, s8, w8⟩
    obtain ⟨us8, n8, e8, wx8, ix8, l8'⟩ := id w8
    refine ⟨_, rfl, l8, us8, rfl, .inl (SqL.of e8), fun hd hhd => ?_⟩
    have s9 : Same H8 (upd H8 hd (.lst us8)) := Same.laid hhd
    have ehd : upd H8 hd (.lst us8) hd = some (.lst us8) := upd_same
    have nhd : H3 hd = none := s8.free hhd
    generalize upd H8 hd (.lst us8) = H9 at s9 ehd ⊢
    have s39 := s8.trans s9
    have cl9 : ClAt H9 (.ref c) (pleasing ws N) := ncl.at.same s39
    refine ⟨_, rfl, Nat.zero_le _, fun q hq' => ⟨pleasing ws N, [], (cl9.same (Same.laid hq')).cls, ⟨q, [], rfl, SqL.of upd_same, .nil⟩, _, rfl, ?_⟩⟩
    have sq : Same H9 (upd H9 q (.lst [])) := Same.laid hq'
    generalize upd H9 q (.lst []) = HA at sq ⊢
    have s9A := s9.trans sq
    have s3A := s39.trans sq
    have htA := ht.same ((s2.trans s3).trans s3A)
    have hhA := hh.same (s3.trans s3A)
    have ehA := sq _ _ ehd
    have e8A := s9A _ _ e8
    have wA := wx8.same s9A
    refine iteD (fun e0 => ?_) (fun ne => ?_)
    · refine ⟨_, rfl, _, rfl, _, rfl, _, _, hd, N, ws, us8, xs8, rfl, htA, hhA, gh, ehA, wA, ix8, l8', e0, fun HB sB => ⟨true, rfl, iteF ?_⟩⟩
      refine ⟨_, rfl, _, rfl, xs8, xs8, ⟨hd, us8, rfl, SqL.of (sB _ _ ehA), wA.same sB⟩, ⟨l8, us8, rfl, SqL.of (sB _ _ e8A), wA.same sB⟩, _, rfl, iteNS rfl ?_⟩
      exact ⟨l8, xs8, _, _, _, _, _, rfl, s3A.trans sB, us8, n8, sB _ _ e8A, wA.same sB, ix8, l8'⟩
    refine ⟨_, rfl, _, rfl, _, hd, N, ws, us8, xs8, rfl, hhA, gh, ehA, wA, ix8, l8', fun _ HB v sB ok => ?_, fun e0 => absurd e0 ne⟩
    have s3B := s3A.trans sB
    have htB := htA.same sB
    have hhB := hhA.same sB
    have ehB := sB _ _ ehA
    have e8B := sB _ _ e8A
    have wB := wA.same sB
    rcases ok with ⟨bs, ⟨pp, dx, b, rfl, np, nb, ep, eb⟩, lb, pl, hx⟩ | ⟨cs, ⟨pp, dx, b, b2, us2, vs2, rfl, np, nb, nb2, nbb, ep, eb, wb, eb2, wb2⟩, cb, ic, l17⟩
    · have l9 : bs.length ≤ 1000 := by omega
      refine ⟨_, rfl, _, rfl, _, rfl, _, l8, pp, N, ws, us8, xs8, rfl, htB, gh, e8B, wB, ix8, l8', .inl ⟨dx, b, bs, ep, eb, lb, pl, hx⟩, fun HC sC => ⟨true, rfl, iteF ?_⟩⟩
      refine .inl ⟨_, rfl, pp, dx, _, rfl, sC _ _ ep, plF_holds _, _, rfl, pp, dx, b, _, N, ws, bs, rfl, sC _ _ ep, sC _ _ eb, l9, hhB.same sC, gh, fun HD sD => ?_⟩
      rw [plB_true lb pl]
      have sBD := sC.trans sD
      refine ⟨true, true, rfl, rfl, _, rfl, iteNS rfl ⟨_, rfl, _, rfl, xs8, xs8, ⟨hd, us8, rfl, SqL.of (sBD _ _ ehB), wB.same sBD⟩, ⟨l8, us8, rfl, SqL.of (sBD _ _ e8B), wB.same sBD⟩, _, rfl, iteNS rfl ?_⟩⟩
      have epD := sBD _ _ ep
      have ebD := sBD _ _ eb
      have cpp : pp ≠ b := ne_of epD ebD (by intro z; cases z)
      refine ⟨_, rfl, _, _, _, true, rfl, Z.tP.toOwnC.ty epD, kt.pp, true, rfl, iteT ?_⟩
      refine ⟨_, rfl, pp, CP, dx, _, _, rfl, epD, clP, Z.tP.nC, plF_choice _, .inl ⟨rfl, _, SqL.of ebD⟩, b, _, rfl, rfl, ebD, ?_⟩
      have nb3 : H3 b = none := s3A.free nb
      have tE : Tups HD (upd HD b (.lst [])) := lst_notup ebD
      have sE : Same H3 (upd HD b (.lst [])) := (s3B.trans sBD).chg nb3
      have bh : hd ≠ b := ne_of_none ehA nb
      have b8 : l8 ≠ b := ne_of_none e8A nb
      have ehE : upd HD b (.lst []) hd = some (.lst us8) := by rw [upd_ne bh]; exact sBD _ _ ehB
      have e8E : upd HD b (.lst []) l8 = some (.lst us8) := by rw [upd_ne b8]; exact sBD _ _ e8B
      have wE : Ws (upd HD b (.lst [])) us8 xs8 := Ws.tups tE (wB.same sBD)
      have epE : upd HD b (.lst []) pp = some (.ins CP dx (plF b)) := by rw [upd_ne cpp]; exact epD
      have ebE : upd HD b (.lst []) b = some (.lst (([] : List Bool).map V.bl)) := upd_same
      generalize upd HD b (.lst []) = HE at sE ehE e8E wE epE ebE ⊢
      refine .inl ⟨_, rfl, pp, dx, _, rfl, epE, plF_holds _, _, rfl, pp, dx, b, _, N, ws, [], rfl, epE, ebE, by simp, hh.same (s3.trans sE), gh, fun HF sF => ?_⟩
      rw [plB_nil N1]
      refine ⟨false, false, rfl, rfl, _, rfl, iteNS rfl ⟨_, rfl, _, rfl, xs8, xs8, ⟨hd, us8, rfl, SqL.of (sF _ _ ehE), wE.same sF⟩, ⟨l8, us8, rfl, SqL.of (sF _ _ e8E), wE.same sF⟩, _, rfl, iteNS rfl ?_⟩⟩
      exact ⟨l8, xs8, _, _, _, _, _, rfl, sE.trans sF, us8, n8, sF _ _ e8E, wE.same sF, ix8, l8'⟩
    · have lu2 : us2.length ≤ 1000 := by
        have e1 := Paired.length wb
        have e2 := Paired.length wx8
        omega
      have lv2 : vs2.length ≤ 1000 := by rw [Paired.length wb2]; omega
      refine ⟨_, rfl, _, rfl, _, rfl, _, l8, pp, N, ws, us8, xs8, rfl, htB, gh, e8B, wB, ix8, l8', .inr ⟨dx, b, b2, us2, vs2, cs, ep, eb, wb, eb2, wb2, cb, ic, l17⟩, fun HC sC => ⟨true, rfl, iteF ?_⟩⟩
      refine .inr ⟨_, rfl, pp, dx, _, rfl, sC _ _ ep, clF_holds _ _, _, rfl, pp, dx, b, b2, _, N, ws, us2, vs2, xs8, cs, rfl, sC _ _ ep, sC _ _ eb, wb.same sC, sC _ _ eb2, wb2.same sC, lu2, lv2, ic, hhB.same sC, fun HD sD => ?_⟩
      rw [cb]
      have sBD := sC.trans sD
      refine ⟨true, true, rfl, rfl, _, rfl, iteNS rfl ⟨_, rfl, _, rfl, xs8, xs8, ⟨hd, us8, rfl, SqL.of (sBD _ _ ehB), wB.same sBD⟩, ⟨l8, us8, rfl, SqL.of (sBD _ _ e8B), wB.same sBD⟩, _, rfl, iteNS rfl ?_⟩⟩
      have epD := sBD _ _ ep
      have ebD := sBD _ _ eb
      have eb2D := sBD _ _ eb2
      have cp1 : pp ≠ b := ne_of epD ebD (by intro z; cases z)
      have cp2 : pp ≠ b2 := ne_of epD eb2D (by intro z; cases z)
      have nb3 : H3 b = none := s3A.free nb
      have nb23 : H3 b2 = none := s3A.free nb2
      have bh : hd ≠ b := ne_of_none ehA nb
      have b8 : l8 ≠ b := ne_of_none e8A nb
      have bh2 : hd ≠ b2 := ne_of_none ehA nb2
      have b82 : l8 ≠ b2 := ne_of_none e8A nb2
      refine ⟨_, rfl, _, _, _, false, rfl, Z.tC.toOwnC.ty epD, kt.cp, false, rfl, iteF ?_⟩
      refine ⟨fun σ' HE => ∃ (vsE : List V) (csE : List W), σ' = [some (.ref a), some (.ref p), some (.ref x), some (.ref c), some (.int cell), some (.ref l8), y6, y7, some (.int (0 + (i : Int))), some (.ref hd), some (.ref pp)] ∧ Same H3 HE ∧ HE hd = some (.lst us8) ∧ HE l8 = some (.lst us8) ∧ Ws HE us8 xs8 ∧ HE pp = some (.ins CC dx (clF b b2)) ∧ HE b = some (.lst us2) ∧ HE b2 = some (.lst vsE) ∧ Ws HE vsE csE ∧ vsE.length ≤ 1000 ∧ ∀ y ∈ csE, InN N y, ?_, ?_⟩
      · refine ⟨_, rfl, _, _, rfl, rfl, _, rfl, iteB (fun _ => ?_) (fun _ => ⟨vs2, cs, rfl, s3B.trans sBD, sBD _ _ ehB, sBD _ _ e8B, wB.same sBD, epD, ebD, eb2D, wb2.same sBD, lv2, ic⟩)⟩
        refine ⟨_, rfl, pp, CC, dx, _, _, rfl, epD, clC, Z.tC.nL, clF_links _ _, .inl ⟨rfl, _, SqL.of eb2D⟩, b2, _, rfl, rfl, eb2D, ?_⟩
        have tE : Tups HD (upd HD b2 (.lst [])) := lst_notup eb2D
        refine ⟨[], [], rfl, (s3B.trans sBD).chg nb23, by rw [upd_ne bh2]; exact sBD _ _ ehB, by rw [upd_ne b82]; exact sBD _ _ e8B, Ws.tups tE (wB.same sBD), by rw [upd_ne cp2]; exact epD, by rw [upd_ne nbb]; exact ebD, upd_same, .nil, by simp, fun y hy => by simp at hy⟩
      rintro σ HE ⟨vsE, csE, rfl, sE, ehE, e8E, wE, epE, ebE, eb2E, wvE, lvE, icE⟩
      refine ⟨_, rfl, pp, CC, dx, _, _, rfl, epE, clC, Z.tC.nW, clF_words _ _, .inl ⟨rfl, _, SqL.of ebE⟩, b, _, rfl, rfl, ebE, ?_⟩
      have tF : Tups HE (upd HE b (.lst [])) := lst_notup ebE
      have sF : Same H3 (upd HE b (.lst [])) := sE.chg nb3
      have ehF : upd HE b (.lst []) hd = some (.lst us8) := by rw [upd_ne bh]; exact ehE
      have e8F : upd HE b (.lst []) l8 = some (.lst us8) := by rw [upd_ne b8]; exact e8E
      have wF : Ws (upd HE b (.lst [])) us8 xs8 := Ws.tups tF wE
      have epF : upd HE b (.lst []) pp = some (.ins CC dx (clF b b2)) := by rw [upd_ne cp1]; exact epE
      have ebF : upd HE b (.lst []) b = some (.lst []) := upd_same
      have eb2F : upd HE b (.lst []) b2 = some (.lst vsE) := by rw [upd_ne nbb.symm]; exact eb2E
      have wvF : Ws (upd HE b (.lst [])) vsE csE := Ws.tups tF wvE
      generalize upd HE b (.lst []) = HF at sF ehF e8F wF epF ebF eb2F wvF ⊢
      refine .inr ⟨_, rfl, pp, dx, _, rfl, epF, clF_holds _ _, _, rfl, pp, dx, b, b2, _, N, ws, [], vsE, [], csE, rfl, epF, ebF, .nil, eb2F, wvF, by simp, lvE, icE, hh.same (s3.trans sF), fun HG sG => ?_⟩
      rw [clB_no]
      refine ⟨false, false, rfl, rfl, _, rfl, iteNS rfl ⟨_, rfl, _, rfl, xs8, xs8, ⟨hd, us8, rfl, SqL.of (sG _ _ ehF), wF.same sG⟩, ⟨l8, us8, rfl, SqL.of (sG _ _ e8F), wF.same sG⟩, _, rfl, iteNS rfl ?_⟩⟩
      exact ⟨l8, xs8, _, _, _, _, _, rfl, sF.trans sG, us8, n8, sG _ _ e8F, wF.same sG, ix8, l8'⟩
  · rintro σ H7 ⟨l7, xs7, y6, y7, y8, y9, yA, rfl, s7, w7⟩
    have cl7 : ClAt H7 (.ref c) (pleasing ws N) := ncl.at.same s7
    refine ⟨_, rfl, _, N, ws, rfl, hh.same (s3.trans s7), gh, fun H8 v bs s8 nw lb pl => ?_, fun pe H8 v cs ds s8 nt tb ia ib la lb => ?_⟩
    · obtain ⟨pp, dx, b, rfl, np, nb, ep, eb⟩ := nw
      refine ⟨_, _, _, true, rfl, Z.tP.toOwnC.ty ep, kt.pp, _, rfl, Nat.zero_le _, fun q hq' => ⟨pleasing ws N, [], ((cl7.same s8).same (Same.laid hq')).cls, ⟨q, [], rfl, SqL.of upd_same, .nil⟩, rfl, ?_⟩⟩
      have ne : pleasing ws N ≠ [] := List.ne_nil_of_mem (mem_pleasing.2 ⟨lb, pl⟩)
      rw [decide_eq_false ne]
      exact k _
    · obtain ⟨pp, dx, b, b2, us2, vs2, rfl, np, nb, nb2, nbb, ep, r⟩ := nt
      refine ⟨_, _, _, false, rfl, Z.tT.toOwnC.ty ep, Z.tp, _, rfl, Nat.zero_le _, fun q hq' => ⟨pleasing ws N, [], ((cl7.same s8).same (Same.laid hq')).cls, ⟨q, [], rfl, SqL.of upd_same, .nil⟩, rfl, ?_⟩⟩
      rw [decide_eq_true pe]
      exact k _
end
end L2

end

section
set_option autoImplicit false
set_option maxRecDepth 100000
set_option linter.all false
namespace L2
open PySem PySem.Spec PyProof.Rows EoD Eo
theorem len0 {us : List Value} (h : us.length = 0) : us = [] := List.length_eq_zero_iff.mp h
theorem len1 {us : List Value} (h : us.length = 1) : ∃ a, us = [a] := by
  cases us with
  | nil => cases h
  | cons a r => exact ⟨a, by rw [len0 (Nat.succ.inj h)]⟩
theorem len2 {us : List Value} (h : us.length = 2) : ∃ a b, us = [a, b] := by
  cases us with
  | nil => cases h
  | cons a r => obtain ⟨b, e⟩ := len1 (Nat.succ.inj h); exact ⟨a, b, by rw [e]⟩
theorem len3 {us : List Value} (h : us.length = 3) : ∃ a b c, us = [a, b, c] := by
  cases us with
  | nil => cases h
  | cons a r => obtain ⟨b, c, e⟩ := len2 (Nat.succ.inj h); exact ⟨a, b, c, by rw [e]⟩
theorem def_mk {K : PySem.W.Frag} {mg : Str → Option Value} {h : Heap} {x : Str} {st : Stmt} {ps : List Str} {f : Addr} {oc : Value} {od an : Option Addr} {osl : Array (Option Value)} {kV doc pm cdv ct : Value}
    (hb : ∀ (kV doc pm : Value) (an : Option Addr) (cdv ct : Value) (us : List Value), us.length = ps.length → bindArgs (PySem.W.fnOf x x (defArgs st) (defBody st) (defScope st) .none kV doc pm an cdv ct) ⟨us, []⟩ = pure (ps.zip us))
    (X : K.In h) (G : h.Ns mainGlobals mg) (a : PySem.W.nsIn K mainGlobals x = some (some (.ref f))) (l : K.lookup f = some ⟨oc, od, .func (PySem.W.fnOf x x (defArgs st) (defBody st) (defScope st) .none kV doc pm an cdv ct), osl⟩)
    (c : PySem.W.codeIn K cdv x = true) (k : PySem.W.keepIn K (.ref f) = true) : Def K mg x st ps :=
  ⟨f, _, fun_mk l c k, PySem.W.mg_of X G a, (fun_mk l c k).binds hb⟩
set_option maxHeartbeats 8000000 in
theorem all_mk {l : PySem.W.OpenLaw} {w : World} {K : PySem.W.Frag} {h : Heap} {mg : Str → Option Value} {fa : Addr} (X : K.In h) (G : h.Ns mainGlobals mg) (hfa : mg "law" = some (.ref fa))
    {C : Addr}
    {CA : Addr}
    {CP : Addr}
    {CT : Addr}
    {CC : Addr}
    {CW : Addr}
    {CU : Addr}
    {BC : Addr}
    {BH : Addr}
    {BW : Addr}
    {BT : Addr}
    {f_num : Addr} {od_num an_num : Option Addr} {sl_num : Array (Option Value)} {oc_num kV_num dc_num pm_num cd_num ct_num : Value}
    {f_word : Addr} {od_word an_word : Option Addr} {sl_word : Array (Option Value)} {oc_word kV_word dc_word pm_word cd_word ct_word : Value}
    {f_wish : Addr} {od_wish an_wish : Option Addr} {sl_wish : Array (Option Value)} {oc_wish kV_wish dc_wish pm_wish cd_wish ct_wish : Value}
    {f_check : Addr} {od_check an_check : Option Addr} {sl_check : Array (Option Value)} {oc_check kV_check dc_check pm_check cd_check ct_check : Value}
    {f_opp : Addr} {od_opp an_opp : Option Addr} {sl_opp : Array (Option Value)} {oc_opp kV_opp dc_opp pm_opp cd_opp ct_opp : Value}
    {f_said : Addr} {od_said an_said : Option Addr} {sl_said : Array (Option Value)} {oc_said kV_said dc_said pm_said cd_said ct_said : Value}
    {f_ahead : Addr} {od_ahead an_ahead : Option Addr} {sl_ahead : Array (Option Value)} {oc_ahead kV_ahead dc_ahead pm_ahead cd_ahead ct_ahead : Value}
    {f_chain : Addr} {od_chain an_chain : Option Addr} {sl_chain : Array (Option Value)} {oc_chain kV_chain dc_chain pm_chain cd_chain ct_chain : Value}
    {f_isch : Addr} {od_isch an_isch : Option Addr} {sl_isch : Array (Option Value)} {oc_isch kV_isch dc_isch pm_isch cd_isch ct_isch : Value}
    {f_has : Addr} {od_has an_has : Option Addr} {sl_has : Array (Option Value)} {oc_has kV_has dc_has pm_has cd_has ct_has : Value}
    {f_pls : Addr} {od_pls an_pls : Option Addr} {sl_pls : Array (Option Value)} {oc_pls kV_pls dc_pls pm_pls cd_pls ct_pls : Value}
    {f_disp : Addr} {od_disp an_disp : Option Addr} {sl_disp : Array (Option Value)} {oc_disp kV_disp dc_disp pm_disp cd_disp ct_disp : Value}
    {f_allch : Addr} {od_allch an_allch : Option Addr} {sl_allch : Array (Option Value)} {oc_allch kV_allch dc_allch pm_allch cd_allch ct_allch : Value}
    {f_plsch : Addr} {od_plsch an_plsch : Option Addr} {sl_plsch : Array (Option Value)} {oc_plsch kV_plsch dc_plsch pm_plsch cd_plsch ct_plsch : Value}
    {f_ischain : Addr} {od_ischain an_ischain : Option Addr} {sl_ischain : Array (Option Value)} {oc_ischain kV_ischain dc_ischain pm_ischain cd_ischain ct_ischain : Value}
    {f_leads : Addr} {od_leads an_leads : Option Addr} {sl_leads : Array (Option Value)} {oc_leads kV_leads dc_leads pm_leads cd_leads ct_leads : Value}
    {f_ftorn : Addr} {od_ftorn an_ftorn : Option Addr} {sl_ftorn : Array (Option Value)} {oc_ftorn kV_ftorn dc_ftorn pm_ftorn cd_ftorn ct_ftorn : Value}
    {f_tell : Addr} {od_tell an_tell : Option Addr} {sl_tell : Array (Option Value)} {oc_tell kV_tell dc_tell pm_tell cd_tell ct_tell : Value}
    {f_cpls : Addr} {od_cpls an_cpls : Option Addr} {sl_cpls : Array (Option Value)} {oc_cpls kV_cpls dc_cpls pm_cpls cd_cpls ct_cpls : Value}
    {f_cwords : Addr} {od_cwords an_cwords : Option Addr} {sl_cwords : Array (Option Value)} {oc_cwords kV_cwords dc_cwords pm_cwords cd_cwords ct_cwords : Value}
    {f_fclash : Addr} {od_fclash an_fclash : Option Addr} {sl_fclash : Array (Option Value)} {oc_fclash kV_fclash dc_fclash pm_fclash cd_fclash ct_fclash : Value}
    {f_keep : Addr} {od_keep an_keep : Option Addr} {sl_keep : Array (Option Value)} {oc_keep kV_keep dc_keep pm_keep cd_keep ct_keep : Value}
    {f_cell : Addr} {od_cell an_cell : Option Addr} {sl_cell : Array (Option Value)} {oc_cell kV_cell dc_cell pm_cell cd_cell ct_cell : Value}
    {f_draw : Addr} {od_draw an_draw : Option Addr} {sl_draw : Array (Option Value)} {oc_draw kV_draw dc_draw pm_draw cd_draw ct_draw : Value}
    {f_told : Addr} {od_told an_told : Option Addr} {sl_told : Array (Option Value)} {oc_told kV_told dc_told pm_told cd_told ct_told : Value}
    {f_lword : Addr} {od_lword an_lword : Option Addr} {sl_lword : Array (Option Value)} {oc_lword kV_lword dc_lword pm_lword cd_lword ct_lword : Value}
    {f_lnot : Addr} {od_lnot an_lnot : Option Addr} {sl_lnot : Array (Option Value)} {oc_lnot kV_lnot dc_lnot pm_lnot cd_lnot ct_lnot : Value}
    {f_lnext : Addr} {od_lnext an_lnext : Option Addr} {sl_lnext : Array (Option Value)} {oc_lnext kV_lnext dc_lnext pm_lnext cd_lnext ct_lnext : Value}
    {f_lchain : Addr} {od_lchain an_lchain : Option Addr} {sl_lchain : Array (Option Value)} {oc_lchain kV_lchain dc_lchain pm_lchain cd_lchain ct_lchain : Value}
    {f_lwords : Addr} {od_lwords an_lwords : Option Addr} {sl_lwords : Array (Option Value)} {oc_lwords kV_lwords dc_lwords pm_lwords cd_lwords ct_lwords : Value}
    {f_lpls : Addr} {od_lpls an_lpls : Option Addr} {sl_lpls : Array (Option Value)} {oc_lpls kV_lpls dc_lpls pm_lpls cd_lpls ct_lpls : Value}
    {f_lchoices : Addr} {od_lchoices an_lchoices : Option Addr} {sl_lchoices : Array (Option Value)} {oc_lchoices kV_lchoices dc_lchoices pm_lchoices cd_lchoices ct_lchoices : Value}
    {f_l3ref : Addr} {od_l3ref an_l3ref : Option Addr} {sl_l3ref : Array (Option Value)} {oc_l3ref kV_l3ref dc_l3ref pm_l3ref cd_l3ref ct_l3ref : Value}
    {f_l3right : Addr} {od_l3right an_l3right : Option Addr} {sl_l3right : Array (Option Value)} {oc_l3right kV_l3right dc_l3right pm_l3right cd_l3right ct_l3right : Value}
    {f_init : Addr} {od_init an_init : Option Addr} {sl_init : Array (Option Value)} {oc_init kV_init dc_init pm_init cd_init ct_init : Value}
    {f_wishes : Addr} {od_wishes an_wishes : Option Addr} {sl_wishes : Array (Option Value)} {oc_wishes kV_wishes dc_wishes pm_wishes cd_wishes ct_wishes : Value}
    {f_plinit : Addr} {od_plinit an_plinit : Option Addr} {sl_plinit : Array (Option Value)} {oc_plinit kV_plinit dc_plinit pm_plinit cd_plinit ct_plinit : Value}
    {f_plholds : Addr} {od_plholds an_plholds : Option Addr} {sl_plholds : Array (Option Value)} {oc_plholds kV_plholds dc_plholds pm_plholds cd_plholds ct_plholds : Value}
    {f_toinit : Addr} {od_toinit an_toinit : Option Addr} {sl_toinit : Array (Option Value)} {oc_toinit kV_toinit dc_toinit pm_toinit cd_toinit ct_toinit : Value}
    {f_toholds : Addr} {od_toholds an_toholds : Option Addr} {sl_toholds : Array (Option Value)} {oc_toholds kV_toholds dc_toholds pm_toholds cd_toholds ct_toholds : Value}
    {f_clinit : Addr} {od_clinit an_clinit : Option Addr} {sl_clinit : Array (Option Value)} {oc_clinit kV_clinit dc_clinit pm_clinit cd_clinit ct_clinit : Value}
    {f_clholds : Addr} {od_clholds an_clholds : Option Addr} {sl_clholds : Array (Option Value)} {oc_clholds kV_clholds dc_clholds pm_clholds cd_clholds ct_clholds : Value}
    {f_uninit : Addr} {od_uninit an_uninit : Option Addr} {sl_uninit : Array (Option Value)} {oc_uninit kV_uninit dc_uninit pm_uninit cd_uninit ct_uninit : Value}
    {f_law : Addr} {od_law an_law : Option Addr} {sl_law : Array (Option Value)} {oc_law kV_law dc_law pm_law cd_law ct_law : Value}
    {t8 : Tok}
    {t24 : Tok}
    (aC : PySem.W.nsIn K mainGlobals "House" = some (some (.ref C)))
    (aCA : PySem.W.nsIn K mainGlobals "Answer" = some (some (.ref CA)))
    (aCP : PySem.W.nsIn K mainGlobals "Pleased" = some (some (.ref CP)))
    (aCT : PySem.W.nsIn K mainGlobals "Torn" = some (some (.ref CT)))
    (aCC : PySem.W.nsIn K mainGlobals "Clash" = some (some (.ref CC)))
    (aCW : PySem.W.nsIn K mainGlobals "WishError" = some (some (.ref CW)))
    (aCU : PySem.W.nsIn K mainGlobals "Unpleased" = some (some (.ref CU)))
    (aBC : PySem.W.nsIn K mainGlobals "BadChoice" = some (some (.ref BC)))
    (aBH : PySem.W.nsIn K mainGlobals "BadHouse" = some (some (.ref BH)))
    (aBW : PySem.W.nsIn K mainGlobals "BadWord" = some (some (.ref BW)))
    (aBT : PySem.W.nsIn K mainGlobals "BadText" = some (some (.ref BT)))
    (a_num : PySem.W.nsIn K mainGlobals "is_number" = some (some (.ref f_num)))
    (l_num : K.lookup f_num = some ⟨oc_num, od_num, .func (PySem.W.fnOf "is_number" "is_number" (defArgs S_num) (defBody S_num) (defScope S_num) .none kV_num dc_num pm_num an_num cd_num ct_num), sl_num⟩)
    (c_num : PySem.W.codeIn K cd_num "is_number" = true)
    (k_num : PySem.W.keepIn K (.ref f_num) = true)
    (a_word : PySem.W.nsIn K mainGlobals "is_word" = some (some (.ref f_word)))
    (l_word : K.lookup f_word = some ⟨oc_word, od_word, .func (PySem.W.fnOf "is_word" "is_word" (defArgs S_word) (defBody S_word) (defScope S_word) .none kV_word dc_word pm_word an_word cd_word ct_word), sl_word⟩)
    (c_word : PySem.W.codeIn K cd_word "is_word" = true)
    (k_word : PySem.W.keepIn K (.ref f_word) = true)
    (a_wish : PySem.W.nsIn K mainGlobals "is_wish" = some (some (.ref f_wish)))
    (l_wish : K.lookup f_wish = some ⟨oc_wish, od_wish, .func (PySem.W.fnOf "is_wish" "is_wish" (defArgs S_wish) (defBody S_wish) (defScope S_wish) .none kV_wish dc_wish pm_wish an_wish cd_wish ct_wish), sl_wish⟩)
    (c_wish : PySem.W.codeIn K cd_wish "is_wish" = true)
    (k_wish : PySem.W.keepIn K (.ref f_wish) = true)
    (a_check : PySem.W.nsIn K mainGlobals "check_word" = some (some (.ref f_check)))
    (l_check : K.lookup f_check = some ⟨oc_check, od_check, .func (PySem.W.fnOf "check_word" "check_word" (defArgs S_check) (defBody S_check) (defScope S_check) .none kV_check dc_check pm_check an_check cd_check ct_check), sl_check⟩)
    (c_check : PySem.W.codeIn K cd_check "check_word" = true)
    (k_check : PySem.W.keepIn K (.ref f_check) = true)
    (a_opp : PySem.W.nsIn K mainGlobals "opposite" = some (some (.ref f_opp)))
    (l_opp : K.lookup f_opp = some ⟨oc_opp, od_opp, .func (PySem.W.fnOf "opposite" "opposite" (defArgs S_opp) (defBody S_opp) (defScope S_opp) .none kV_opp dc_opp pm_opp an_opp cd_opp ct_opp), sl_opp⟩)
    (c_opp : PySem.W.codeIn K cd_opp "opposite" = true)
    (k_opp : PySem.W.keepIn K (.ref f_opp) = true)
    (a_said : PySem.W.nsIn K mainGlobals "said_next" = some (some (.ref f_said)))
    (l_said : K.lookup f_said = some ⟨oc_said, od_said, .func (PySem.W.fnOf "said_next" "said_next" (defArgs S_said) (defBody S_said) (defScope S_said) .none kV_said dc_said pm_said an_said cd_said ct_said), sl_said⟩)
    (c_said : PySem.W.codeIn K cd_said "said_next" = true)
    (k_said : PySem.W.keepIn K (.ref f_said) = true)
    (a_ahead : PySem.W.nsIn K mainGlobals "words_ahead" = some (some (.ref f_ahead)))
    (l_ahead : K.lookup f_ahead = some ⟨oc_ahead, od_ahead, .func (PySem.W.fnOf "words_ahead" "words_ahead" (defArgs S_ahead) (defBody S_ahead) (defScope S_ahead) .none kV_ahead dc_ahead pm_ahead an_ahead cd_ahead ct_ahead), sl_ahead⟩)
    (c_ahead : PySem.W.codeIn K cd_ahead "words_ahead" = true)
    (k_ahead : PySem.W.keepIn K (.ref f_ahead) = true)
    (a_chain : PySem.W.nsIn K mainGlobals "chain" = some (some (.ref f_chain)))
    (l_chain : K.lookup f_chain = some ⟨oc_chain, od_chain, .func (PySem.W.fnOf "chain" "chain" (defArgs S_chain) (defBody S_chain) (defScope S_chain) .none kV_chain dc_chain pm_chain an_chain cd_chain ct_chain), sl_chain⟩)
    (c_chain : PySem.W.codeIn K cd_chain "chain" = true)
    (k_chain : PySem.W.keepIn K (.ref f_chain) = true)
    (a_isch : PySem.W.nsIn K mainGlobals "is_choice" = some (some (.ref f_isch)))
    (l_isch : K.lookup f_isch = some ⟨oc_isch, od_isch, .func (PySem.W.fnOf "is_choice" "is_choice" (defArgs S_isch) (defBody S_isch) (defScope S_isch) .none kV_isch dc_isch pm_isch an_isch cd_isch ct_isch), sl_isch⟩)
    (c_isch : PySem.W.codeIn K cd_isch "is_choice" = true)
    (k_isch : PySem.W.keepIn K (.ref f_isch) = true)
    (a_has : PySem.W.nsIn K mainGlobals "has_word" = some (some (.ref f_has)))
    (l_has : K.lookup f_has = some ⟨oc_has, od_has, .func (PySem.W.fnOf "has_word" "has_word" (defArgs S_has) (defBody S_has) (defScope S_has) .none kV_has dc_has pm_has an_has cd_has ct_has), sl_has⟩)
    (c_has : PySem.W.codeIn K cd_has "has_word" = true)
    (k_has : PySem.W.keepIn K (.ref f_has) = true)
    (a_pls : PySem.W.nsIn K mainGlobals "pleases" = some (some (.ref f_pls)))
    (l_pls : K.lookup f_pls = some ⟨oc_pls, od_pls, .func (PySem.W.fnOf "pleases" "pleases" (defArgs S_pls) (defBody S_pls) (defScope S_pls) .none kV_pls dc_pls pm_pls an_pls cd_pls ct_pls), sl_pls⟩)
    (c_pls : PySem.W.codeIn K cd_pls "pleases" = true)
    (k_pls : PySem.W.keepIn K (.ref f_pls) = true)
    (a_disp : PySem.W.nsIn K mainGlobals "displeased" = some (some (.ref f_disp)))
    (l_disp : K.lookup f_disp = some ⟨oc_disp, od_disp, .func (PySem.W.fnOf "displeased" "displeased" (defArgs S_disp) (defBody S_disp) (defScope S_disp) .none kV_disp dc_disp pm_disp an_disp cd_disp ct_disp), sl_disp⟩)
    (c_disp : PySem.W.codeIn K cd_disp "displeased" = true)
    (k_disp : PySem.W.keepIn K (.ref f_disp) = true)
    (a_allch : PySem.W.nsIn K mainGlobals "all_choices" = some (some (.ref f_allch)))
    (l_allch : K.lookup f_allch = some ⟨oc_allch, od_allch, .func (PySem.W.fnOf "all_choices" "all_choices" (defArgs S_allch) (defBody S_allch) (defScope S_allch) .none kV_allch dc_allch pm_allch an_allch cd_allch ct_allch), sl_allch⟩)
    (c_allch : PySem.W.codeIn K cd_allch "all_choices" = true)
    (k_allch : PySem.W.keepIn K (.ref f_allch) = true)
    (a_plsch : PySem.W.nsIn K mainGlobals "pleasing_choices" = some (some (.ref f_plsch)))
    (l_plsch : K.lookup f_plsch = some ⟨oc_plsch, od_plsch, .func (PySem.W.fnOf "pleasing_choices" "pleasing_choices" (defArgs S_plsch) (defBody S_plsch) (defScope S_plsch) .none kV_plsch dc_plsch pm_plsch an_plsch cd_plsch ct_plsch), sl_plsch⟩)
    (c_plsch : PySem.W.codeIn K cd_plsch "pleasing_choices" = true)
    (k_plsch : PySem.W.keepIn K (.ref f_plsch) = true)
    (a_ischain : PySem.W.nsIn K mainGlobals "is_chain" = some (some (.ref f_ischain)))
    (l_ischain : K.lookup f_ischain = some ⟨oc_ischain, od_ischain, .func (PySem.W.fnOf "is_chain" "is_chain" (defArgs S_ischain) (defBody S_ischain) (defScope S_ischain) .none kV_ischain dc_ischain pm_ischain an_ischain cd_ischain ct_ischain), sl_ischain⟩)
    (c_ischain : PySem.W.codeIn K cd_ischain "is_chain" = true)
    (k_ischain : PySem.W.keepIn K (.ref f_ischain) = true)
    (a_leads : PySem.W.nsIn K mainGlobals "leads_to_opposite" = some (some (.ref f_leads)))
    (l_leads : K.lookup f_leads = some ⟨oc_leads, od_leads, .func (PySem.W.fnOf "leads_to_opposite" "leads_to_opposite" (defArgs S_leads) (defBody S_leads) (defScope S_leads) .none kV_leads dc_leads pm_leads an_leads cd_leads ct_leads), sl_leads⟩)
    (c_leads : PySem.W.codeIn K cd_leads "leads_to_opposite" = true)
    (k_leads : PySem.W.keepIn K (.ref f_leads) = true)
    (a_ftorn : PySem.W.nsIn K mainGlobals "find_torn" = some (some (.ref f_ftorn)))
    (l_ftorn : K.lookup f_ftorn = some ⟨oc_ftorn, od_ftorn, .func (PySem.W.fnOf "find_torn" "find_torn" (defArgs S_ftorn) (defBody S_ftorn) (defScope S_ftorn) .none kV_ftorn dc_ftorn pm_ftorn an_ftorn cd_ftorn ct_ftorn), sl_ftorn⟩)
    (c_ftorn : PySem.W.codeIn K cd_ftorn "find_torn" = true)
    (k_ftorn : PySem.W.keepIn K (.ref f_ftorn) = true)
    (a_tell : PySem.W.nsIn K mainGlobals "telling" = some (some (.ref f_tell)))
    (l_tell : K.lookup f_tell = some ⟨oc_tell, od_tell, .func (PySem.W.fnOf "telling" "telling" (defArgs S_tell) (defBody S_tell) (defScope S_tell) .none kV_tell dc_tell pm_tell an_tell cd_tell ct_tell), sl_tell⟩)
    (c_tell : PySem.W.codeIn K cd_tell "telling" = true)
    (k_tell : PySem.W.keepIn K (.ref f_tell) = true)
    (a_cpls : PySem.W.nsIn K mainGlobals "check_pleased" = some (some (.ref f_cpls)))
    (l_cpls : K.lookup f_cpls = some ⟨oc_cpls, od_cpls, .func (PySem.W.fnOf "check_pleased" "check_pleased" (defArgs S_cpls) (defBody S_cpls) (defScope S_cpls) .none kV_cpls dc_cpls pm_cpls an_cpls cd_cpls ct_cpls), sl_cpls⟩)
    (c_cpls : PySem.W.codeIn K cd_cpls "check_pleased" = true)
    (k_cpls : PySem.W.keepIn K (.ref f_cpls) = true)
    (a_cwords : PySem.W.nsIn K mainGlobals "check_words" = some (some (.ref f_cwords)))
    (l_cwords : K.lookup f_cwords = some ⟨oc_cwords, od_cwords, .func (PySem.W.fnOf "check_words" "check_words" (defArgs S_cwords) (defBody S_cwords) (defScope S_cwords) .none kV_cwords dc_cwords pm_cwords an_cwords cd_cwords ct_cwords), sl_cwords⟩)
    (c_cwords : PySem.W.codeIn K cd_cwords "check_words" = true)
    (k_cwords : PySem.W.keepIn K (.ref f_cwords) = true)
    (a_fclash : PySem.W.nsIn K mainGlobals "find_clash" = some (some (.ref f_fclash)))
    (l_fclash : K.lookup f_fclash = some ⟨oc_fclash, od_fclash, .func (PySem.W.fnOf "find_clash" "find_clash" (defArgs S_fclash) (defBody S_fclash) (defScope S_fclash) .none kV_fclash dc_fclash pm_fclash an_fclash cd_fclash ct_fclash), sl_fclash⟩)
    (c_fclash : PySem.W.codeIn K cd_fclash "find_clash" = true)
    (k_fclash : PySem.W.keepIn K (.ref f_fclash) = true)
    (a_keep : PySem.W.nsIn K mainGlobals "keeping" = some (some (.ref f_keep)))
    (l_keep : K.lookup f_keep = some ⟨oc_keep, od_keep, .func (PySem.W.fnOf "keeping" "keeping" (defArgs S_keep) (defBody S_keep) (defScope S_keep) .none kV_keep dc_keep pm_keep an_keep cd_keep ct_keep), sl_keep⟩)
    (c_keep : PySem.W.codeIn K cd_keep "keeping" = true)
    (k_keep : PySem.W.keepIn K (.ref f_keep) = true)
    (a_cell : PySem.W.nsIn K mainGlobals "_law_cell_at" = some (some (.ref f_cell)))
    (l_cell : K.lookup f_cell = some ⟨oc_cell, od_cell, .func (PySem.W.fnOf "_law_cell_at" "_law_cell_at" (defArgs S_cell) (defBody S_cell) (defScope S_cell) .none kV_cell dc_cell pm_cell an_cell cd_cell ct_cell), sl_cell⟩)
    (c_cell : PySem.W.codeIn K cd_cell "_law_cell_at" = true)
    (k_cell : PySem.W.keepIn K (.ref f_cell) = true)
    (a_draw : PySem.W.nsIn K mainGlobals "_law_draw" = some (some (.ref f_draw)))
    (l_draw : K.lookup f_draw = some ⟨oc_draw, od_draw, .func (PySem.W.fnOf "_law_draw" "_law_draw" (defArgs S_draw) (defBody S_draw) (defScope S_draw) .none kV_draw dc_draw pm_draw an_draw cd_draw ct_draw), sl_draw⟩)
    (c_draw : PySem.W.codeIn K cd_draw "_law_draw" = true)
    (k_draw : PySem.W.keepIn K (.ref f_draw) = true)
    (a_told : PySem.W.nsIn K mainGlobals "_law_told" = some (some (.ref f_told)))
    (l_told : K.lookup f_told = some ⟨oc_told, od_told, .func (PySem.W.fnOf "_law_told" "_law_told" (defArgs S_told) (defBody S_told) (defScope S_told) .none kV_told dc_told pm_told an_told cd_told ct_told), sl_told⟩)
    (c_told : PySem.W.codeIn K cd_told "_law_told" = true)
    (k_told : PySem.W.keepIn K (.ref f_told) = true)
    (a_lword : PySem.W.nsIn K mainGlobals "_law_word" = some (some (.ref f_lword)))
    (l_lword : K.lookup f_lword = some ⟨oc_lword, od_lword, .func (PySem.W.fnOf "_law_word" "_law_word" (defArgs S_lword) (defBody S_lword) (defScope S_lword) .none kV_lword dc_lword pm_lword an_lword cd_lword ct_lword), sl_lword⟩)
    (c_lword : PySem.W.codeIn K cd_lword "_law_word" = true)
    (k_lword : PySem.W.keepIn K (.ref f_lword) = true)
    (a_lnot : PySem.W.nsIn K mainGlobals "_law_not" = some (some (.ref f_lnot)))
    (l_lnot : K.lookup f_lnot = some ⟨oc_lnot, od_lnot, .func (PySem.W.fnOf "_law_not" "_law_not" (defArgs S_lnot) (defBody S_lnot) (defScope S_lnot) .none kV_lnot dc_lnot pm_lnot an_lnot cd_lnot ct_lnot), sl_lnot⟩)
    (c_lnot : PySem.W.codeIn K cd_lnot "_law_not" = true)
    (k_lnot : PySem.W.keepIn K (.ref f_lnot) = true)
    (a_lnext : PySem.W.nsIn K mainGlobals "_law_next" = some (some (.ref f_lnext)))
    (l_lnext : K.lookup f_lnext = some ⟨oc_lnext, od_lnext, .func (PySem.W.fnOf "_law_next" "_law_next" (defArgs S_lnext) (defBody S_lnext) (defScope S_lnext) .none kV_lnext dc_lnext pm_lnext an_lnext cd_lnext ct_lnext), sl_lnext⟩)
    (c_lnext : PySem.W.codeIn K cd_lnext "_law_next" = true)
    (k_lnext : PySem.W.keepIn K (.ref f_lnext) = true)
    (a_lchain : PySem.W.nsIn K mainGlobals "_law_chain" = some (some (.ref f_lchain)))
    (l_lchain : K.lookup f_lchain = some ⟨oc_lchain, od_lchain, .func (PySem.W.fnOf "_law_chain" "_law_chain" (defArgs S_lchain) (defBody S_lchain) (defScope S_lchain) .none kV_lchain dc_lchain pm_lchain an_lchain cd_lchain ct_lchain), sl_lchain⟩)
    (c_lchain : PySem.W.codeIn K cd_lchain "_law_chain" = true)
    (k_lchain : PySem.W.keepIn K (.ref f_lchain) = true)
    (a_lwords : PySem.W.nsIn K mainGlobals "_law_words" = some (some (.ref f_lwords)))
    (l_lwords : K.lookup f_lwords = some ⟨oc_lwords, od_lwords, .func (PySem.W.fnOf "_law_words" "_law_words" (defArgs S_lwords) (defBody S_lwords) (defScope S_lwords) .none kV_lwords dc_lwords pm_lwords an_lwords cd_lwords ct_lwords), sl_lwords⟩)
    (c_lwords : PySem.W.codeIn K cd_lwords "_law_words" = true)
    (k_lwords : PySem.W.keepIn K (.ref f_lwords) = true)
    (a_lpls : PySem.W.nsIn K mainGlobals "_law_pleases" = some (some (.ref f_lpls)))
    (l_lpls : K.lookup f_lpls = some ⟨oc_lpls, od_lpls, .func (PySem.W.fnOf "_law_pleases" "_law_pleases" (defArgs S_lpls) (defBody S_lpls) (defScope S_lpls) .none kV_lpls dc_lpls pm_lpls an_lpls cd_lpls ct_lpls), sl_lpls⟩)
    (c_lpls : PySem.W.codeIn K cd_lpls "_law_pleases" = true)
    (k_lpls : PySem.W.keepIn K (.ref f_lpls) = true)
    (a_lchoices : PySem.W.nsIn K mainGlobals "_law_choices" = some (some (.ref f_lchoices)))
    (l_lchoices : K.lookup f_lchoices = some ⟨oc_lchoices, od_lchoices, .func (PySem.W.fnOf "_law_choices" "_law_choices" (defArgs S_lchoices) (defBody S_lchoices) (defScope S_lchoices) .none kV_lchoices dc_lchoices pm_lchoices an_lchoices cd_lchoices ct_lchoices), sl_lchoices⟩)
    (c_lchoices : PySem.W.codeIn K cd_lchoices "_law_choices" = true)
    (k_lchoices : PySem.W.keepIn K (.ref f_lchoices) = true)
    (a_l3ref : PySem.W.nsIn K mainGlobals "_law_refused" = some (some (.ref f_l3ref)))
    (l_l3ref : K.lookup f_l3ref = some ⟨oc_l3ref, od_l3ref, .func (PySem.W.fnOf "_law_refused" "_law_refused" (defArgs S_l3ref) (defBody S_l3ref) (defScope S_l3ref) .none kV_l3ref dc_l3ref pm_l3ref an_l3ref cd_l3ref ct_l3ref), sl_l3ref⟩)
    (c_l3ref : PySem.W.codeIn K cd_l3ref "_law_refused" = true)
    (k_l3ref : PySem.W.keepIn K (.ref f_l3ref) = true)
    (a_l3right : PySem.W.nsIn K mainGlobals "_law_right" = some (some (.ref f_l3right)))
    (l_l3right : K.lookup f_l3right = some ⟨oc_l3right, od_l3right, .func (PySem.W.fnOf "_law_right" "_law_right" (defArgs S_l3right) (defBody S_l3right) (defScope S_l3right) .none kV_l3right dc_l3right pm_l3right an_l3right cd_l3right ct_l3right), sl_l3right⟩)
    (c_l3right : PySem.W.codeIn K cd_l3right "_law_right" = true)
    (k_l3right : PySem.W.keepIn K (.ref f_l3right) = true)
    (a_init : PySem.W.findIn K (.ref C) "__init__" = some (some (.ref f_init)))
    (i_init : PySem.W.isFn K (.ref f_init) = true)
    (l_init : K.lookup f_init = some ⟨oc_init, od_init, .func (PySem.W.fnOf "__init__" "House.__init__" (defArgs S_init) (defBody S_init) (defScope S_init) .none kV_init dc_init pm_init an_init cd_init ct_init), sl_init⟩)
    (c_init : PySem.W.codeIn K cd_init "House.__init__" = true)
    (k_init : PySem.W.keepIn K (.ref f_init) = true)
    (a_wishes : PySem.W.findIn K (.ref C) "wishes" = some (some (.ref f_wishes)))
    (i_wishes : PySem.W.isFn K (.ref f_wishes) = true)
    (l_wishes : K.lookup f_wishes = some ⟨oc_wishes, od_wishes, .func (PySem.W.fnOf "wishes" "House.wishes" (defArgs S_wishes) (defBody S_wishes) (defScope S_wishes) .none kV_wishes dc_wishes pm_wishes an_wishes cd_wishes ct_wishes), sl_wishes⟩)
    (c_wishes : PySem.W.codeIn K cd_wishes "House.wishes" = true)
    (k_wishes : PySem.W.keepIn K (.ref f_wishes) = true)
    (a_plinit : PySem.W.findIn K (.ref CP) "__init__" = some (some (.ref f_plinit)))
    (i_plinit : PySem.W.isFn K (.ref f_plinit) = true)
    (l_plinit : K.lookup f_plinit = some ⟨oc_plinit, od_plinit, .func (PySem.W.fnOf "__init__" "Pleased.__init__" (defArgs S_plinit) (defBody S_plinit) (defScope S_plinit) .none kV_plinit dc_plinit pm_plinit an_plinit cd_plinit ct_plinit), sl_plinit⟩)
    (c_plinit : PySem.W.codeIn K cd_plinit "Pleased.__init__" = true)
    (k_plinit : PySem.W.keepIn K (.ref f_plinit) = true)
    (a_plholds : PySem.W.findIn K (.ref CP) "holds" = some (some (.ref f_plholds)))
    (i_plholds : PySem.W.isFn K (.ref f_plholds) = true)
    (l_plholds : K.lookup f_plholds = some ⟨oc_plholds, od_plholds, .func (PySem.W.fnOf "holds" "Pleased.holds" (defArgs S_plholds) (defBody S_plholds) (defScope S_plholds) .none kV_plholds dc_plholds pm_plholds an_plholds cd_plholds ct_plholds), sl_plholds⟩)
    (c_plholds : PySem.W.codeIn K cd_plholds "Pleased.holds" = true)
    (k_plholds : PySem.W.keepIn K (.ref f_plholds) = true)
    (a_toinit : PySem.W.findIn K (.ref CT) "__init__" = some (some (.ref f_toinit)))
    (i_toinit : PySem.W.isFn K (.ref f_toinit) = true)
    (l_toinit : K.lookup f_toinit = some ⟨oc_toinit, od_toinit, .func (PySem.W.fnOf "__init__" "Torn.__init__" (defArgs S_toinit) (defBody S_toinit) (defScope S_toinit) .none kV_toinit dc_toinit pm_toinit an_toinit cd_toinit ct_toinit), sl_toinit⟩)
    (c_toinit : PySem.W.codeIn K cd_toinit "Torn.__init__" = true)
    (k_toinit : PySem.W.keepIn K (.ref f_toinit) = true)
    (a_toholds : PySem.W.findIn K (.ref CT) "holds" = some (some (.ref f_toholds)))
    (i_toholds : PySem.W.isFn K (.ref f_toholds) = true)
    (l_toholds : K.lookup f_toholds = some ⟨oc_toholds, od_toholds, .func (PySem.W.fnOf "holds" "Torn.holds" (defArgs S_toholds) (defBody S_toholds) (defScope S_toholds) .none kV_toholds dc_toholds pm_toholds an_toholds cd_toholds ct_toholds), sl_toholds⟩)
    (c_toholds : PySem.W.codeIn K cd_toholds "Torn.holds" = true)
    (k_toholds : PySem.W.keepIn K (.ref f_toholds) = true)
    (a_clinit : PySem.W.findIn K (.ref CC) "__init__" = some (some (.ref f_clinit)))
    (i_clinit : PySem.W.isFn K (.ref f_clinit) = true)
    (l_clinit : K.lookup f_clinit = some ⟨oc_clinit, od_clinit, .func (PySem.W.fnOf "__init__" "Clash.__init__" (defArgs S_clinit) (defBody S_clinit) (defScope S_clinit) .none kV_clinit dc_clinit pm_clinit an_clinit cd_clinit ct_clinit), sl_clinit⟩)
    (c_clinit : PySem.W.codeIn K cd_clinit "Clash.__init__" = true)
    (k_clinit : PySem.W.keepIn K (.ref f_clinit) = true)
    (a_clholds : PySem.W.findIn K (.ref CC) "holds" = some (some (.ref f_clholds)))
    (i_clholds : PySem.W.isFn K (.ref f_clholds) = true)
    (l_clholds : K.lookup f_clholds = some ⟨oc_clholds, od_clholds, .func (PySem.W.fnOf "holds" "Clash.holds" (defArgs S_clholds) (defBody S_clholds) (defScope S_clholds) .none kV_clholds dc_clholds pm_clholds an_clholds cd_clholds ct_clholds), sl_clholds⟩)
    (c_clholds : PySem.W.codeIn K cd_clholds "Clash.holds" = true)
    (k_clholds : PySem.W.keepIn K (.ref f_clholds) = true)
    (a_uninit : PySem.W.findIn K (.ref CU) "__init__" = some (some (.ref f_uninit)))
    (i_uninit : PySem.W.isFn K (.ref f_uninit) = true)
    (l_uninit : K.lookup f_uninit = some ⟨oc_uninit, od_uninit, .func (PySem.W.fnOf "__init__" "Unpleased.__init__" (defArgs S_uninit) (defBody S_uninit) (defScope S_uninit) .none kV_uninit dc_uninit pm_uninit an_uninit cd_uninit ct_uninit), sl_uninit⟩)
    (c_uninit : PySem.W.codeIn K cd_uninit "Unpleased.__init__" = true)
    (k_uninit : PySem.W.keepIn K (.ref f_uninit) = true)
    (a_law : PySem.W.nsIn K mainGlobals "law" = some (some (.ref f_law)))
    (l_law : K.lookup f_law = some ⟨oc_law, od_law, .func (PySem.W.fnOf "law" "law" (defArgs S_law) (defBody S_law) (defScope S_law) .none kV_law dc_law pm_law an_law cd_law ct_law), sl_law⟩)
    (c_law : PySem.W.codeIn K cd_law "law" = true)
    (k_law : PySem.W.keepIn K (.ref f_law) = true)
    (pgC : PySem.W.plainGet K C Str.empty = true)
    (hdC : PySem.W.hasDictIn K C = true)
    (poC : PySem.W.plainOver K C = true)
    (saC : PySem.W.findIn K (.ref C) "__setattr__" = some (some (.builtin "object.__setattr__")))
    (mkC : PySem.W.makesIn K C = true)
    (kcC : PySem.W.keepIn K (.ref C) = true)
    (pgCP : PySem.W.plainGet K CP Str.empty = true)
    (hdCP : PySem.W.hasDictIn K CP = true)
    (poCP : PySem.W.plainOver K CP = true)
    (saCP : PySem.W.findIn K (.ref CP) "__setattr__" = some (some (.builtin "object.__setattr__")))
    (mkCP : PySem.W.makesIn K CP = true)
    (kcCP : PySem.W.keepIn K (.ref CP) = true)
    (haCP : PySem.W.findIn K (.ref CP) "__class__" = some (some (.builtin "object.__class__")))
    (hmCP : PySem.W.mroIn K CP (.type "object") = some true)
    (pgCT : PySem.W.plainGet K CT Str.empty = true)
    (hdCT : PySem.W.hasDictIn K CT = true)
    (poCT : PySem.W.plainOver K CT = true)
    (saCT : PySem.W.findIn K (.ref CT) "__setattr__" = some (some (.builtin "object.__setattr__")))
    (mkCT : PySem.W.makesIn K CT = true)
    (kcCT : PySem.W.keepIn K (.ref CT) = true)
    (haCT : PySem.W.findIn K (.ref CT) "__class__" = some (some (.builtin "object.__class__")))
    (hmCT : PySem.W.mroIn K CT (.type "object") = some true)
    (pgCC : PySem.W.plainGet K CC Str.empty = true)
    (hdCC : PySem.W.hasDictIn K CC = true)
    (poCC : PySem.W.plainOver K CC = true)
    (saCC : PySem.W.findIn K (.ref CC) "__setattr__" = some (some (.builtin "object.__setattr__")))
    (mkCC : PySem.W.makesIn K CC = true)
    (kcCC : PySem.W.keepIn K (.ref CC) = true)
    (haCC : PySem.W.findIn K (.ref CC) "__class__" = some (some (.builtin "object.__class__")))
    (hmCC : PySem.W.mroIn K CC (.type "object") = some true)
    (hn : PySem.W.specialIn K (.builtin "object.__class__") "__get__" = some (some (.builtin "getset_descriptor.__get__")))
    (htk : PySem.W.takesIn K (.builtin "object.__class__") = some true)
    (nC_names : PySem.W.findIn K (.ref C) "names" = some none)
    (nC_kept : PySem.W.findIn K (.ref C) "kept" = some none)
    (nCP_choice : PySem.W.findIn K (.ref CP) "choice" = some none)
    (nCT_there : PySem.W.findIn K (.ref CT) "there" = some none)
    (nCT_back : PySem.W.findIn K (.ref CT) "back" = some none)
    (nCC_words : PySem.W.findIn K (.ref CC) "words" = some none)
    (nCC_links : PySem.W.findIn K (.ref CC) "links" = some none)
    (nCU_torn : PySem.W.findIn K (.ref CU) "torn" = some none)
    (y_BC : PySem.W.isClsIn K BC = true)
    (x_BC : PySem.W.typeIn K (.ref BC) = some (.type "type"))
    (y_BH : PySem.W.isClsIn K BH = true)
    (x_BH : PySem.W.typeIn K (.ref BH) = some (.type "type"))
    (y_BT : PySem.W.isClsIn K BT = true)
    (x_BT : PySem.W.typeIn K (.ref BT) = some (.type "type"))
    (y_BW : PySem.W.isClsIn K BW = true)
    (x_BW : PySem.W.typeIn K (.ref BW) = some (.type "type"))
    (y_CA : PySem.W.isClsIn K CA = true)
    (x_CA : PySem.W.typeIn K (.ref CA) = some (.type "type"))
    (y_CC : PySem.W.isClsIn K CC = true)
    (x_CC : PySem.W.typeIn K (.ref CC) = some (.type "type"))
    (y_CP : PySem.W.isClsIn K CP = true)
    (x_CP : PySem.W.typeIn K (.ref CP) = some (.type "type"))
    (y_CT : PySem.W.isClsIn K CT = true)
    (x_CT : PySem.W.typeIn K (.ref CT) = some (.type "type"))
    (y_CU : PySem.W.isClsIn K CU = true)
    (x_CU : PySem.W.typeIn K (.ref CU) = some (.type "type"))
    (t_CP_CA : PySem.W.subIn K (.ref CP) (.ref CA) = some true)
    (t_CP_CP : PySem.W.subIn K (.ref CP) (.ref CP) = some true)
    (t_CP_CT : PySem.W.subIn K (.ref CP) (.ref CT) = some false)
    (t_CP_CC : PySem.W.subIn K (.ref CP) (.ref CC) = some false)
    (t_CC_CA : PySem.W.subIn K (.ref CC) (.ref CA) = some true)
    (t_CC_CT : PySem.W.subIn K (.ref CC) (.ref CT) = some false)
    (t_CC_CP : PySem.W.subIn K (.ref CC) (.ref CP) = some false)
    (t_CC_CC : PySem.W.subIn K (.ref CC) (.ref CC) = some true)
    (t_CT_CP : PySem.W.subIn K (.ref CT) (.ref CP) = some false)
    (t_CU_BC : PySem.W.subIn K (.ref CU) (.ref BC) = some false)
    (t_CU_BH : PySem.W.subIn K (.ref CU) (.ref BH) = some false)
    (t_CU_BW : PySem.W.subIn K (.ref CU) (.ref BW) = some false)
    (t_CU_BT : PySem.W.subIn K (.ref CU) (.ref BT) = some false)
    (t_CU_CU : PySem.W.subIn K (.ref CU) (.ref CU) = some true)
    (t_CT_CT : PySem.W.subIn K (.ref CT) (.ref CT) = some true)
    (m8 : PySem.W.nsIn K mainGlobals "MOST_NAMES" = some (some (.int 8 t8)))
    (m24 : PySem.W.nsIn K mainGlobals "MOST_WISHES" = some (some (.int 24 t24)))
    (z_isin : PySem.W.nsIn K mainGlobals "isinstance" = some none)
    (z_len : PySem.W.nsIn K mainGlobals "len" = some none)
    (z_all : PySem.W.nsIn K mainGlobals "all" = some none)
    (z_min : PySem.W.nsIn K mainGlobals "min" = some none)
    (z_srt : PySem.W.nsIn K mainGlobals "sorted" = some none)
    (z_int : PySem.W.nsIn K mainGlobals "int" = some none)
    (z_bool : PySem.W.nsIn K mainGlobals "bool" = some none)
    (z_tup : PySem.W.nsIn K mainGlobals "tuple" = some none)
    (z_lst : PySem.W.nsIn K mainGlobals "list" = some none)
    (z_rev : PySem.W.nsIn K mainGlobals "reversed" = some none)
    (z_rng : PySem.W.nsIn K mainGlobals "range" = some none)
    (z_enu : PySem.W.nsIn K mainGlobals "enumerate" = some none)
    (z_zip : PySem.W.nsIn K mainGlobals "zip" = some none)
    (z_any : PySem.W.nsIn K mainGlobals "any" = some none)
    (z_set : PySem.W.nsIn K mainGlobals "set" = some none)
    (z_ve : PySem.W.nsIn K mainGlobals "ValueError" = some none)
    (ga_CU : PySem.W.findIn K (.ref CU) "__getattribute__" = some (some (.builtin "BaseException.__getattribute__")))
    (gt_CU : PySem.W.findIn K (.ref CU) "__getattr__" = some none)
    (be_CU : PySem.W.mroIn K CU (.type "BaseException") = some true)
    (hd_CU : PySem.W.hasDictIn K CU = true)
    (sa_CU : PySem.W.findIn K (.ref CU) "__setattr__" = some (some (.builtin "object.__setattr__")))
    (cl_CU : PySem.W.findIn K (.ref CU) "__class__" = some (some (.builtin "object.__class__")))
    (kr_veCU : (PySem.W.clsIn K CU).any (fun cd => PySem.W.onlyVE cd.mro) = true)
    (up_CU : PySem.W.mroIn K CU (.ref CW) = some true)
    (kr_xrCU : xclIn K CU (some (.ref f_uninit)) = true)
    (kp_CU : PySem.W.keepIn K (.ref CU) = true)
    (ga_CW : PySem.W.specialIn K (.ref CW) "__getattribute__" = some (some (.builtin "type.__getattribute__")))
    (rd_CW : PySem.W.readsIn K CW (.type "type") = true)
    (fi_CW : PySem.W.findCls K (.ref CW) (.type "type") "__init__" = some (.val (.builtin "ValueError.__init__")))
    (tup_CW : PySem.W.instIn K (.ref CW) (.type "tuple") = some false)
    (be_CW : PySem.W.mroIn K CW (.type "BaseException") = some true)
    (y_CW : PySem.W.isClsIn K CW = true)
    (kr_ve : PySem.W.kitOne K (.ref CU) (.type "ValueError") = some true) :
    ∃ fd : FuncData, (∀ (s : Shared) (v : Value), BindsTo s fd ⟨[v], []⟩ [("_law_script", v)]) ∧ ∀ base : Heap, K.In base → base.Ns mainGlobals mg → FnOk l.prog w K mg base CX0 9 fa fd ["_law_script"] (sp_law K) := by
  have e := hfa.symm.trans (PySem.W.mg_of X G a_law)
  cases e
  have B : Bare mg := ⟨PySem.W.mg_none_of X G z_isin, PySem.W.mg_none_of X G z_len, PySem.W.mg_none_of X G z_all, PySem.W.mg_none_of X G z_min, PySem.W.mg_none_of X G z_srt, PySem.W.mg_none_of X G z_int, PySem.W.mg_none_of X G z_bool, PySem.W.mg_none_of X G z_tup, PySem.W.mg_none_of X G z_lst, PySem.W.mg_none_of X G z_rev, PySem.W.mg_none_of X G z_rng⟩
  have D_num := def_mk (st := S_num) (ps := ["value"]) (fun _ _ _ _ _ _ us hl => by obtain ⟨v0, rfl⟩ := len1 hl; rfl) X G a_num l_num c_num k_num
  have D_word := def_mk (st := S_word) (ps := ["names", "value"]) (fun _ _ _ _ _ _ us hl => by obtain ⟨v0, v1, rfl⟩ := len2 hl; rfl) X G a_word l_word c_word k_word
  have D_wish := def_mk (st := S_wish) (ps := ["names", "value"]) (fun _ _ _ _ _ _ us hl => by obtain ⟨v0, v1, rfl⟩ := len2 hl; rfl) X G a_wish l_wish c_wish k_wish
  have D_check := def_mk (st := S_check) (ps := ["house", "value"]) (fun _ _ _ _ _ _ us hl => by obtain ⟨v0, v1, rfl⟩ := len2 hl; rfl) X G a_check l_check c_check k_check
  have D_opp := def_mk (st := S_opp) (ps := ["word"]) (fun _ _ _ _ _ _ us hl => by obtain ⟨v0, rfl⟩ := len1 hl; rfl) X G a_opp l_opp c_opp k_opp
  have D_said := def_mk (st := S_said) (ps := ["house", "word"]) (fun _ _ _ _ _ _ us hl => by obtain ⟨v0, v1, rfl⟩ := len2 hl; rfl) X G a_said l_said c_said k_said
  have D_ahead := def_mk (st := S_ahead) (ps := ["house", "word"]) (fun _ _ _ _ _ _ us hl => by obtain ⟨v0, v1, rfl⟩ := len2 hl; rfl) X G a_ahead l_ahead c_ahead k_ahead
  have D_chain := def_mk (st := S_chain) (ps := ["house", "word", "other"]) (fun _ _ _ _ _ _ us hl => by obtain ⟨v0, v1, v2, rfl⟩ := len3 hl; rfl) X G a_chain l_chain c_chain k_chain
  have D_isch := def_mk (st := S_isch) (ps := ["house", "value"]) (fun _ _ _ _ _ _ us hl => by obtain ⟨v0, v1, rfl⟩ := len2 hl; rfl) X G a_isch l_isch c_isch k_isch
  have D_has := def_mk (st := S_has) (ps := ["choice", "word"]) (fun _ _ _ _ _ _ us hl => by obtain ⟨v0, v1, rfl⟩ := len2 hl; rfl) X G a_has l_has c_has k_has
  have D_pls := def_mk (st := S_pls) (ps := ["choice", "wish"]) (fun _ _ _ _ _ _ us hl => by obtain ⟨v0, v1, rfl⟩ := len2 hl; rfl) X G a_pls l_pls c_pls k_pls
  have D_disp := def_mk (st := S_disp) (ps := ["house", "choice"]) (fun _ _ _ _ _ _ us hl => by obtain ⟨v0, v1, rfl⟩ := len2 hl; rfl) X G a_disp l_disp c_disp k_disp
  have D_allch := def_mk (st := S_allch) (ps := ["house"]) (fun _ _ _ _ _ _ us hl => by obtain ⟨v0, rfl⟩ := len1 hl; rfl) X G a_allch l_allch c_allch k_allch
  have D_plsch := def_mk (st := S_plsch) (ps := ["house"]) (fun _ _ _ _ _ _ us hl => by obtain ⟨v0, rfl⟩ := len1 hl; rfl) X G a_plsch l_plsch c_plsch k_plsch
  have D_ischain := def_mk (st := S_ischain) (ps := ["house", "links"]) (fun _ _ _ _ _ _ us hl => by obtain ⟨v0, v1, rfl⟩ := len2 hl; rfl) X G a_ischain l_ischain c_ischain k_ischain
  have D_leads := def_mk (st := S_leads) (ps := ["house", "links"]) (fun _ _ _ _ _ _ us hl => by obtain ⟨v0, v1, rfl⟩ := len2 hl; rfl) X G a_leads l_leads c_leads k_leads
  have D_ftorn := def_mk (st := S_ftorn) (ps := ["house"]) (fun _ _ _ _ _ _ us hl => by obtain ⟨v0, rfl⟩ := len1 hl; rfl) X G a_ftorn l_ftorn c_ftorn k_ftorn
  have D_tell := def_mk (st := S_tell) (ps := ["house"]) (fun _ _ _ _ _ _ us hl => by obtain ⟨v0, rfl⟩ := len1 hl; rfl) X G a_tell l_tell c_tell k_tell
  have D_cpls := def_mk (st := S_cpls) (ps := ["house"]) (fun _ _ _ _ _ _ us hl => by obtain ⟨v0, rfl⟩ := len1 hl; rfl) X G a_cpls l_cpls c_cpls k_cpls
  have D_cwords := def_mk (st := S_cwords) (ps := ["house", "value"]) (fun _ _ _ _ _ _ us hl => by obtain ⟨v0, v1, rfl⟩ := len2 hl; rfl) X G a_cwords l_cwords c_cwords k_cwords
  have D_fclash := def_mk (st := S_fclash) (ps := ["house", "words"]) (fun _ _ _ _ _ _ us hl => by obtain ⟨v0, v1, rfl⟩ := len2 hl; rfl) X G a_fclash l_fclash c_fclash k_fclash
  have D_keep := def_mk (st := S_keep) (ps := ["house", "words"]) (fun _ _ _ _ _ _ us hl => by obtain ⟨v0, v1, rfl⟩ := len2 hl; rfl) X G a_keep l_keep c_keep k_keep
  have D_cell := def_mk (st := S_cell) (ps := ["_law_script", "_law_k"]) (fun _ _ _ _ _ _ us hl => by obtain ⟨v0, v1, rfl⟩ := len2 hl; rfl) X G a_cell l_cell c_cell k_cell
  have D_draw := def_mk (st := S_draw) (ps := ["_law_cell", "_law_k", "_law_many"]) (fun _ _ _ _ _ _ us hl => by obtain ⟨v0, v1, v2, rfl⟩ := len3 hl; rfl) X G a_draw l_draw c_draw k_draw
  have D_told := def_mk (st := S_told) (ps := ["_law_script", "_law_first"]) (fun _ _ _ _ _ _ us hl => by obtain ⟨v0, v1, rfl⟩ := len2 hl; rfl) X G a_told l_told c_told k_told
  have D_lword := def_mk (st := S_lword) (ps := ["_law_cell", "_law_names"]) (fun _ _ _ _ _ _ us hl => by obtain ⟨v0, v1, rfl⟩ := len2 hl; rfl) X G a_lword l_lword c_lword k_lword
  have D_lnot := def_mk (st := S_lnot) (ps := ["_law_word_here"]) (fun _ _ _ _ _ _ us hl => by obtain ⟨v0, rfl⟩ := len1 hl; rfl) X G a_lnot l_lnot c_lnot k_lnot
  have D_lnext := def_mk (st := S_lnext) (ps := ["_law_told_here", "_law_word_here", "_law_other"]) (fun _ _ _ _ _ _ us hl => by obtain ⟨v0, v1, v2, rfl⟩ := len3 hl; rfl) X G a_lnext l_lnext c_lnext k_lnext
  have D_lchain := def_mk (st := S_lchain) (ps := ["_law_told_here", "_law_links"]) (fun _ _ _ _ _ _ us hl => by obtain ⟨v0, v1, rfl⟩ := len2 hl; rfl) X G a_lchain l_lchain c_lchain k_lchain
  have D_lwords := def_mk (st := S_lwords) (ps := ["_law_links", "_law_names"]) (fun _ _ _ _ _ _ us hl => by obtain ⟨v0, v1, rfl⟩ := len2 hl; rfl) X G a_lwords l_lwords c_lwords k_lwords
  have D_lpls := def_mk (st := S_lpls) (ps := ["_law_choice", "_law_wish"]) (fun _ _ _ _ _ _ us hl => by obtain ⟨v0, v1, rfl⟩ := len2 hl; rfl) X G a_lpls l_lpls c_lpls k_lpls
  have D_lchoices := def_mk (st := S_lchoices) (ps := ["_law_told_here"]) (fun _ _ _ _ _ _ us hl => by obtain ⟨v0, rfl⟩ := len1 hl; rfl) X G a_lchoices l_lchoices c_lchoices k_lchoices
  have D_l3ref := def_mk (st := S_l3ref) (ps := ["_law_told_here", "_law_house", "_law_words_here"]) (fun _ _ _ _ _ _ us hl => by obtain ⟨v0, v1, v2, rfl⟩ := len3 hl; rfl) X G a_l3ref l_l3ref c_l3ref k_l3ref
  have D_l3right := def_mk (st := S_l3right) (ps := ["_law_told_here", "_law_words_here", "_law_found"]) (fun _ _ _ _ _ _ us hl => by obtain ⟨v0, v1, v2, rfl⟩ := len3 hl; rfl) X G a_l3right l_l3right c_l3right k_l3right
  have F_init := fun_mk (st := S_init) l_init c_init k_init
  have b_init := F_init.binds (ps := ["self", "names", "wishes"]) fun _ _ _ _ _ _ us hl => by obtain ⟨v0, v1, v2, rfl⟩ := len3 hl; rfl
  have m_init : Meth K C "__init__" f_init := ⟨a_init, i_init, k_init⟩
  have F_wishes := fun_mk (st := S_wishes) l_wishes c_wishes k_wishes
  have b_wishes := F_wishes.binds (ps := ["self"]) fun _ _ _ _ _ _ us hl => by obtain ⟨v0, rfl⟩ := len1 hl; rfl
  have m_wishes : Meth K C "wishes" f_wishes := ⟨a_wishes, i_wishes, k_wishes⟩
  have F_plinit := fun_mk (st := S_plinit) l_plinit c_plinit k_plinit
  have b_plinit := F_plinit.binds (ps := ["self", "choice"]) fun _ _ _ _ _ _ us hl => by obtain ⟨v0, v1, rfl⟩ := len2 hl; rfl
  have m_plinit : Meth K CP "__init__" f_plinit := ⟨a_plinit, i_plinit, k_plinit⟩
  have F_plholds := fun_mk (st := S_plholds) l_plholds c_plholds k_plholds
  have b_plholds := F_plholds.binds (ps := ["self", "house"]) fun _ _ _ _ _ _ us hl => by obtain ⟨v0, v1, rfl⟩ := len2 hl; rfl
  have m_plholds : Meth K CP "holds" f_plholds := ⟨a_plholds, i_plholds, k_plholds⟩
  have F_toinit := fun_mk (st := S_toinit) l_toinit c_toinit k_toinit
  have b_toinit := F_toinit.binds (ps := ["self", "there", "back"]) fun _ _ _ _ _ _ us hl => by obtain ⟨v0, v1, v2, rfl⟩ := len3 hl; rfl
  have m_toinit : Meth K CT "__init__" f_toinit := ⟨a_toinit, i_toinit, k_toinit⟩
  have F_toholds := fun_mk (st := S_toholds) l_toholds c_toholds k_toholds
  have b_toholds := F_toholds.binds (ps := ["self", "house"]) fun _ _ _ _ _ _ us hl => by obtain ⟨v0, v1, rfl⟩ := len2 hl; rfl
  have m_toholds : Meth K CT "holds" f_toholds := ⟨a_toholds, i_toholds, k_toholds⟩
  have F_clinit := fun_mk (st := S_clinit) l_clinit c_clinit k_clinit
  have b_clinit := F_clinit.binds (ps := ["self", "words", "links"]) fun _ _ _ _ _ _ us hl => by obtain ⟨v0, v1, v2, rfl⟩ := len3 hl; rfl
  have m_clinit : Meth K CC "__init__" f_clinit := ⟨a_clinit, i_clinit, k_clinit⟩
  have F_clholds := fun_mk (st := S_clholds) l_clholds c_clholds k_clholds
  have b_clholds := F_clholds.binds (ps := ["self", "house"]) fun _ _ _ _ _ _ us hl => by obtain ⟨v0, v1, rfl⟩ := len2 hl; rfl
  have m_clholds : Meth K CC "holds" f_clholds := ⟨a_clholds, i_clholds, k_clholds⟩
  have F_uninit := fun_mk (st := S_uninit) l_uninit c_uninit k_uninit
  have b_uninit := F_uninit.binds (ps := ["self", "torn"]) fun _ _ _ _ _ _ us hl => by obtain ⟨v0, v1, rfl⟩ := len2 hl; rfl
  have m_uninit : Meth K CU "__init__" f_uninit := ⟨a_uninit, i_uninit, k_uninit⟩
  have F_law := fun_mk (st := S_law) l_law c_law k_law
  refine ⟨PySem.W.fnOf "law" "law" (defArgs S_law) (defBody S_law) (defScope S_law) .none kV_law dc_law pm_law an_law cd_law ct_law, fun s v => .of_eq rfl, fun base _ _ => ?_⟩
  have B2 : Bare2 mg := ⟨PySem.W.mg_none_of X G z_enu, PySem.W.mg_none_of X G z_zip⟩

  have T : TxtH K C := ⟨⟨pgC, hdC, poC, saC⟩, nC_names, nC_kept⟩
  have cnum := ok_num (P := l.prog) (w := w) (base := base) D_num B
  have cword := ok_word D_word B cnum
  have cwish := ok_wish D_wish B cword
  have cW : CalW l.prog w K mg base C := ⟨_, _, ok_wishes F_wishes B T, m_wishes, b_wishes⟩
  have cmk : CalMk l.prog w K mg base C "House" 4 ["self", "names", "wishes"] (sp_init C) := ⟨_, _, ⟨mkC, a_init, i_init, kcC⟩, ok_init F_init B T ⟨_, PySem.W.mg_of X G m8⟩ ⟨_, PySem.W.mg_of X G m24⟩ cnum cwish, PySem.W.mg_of X G aC, b_init⟩

  have ccheck := ok_check D_check T cword
  have copp := ok_opp (P := l.prog) (w := w) (base := base) D_opp
  have csaid := ok_said D_said T copp cW
  have cahead := ok_ahead D_ahead B csaid
  have cchain := ok_chain D_chain B ccheck cahead

  have cisch := ok_isch (P := l.prog) (w := w) (base := base) D_isch B T
  have chas := ok_has (P := l.prog) (w := w) (base := base) D_has
  have cpls := ok_pls D_pls chas
  have cdisp := ok_disp D_disp B2 T cisch cpls cW

  have callch := ok_allch (P := l.prog) (w := w) (base := base) D_allch B T
  have cplsch := ok_plsch D_plsch callch cdisp

  have ccell := ok_cell (P := l.prog) (w := w) (base := base) D_cell B
  have cdraw := ok_draw (P := l.prog) (w := w) (base := base) D_draw
  have clword := ok_lword D_lword cdraw
  have clnot := ok_lnot (P := l.prog) (w := w) (base := base) D_lnot
  have ctold := ok_told D_told B ccell cdraw clword clnot

  have tP : TxtP K CP := ⟨⟨⟨pgCP, hdCP, poCP, saCP⟩, haCP, hn, htk, hmCP⟩, nCP_choice⟩
  have tT : TxtT K CT := ⟨⟨⟨pgCT, hdCT, poCT, saCT⟩, haCT, hn, htk, hmCT⟩, nCT_there, nCT_back⟩
  have mP := PySem.W.mg_of X G aCP
  have mT := PySem.W.mg_of X G aCT
  have cischain := ok_ischain D_ischain B B2 T cword csaid
  have cleads := ok_leads D_leads cischain copp
  have kP : CalMk l.prog w K mg base CP "Pleased" 1 ["self", "choice"] (sp_plinit K CP) := ⟨_, _, ⟨mkCP, a_plinit, i_plinit, kcCP⟩, ok_plinit F_plinit B tP, mP, b_plinit⟩
  have hP : CalMt l.prog w K mg base CP "holds" 4 ["self", "house"] (sp_plholds C CP) := ⟨_, _, ok_plholds F_plholds tP cisch cdisp, m_plholds, b_plholds⟩
  have kT : CalMk l.prog w K mg base CT "Torn" 1 ["self", "there", "back"] (sp_toinit K CT) := ⟨_, _, ⟨mkCT, a_toinit, i_toinit, kcCT⟩, ok_toinit F_toinit B tT, mT, b_toinit⟩
  have hT : CalMt l.prog w K mg base CT "holds" 5 ["self", "house"] (sp_toholds C CT) := ⟨_, _, ok_toholds F_toholds tT cleads, m_toholds, b_toholds⟩

  have tC : TxtC K CC := ⟨⟨⟨pgCC, hdCC, poCC, saCC⟩, haCC, hn, htk, hmCC⟩, nCC_words, nCC_links⟩
  have mC := PySem.W.mg_of X G aCC
  have kC : CalMk l.prog w K mg base CC "Clash" 1 ["self", "words", "links"] (sp_clinit K CC) := ⟨_, _, ⟨mkCC, a_clinit, i_clinit, kcCC⟩, ok_clinit F_clinit B tC, mC, b_clinit⟩
  have hC : CalMt l.prog w K mg base CC "holds" 4 ["self", "house"] (sp_clholds C CC) := ⟨_, _, ok_clholds F_clholds tC cischain copp, m_clholds, b_clholds⟩

  have cft := ok_ftorn D_ftorn B T cchain kT

  have zU : ExF K mg CW CU f_uninit "Unpleased" "torn" := ⟨PySem.W.mg_of X G aCW, ⟨ga_CW, rd_CW, fi_CW⟩, kr_xrCU, ⟨ga_CU, gt_CU, be_CU, hd_CU, sa_CU, cl_CU, hn, htk, kr_veCU⟩, nCU_torn, kp_CU, i_uninit, PySem.W.mg_of X G aCU, up_CU⟩
  have fU := ok_uninit (P := l.prog) (w := w) (base := base) F_uninit zU
  have ccpls := ok_cpls D_cpls zU fU b_uninit cplsch cft
  have zA : ExA K mg CU BC BH BW BT := ⟨PySem.W.mg_of X G aBC, PySem.W.mg_of X G aBH, PySem.W.mg_of X G aBW, PySem.W.mg_of X G aBT, kit_f y_BC x_BC t_CU_CU t_CU_BC, kit_f y_BH x_BH t_CU_CU t_CU_BH, kit_f y_BW x_BW t_CU_CU t_CU_BW, kit_f y_BT x_BT t_CU_CU t_CU_BT, kit_t y_CU x_CU t_CU_CU⟩

  have ctell := ok_tell D_tell cplsch kP cft
  have ccw := ok_cwords D_cwords B ccheck
  have cfc := ok_fclash D_fclash B (PySem.W.mg_none_of X G z_set) copp cchain kC
  have ckeep := ok_keep D_keep B ccw ccpls cplsch chas kP cfc
  have clnotH := okH_lnot (P := l.prog) (w := w) (base := base) D_lnot
  have clnextH := okH_lnext D_lnext clnotH
  have clchH := okH_lchB D_lchain B clnextH
  have clwH := okH_lwords (P := l.prog) (w := w) (base := base) D_lwords B
  have cref := ok_l3ref D_l3ref B (PySem.W.mg_none_of X G z_any) (PySem.W.mg_none_of X G z_ve) zU ⟨tup_CW, be_CW, y_CW⟩ zA kr_ve tT mT (kit_t y_CT x_CT t_CT_CT) ckeep clchH clnotH clwH
  have clpls := ok_lpls (P := l.prog) (w := w) (base := base) D_lpls
  have clch := ok_lchoices D_lchoices B clpls
  have kt : Kits3 K CA CP CT CC := ⟨kit_t y_CA x_CA t_CP_CA, kit_f y_CT x_CT t_CP_CP t_CP_CT, kit_t y_CP x_CP t_CP_CP, kit_f y_CC x_CC t_CP_CP t_CP_CC, kit_t y_CA x_CA t_CC_CA, kit_f y_CT x_CT t_CC_CC t_CC_CT, kit_f y_CP x_CP t_CC_CC t_CC_CP, kit_t y_CC x_CC t_CC_CC⟩
  have cright := ok_l3right D_l3right B tP tC (PySem.W.mg_of X G aCA) mT mP mC kt clpls clwH.cal clchH.cal clnot
  exact ok_law ⟨B, T, tP, tC, tT, kt, kit_f y_CP x_CP t_CT_CT t_CT_CP, mP, ctold, cmk, clch, ccell, clword, ckeep, cref, cright, hP, hC, ctell⟩ F_law
theorem walk {l : PySem.W.OpenLaw} {q : Program} {loose : List Str} {XP : (Str → Option Value) → Heap → Prop} {YP : World → Heap → Prop} {d : DefRec} {K : Params → PySem.W.Frag} (hn : l.most = some 63) (hdf : d.params.defaults = [])
    (hY : ∀ (w : World) (h : Heap), YP w h → (K w.params).In h)
    (F : ∀ (w : World) (mg : Str → Option Value) (fa : Addr) (h : Heap), (K w.params).In h → h.Ns mainGlobals mg → mg d.name = some (.ref fa) →
      ∃ fd : FuncData, (∀ (s : Shared) (u : Value), BindsTo s fd ⟨[u], []⟩ [("_law_script", u)]) ∧ ∀ base : Heap, (K w.params).In base → base.Ns mainGlobals mg → FnOk l.prog w (K w.params) mg base CX0 9 fa fd ["_law_script"] (sp_law (K w.params))) :
    PySem.W.WalkO q loose XP YP l.row.toRowW d [] (fun f vs => PySem.call f vs) :=
  L2.walk_of (n := 63) (k := 9) (x := "_law_script") (CX := fun _ => CX0) (sp := fun w => sp_law (K w.params)) hn (by decide) hdf ⟨rfl, by decide, by decide⟩ hY F (fun _ _ a ns _ _ hS => ⟨a, ns, rfl, hS, fun _ => rfl⟩) fun _ _ _ _ _ z => z
end L2

end

set_option Elab.async false
def PySem.W.Fast.tw11273209704588401617 : Nat := 0
def PySem.W.Fast.tw6014344588134929721 : Nat := 0
def PySem.W.Fast.tw15079143819060770867 : Nat := 0
def PySem.W.Fast.tw16274195653981387001 : Nat := 0
def PySem.W.Fast.tw17962035835937413857 : Nat := 0
def PySem.W.Fast.tw962026332810115764 : Nat := 0
def PySem.W.Fast.tw13329796593690785121 : Nat := 0
def PySem.W.Fast.tw1899916323405296878 : Nat := 0
def PySem.W.Fast.tw3591839914593758386 : Nat := 0
def PySem.W.Fast.tw10653882288325459330 : Nat := 0
def PySem.W.Fast.tw11837693791483609660 : Nat := 0
def PySem.W.Fast.tw6016813520684273086 : Nat := 0
def PySem.W.Fast.tw15959376470520326875 : Nat := 0
def PySem.W.Fast.tw11077030994181998003 : Nat := 0
def PySem.W.Fast.tw11026949101508587654 : Nat := 0
def PySem.W.Fast.tw2408444898686331558 : Nat := 0
def PySem.W.Fast.tw14582004070348433576 : Nat := 0
def PySem.W.Fast.tw9821455508688998786 : Nat := 0
open PySem PySem.W PyProof.Rows
set_option maxRecDepth 100000 in
set_option maxHeartbeats 0 in
theorem PySem.Challenge.cw_eitheror_k03_whole_keeping_holds : PySem.Challenge.rw_eitheror_k03_whole_keeping.Holds := by
  w_on; o_law; k_head; (case hw => w_witness2)
  k_fill
  refine L2.walk (l := PySem.Challenge.rw_eitheror_k03_whole_keeping) rfl rfl (fun w h Y => PySem.W.kIn_of Y) ?F
  case F =>
    intro w mg fa h KX G hmg
    refine' L2.all_mk KX G hmg ?aC ?aCA ?aCP ?aCT ?aCC ?aCW ?aCU ?aBC ?aBH ?aBW ?aBT ?a_num ?l_num ?c_num ?k_num ?a_word ?l_word ?c_word ?k_word ?a_wish ?l_wish ?c_wish ?k_wish ?a_check ?l_check ?c_check ?k_check ?a_opp ?l_opp ?c_opp ?k_opp ?a_said ?l_said ?c_said ?k_said ?a_ahead ?l_ahead ?c_ahead ?k_ahead ?a_chain ?l_chain ?c_chain ?k_chain ?a_isch ?l_isch ?c_isch ?k_isch ?a_has ?l_has ?c_has ?k_has ?a_pls ?l_pls ?c_pls ?k_pls ?a_disp ?l_disp ?c_disp ?k_disp ?a_allch ?l_allch ?c_allch ?k_allch ?a_plsch ?l_plsch ?c_plsch ?k_plsch ?a_ischain ?l_ischain ?c_ischain ?k_ischain ?a_leads ?l_leads ?c_leads ?k_leads ?a_ftorn ?l_ftorn ?c_ftorn ?k_ftorn ?a_tell ?l_tell ?c_tell ?k_tell ?a_cpls ?l_cpls ?c_cpls ?k_cpls ?a_cwords ?l_cwords ?c_cwords ?k_cwords ?a_fclash ?l_fclash ?c_fclash ?k_fclash ?a_keep ?l_keep ?c_keep ?k_keep ?a_cell ?l_cell ?c_cell ?k_cell ?a_draw ?l_draw ?c_draw ?k_draw ?a_told ?l_told ?c_told ?k_told ?a_lword ?l_lword ?c_lword ?k_lword ?a_lnot ?l_lnot ?c_lnot ?k_lnot ?a_lnext ?l_lnext ?c_lnext ?k_lnext ?a_lchain ?l_lchain ?c_lchain ?k_lchain ?a_lwords ?l_lwords ?c_lwords ?k_lwords ?a_lpls ?l_lpls ?c_lpls ?k_lpls ?a_lchoices ?l_lchoices ?c_lchoices ?k_lchoices ?a_l3ref ?l_l3ref ?c_l3ref ?k_l3ref ?a_l3right ?l_l3right ?c_l3right ?k_l3right ?a_init ?i_init ?l_init ?c_init ?k_init ?a_wishes ?i_wishes ?l_wishes ?c_wishes ?k_wishes ?a_plinit ?i_plinit ?l_plinit ?c_plinit ?k_plinit ?a_plholds ?i_plholds ?l_plholds ?c_plholds ?k_plholds ?a_toinit ?i_toinit ?l_toinit ?c_toinit ?k_toinit ?a_toholds ?i_toholds ?l_toholds ?c_toholds ?k_toholds ?a_clinit ?i_clinit ?l_clinit ?c_clinit ?k_clinit ?a_clholds ?i_clholds ?l_clholds ?c_clholds ?k_clholds ?a_uninit ?i_uninit ?l_uninit ?c_uninit ?k_uninit ?a_law ?l_law ?c_law ?k_law ?pgC ?hdC ?poC ?saC ?mkC ?kcC ?pgCP ?hdCP ?poCP ?saCP ?mkCP ?kcCP ?haCP ?hmCP ?pgCT ?hdCT ?poCT ?saCT ?mkCT ?kcCT ?haCT ?hmCT ?pgCC ?hdCC ?poCC ?saCC ?mkCC ?kcCC ?haCC ?hmCC ?hn ?htk ?nC_names ?nC_kept ?nCP_choice ?nCT_there ?nCT_back ?nCC_words ?nCC_links ?nCU_torn ?y_BC ?x_BC ?y_BH ?x_BH ?y_BT ?x_BT ?y_BW ?x_BW ?y_CA ?x_CA ?y_CC ?x_CC ?y_CP ?x_CP ?y_CT ?x_CT ?y_CU ?x_CU ?t_CP_CA ?t_CP_CP ?t_CP_CT ?t_CP_CC ?t_CC_CA ?t_CC_CT ?t_CC_CP ?t_CC_CC ?t_CT_CP ?t_CU_BC ?t_CU_BH ?t_CU_BW ?t_CU_BT ?t_CU_CU ?t_CT_CT ?m8 ?m24 ?z_isin ?z_len ?z_all ?z_min ?z_srt ?z_int ?z_bool ?z_tup ?z_lst ?z_rev ?z_rng ?z_enu ?z_zip ?z_any ?z_set ?z_ve ?ga_CU ?gt_CU ?be_CU ?hd_CU ?sa_CU ?cl_CU ?kr_veCU ?up_CU ?kr_xrCU ?kp_CU ?ga_CW ?rd_CW ?fi_CW ?tup_CW ?be_CW ?y_CW ?kr_ve
    (case aC => k_is); (case aCA => k_is); (case aCP => k_is); (case aCT => k_is); (case aCC => k_is); (case aCW => k_is)
    (case aCU => k_is); (case aBC => k_is); (case aBH => k_is); (case aBW => k_is); (case aBT => k_is); (case a_num => k_is)
    (case l_num => k_is); (case c_num => k_is); (case k_num => k_is); (case a_word => k_is); (case l_word => k_is); (case c_word => k_is)
    (case k_word => k_is); (case a_wish => k_is); (case l_wish => k_is); (case c_wish => k_is); (case k_wish => k_is); (case a_check => k_is)
    (case l_check => k_is); (case c_check => k_is); (case k_check => k_is); (case a_opp => k_is); (case l_opp => k_is); (case c_opp => k_is)
    (case k_opp => k_is); (case a_said => k_is); (case l_said => k_is); (case c_said => k_is); (case k_said => k_is); (case a_ahead => k_is)
    (case l_ahead => k_is); (case c_ahead => k_is); (case k_ahead => k_is); (case a_chain => k_is); (case l_chain => k_is); (case c_chain => k_is)
    (case k_chain => k_is); (case a_isch => k_is); (case l_isch => k_is); (case c_isch => k_is); (case k_isch => k_is); (case a_has => k_is)
    (case l_has => k_is); (case c_has => k_is); (case k_has => k_is); (case a_pls => k_is); (case l_pls => k_is); (case c_pls => k_is)
    (case k_pls => k_is); (case a_disp => k_is); (case l_disp => k_is); (case c_disp => k_is); (case k_disp => k_is); (case a_allch => k_is)
    (case l_allch => k_is); (case c_allch => k_is); (case k_allch => k_is); (case a_plsch => k_is); (case l_plsch => k_is); (case c_plsch => k_is)
    (case k_plsch => k_is); (case a_ischain => k_is); (case l_ischain => k_is); (case c_ischain => k_is); (case k_ischain => k_is); (case a_leads => k_is)
    (case l_leads => k_is); (case c_leads => k_is); (case k_leads => k_is); (case a_ftorn => k_is); (case l_ftorn => k_is); (case c_ftorn => k_is)
    (case k_ftorn => k_is); (case a_tell => k_is); (case l_tell => k_is); (case c_tell => k_is); (case k_tell => k_is); (case a_cpls => k_is)
    (case l_cpls => k_is); (case c_cpls => k_is); (case k_cpls => k_is); (case a_cwords => k_is); (case l_cwords => k_is); (case c_cwords => k_is)
    (case k_cwords => k_is); (case a_fclash => k_is); (case l_fclash => k_is); (case c_fclash => k_is); (case k_fclash => k_is); (case a_keep => k_is)
    (case l_keep => k_is); (case c_keep => k_is); (case k_keep => k_is); (case a_cell => k_is); (case l_cell => k_is); (case c_cell => k_is)
    (case k_cell => k_is); (case a_draw => k_is); (case l_draw => k_is); (case c_draw => k_is); (case k_draw => k_is); (case a_told => k_is)
    (case l_told => k_is); (case c_told => k_is); (case k_told => k_is); (case a_lword => k_is); (case l_lword => k_is); (case c_lword => k_is)
    (case k_lword => k_is); (case a_lnot => k_is); (case l_lnot => k_is); (case c_lnot => k_is); (case k_lnot => k_is); (case a_lnext => k_is)
    (case l_lnext => k_is); (case c_lnext => k_is); (case k_lnext => k_is); (case a_lchain => k_is); (case l_lchain => k_is); (case c_lchain => k_is)
    (case k_lchain => k_is); (case a_lwords => k_is); (case l_lwords => k_is); (case c_lwords => k_is); (case k_lwords => k_is); (case a_lpls => k_is)
    (case l_lpls => k_is); (case c_lpls => k_is); (case k_lpls => k_is); (case a_lchoices => k_is); (case l_lchoices => k_is); (case c_lchoices => k_is)
    (case k_lchoices => k_is); (case a_l3ref => k_is); (case l_l3ref => k_is); (case c_l3ref => k_is); (case k_l3ref => k_is); (case a_l3right => k_is)
    (case l_l3right => k_is); (case c_l3right => k_is); (case k_l3right => k_is); (case a_init => k_is); (case i_init => k_is); (case l_init => k_is)
    (case c_init => k_is); (case k_init => k_is); (case a_wishes => k_is); (case i_wishes => k_is); (case l_wishes => k_is); (case c_wishes => k_is)
    (case k_wishes => k_is); (case a_plinit => k_is); (case i_plinit => k_is); (case l_plinit => k_is); (case c_plinit => k_is); (case k_plinit => k_is)
    (case a_plholds => k_is); (case i_plholds => k_is); (case l_plholds => k_is); (case c_plholds => k_is); (case k_plholds => k_is); (case a_toinit => k_is)
    (case i_toinit => k_is); (case l_toinit => k_is); (case c_toinit => k_is); (case k_toinit => k_is); (case a_toholds => k_is); (case i_toholds => k_is)
    (case l_toholds => k_is); (case c_toholds => k_is); (case k_toholds => k_is); (case a_clinit => k_is); (case i_clinit => k_is); (case l_clinit => k_is)
    (case c_clinit => k_is); (case k_clinit => k_is); (case a_clholds => k_is); (case i_clholds => k_is); (case l_clholds => k_is); (case c_clholds => k_is)
    (case k_clholds => k_is); (case a_uninit => k_is); (case i_uninit => k_is); (case l_uninit => k_is); (case c_uninit => k_is); (case k_uninit => k_is)
    (case a_law => k_is); (case l_law => k_is); (case c_law => k_is); (case k_law => k_is); (case pgC => k_is); (case hdC => k_is)
    (case poC => k_is); (case saC => k_is); (case mkC => k_is); (case kcC => k_is); (case pgCP => k_is); (case hdCP => k_is)
    (case poCP => k_is); (case saCP => k_is); (case mkCP => k_is); (case kcCP => k_is); (case haCP => k_is); (case hmCP => k_is)
    (case pgCT => k_is); (case hdCT => k_is); (case poCT => k_is); (case saCT => k_is); (case mkCT => k_is); (case kcCT => k_is)
    (case haCT => k_is); (case hmCT => k_is); (case pgCC => k_is); (case hdCC => k_is); (case poCC => k_is); (case saCC => k_is)
    (case mkCC => k_is); (case kcCC => k_is); (case haCC => k_is); (case hmCC => k_is); (case hn => k_is); (case htk => k_is)
    (case nC_names => k_is); (case nC_kept => k_is); (case nCP_choice => k_is); (case nCT_there => k_is); (case nCT_back => k_is); (case nCC_words => k_is)
    (case nCC_links => k_is); (case nCU_torn => k_is); (case y_BC => k_is); (case x_BC => k_is); (case y_BH => k_is); (case x_BH => k_is)
    (case y_BT => k_is); (case x_BT => k_is); (case y_BW => k_is); (case x_BW => k_is); (case y_CA => k_is); (case x_CA => k_is)
    (case y_CC => k_is); (case x_CC => k_is); (case y_CP => k_is); (case x_CP => k_is); (case y_CT => k_is); (case x_CT => k_is)
    (case y_CU => k_is); (case x_CU => k_is); (case t_CP_CA => k_is); (case t_CP_CP => k_is); (case t_CP_CT => k_is); (case t_CP_CC => k_is)
    (case t_CC_CA => k_is); (case t_CC_CT => k_is); (case t_CC_CP => k_is); (case t_CC_CC => k_is); (case t_CT_CP => k_is); (case t_CU_BC => k_is)
    (case t_CU_BH => k_is); (case t_CU_BW => k_is); (case t_CU_BT => k_is); (case t_CU_CU => k_is); (case t_CT_CT => k_is); (case m8 => k_is)
    (case m24 => k_is); (case z_isin => k_is); (case z_len => k_is); (case z_all => k_is); (case z_min => k_is); (case z_srt => k_is)
    (case z_int => k_is); (case z_bool => k_is); (case z_tup => k_is); (case z_lst => k_is); (case z_rev => k_is); (case z_rng => k_is)
    (case z_enu => k_is); (case z_zip => k_is); (case z_any => k_is); (case z_set => k_is); (case z_ve => k_is); (case ga_CU => k_is)
    (case gt_CU => k_is); (case be_CU => k_is); (case hd_CU => k_is); (case sa_CU => k_is); (case cl_CU => k_is); (case kr_veCU => kernel_rfl)
    (case up_CU => k_is); (case kr_xrCU => kernel_rfl); (case kp_CU => k_is); (case ga_CW => k_is); (case rd_CW => k_is); (case fi_CW => k_is)
    (case tup_CW => k_is); (case be_CW => k_is); (case y_CW => k_is); (case kr_ve => kernel_rfl)
