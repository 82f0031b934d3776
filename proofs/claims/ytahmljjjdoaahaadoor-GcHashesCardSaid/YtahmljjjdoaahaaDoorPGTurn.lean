/-
  What stays of memory, object by object: their numbers, rising; where each will stand.
-/
import Derived.Test.YtahmljjjdoaahaaDoorPColl
import Derived.Test.YtahmljjjdoaahaaDoorFound
import Derived.Test.YtahmljjjdoaahaaDoorObjIt
import Derived.Test.YtahmljjjdoaahaaDoorSettle
import Derived.Test.YtahmljjjdoaahaaDoorClosed
import Derived.Test.YtahmljjjdoaahaaDoorPDocF
import Derived.Test.YtahmljjjdoaahaaDoorEnc
namespace Go.Proofs.YtahmljjjdoaahaaDoor.Fl
open Go.RowKit

/-- the numbers of the objects whose pointers are among fs -/
abbrev Kx (os : List Ob) (fs : List Nat) : Type := { k : Nat // k < os.length ∧ 2 * pos os k ∈ fs }
def stayX (os : List Ob) (fs : List Nat) (n : Nat) : List (Kx os fs) := (List.range n).filterMap fun k => if h : k < os.length ∧ 2 * pos os k ∈ fs then some ⟨k, h⟩ else none
def ksOf {os : List Ob} {fs : List Nat} (xs : List (Kx os fs)) : List Nat := xs.map (·.1)
/-- objects, rising, that are just those of fs -/
structure Stays (os : List Ob) (fs : List Nat) (xs : List (Kx os fs)) : Prop where
  up : xs.Pairwise fun a b => a.1 < b.1
  all : ∀ k : Kx os fs, k ∈ xs
  led : ∀ x ∈ fs, ∃ k, k < os.length ∧ x = 2 * pos os k
theorem stayX_up (os : List Ob) (fs : List Nat) : ∀ n, (stayX os fs n).Pairwise (fun a b => a.1 < b.1) ∧ (∀ x ∈ stayX os fs n, x.1 < n) ∧ ∀ x : Kx os fs, x.1 < n → x ∈ stayX os fs n
  | 0 => ⟨List.Pairwise.nil, fun x hx => (by cases hx), fun x hx => absurd hx (Nat.not_lt_zero _)⟩
  | n + 1 => by
    obtain ⟨h1, h2, h3⟩ := stayX_up os fs n
    have e : stayX os fs (n + 1) = stayX os fs n ++ (if h : n < os.length ∧ 2 * pos os n ∈ fs then [⟨n, h⟩] else []) := by
      unfold stayX
      rw [List.range_succ, List.filterMap_append]
      by_cases h : n < os.length ∧ 2 * pos os n ∈ fs
      · simp [h]
      · simp [h]
    rw [e]
    by_cases h : n < os.length ∧ 2 * pos os n ∈ fs
    · rw [dif_pos h]
      refine ⟨List.pairwise_append.2 ⟨h1, by simp, fun a ha b hb => ?_⟩, fun x hx => ?_, fun x hx => ?_⟩
      · rw [List.mem_singleton] at hb
        subst hb
        exact h2 a ha
      · rcases List.mem_append.1 hx with hx | hx
        · have := h2 x hx; omega
        · rw [List.mem_singleton] at hx; subst hx; exact Nat.lt_succ_self n
      · rcases Nat.lt_or_ge x.1 n with h4 | h4
        · exact List.mem_append_left _ (h3 x h4)
        · refine List.mem_append_right _ (List.mem_singleton.2 (Subtype.ext ?_))
          show x.1 = n
          omega
    · rw [dif_neg h, List.append_nil]
      refine ⟨h1, fun x hx => by have := h2 x hx; omega, fun x hx => ?_⟩
      rcases Nat.lt_or_ge x.1 n with h4 | h4
      · exact h3 x h4
      · have e2 : x.1 = n := by omega
        exact absurd (e2 ▸ x.2) h
theorem stays_of {os : List Ob} {fs ws : List Nat} (hp : ∀ p, isP ws p ↔ ∃ k, k < os.length ∧ p = 2 * pos os k) (hg : Good ws fs) : Stays os fs (stayX os fs os.length) := by
  obtain ⟨h1, _, h3⟩ := stayX_up os fs os.length
  exact ⟨h1, fun k => h3 k k.2.1, fun x hx => (hp x).1 (hg.2 x hx)⟩
section
variable {os : List Ob} {fs : List Nat} {xs : List (Kx os fs)}
theorem Stays.mem (h : Stays os fs xs) (x : Nat) : x ∈ fs ↔ ∃ i ∈ xs, x = 2 * pos os i.1 := by
  constructor
  · intro hx
    obtain ⟨k, hk, rfl⟩ := h.led x hx
    exact ⟨⟨k, hk, hx⟩, h.all _, rfl⟩
  · rintro ⟨i, _, rfl⟩
    exact i.2.2
theorem Stays.ks (h : Stays os fs xs) : Ks os (ksOf xs) := by
  refine ⟨?_, fun k hk => ?_⟩
  · exact List.pairwise_map.2 (h.up.imp fun {a b} hab e => by omega)
  · obtain ⟨x, _, rfl⟩ := List.mem_map.1 hk
    exact x.2.1
theorem Stays.kept (h : Stays os fs xs) (x : Nat) : x ∈ fs ↔ Kept os (ksOf xs) x := by
  rw [h.mem x]
  constructor
  · rintro ⟨i, hi, rfl⟩; exact ⟨i.1, List.mem_map.2 ⟨i, hi, rfl⟩, rfl⟩
  · rintro ⟨k, hk, rfl⟩
    obtain ⟨i, hi, rfl⟩ := List.mem_map.1 hk
    exact ⟨i, hi, rfl⟩
theorem Stays.lt (h : Stays os fs xs) {i j : Nat} (hi : i < xs.length) (hj : j < xs.length) (hij : i < j) : pos os xs[i].1 < pos os xs[j].1 := by
  have := pos_lt os (List.pairwise_iff_getElem.1 h.up i j hi hj hij) (Nat.le_of_lt xs[j].2.1)
  omega
theorem Stays.inj (h : Stays os fs xs) {i j : Nat} (hi : i < xs.length) (hj : j < xs.length) (e : pos os xs[i].1 = pos os xs[j].1) : i = j := by
  rcases Nat.lt_trichotomy i j with h1 | h1 | h1
  · have := h.lt hi hj h1; omega
  · exact h1
  · have := h.lt hj hi h1; omega
/-- where the number j of what stays stands; -1 behind the last one -/
def atJ (xs : List (Kx os fs)) (j : Nat) : Int := if h : j < xs.length then (pos os xs[j].1 : Int) else -1
theorem atJ_lt {j : Nat} (h : j < xs.length) : atJ xs j = (pos os xs[j].1 : Int) := dif_pos h
theorem atJ_end {j : Nat} (h : xs.length ≤ j) : atJ xs j = -1 := dif_neg (by omega)
theorem Stays.next (h : Stays os fs xs) {size m j : Nat} {r : Int} (hlo : ∀ i (hi : i < xs.length), i < j → pos os xs[i].1 < m) (hhi : ∀ i (hi : i < xs.length), j ≤ i → m ≤ pos os xs[i].1) (hn : NextF fs size m r) : r = atJ xs j := by
  rcases hn with ⟨rfl, hno⟩ | ⟨i, rfl, hm, _, hmem, hno⟩
  · rcases Nat.lt_or_ge j xs.length with hj | hj
    · exact absurd ((h.mem _).2 ⟨xs[j], List.getElem_mem hj, rfl⟩) (hno _ (hhi j hj (Nat.le_refl _)))
    · exact (atJ_end hj).symm
  · obtain ⟨x, hx, e⟩ := (h.mem _).1 hmem
    obtain ⟨a, ha, rfl⟩ := List.mem_iff_getElem.1 hx
    have hja : j ≤ a := by
      rcases Nat.lt_or_ge a j with h1 | h1
      · have := hlo a ha h1; omega
      · exact h1
    have hj : j < xs.length := by omega
    rcases Nat.lt_or_ge j a with h1 | h1
    · have h2 := h.lt hj ha h1
      exact absurd ((h.mem _).2 ⟨xs[j], List.getElem_mem hj, rfl⟩) (hno _ (hhi j hj (Nat.le_refl _)) (by omega))
    · have : a = j := by omega
      subst this
      rw [atJ_lt hj]; omega
theorem Stays.next0 (h : Stays os fs xs) {size : Nat} {r : Int} (hn : NextF fs size 0 r) : r = atJ xs 0 :=
  h.next (fun i _ hi => absurd hi (by omega)) (fun i _ _ => Nat.zero_le _) hn
theorem Stays.next1 (h : Stays os fs xs) {size j : Nat} {r : Int} (hj : j < xs.length) (hn : NextF fs size (pos os xs[j].1 + 1) r) : r = atJ xs (j + 1) :=
  h.next (fun i hi h1 => by
    rcases Nat.lt_or_ge i j with h2 | h2
    · have := h.lt hi hj h2; omega
    · have : i = j := by omega
      subst this; omega) (fun i hi h1 => h.lt hj hi (by omega)) hn
theorem sub_ks (xs : List (Kx os fs)) : sub os (ksOf xs) = xs.map fun x => os[x.1]'x.2.1 := by
  unfold sub ksOf
  induction xs with
  | nil => rfl
  | cons x t ih => rw [List.map_cons, List.filterMap_cons, List.getElem?_eq_getElem x.2.1, ih]; rfl
theorem sub_ks_get {j : Nat} (hj : j < xs.length) : (sub os (ksOf xs))[j]? = some (os[xs[j].1]'xs[j].2.1) := by
  rw [sub_ks, List.getElem?_map, List.getElem?_eq_getElem hj]; rfl
theorem sub_ks_len (xs : List (Kx os fs)) : (sub os (ksOf xs)).length = xs.length := by rw [sub_ks, List.length_map]
/-- where the number j of what stays will stand -/
theorem pos_sub_succ {j : Nat} (hj : j < xs.length) : pos (sub os (ksOf xs)) (j + 1) = pos (sub os (ksOf xs)) j + 2 + (os[xs[j].1]'xs[j].2.1).xs.length := by
  have hl : j < (sub os (ksOf xs)).length := by rw [sub_ks_len]; exact hj
  have e : (sub os (ksOf xs))[j] = os[xs[j].1]'xs[j].2.1 := Option.some.inj ((List.getElem?_eq_getElem hl).symm.trans (sub_ks_get hj))
  rw [pos_succ _ hl, e]
theorem moved_pos (xs : List (Kx os fs)) (j : Nat) : pos (moved os (ksOf xs)) j = pos (sub os (ksOf xs)) j := pos_moved os _ j
theorem moved_xs_get {j : Nat} (hj : j < xs.length) : (moved os (ksOf xs))[j]? = some (turnO (goal os (ksOf xs)) (os[xs[j].1]'xs[j].2.1)) := by
  unfold moved; rw [List.getElem?_map, sub_ks_get hj]; rfl
theorem moved_xs_len (xs : List (Kx os fs)) : (moved os (ksOf xs)).length = xs.length := by unfold moved; rw [List.length_map, sub_ks_len]
/-- the cells of what was laid -/
def laidL (xs : List (Kx os fs)) (j : Nat) : List Nat := flat ((moved os (ksOf xs)).take j)
theorem laidL_succ {j : Nat} (hj : j < xs.length) : laidL xs (j + 1) = laidL xs j ++ (turnO (goal os (ksOf xs)) (os[xs[j].1]'xs[j].2.1)).cells := by
  unfold laidL
  have hl : j < (moved os (ksOf xs)).length := by rw [moved_xs_len]; exact hj
  have e : (moved os (ksOf xs))[j] = turnO (goal os (ksOf xs)) (os[xs[j].1]'xs[j].2.1) := Option.some.inj ((List.getElem?_eq_getElem hl).symm.trans (moved_xs_get hj))
  rw [List.take_succ_eq_append_getElem hl, flat_append, flat_one, e]
theorem laidL_all (xs : List (Kx os fs)) : laidL xs xs.length = flat (moved os (ksOf xs)) := by
  unfold laidL; rw [← moved_xs_len xs, List.take_length]
theorem goal_xs (h : Stays os fs xs) {j : Nat} (hj : j < xs.length) : goal os (ksOf xs) (2 * pos os xs[j].1) = 2 * pos (sub os (ksOf xs)) j := by
  have hk : j < (ksOf xs).length := by unfold ksOf; rw [List.length_map]; exact hj
  have := goal_at h.ks hk
  rw [moved_pos] at this
  rw [← this, show (ksOf xs)[j] = xs[j].1 by simp [ksOf]]
theorem moved_len_le (xs : List (Kx os fs)) : (Lof (moved os (ksOf xs))).length = (Lof (sub os (ksOf xs))).length := Lof_map_len _ (turnO_len _) _
/-- what stays has no more cells than all -/
theorem flat_sub_le {os : List Ob} {fs : List Nat} : ∀ (ys : List (Kx os fs)) (n : Nat), ys.Pairwise (fun a b => a.1 < b.1) → (∀ x ∈ ys, n ≤ x.1) → n ≤ os.length → (flat (ys.map fun x => os[x.1]'x.2.1)).length + pos os n ≤ (Lof os).length
  | [], n, _, _, hn => by
    have := pos_mono os hn
    rw [pos_all] at this
    simpa [flat] using this
  | x :: t, n, hup, hlo, hn => by
    have h1 := List.pairwise_cons.1 hup
    have ih := flat_sub_le t (x.1 + 1) h1.2 (fun y hy => h1.1 y hy) x.2.1
    have h2 := pos_mono os (hlo x (by simp))
    rw [pos_succ os x.2.1] at ih
    rw [List.map_cons, show (os[x.1]'x.2.1) :: t.map (fun x => os[x.1]'x.2.1) = [os[x.1]'x.2.1] ++ t.map (fun x => os[x.1]'x.2.1) from rfl, flat_append, flat_one, List.length_append, Ob.cells_len]
    omega
theorem Lof_sub_le (h : Stays os fs xs) : (Lof (sub os (ksOf xs))).length ≤ (Lof os).length := by
  have := flat_sub_le xs 0 h.up (fun x _ => Nat.zero_le _) (Nat.zero_le _)
  rw [pos_zero, ← sub_ks] at this
  show (flat _).length + 2 ≤ _
  omega
/-- what goes on at a list of some of the objects, in whatever order: where each will stand, with those ahead of it -/
def obsX (pre : List (Kx os fs)) : List Ob := pre.map fun x => os[x.1]'x.2.1
theorem obsX_snoc (pre : List (Kx os fs)) (x : Kx os fs) : obsX (pre ++ [x]) = obsX pre ++ [os[x.1]'x.2.1] := by unfold obsX; rw [List.map_append]; rfl
theorem obsX_len (pre : List (Kx os fs)) : (Lof (obsX pre)).length ≤ 2 + pre.length * (Lof os).length := by
  induction pre with
  | nil => simp [obsX, Lof, flat]
  | cons x t ih =>
    have h1 := pos_top os x.2.1
    have h2 : (Lof (obsX (x :: t))).length = (Lof (obsX t)).length + 2 + (os[x.1]'x.2.1).xs.length := by
      show ((flat ([os[x.1]'x.2.1] ++ obsX t)).length + 2) = (flat (obsX t)).length + 2 + 2 + _
      rw [flat_append, flat_one, List.length_append, Ob.cells_len]; omega
    have h3 := Nat.succ_mul t.length (Lof os).length
    rw [h2]
    show _ ≤ 2 + (t.length + 1) * _
    simp only [Nat.succ_eq_add_one] at h3
    omega
def gofX (G0 : List Nat) (pre : List (Kx os fs)) : List Nat := (pre.foldl (fun (s : List Nat × List (Kx os fs)) x => (s.1.set (pos os x.1) (2 * (Lof (obsX s.2)).length), s.2 ++ [x])) (G0, [])).1
theorem gofX_snd (G0 : List Nat) (pre : List (Kx os fs)) : (pre.foldl (fun (s : List Nat × List (Kx os fs)) x => (s.1.set (pos os x.1) (2 * (Lof (obsX s.2)).length), s.2 ++ [x])) (G0, [])).2 = pre := by
  have key : ∀ (l : List (Kx os fs)) (s : List Nat × List (Kx os fs)), (l.foldl (fun (s : List Nat × List (Kx os fs)) x => (s.1.set (pos os x.1) (2 * (Lof (obsX s.2)).length), s.2 ++ [x])) s).2 = s.2 ++ l := by
    intro l
    induction l with
    | nil => intro s; simp
    | cons x t ih => intro s; rw [List.foldl_cons, ih]; simp
  rw [key]; rfl
theorem gofX_snoc (G0 : List Nat) (pre : List (Kx os fs)) (x : Kx os fs) : gofX G0 (pre ++ [x]) = (gofX G0 pre).set (pos os x.1) (2 * (Lof (obsX pre)).length) := by
  unfold gofX
  rw [List.foldl_append, List.foldl_cons, List.foldl_nil, gofX_snd]
theorem gofX_len (G0 : List Nat) (pre : List (Kx os fs)) : (gofX G0 pre).length = G0.length := by
  have key : ∀ (l : List (Kx os fs)) (s : List Nat × List (Kx os fs)), (l.foldl (fun (s : List Nat × List (Kx os fs)) x => (s.1.set (pos os x.1) (2 * (Lof (obsX s.2)).length), s.2 ++ [x])) s).1.length = s.1.length := by
    intro l
    induction l with
    | nil => intro s; rfl
    | cons x t ih => intro s; rw [List.foldl_cons, ih]; simp
  exact key pre _
/-- a table of goals: at each place of what stays the pointer to where it will stand -/
def GoalsOk (os : List Ob) (fs : List Nat) (xs : List (Kx os fs)) (G : List Nat) : Prop := ∀ x ∈ fs, G[x / 2]? = some (goal os (ksOf xs) x)
theorem gofX_take (h : Stays os fs xs) (G0 : List Nat) (hG : G0.length = (Lof os).length) : ∀ j, j ≤ xs.length → ∀ i (hi : i < xs.length), i < j → (gofX G0 (xs.take j))[pos os xs[i].1]? = some (2 * pos (sub os (ksOf xs)) i)
  | 0, _, i, _, h0 => absurd h0 (Nat.not_lt_zero _)
  | j + 1, hj, i, hi, hij => by
    have hjl : j < xs.length := by omega
    have hp := pos_top os xs[i].2.1
    rw [List.take_succ_eq_append_getElem hjl, gofX_snoc]
    by_cases e : i = j
    · subst e
      rw [List.getElem?_set_self (by rw [gofX_len, hG]; omega)]
      have : obsX (xs.take i) = (sub os (ksOf xs)).take i := by unfold obsX; rw [sub_ks, List.map_take]
      rw [this]; rfl
    · rw [List.getElem?_set_ne (fun e2 => e (h.inj hjl hi e2).symm)]
      exact gofX_take h G0 hG j (by omega) i hi (by omega)
theorem goals_ok (h : Stays os fs xs) (G0 : List Nat) (hG : G0.length = (Lof os).length) : GoalsOk os fs xs (gofX G0 xs) := fun x hx => by
  obtain ⟨i, hi, rfl⟩ := (h.mem x).1 hx
  obtain ⟨a, ha, rfl⟩ := List.mem_iff_getElem.1 hi
  have := gofX_take h G0 hG xs.length (Nat.le_refl _) a ha ha
  rw [List.take_length] at this
  rw [show 2 * pos os xs[a].1 / 2 = pos os xs[a].1 by omega, goal_xs h ha]
  exact this
end
end Go.Proofs.YtahmljjjdoaahaaDoor.Fl

/-
  What stays of memory, place by place, with the heads: the range over a function.
-/
namespace Go.Proofs.YtahmljjjdoaahaaDoor.Fl
open Go.RowKit Go.Shelf
attribute [local go_sem] Oper.semAt_some wide_fn

section
variable {base g gc cap gb gb2 size last lk sb gG U c3 Bn : Nat} {os : List Ob} {ws fs : List Nat} {xs : List (Kx os fs)}
theorem rdrd_of_row {w : World} {g : Nat} {v0 v1 v2 : Value} {T : TypeId} (h : w.heap[g]? = some (.cells #[v0, v1, v2] T (0, 0))) : w.cell? ⟨g, 0, none⟩ = some v0 ∧ w.cell? ⟨g, 1, none⟩ = some v1 ∧ w.cell? ⟨g, 2, none⟩ = some v2 ∧ ∀ k, w.frozen? ⟨g, k, none⟩ = false :=
  ⟨cell_of_row _ _ _ _ _ _ h, cell_of_row _ _ _ _ _ _ h, cell_of_row _ _ _ _ _ _ h, fun _ => frozen_of_row _ _ _ _ _ h⟩
/-- a look of gc's in memory -/
def GLook (w : World) (lk g sb gG U : Nat) : Prop := w.heap[lk]? = some (.cells #[.pointer (some ⟨g, 0, none⟩), .pointer (some ⟨sb, 0, none⟩), .slice (some ⟨gG, 0, none⟩) U U] 117 (0, 0))
/-- what the range reads -/
structure GcOf (base g gc cap gb gb2 size last lk sb gG U Bn : Nat) (os : List Ob) (ws fs : List Nat) (w : World) : Prop where
  obs : ObsAt w base g gc cap gb gb2 size last os ws
  found : Found w sb size fs
  env : EnvB w
  look : GLook w lk g sb gG U
  box : w.heap[Bn]? = some (.cells #[.pointer (some ⟨lk, 0, none⟩)] 85 (0, 0))
theorem GcOf.below {w w' : World} (h : GcOf base g gc cap gb gb2 size last lk sb gG U Bn os ws fs w) (hb : Below w.heap.size w w') : GcOf base g gc cap gb gb2 size last lk sb gG U Bn os ws fs w' :=
  ⟨h.obs.below hb, h.found.below hb, h.env.below hb, (hb.block _ (lt_of_block h.look)).trans h.look, (hb.block _ (lt_of_block h.box)).trans h.box⟩
/-- what a round keeps -/
def KpG (Z : Nat → TypeId → Prop) (base g gc cap gb gb2 size last lk sb gG U Bn : Nat) (os : List Ob) (ws fs : List Nat) (W W' : World) : Prop :=
  W.heap.size ≤ W'.heap.size ∧ (∀ k cs T fr, W.heap[k]? = some (.cells cs T fr) → ¬ Z k T → W'.heap[k]? = W.heap[k]?) ∧ (GcOf base g gc cap gb gb2 size last lk sb gG U Bn os ws fs W → GcOf base g gc cap gb gb2 size last lk sb gG U Bn os ws fs W')
theorem KpG.trans {Z : Nat → TypeId → Prop} {A B C : World} (h : KpG Z base g gc cap gb gb2 size last lk sb gG U Bn os ws fs A B) (h' : KpG Z base g gc cap gb gb2 size last lk sb gG U Bn os ws fs B C) : KpG Z base g gc cap gb gb2 size last lk sb gG U Bn os ws fs A C :=
  ⟨Nat.le_trans h.1 h'.1, fun k cs T fr hk hx => (h'.2.1 k cs T fr ((h.2.1 k cs T fr hk hx).trans hk) hx).trans (h.2.1 k cs T fr hk hx), fun hh => h'.2.2 (h.2.2 hh)⟩
def encK (os : List Ob) (fs : List Nat) (k : Kx os fs) : Array Value := #[.int .i64 (pos os k.1 : Int), headV (os[k.1]'k.2.1)]
set_option maxRecDepth 100000 in
set_option maxHeartbeats 4000000 in
theorem each1_in (n : Nat) (hn : 1 ≤ n) (hst : Stays os fs xs) (l : Nat) (J Jx : List (Kx os fs) → World → Prop) (B : Nat) (Z : Nat → TypeId → Prop)
    (hY : ∀ pre x W, J pre W → pre.length < xs.length → YieldAt Fence.wide (n - 1) Tryd.prog l (encK os fs x) W fun e W' =>
      (e = .returned (.bool true) ∧ J (pre ++ [x]) W' ∧ KpG Z base g gc cap gb gb2 size last lk sb gG U Bn os ws fs W W') ∨ (e = .returned (.bool false) ∧ Jx (pre ++ [x]) W'))
    (W : World) (_hZ : ∀ k, W.heap.size ≤ k → ¬ Z k 52) (hJ : AbidesFrom B J) (h : GcOf base g gc cap gb gb2 size last lk sb gG U Bn os ws fs W) (h0 : J [] W) :
    CallsIn Fence.wide n Tryd.prog 65 #[.func (.yield l) #[] #[], .pointer (some ⟨Bn, 0, none⟩)] W fun e W' => (∃ v, e = .returned v) ∧
      ((∃ ys, ys = xs ∧ J ys W') ∨ (∃ pre, (∃ k, k ≤ xs.length ∧ pre = xs.take k) ∧ Jx pre W')) := by
  refine callsIn_of_wp Tryd.func65 rfl trivial ?_ rfl
  simp only [Tryd.ntmps65, List.size_toArray, List.length_cons, List.length_nil, Nat.reduceAdd, Nat.reduceSub, Array.replicate_succ, Array.replicate_zero, List.push_toArray, List.append_toArray, List.nil_append, List.cons_append]
  have fB := one_cellW h.box
  have fL := rdrd_of_row h.look
  have hnx := found_next (z := 0) (m := 0) h.found h.env rfl
  gi_wp2
  try (refine ⟨trivial, ?_⟩; gi_at_call 66)
  refine (callsIn_wide.2 hnx).mono ?_
  rintro e w0 ⟨r, rfl, hr, hb0⟩
  obtain rfl := hst.next0 hr
  have HN0 := Lib.hid hr
  have HG0 := Lib.hid (h.below hb0)
  have HJ0 := Lib.hid (abide hJ h0 hb0)
  have HS0 := Lib.hid hb0.size
  clear hnx hr hb0 fB fL h h0
  gi_wp2
  gi_loopw [3] (fun v wr => ∃ j : Nat, j ≤ xs.length ∧ v = .int .i64 (atJ xs j) ∧ (∃ m, Hid (NextF fs size m (atJ xs j))) ∧ Hid (J (xs.take j) wr) ∧ Hid (GcOf base g gc cap gb gb2 size last lk sb gG U Bn os ws fs wr) ∧ Hid (W.heap.size ≤ wr.heap.size))
    (fun v _ => nxm size v)
  case atStart => exact ⟨0, Nat.zero_le _, rfl, ⟨0, HN0⟩, (by simpa using HJ0), HG0, HS0⟩
  case round =>
    clear HN0 HG0 HJ0 HS0
    obtain ⟨j, hj, rfl, ⟨m, HN⟩, HJ, HG, HS⟩ := hrel
    by_cases hlt : j < xs.length
    · have hsz := HG.out.obs.len
      have htop := pos_top os xs[j].2.1
      have hp2 := pos_two os xs[j].1
      have hpt := fun w' => pointer_in (pos os xs[j].1 : Int) w' (by omega) (by omega)
      have hhd := ohead_any xs[j].2.1 HG.out.obs
      rw [standK_lt xs[j].2.1] at hhd
      rw [show (pos os xs[j].1 : Int) * 2 = ((2 * pos os xs[j].1 : Nat) : Int) by omega] at hpt
      have hY' := fun (wx : World) (hx : J (xs.take j) wx) => hY (xs.take j) xs[j] wx hx (by rw [List.length_take]; omega)
      unfold encK headV at hY'
      have HY' := Lib.hid hY'
      have HTk : Hid (xs.take (j + 1) = xs.take j ++ [xs[j]]) := Lib.hid (List.take_succ_eq_append_getElem hlt)
      have HNx : Hid (∀ r, NextF fs size (pos os xs[j].1 + 1) r → r = atJ xs (j + 1)) := Lib.hid fun r hr => hst.next1 hlt hr
      have HM : Hid (∀ r, NextF fs size (pos os xs[j].1 + 1) r → nxm size (.int .i64 r) < nxm size (.int .i64 (pos os xs[j].1 : Int))) := Lib.hid fun r hr => nxm_lt (by
        rcases HN.out with ⟨e, _⟩ | ⟨i, e, _, h2, _⟩
        · rw [atJ_lt hlt] at e; omega
        · rw [atJ_lt hlt] at e; omega) hr
      rw [atJ_lt hlt]
      have fB := one_cellW HG.out.box
      have fL := rdrd_of_row HG.out.look
      have hp64 : (pos os xs[j].1 : Int) ≤ 16777216 := by omega
      have HLt := Lib.hid hlt
      clear hY' HN htop
      try simp only at HY'
      unfold CHead at hhd
      generalize xs[j] = x at *
      generalize os[x.1]'x.2.1 = o at *
      generalize pos os x.1 = p at *
      clear hlt
      gi_wp2
      try (refine ⟨trivial, ?_⟩; gi_at_call 54)
      refine (callsIn_wide.2 (hpt _)).mono ?_
      rintro e w' ⟨rfl, rfl⟩
      clear hpt
      gi_wp2
      try (refine ⟨trivial, ?_⟩; gi_at_call 10)
      refine (callsIn_wide.2 hhd).mono ?_
      rintro e w1 ⟨rfl, hb1⟩
      have hb2 : Below wr.heap.size wr (w1.alloc (.cells #[.int .u64 (o.cl : Int), .int .i64 (o.kind : Int), .int .i64 (o.sz : Int), .int .u32 (o.hash : Int), .bool o.mark] 52)) := hb1.alloc hb1.size _
      obtain ⟨w2, hw2⟩ : ∃ w2, w1.alloc (.cells #[.int .u64 (o.cl : Int), .int .i64 (o.kind : Int), .int .i64 (o.sz : Int), .int .u32 (o.hash : Int), .bool o.mark] 52) = w2 := ⟨_, rfl⟩
      have hq2 : w2.heap[w1.heap.size]? = some (.cells #[.int .u64 (o.cl : Int), .int .i64 (o.kind : Int), .int .i64 (o.sz : Int), .int .u32 (o.hash : Int), .bool o.mark] 52 (0, 0)) := by rw [← hw2]; exact heap_alloc_new w1 _
      rw [hw2] at hb2
      have HG2 := Lib.hid (HG.out.below hb2)
      have HS2 := Lib.hid (show W.heap.size ≤ w2.heap.size by have := hb2.size; have := HS.out; omega)
      have hsz1 : W.heap.size ≤ w1.heap.size := by have := hb1.size; have := HS.out; omega
      obtain ⟨fn, tmps, assign, body, hy, hR⟩ := HY'.out w2 (abide hJ HJ.out hb2)
      have q2 := cells5 hq2
      clear hhd hb1 hb2 HG HS HJ fB fL
      gi_wp2
      refine hR.mono ?_
      rintro e w3 (⟨rfl, hJ3, hk3⟩ | ⟨rfl, hJx3⟩)
      · have HG3 := Lib.hid (hk3.2.2 HG2.out)
        have HS3 := Lib.hid (Nat.le_trans HS2.out hk3.1)
        have HJ3 := Lib.hid hJ3
        have fB := one_cellW HG3.out.box
        have fL := rdrd_of_row HG3.out.look
        have hnx := found_next (z := (p : Int) + 1) (m := p + 1) HG3.out.found HG3.out.env (by omega)
        clear hk3 hJ3 hy hR q2 hq2 HG2 HS2
        gi_wp2
        try (refine ⟨trivial, ?_⟩; gi_at_call 66)
        refine (callsIn_wide.2 hnx).mono ?_
        rintro e w4 ⟨r, rfl, hr, hb4⟩
        have HR := Lib.hid hr
        have HJ4 := Lib.hid (abide hJ HJ3.out hb4)
        have HG4 := Lib.hid (HG3.out.below hb4)
        have HS4 := Lib.hid (Nat.le_trans HS3.out hb4.size)
        have HRe := Lib.hid (HNx.out r hr)
        clear hnx hr hb4 fB fL HG3 HJ3 HS3
        gi_wp2
        go_roundw
        case rel => exact ⟨j + 1, HLt.out, by rw [HRe.out], ⟨p + 1, by rw [← HRe.out]; exact HR⟩, by rw [HTk.out]; exact HJ4, HG4, HS4⟩
        case measure => exact HM.out r HR.out
      · have HJx := Lib.hid hJx3
        clear hJx3 hy hR
        gi_wp2
        refine bodyPost_ret (results_none rfl _ _ _) rfl ?_
        exact ⟨⟨_, rfl⟩, .inr ⟨_, ⟨j + 1, HLt.out, HTk.out.symm⟩, HJx.out⟩⟩
    · have hend : j = xs.length := by omega
      subst hend
      have HJe : Hid (J xs wr) := Lib.hid (by have := HJ.out; rwa [List.take_length] at this)
      rw [atJ_end (Nat.le_refl _)]
      gi_wp2
      go_end0
      exact ⟨⟨_, rfl⟩, .inl ⟨_, rfl, HJe.out⟩⟩
end
end Go.Proofs.YtahmljjjdoaahaaDoor.Fl

/-
  What stays of memory: its places one by one (each); words that are turned.
-/
namespace Go.Proofs.YtahmljjjdoaahaaDoor.Fl
open Go.RowKit Go.Shelf

section
variable {base g gc cap gb gb2 size last lk sb gG U Bn : Nat} {os : List Ob} {ws fs : List Nat} {xs : List (Kx os fs)}
theorem each_any (w : World) :
    Calls Tryd.prog 53 #[.pointer (some ⟨lk, 0, none⟩)] w fun e w' => e = .returned (.func (.func 65) #[] #[.pointer (some ⟨w.heap.size, 0, none⟩)]) ∧ w' = w.alloc (.cells #[.pointer (some ⟨lk, 0, none⟩)] 85) := by
  go_enter Tryd.func53, Tryd.ntmps53
  go_wp2_with fail
  go_ret
  exact ⟨rfl, rfl⟩
theorem each_stops (n : Nat) (hn : 1 ≤ n) (hst : Stays os fs xs) (Z : Nat → TypeId → Prop) (w : World) (hZ : ∀ k, w.heap.size ≤ k → ¬ Z k 52) (h : GcOf base g gc cap gb gb2 size last lk sb gG U Bn os ws fs w) :
    SeqStopsK Fence.wide n Tryd.prog 65 #[.pointer (some ⟨Bn, 0, none⟩)] (encK os fs) (KpG Z base g gc cap gb gb2 size last lk sb gG U Bn os ws fs) (fun ys => ys = xs) (fun pre => ∃ k, k ≤ xs.length ∧ pre = xs.take k) xs.length w :=
  fun l J Jx W hW hJ _ hY h0 => each1_in n hn hst l J Jx W.heap.size Z hY W (fun k hk => hZ k (Nat.le_trans hW.size hk)) hJ (h.below hW) h0
theorem KpG.refl {Z : Nat → TypeId → Prop} (W : World) : KpG Z base g gc cap gb gb2 size last lk sb gG U Bn os ws fs W W := ⟨Nat.le_refl _, fun _ _ _ _ _ _ => rfl, fun h => h⟩
theorem ObsAt.kept {W W' : World} (h : ObsAt W base g gc cap gb gb2 size last os ws) (hk : ∀ (k : Nat) cs T fr, W.heap[k]? = some (Obj.cells cs T fr) → (k = g ∨ k = gc ∨ k = gb ∨ k = gb2) → W'.heap[k]? = W.heap[k]?) : ObsAt W' base g gc cap gb gb2 size last os ws := by
  obtain ⟨cur, hg, _⟩ := h.heap.row
  obtain ⟨c, hb⟩ := h.heap.bits.hd
  obtain ⟨cu, hb2, _⟩ := h.heap.bits.wd
  exact ⟨h.heap.at_ (hk _ _ _ _ h.heap.hd (by simp)) (hk _ _ _ _ hg (by simp)) (hk _ _ _ _ hb (by simp)) (hk _ _ _ _ hb2 (by simp)), h.set, h.ok⟩
/-- what a range reads, where some cells have changed that it does not read -/
theorem GcOf.kept {W W' : World} {N0 : Nat} (h : GcOf base g gc cap gb gb2 size last lk sb gG U Bn os ws fs W) (hk : ∀ (k : Nat) cs T fr, W.heap[k]? = some (Obj.cells cs T fr) → k < N0 ∨ k = lk ∨ k = Bn → W'.heap[k]? = W.heap[k]?) (hlt : g < N0 ∧ gc < N0 ∧ gb < N0 ∧ gb2 < N0) (hsb : ∃ sb2 bs, BitsAt W sb sb2 size bs ∧ (∀ i, bitAt bs i = true ↔ 2 * i ∈ fs) ∧ sb < N0 ∧ sb2 < N0) (he : 0 < N0) : GcOf base g gc cap gb gb2 size last lk sb gG U Bn os ws fs W' := by
  refine ⟨h.obs.kept (fun k cs T fr hc hx => hk k cs T fr hc (.inl ?_)), ?_, ?_, (hk _ _ _ _ h.look (by simp)).trans h.look, (hk _ _ _ _ h.box (by simp)).trans h.box⟩
  · obtain ⟨a1, a2, a3, a4⟩ := hlt
    rcases hx with rfl | rfl | rfl | rfl
    · exact a1
    · exact a2
    · exact a3
    · exact a4
  · obtain ⟨sb2, bs, h1, h2, h3, h4⟩ := hsb
    obtain ⟨c, hb⟩ := h1.hd
    obtain ⟨cu, hb2, _⟩ := h1.wd
    exact ⟨sb2, bs, h1.at_ (hk _ _ _ _ hb (.inl h3)) (hk _ _ _ _ hb2 (.inl h4)), h2⟩
  · intro j hj
    have h0 := h.env j hj
    obtain ⟨cs, T, fr, hc⟩ : ∃ cs T fr, W.heap[0]? = some (Obj.cells cs T fr) := by
      unfold World.cell? at h0
      split at h0
      · exact ⟨_, _, _, by assumption⟩
      · cases h0
    rw [World.cell?_of_block (a := ⟨0, j, none⟩) (hk _ _ _ _ hc (.inl he))]
    exact h0
theorem kpg_put {Z : Nat → TypeId → Prop} (W : World) (l : Nat) (o o' : Obj) (h : W.heap[l]? = some o) (ho : o.isCells = false) : KpG Z base g gc cap gb gb2 size last lk sb gG U Bn os ws fs W (W.putObj l o') := by
  have hk : ∀ (k : Nat) cs T fr, W.heap[k]? = some (Obj.cells cs T fr) → (W.putObj l o').heap[k]? = W.heap[k]? := fun k cs T fr hc => World.putObj_heap_other (fun e => by subst e; rw [h] at hc; cases hc; cases ho)
  refine ⟨by simp, fun k cs T fr hc _ => hk k cs T fr hc, fun hG => ?_⟩
  obtain ⟨sb2, bs, h1, h2⟩ := hG.found
  obtain ⟨c, hb⟩ := h1.hd
  obtain ⟨cu, hb2, _⟩ := h1.wd
  refine ⟨hG.obs.kept (fun k cs T fr hc _ => hk k cs T fr hc), ⟨sb2, bs, h1.at_ (hk _ _ _ _ hb) (hk _ _ _ _ hb2), h2⟩, ?_, (hk _ _ _ _ hG.look).trans hG.look, (hk _ _ _ _ hG.box).trans hG.box⟩
  intro j hj
  have h0 := hG.env j hj
  obtain ⟨cs, T, fr, hc⟩ : ∃ cs T fr, W.heap[0]? = some (Obj.cells cs T fr) := by
    unfold World.cell? at h0
    split at h0
    · exact ⟨_, _, _, by assumption⟩
    · cases h0
  rw [World.cell?_of_block (a := ⟨0, j, none⟩) (hk _ _ _ _ hc)]
  exact h0
end
/-- a list of words, of which some are turned -/
def turnL (f : Nat → Nat) (off n : Nat) (D : List Nat) : List Nat := D.take off ++ (((D.drop off).take n).map f ++ D.drop (off + n))
theorem turnL_zero (f : Nat → Nat) (off : Nat) (D : List Nat) : turnL f off 0 D = D := by unfold turnL; simp
theorem turnL_len (f : Nat → Nat) (off n : Nat) (D : List Nat) (h : off + n ≤ D.length) : (turnL f off n D).length = D.length := by
  unfold turnL; simp; omega
theorem turnL_at (f : Nat → Nat) (off n : Nat) (D : List Nat) (h : off + n < D.length) : (turnL f off n D)[off + n]? = some D[off + n] := by
  unfold turnL
  rw [List.getElem?_append_right (by simp; omega), List.getElem?_append_right (by simp; omega)]
  simp only [List.length_take, List.length_map, List.length_drop]
  rw [List.getElem?_drop, show off + n + (off + n - min off D.length - min n (D.length - off)) = off + n by omega, List.getElem?_eq_getElem h]
theorem turnL_succ (f : Nat → Nat) (off n : Nat) (D : List Nat) (h : off + n < D.length) : (turnL f off n D).set (off + n) (f D[off + n]) = turnL f off (n + 1) D := by
  unfold turnL
  rw [List.set_append_right _ _ (by simp; omega), List.set_append_right _ _ (by simp; omega)]
  simp only [List.length_take, List.length_map, List.length_drop]
  rw [show off + n - min off D.length - min n (D.length - off) = 0 by omega, List.drop_eq_getElem_cons h, List.set_cons_zero, ← Nat.add_assoc]
  have e : ((D.drop off).take (n + 1)) = (D.drop off).take n ++ [D[off + n]] := by
    rw [List.take_add_one, List.getElem?_drop, List.getElem?_eq_getElem h]; rfl
  rw [e, List.map_append, List.append_assoc]
  rfl
theorem turnL_same (f : Nat → Nat) (off n : Nat) (D : List Nat) (h : off + n < D.length) (hf : f D[off + n] = D[off + n]) : turnL f off (n + 1) D = turnL f off n D := by
  rw [← turnL_succ f off n D h, hf]
  have := turnL_at f off n D h
  obtain ⟨hl, e⟩ := List.getElem?_eq_some_iff.1 this
  conv => lhs; rw [← e]
  exact List.set_getElem_self hl
section
variable {lk g sb gG U : Nat} {os : List Ob} {fs : List Nat} {xs : List (Kx os fs)}
theorem ownH_cell {w : World} {base g n cap : Nat} {L : List Nat} (h : OwnH w base (.slice (some ⟨g, 0, none⟩) n cap) L) (hn : L.length = n) {j : Nat} (hj : j < L.length) : w.cell? ⟨g, j, none⟩ = some (.int .u64 (L[j] : Int)) := by
  subst hn
  rw [World.ownsRow.cellAt h j (by omega), cw_at _ _ hj]
theorem ownH_free {w : World} {base g n cap : Nat} {L : List Nat} (h : OwnH w base (.slice (some ⟨g, 0, none⟩) n cap) L) (hn : L.length = n) (j : Nat) : w.frozen? ⟨g, j, none⟩ = false := by
  subst hn; exact World.ownsRow.frozenAt h j
theorem ownH_set {w : World} {base g n cap : Nat} {L : List Nat} (h : OwnH w base (.slice (some ⟨g, 0, none⟩) n cap) L) (hn : L.length = n) (j x : Nat) : OwnH (w.setCell ⟨g, j, none⟩ (.int .u64 (x : Int))) base (.slice (some ⟨g, 0, none⟩) n cap) (L.set j x) := by
  subst hn
  have := (World.ownsRow.stored h j (.int .u64 (x : Int))).1
  unfold OwnH
  rw [List.length_set]
  have e : cw (L.set j x) = (cw L).set j (.int .u64 (x : Int)) := by unfold cw; rw [List.map_set]
  rw [e]; exact this
theorem ownH_at {w w' : World} {base g n cap : Nat} {L : List Nat} (h : OwnH w base (.slice (some ⟨g, 0, none⟩) n cap) L) (hk : w'.heap[g]? = w.heap[g]?) : OwnH w' base (.slice (some ⟨g, 0, none⟩) n cap) L := by
  refine ⟨h.1, ?_⟩
  rcases h.2 with h | ⟨g', cap', cur, e, hb', hg, hr⟩
  · exact .inl h
  · have e2 := e
    injection e2 with e1
    injection e1 with e1
    injection e1 with e1
    subst e1
    exact .inr ⟨g, cap', cur, e, hb', hk.trans hg, hr⟩
theorem One.refl (b : Nat) (w : World) : One b w w := ⟨rfl, rfl, rfl, rfl, fun _ _ => rfl⟩
theorem One.setCell {b : Nat} {w w' : World} (h : One b w w') (j : Nat) (v : Value) : One b w (w'.setCell ⟨b, j, none⟩ v) :=
  ⟨h.os, h.tape, h.output, by rw [← h.size]; simp [World.setCell], fun k hk => (Below.heap_setCell _ _ _ k hk).trans (h.block k hk)⟩
def TurnPost (b B cap : Nat) (D' : List Nat) (w : World) (e : Ending) (w' : World) : Prop := e = .returned (.tuple #[]) ∧ OwnH w' B (.slice (some ⟨b, 0, none⟩) D'.length cap) D' ∧ One b w w'
/-- the words of a row that are to be turned: pointers of what stays, and numbers -/
def GoodAt (fs D : List Nat) (off n : Nat) : Prop := ∀ i (hi : i < D.length), off ≤ i → i < off + n → D[i] < 18446744073709551616 ∧ (isW D[i] → D[i] ∈ fs)
set_option maxHeartbeats 2000000 in
theorem turn_any (D G : List Nat) (b off n cap c B B1 : Nat) (w : World) (hL : GLook w lk g sb gG U) (hG : OwnH w B1 (.slice (some ⟨gG, 0, none⟩) U U) G) (hGl : G.length = U) (hgo : GoalsOk os fs xs G) (hD : OwnH w B (.slice (some ⟨b, 0, none⟩) D.length cap) D)
    (hr : off + n ≤ D.length) (hne : gG ≠ b) (hfs : ∀ x ∈ fs, x < 33554432) (hw : GoodAt fs D off n) (hl : D.length ≤ 16777216) :
    Calls Tryd.prog 32 #[.pointer (some ⟨lk, 0, none⟩), .slice (some ⟨b, off, none⟩) n c] w (TurnPost b B cap (turnL (goal os (ksOf xs)) off n D) w) := by
  have hbk : ∃ cur, w.heap[b]? = some (.cells cur 38 (0, 0)) := by
    rcases hD.2 with ⟨e, _⟩ | ⟨g', cap', cur, e, _, hg, _⟩
    · cases e
    · injection e with e1
      injection e1 with e1
      injection e1 with e1
      subst e1
      exact ⟨cur, hg⟩
  have hlb : lk ≠ b := by
    obtain ⟨cur, hc⟩ := hbk
    exact other_type hL hc (by decide)
  have HL := Lib.hid hL
  have HG := Lib.hid hG
  have HGl := Lib.hid hGl
  have HGo := Lib.hid hgo
  have HFs := Lib.hid hfs
  have HW := Lib.hid hw
  have HD : Hid (OwnH w B (.slice (some ⟨b, 0, none⟩) D.length cap) (turnL (goal os (ksOf xs)) off 0 D)) := Lib.hid (by rw [turnL_zero]; exact hD)
  obtain ⟨N, hN⟩ : ∃ N, D.length = N := ⟨_, rfl⟩
  have HN := Lib.hid hN
  rw [hN] at hr hl HD
  clear hL hG hGl hgo hfs hw hD hbk hN
  go_enter Tryd.func32, Tryd.ntmps32
  go_wp2_with fail
  go_loopw [9] (fun v wr => ∃ j : Nat, j ≤ n ∧ v = .int .i64 (j : Int) ∧ Hid (OwnH wr B (.slice (some ⟨b, 0, none⟩) N cap) (turnL (goal os (ksOf xs)) off j D)) ∧ Hid (One b w wr)) (fun v _ => n - (intOf v).toNat)
  case atStart => exact ⟨0, Nat.zero_le _, rfl, HD, Lib.hid (One.refl b w)⟩
  case round =>
    clear HD
    obtain ⟨j, hj, rfl, HD, HO⟩ := hrel
    by_cases hlt : j < n
    · have hjD : off + j < D.length := by rw [HN.out]; omega
      have hlen : (turnL (goal os (ksOf xs)) off j D).length = N := by rw [turnL_len _ _ _ _ (by omega), HN.out]
      obtain ⟨hl2, hat⟩ := List.getElem?_eq_some_iff.1 (turnL_at (goal os (ksOf xs)) off j D hjD)
      have hcell := ownH_cell HD.out hlen hl2
      rw [hat] at hcell
      have hfr := ownH_free HD.out hlen (off + j)
      obtain ⟨hx64, hxf⟩ := HW.out (off + j) hjD (by omega) (by omega)
      have hL := (HO.out.block lk hlb).trans HL.out
      have fL := rdrd_of_row hL
      have HLen := Lib.hid hlen
      by_cases hw : isW D[off + j]
      · have hmem := hxf hw
        have h33 := HFs.out _ hmem
        have hGa := HGo.out _ hmem
        obtain ⟨hgl, hge⟩ := List.getElem?_eq_some_iff.1 hGa
        have hG := ownH_at HG.out (HO.out.block gG hne)
        have hgc := ownH_cell hG HGl.out hgl
        rw [hge] at hgc
        have hgU : D[off + j] / 2 < U := by rw [← HGl.out]; exact hgl
        have hset := ownH_set HD.out hlen (off + j) (goal os (ksOf xs) D[off + j])
        rw [turnL_succ _ _ _ _ hjD] at hset
        have hw' : ¬ (D[off + j] = 0 ∨ D[off + j] % 2 = 1) := hw
        have hat2 := fun w' => at_in (D[off + j] : Int) w' (by omega) (by omega) (by omega)
        have HS := Lib.hid hset
        have HO2 := Lib.hid (HO.out.setCell (off + j) (.int .u64 (goal os (ksOf xs) D[off + j] : Int)))
        have HE : Hid ((D[off + j] : Int) / 2 = ((D[off + j] / 2 : Nat) : Int)) := Lib.hid (by omega)
        rw [HE.out] at hat2
        clear hset hG hGa hge hat hlen hx64 hxf hw hw' HD HO HE
        generalize goal os (ksOf xs) D[off + j] = y at *
        generalize D[off + j] / 2 = q at *
        generalize D[off + j] = x at *
        go_wp2_with fail
        refine (hat2 _).mono ?_
        rintro e w' ⟨rfl, rfl⟩
        clear hat2
        go_wp2_with fail
        go_roundw
        case rel => exact ⟨j + 1, by omega, by simp, HS, HO2⟩
        case measure => simp [intOf]; omega
      · have hg : goal os (ksOf xs) D[off + j] = D[off + j] := goal_num _ hw
        have HS : Hid (OwnH wr B (.slice (some ⟨b, 0, none⟩) N cap) (turnL (goal os (ksOf xs)) off (j + 1) D)) := Lib.hid (by rw [turnL_same _ _ _ _ hjD hg]; exact HD.out)
        have hw' : D[off + j] = 0 ∨ D[off + j] % 2 = 1 := Decidable.not_not.1 hw
        have hat2 := fun w' => at_out (D[off + j] : Int) w' (by omega) (by omega) (by omega)
        clear hg hw hw' hat hxf HD
        generalize D[off + j] = x at *
        go_wp2_with fail
        refine (hat2 _).mono ?_
        rintro e w' ⟨rfl, rfl⟩
        clear hat2
        go_wp2_with fail
        go_roundw
        case rel => exact ⟨j + 1, by omega, by simp, HS, HO⟩
        case measure => simp [intOf]; omega
    · obtain rfl : j = n := by omega
      have hlen : (turnL (goal os (ksOf xs)) off j D).length = N := by rw [turnL_len _ _ _ _ (by rw [HN.out]; omega), HN.out]
      have HLen := Lib.hid hlen
      clear hlen
      go_wp2_with fail
      refine bodyPost_end (results_none rfl _ _ _) rfl ⟨rfl, ?_, HO.out⟩
      rw [HLen.out]; exact HD.out
end
end Go.Proofs.YtahmljjjdoaahaaDoor.Fl
