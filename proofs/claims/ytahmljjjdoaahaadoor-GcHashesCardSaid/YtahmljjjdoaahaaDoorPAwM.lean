/-
  A chain of objects: its cells, its places, what its objects lead to, and the waves through it.
-/
import Derived.Test.YtahmljjjdoaahaaDoorPMarkE
import Derived.Test.YtahmljjjdoaahaaDoorPBits
import Derived.Test.YtahmljjjdoaahaaDoorPReach
namespace Go.Proofs.YtahmljjjdoaahaaDoor.Fl
open Go.RowKit

/-- the word of the object behind i others -/
def lw (i : Nat) : Nat := if i = 0 then 1 else 6 * i + 2
/-- the cells of a class and a chain of so many objects -/
def chL : Nat → List Nat
  | 0 => [0, 0, 4, pk 0 0 0 false]
  | i + 1 => chL i ++ (4 :: pk 1 1 0 false :: List.replicate 1 (lw i))
theorem chL_len : ∀ i, (chL i).length = 4 + 3 * i
  | 0 => rfl
  | i + 1 => by rw [chL, List.length_append, chL_len i]; simp; omega
theorem chL_at : ∀ n m, 1 ≤ m → m ≤ n → (chL n)[3 * m + 1]? = some 4 ∧ (chL n)[3 * m + 2]? = some (pk 1 1 0 false) ∧ (chL n)[3 * m + 3]? = some (lw (m - 1))
  | 0, m, h1, h2 => by omega
  | n + 1, m, h1, h2 => by
    rw [chL]
    have hl := chL_len n
    by_cases h : m ≤ n
    · obtain ⟨a, b, c⟩ := chL_at n m h1 h
      rw [List.getElem?_append_left (by omega), List.getElem?_append_left (by omega), List.getElem?_append_left (by omega)]
      exact ⟨a, b, c⟩
    · obtain rfl : m = n + 1 := by omega
      rw [List.getElem?_append_right (by omega), List.getElem?_append_right (by omega), List.getElem?_append_right (by omega), hl, show 3 * (n + 1) + 1 - (4 + 3 * n) = 0 by omega, show 3 * (n + 1) + 2 - (4 + 3 * n) = 1 by omega, show 3 * (n + 1) + 3 - (4 + 3 * n) = 2 by omega]
      exact ⟨rfl, rfl, rfl⟩
theorem chL_c : ∀ n, (chL n)[2]? = some 4 ∧ (chL n)[3]? = some (pk 0 0 0 false)
  | 0 => ⟨rfl, rfl⟩
  | n + 1 => by
    rw [chL]
    have hl := chL_len n
    obtain ⟨a, b⟩ := chL_c n
    rw [List.getElem?_append_left (by omega), List.getElem?_append_left (by omega)]
    exact ⟨a, b⟩
/-- the places of a class and so many objects -/
def Bt (ws : List Nat) (n : Nat) : Prop := ∀ j, bitAt ws j = decide (j = 2 ∨ (4 ≤ j ∧ j < 4 + 3 * n ∧ j % 3 = 1))
theorem Bt.next {ws : List Nat} {n : Nat} (h : Bt ws n) (hl : (4 + 3 * n) / 64 < ws.length) : Bt (flip ws (4 + 3 * n)) (n + 1) := fun j => by
  rw [bitAt_flip hl]
  by_cases e : j = 4 + 3 * n
  · subst e
    rw [if_pos rfl, h, Bool.eq_iff_iff]
    simp
    omega
  · rw [if_neg e, h, Bool.eq_iff_iff]
    simp
    omega
theorem Bt.first {m : Nat} (hm : 0 < m) : Bt (flip (List.replicate m 0) 2) 0 := fun j => by
  rw [bitAt_flip (by simp; exact hm)]
  by_cases e : j = 2
  · subst e; rw [if_pos rfl, bitAt_zero]; rfl
  · rw [if_neg e, bitAt_zero, Bool.eq_iff_iff]
    simp
    omega
theorem Bt.isp {ws : List Nat} {n p : Nat} (h : Bt ws n) (hp : isP ws p) : p = 4 ∨ ∃ m, 1 ≤ m ∧ m ≤ n ∧ p = 6 * m + 2 := by
  obtain ⟨h1, h2, h3, h4⟩ := hp
  rw [h] at h4
  rcases of_decide_eq_true h4 with h5 | ⟨h5, h6, h7⟩
  · left; omega
  · right; exact ⟨p / 6, by omega, by omega, by omega⟩
theorem Bt.c {ws : List Nat} {n : Nat} (h : Bt ws n) : isP ws 4 := ⟨by decide, by decide, by decide, by rw [h]; simp⟩
theorem Bt.o {ws : List Nat} {n m : Nat} (h : Bt ws n) (h1 : 1 ≤ m) (h2 : m ≤ n) (h3 : n ≤ 5000000) : isP ws (6 * m + 2) := ⟨by omega, by omega, by omega, by rw [h]; apply decide_eq_true; omega⟩
def chLd (p : Nat) : List Nat := if p = 4 then [4] else [4, lw (p / 6 - 1)]
def chCn (p : Nat) : Nat := if p = 4 then 0 else 1
theorem chLd_c : chLd 4 = [4] := rfl
theorem chLd_o (m : Nat) (_h : 1 ≤ m) : chLd (6 * m + 2) = [4, lw (m - 1)] := by
  unfold chLd
  rw [if_neg (by omega), show (6 * m + 2) / 6 = m by omega]
theorem chain_graph {ws : List Nat} {n : Nat} (h : Bt ws n) (hn : n ≤ 5000000) : Graph chLd chCn (chL n) ws := fun p hp => by
  have hl := chL_len n
  rcases h.isp hp with rfl | ⟨m, m1, m2, rfl⟩
  · exact ⟨4, 0, 0, 0, false, [], ⟨hp, ⟨(chL_c n).1, (chL_c n).2, by decide, by decide⟩, fun _ => ⟨by omega, by simp⟩, fun e => by cases e⟩, rfl, by decide⟩
  · obtain ⟨a, b, c⟩ := chL_at n m m1 m2
    have e : (6 * m + 2) / 2 = 3 * m + 1 := by omega
    refine ⟨4, 1, 1, 0, false, [lw (m - 1)], ⟨hp, ⟨by rw [e]; exact a, by rw [e]; exact b, by decide, by decide⟩, fun _ => ⟨by omega, ?_⟩, fun e => by cases e⟩, chLd_o m m1, ?_⟩
    · obtain ⟨hl3, hc⟩ := List.getElem?_eq_some_iff.1 c
      rw [e, List.drop_eq_getElem_cons hl3, List.take_succ_cons, List.take_zero, hc]
    · unfold chCn
      rw [if_neg (by omega)]
      decide
/-- the objects behind the first, j of them -/
def tl (n : Nat) : Nat → List Nat
  | 0 => []
  | j + 1 => tl n j ++ [6 * (n - (j + 1)) + 2]
theorem tl_len (n : Nat) : ∀ j, (tl n j).length = j
  | 0 => rfl
  | j + 1 => by rw [tl, List.length_append, tl_len n j]; rfl
theorem tl_mem (n x : Nat) : ∀ j, x ∈ tl n j ↔ ∃ i, 1 ≤ i ∧ i ≤ j ∧ x = 6 * (n - i) + 2
  | 0 => by simp [tl]; omega
  | j + 1 => by
    rw [tl, List.mem_append, tl_mem n x j, List.mem_singleton]
    constructor
    · rintro (⟨i, h1, h2, h3⟩ | h)
      · exact ⟨i, h1, by omega, h3⟩
      · exact ⟨j + 1, by omega, Nat.le_refl _, h⟩
    · rintro ⟨i, h1, h2, h3⟩
      by_cases e : i = j + 1
      · subst e; exact .inr h3
      · exact .inl ⟨i, h1, by omega, h3⟩
def chF (n t : Nat) : List Nat := if t = 0 then [6 * n + 2] else (6 * n + 2) :: 4 :: tl n (min t (n - 1))
def chS (n t : Nat) : List Nat × Nat := (chF n t, if t = 0 then 0 else (chF n (t - 1)).length)
theorem chF_len (n t : Nat) (h : 1 ≤ t) : (chF n t).length = 2 + min t (n - 1) := by
  unfold chF
  rw [if_neg (by omega), List.length_cons, List.length_cons, tl_len]; omega
theorem find1_in {ws fs : List Nat} {x : Nat} (h : isP ws x) (hm : x ∈ fs) : find1 ws fs x = some fs := by
  unfold find1
  rw [if_neg (by have := h.1; have := h.2.1; omega), if_pos h, if_pos hm]
theorem find1_new {ws fs : List Nat} {x : Nat} (h : isP ws x) (hm : x ∉ fs) : find1 ws fs x = some (fs ++ [x]) := by
  unfold find1
  rw [if_neg (by have := h.1; have := h.2.1; omega), if_pos h, if_neg hm]
theorem find1_num {ws fs : List Nat} {x : Nat} (h : x % 2 = 1) : find1 ws fs x = some fs := by
  unfold find1
  rw [if_pos (.inr h)]
section
variable {ws : List Nat} {n : Nat}
theorem ask_c (h : Bt ws n) {fs : List Nat} (hm : 4 ∈ fs) : findL ws fs (chLd 4) = some fs := by
  rw [chLd_c, findL, find1_in h.c hm]; rfl
theorem ask_o (h : Bt ws n) (hn : n ≤ 5000000) (j : Nat) (hj : j + 1 ≤ n) : findL ws ((6 * n + 2) :: 4 :: tl n j) (chLd (6 * (n - j) + 2)) = some ((6 * n + 2) :: 4 :: tl n (min (j + 1) (n - 1))) := by
  rw [chLd_o _ (by omega), findL, find1_in h.c (by simp)]
  show findL ws _ [lw (n - j - 1)] = _
  rw [findL]
  by_cases e : j + 1 = n
  · rw [show n - j - 1 = 0 by omega, show lw 0 = 1 from rfl, find1_num (by decide), show min (j + 1) (n - 1) = j by omega]; rfl
  · have h2 : lw (n - j - 1) = 6 * (n - (j + 1)) + 2 := by unfold lw; rw [if_neg (by omega)]; omega
    rw [h2, find1_new (h.o (by omega) (by omega) hn) ?_, show min (j + 1) (n - 1) = j + 1 by omega]
    · rfl
    · intro hm
      rcases List.mem_cons.1 hm with hm | hm
      · omega
      · rcases List.mem_cons.1 hm with hm | hm
        · omega
        · obtain ⟨i, h1, h2, h3⟩ := (tl_mem _ _ _).1 hm
          omega
theorem chain_waves (h : Bt ws n) (hn : n ≤ 5000000) (h1 : 1 ≤ n) : Waves chLd ws [6 * n + 2] (chS n) (max n 2) := by
  refine ⟨rfl, fun t ht => ?_, ?_⟩
  · rcases Nat.eq_zero_or_pos t with rfl | ht0
    · refine ⟨Nat.zero_lt_one, ?_, rfl⟩
      show askL chLd ws [6 * n + 2] [6 * n + 2] = some (chF n 1)
      rw [askL, chLd_o _ h1, findL, find1_new h.c (by simp; omega)]
      show ((findL ws [6 * n + 2, 4] [lw (n - 1)]).bind fun f => askL chLd ws f []) = _
      rw [findL]
      by_cases e : n = 1
      · subst e
        rw [show lw (1 - 1) = 1 from rfl, find1_num (by decide)]; rfl
      · have h2 : lw (n - 1) = 6 * (n - 1) + 2 := by unfold lw; rw [if_neg (by omega)]
        rw [h2, find1_new (h.o (by omega) (by omega) hn) (by simp; omega)]
        show some ([6 * n + 2, 4] ++ [6 * (n - 1) + 2]) = some (chF n 1)
        unfold chF
        rw [if_neg (by decide), show min 1 (n - 1) = 0 + 1 by omega]; rfl
    · have e2 : (chS n t).2 = (chF n (t - 1)).length := by unfold chS; rw [if_neg (by omega)]
      have e3 : (chS n (t + 1)).2 = (chF n t).length := by unfold chS; rw [if_neg (by omega)]; rfl
      have l1 := chF_len n t ht0
      rw [e2, e3]
      show (chF n (t - 1)).length < (chF n t).length ∧ askL chLd ws (chF n t) ((chF n t).drop (chF n (t - 1)).length) = some (chF n (t + 1)) ∧ (chF n t).length = (chF n t).length
      have hF1 : chF n (t + 1) = (6 * n + 2) :: 4 :: tl n (min (t + 1) (n - 1)) := by unfold chF; rw [if_neg (by omega)]
      have hF : chF n t = (6 * n + 2) :: 4 :: tl n (min t (n - 1)) := by unfold chF; rw [if_neg (by omega)]
      by_cases e : t = 1
      · subst e
        have l0 : (chF n (1 - 1)).length = 1 := rfl
        rw [l0, hF1, hF]
        refine ⟨by simp, ?_, rfl⟩
        show askL chLd ws _ (4 :: tl n (min 1 (n - 1))) = _
        rw [askL, ask_c h (by simp)]
        show askL chLd ws _ (tl n (min 1 (n - 1))) = _
        by_cases e1 : n = 1
        · subst e1; rfl
        · rw [show min 1 (n - 1) = 1 by omega]
          show askL chLd ws _ [6 * (n - 1) + 2] = _
          rw [askL, ask_o h hn 1 (by omega)]; rfl
      · have l0 := chF_len n (t - 1) (by omega)
        have ht3 : t + 1 ≤ n := by omega
        rw [l0, hF1, hF, show min t (n - 1) = t by omega, show min (t - 1) (n - 1) = t - 1 by omega]
        refine ⟨by simp [tl_len]; omega, ?_, rfl⟩
        obtain ⟨u, rfl⟩ : ∃ u, t = u + 1 := ⟨t - 1, by omega⟩
        have hd : ((6 * n + 2) :: 4 :: tl n (u + 1)).drop (2 + (u + 1 - 1)) = [6 * (n - (u + 1)) + 2] := by
          rw [show 2 + (u + 1 - 1) = (u + 1) + 1 by omega, List.drop_succ_cons, List.drop_succ_cons, tl]
          exact List.drop_left' (tl_len n u)
        rw [hd, askL, ask_o h hn (u + 1) (by omega)]; rfl
  · have l1 := chF_len n (max n 2) (by omega)
    have l0 := chF_len n (max n 2 - 1) (by omega)
    show (if max n 2 = 0 then 0 else (chF n (max n 2 - 1)).length) = (chF n (max n 2)).length
    rw [if_neg (by omega), l0, l1]
    omega
theorem chain_end (h1 : 1 ≤ n) : (chF n (max n 2)) = (6 * n + 2) :: 4 :: tl n (n - 1) := by
  unfold chF
  rw [if_neg (by omega), show min (max n 2) (n - 1) = n - 1 by omega]
theorem tl_sum (n : Nat) : ∀ j, j < n → sumC chCn (tl n j) = 3 * j
  | 0, _ => rfl
  | j + 1, h => by
    rw [tl, sumC_snoc, tl_sum n j (by omega)]
    unfold chCn
    rw [if_neg (by omega)]; omega
theorem chain_sum (h1 : 1 ≤ n) : sumC chCn (chF n (max n 2)) = 3 * n + 2 := by
  rw [chain_end h1, sumC, sumC, tl_sum n _ (by omega)]
  unfold chCn
  rw [if_neg (by omega), if_pos rfl]; omega
theorem chain_met (h1 : 1 ≤ n) (t : Nat) : 8 ∈ chF n t ↔ n - 1 ≤ t := by
  unfold chF
  split
  · next e => subst e; simp; omega
  · rw [List.mem_cons, List.mem_cons, tl_mem]
    constructor
    · rintro (h | h | ⟨i, h2, h3, h4⟩)
      · omega
      · omega
      · omega
    · intro h
      by_cases e : n = 1
      · left; omega
      · right; right; exact ⟨n - 1, by omega, by omega, by omega⟩
theorem chain_len (h1 : 1 ≤ n) : (chF n (max n 2)).length = n + 1 := by
  rw [chF_len n _ (by omega)]; omega
end
/-- a set is counted by a list of its numbers -/
theorem cnt_list (f : Nat → Bool) : ∀ (n : Nat) (l : List Nat), l.Nodup → (∀ x ∈ l, x < n) → (∀ i, i < n → (f i = true ↔ i ∈ l)) → cnt f n = l.length
  | 0, l, _, h, _ => by
    cases l with
    | nil => rfl
    | cons a t => exact absurd (h a (by simp)) (by omega)
  | n + 1, l, hn, h, hm => by
    have hs : cnt f (n + 1) = cnt f n + (f n).toNat := by rw [cnt_add f n 1, cnt_front]; rfl
    rw [hs]
    by_cases e : n ∈ l
    · rw [cnt_list f n (l.erase n) (hn.erase n) (fun x hx => by
        have hx := hn.mem_erase_iff.1 hx
        have := h x hx.2
        omega) (fun i hi => by rw [hm i (by omega), hn.mem_erase_iff]; constructor
                               · exact fun h => ⟨by omega, h⟩
                               · exact fun h => h.2), List.length_erase_of_mem e, (hm n (by omega)).2 e]
      have := List.length_pos_of_mem e
      simp; omega
    · rw [cnt_list f n l hn (fun x hx => by
        have := h x hx
        rcases Nat.lt_or_ge x n with h1 | h1
        · exact h1
        · exact absurd (by rw [show n = x by omega]; exact hx) e) (fun i hi => hm i (by omega))]
      have : f n = false := by
        cases hc : f n with
        | false => rfl
        | true => exact absurd ((hm n (by omega)).1 hc) e
      rw [this]; rfl
end Go.Proofs.YtahmljjjdoaahaaDoor.Fl

/-
  What can be reached: Steps.
-/
namespace Go.Proofs.YtahmljjjdoaahaaDoor.Fl
open Go.RowKit

section
variable {w w' : World} {base g gc cap gb gb2 size last LB lk sb sb2 : Nat} {L ws fs : List Nat} {k : Nat}
theorem rd_one (w : World) (x : Nat) : Rd (w.alloc (.cells #[.int .u64 (x : Int)] 38)) (w.alloc (.cells #[.int .u64 (x : Int)] 38)).heap.size (some ⟨w.heap.size, 0, none⟩) (cw [x]) :=
  .inr ⟨w.heap.size, 0, rfl, by simp, fun j v hj => by
    have := lone_cell w (.int .u64 (x : Int)) 38 j v hj
    rw [show (⟨w.heap.size, 0, none⟩ : Addr).add j = ⟨w.heap.size, 0 + j, none⟩ by simp [Addr.add]; omega] at this
    exact this⟩
end
end Go.Proofs.YtahmljjjdoaahaaDoor.Fl

/-
  A heap with a chain of objects, and the fixed fact of layer 5's rows (awake_mark).
-/
namespace Go.Proofs.YtahmljjjdoaahaaDoor.Fl
open Go.RowKit

/-- a heap with a class and j objects in a chain -/
def ChH (w : World) (base g gb gb2 size j : Nat) : Prop := base ≤ w.heap.size ∧ ∃ gc cap ws, HeapAt w base g gc cap gb gb2 size 0 (chL j) ws ∧ Bt ws j
theorem below_q' (w : World) : ∀ q, Below w.heap.size w (w.drewN q)
  | 0 => Below.refl _ _
  | q + 1 => (below_q' w q).drew
section
variable {w w' : World} {base g gb gb2 size j n : Nat}
theorem ChH.below (h : ChH w base g gb gb2 size j) (hb : Below w.heap.size w w') : ChH w' base g gb gb2 size j := by
  obtain ⟨h0, gc, cap, ws, h1, h2⟩ := h
  exact ⟨Nat.le_trans h0 hb.size, gc, cap, ws, h1.below hb, h2⟩
def ChPost (w : World) (base g gb gb2 size p j : Nat) (e : Ending) (w' : World) : Prop := e = .returned (.tuple #[.int .u64 (p : Int), .int .i64 0]) ∧ ChH w' base g gb gb2 size j ∧ Below base w w'
theorem ch_class {gc : Nat} (w : World) (h : HeapAt w base g gc 2 gb gb2 size 0 [0, 0] (List.replicate ((size + 63) / 64) 0)) (hs : 16 ≤ size) (hb : base ≤ w.heap.size) :
    Calls Tryd.prog 13 #[.pointer (some ⟨g, 0, none⟩), .int .u64 4, .int .i64 0, .int .i64 0, .int .u64 1] w (ChPost w base g gb gb2 size 4 0) := by
  refine (alloc_fit 4 0 0 0 1 w h (by decide) (by decide) (by decide) (by decide) (by simp; omega) (bitAt_zero _ _) (by decide) (by decide) hb).mono ?_
  rintro e w' ⟨gc', cap', rfl, h3, hgc, has⟩
  obtain ⟨cur, _, hbc, _⟩ := h.row
  exact ⟨rfl, ⟨Nat.le_trans hb has.size, gc', cap', _, h3, Bt.first (by omega)⟩, has.below hb h.bg hbc h.bb2⟩
theorem lw_lt (h : j ≤ 5000000) : lw j < 18446744073709551616 := by unfold lw; split <;> omega
theorem lw_next : lw (j + 1) = 6 * j + 8 := by unfold lw; rw [if_neg (by omega)]; omega
theorem ch_obj (w : World) (h : ChH w base g gb gb2 size j) (hj : 3 * j + 7 ≤ size) (hj5 : j ≤ 5000000) :
    Calls Tryd.prog 13 #[.pointer (some ⟨g, 0, none⟩), .int .u64 4, .int .i64 1, .int .i64 1, .int .u64 (lw j : Int)] w (ChPost w base g gb gb2 size (lw (j + 1)) (j + 1)) := by
  obtain ⟨h0, gc, cap, ws, h1, h2⟩ := h
  have hl := chL_len j
  have hsm := h1.small
  refine (alloc_fit 4 1 1 1 (lw j) w h1 (by decide) (by decide) (by decide) (by decide) (by omega) (by rw [h2, hl]; apply decide_eq_false; omega) (by decide) (lw_lt (by omega)) h0).mono ?_
  rintro e w' ⟨gc', cap', rfl, h3, hgc, has⟩
  obtain ⟨cur, _, hbc, _⟩ := h1.row
  have hix := h1.bits.idx (i := 4 + 3 * j) (by omega)
  rw [hl] at h3
  refine ⟨?_, ⟨Nat.le_trans h0 has.size, gc', cap', _, h3, h2.next hix⟩, has.below h0 h1.bg hbc h1.bb2⟩
  rw [hl, lw_next]
  congr 3
  simp
  omega
theorem ch_cells (w : World) (h : ChH w base g gb gb2 size j) :
    Calls Tryd.prog 29 #[.pointer (some ⟨g, 0, none⟩)] w fun e w' => e = .returned (.int .i64 (size : Int)) ∧ w = w' := by
  obtain ⟨h0, gc, cap, ws, h1, h2⟩ := h
  exact cellsH_any w h1
def CntPost (n : Nat) (w : World) (e : Ending) (w' : World) : Prop := e = .returned (.int .i64 (n : Int)) ∧ Below w.heap.size w w'
theorem half_nodup {ws fs : List Nat} (hn : fs.Nodup) (hp : ∀ p ∈ fs, isP ws p) : (fs.map (· / 2)).Nodup := by
  refine List.pairwise_map.2 (hn.imp_of_mem ?_)
  intro x y hx hy hne e
  have := (hp x hx).1
  have := (hp y hy).1
  exact hne (by omega)
/-! ### the fixed fact -/
abbrev awL : List Nat := chL 1 ++ (4 :: pk 1 1 0 false :: List.replicate 1 1)
def awLd (p : Nat) : List Nat := if p = 4 then [4] else [4, 1]
theorem aw_graph {ws : List Nat} (h : Bt ws 2) : Graph awLd chCn awL ws := fun p hp => by
  rcases h.isp hp with rfl | ⟨m, m1, m2, rfl⟩
  · exact ⟨4, 0, 0, 0, false, [], ⟨hp, ⟨rfl, rfl, by decide, by decide⟩, fun _ => ⟨by decide, rfl⟩, fun e => by cases e⟩, rfl, by decide⟩
  · rcases (show m = 1 ∨ m = 2 by omega) with rfl | rfl
    · exact ⟨4, 1, 1, 0, false, [1], ⟨hp, ⟨rfl, rfl, by decide, by decide⟩, fun _ => ⟨by decide, rfl⟩, fun e => by cases e⟩, rfl, by decide⟩
    · exact ⟨4, 1, 1, 0, false, [1], ⟨hp, ⟨rfl, rfl, by decide, by decide⟩, fun _ => ⟨by decide, rfl⟩, fun e => by cases e⟩, rfl, by decide⟩
def awS (t : Nat) : List Nat × Nat := if t = 0 then ([8], 0) else if t = 1 then ([8, 4], 1) else ([8, 4], 2)
theorem aw_waves {ws : List Nat} (h : Bt ws 2) : Waves awLd ws [8] awS 2 := by
  have h4 := h.c
  refine ⟨rfl, fun t ht => ?_, rfl⟩
  rcases (show t = 0 ∨ t = 1 by omega) with rfl | rfl
  · refine ⟨by decide, ?_, rfl⟩
    show askL awLd ws [8] [8] = some [8, 4]
    rw [askL, show awLd 8 = [4, 1] from rfl, findL, find1_new h4 (by decide)]
    show ((findL ws [8, 4] [1]).bind fun f => askL awLd ws f []) = _
    rw [findL, find1_num (by decide)]; rfl
  · refine ⟨by decide, ?_, rfl⟩
    show askL awLd ws [8, 4] [4] = some [8, 4]
    rw [askL, show awLd 4 = [4] from rfl, findL, find1_in h4 (by decide)]; rfl
def AwH (w : World) (base g gb gb2 : Nat) : Prop := base ≤ w.heap.size ∧ ∃ gc cap ws, HeapAt w base g gc cap gb gb2 40 0 awL ws ∧ Bt ws 2
theorem AwH.below (h : AwH w base g gb gb2) (hb : Below w.heap.size w w') : AwH w' base g gb gb2 := by
  obtain ⟨h0, gc, cap, ws, h1, h2⟩ := h
  exact ⟨Nat.le_trans h0 hb.size, gc, cap, ws, h1.below hb, h2⟩
theorem aw_obj (w : World) (h : ChH w base g gb gb2 40 1) :
    Calls Tryd.prog 13 #[.pointer (some ⟨g, 0, none⟩), .int .u64 4, .int .i64 1, .int .i64 1, .int .u64 1] w fun e w' => e = .returned (.tuple #[.int .u64 14, .int .i64 0]) ∧ AwH w' base g gb gb2 ∧ Below base w w' := by
  obtain ⟨h0, gc, cap, ws, h1, h2⟩ := h
  refine (alloc_fit 4 1 1 1 1 w h1 (by decide) (by decide) (by decide) (by decide) (by decide) (by rw [h2]; decide) (by decide) (by decide) h0).mono ?_
  rintro e w' ⟨gc', cap', rfl, h3, hgc, has⟩
  obtain ⟨cur, _, hbc, _⟩ := h1.row
  have hix := h1.bits.idx (i := 7) (by decide)
  exact ⟨rfl, ⟨Nat.le_trans h0 has.size, gc', cap', _, h3, h2.next hix⟩, has.below h0 h1.bg hbc h1.bb2⟩
end
end Go.Proofs.YtahmljjjdoaahaaDoor.Fl
