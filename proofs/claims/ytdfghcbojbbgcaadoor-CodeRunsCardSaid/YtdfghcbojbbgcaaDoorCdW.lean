/-
  A line of the laws' fixed code, the first.
-/
import Derived.Test.YtdfghcbojbbgcaaDoorCdV
namespace Go.Proofs.YtdfghcbojbbgcaaDoor.Fl
open Go.RowKit

def csC (l : List ByteArray) : List Value := l.map .string
theorem csC_len (l : List ByteArray) : (csC l).length = l.length * 1 := by simp [csC]
theorem csC_app (l m : List ByteArray) : csC (l ++ m) = csC l ++ csC m := by simp [csC]
theorem csC_one (l : List ByteArray) : ∀ v ∈ csC l, v.oneCell' = true := by
  intro v h
  simp only [csC, List.mem_map] at h
  obtain ⟨x, _, rfl⟩ := h
  rfl
def OwnS (w : World) (base : Nat) (v : Value) (l : List ByteArray) : Prop := w.ownsRow base 9 1 v l.length (csC l)
theorem OwnS.keep {w w' : World} {base : Nat} {v : Value} {xs : List ByteArray} (h : OwnS w base v xs) (hb : ∀ j, v.ownBlock = some j → w'.heap[j]? = w.heap[j]?) : OwnS w' base v xs :=
  ⟨h.1, h.2.elim .inl fun ⟨g, cap, cur, hv, hbg, hg, r⟩ => .inr ⟨g, cap, cur, hv, hbg, (hb g (by rw [hv]; rfl)).trans hg, r⟩⟩
theorem wpList_append_s {w : World} {base c : Nat} {A : Option Addr} {xs news : List ByteArray} {v : Value} {ops : Array Oper} {rest : List Oper} {o : Oper} {a : Act} {Q : Exit → Act → World → Prop} (hg : o.guard = none) (s x : Operand) (ho : o.op = .call { callee := .builtin .append, args := #[s, x], argTypes := #[74, 74] })
    (hs : a.eval s = v) (hx : a.eval x = .slice A news.length c) (hown : OwnS w base v xs) (hr : Rd w w.heap.size A (csC news)) (hA : A = none → news.length = 0) (hl : xs.length ≤ 100000000) (hl2 : news.length ≤ 100000000) (hb : base ≤ w.heap.size)
    (h : ∀ A' ts c' w', Hid (ts = xs ++ news) → Hid (OwnS w' base (.slice A' ts.length c') ts) → Hid (Below base w w' ∧ (∀ k, k < w.heap.size → some k ≠ v.ownBlock → w'.heap[k]? = w.heap[k]?)) → wpList Tryd.prog ops Q rest (a.put o.dst (.slice A' ts.length c')) w') : wpList Tryd.prog ops Q (o :: rest) a w := by
  obtain ⟨i0, hi, hz0, hz1, hz2⟩ := info_parts strinfoC
  refine wpList_append_rd (base := base) (size := 1) (bytes := 16) (n := xs.length) (m := news.length) (c := c) (v := v) (xs := csC xs) (news := csC news) hg s x ho Tryd.underlying74 hi hz0 hz1 hz2 rfl (by decide) hs hx hown hr (csC_len _) hA (csC_one news) (by unfold maxLen; omega) (by omega) hb ?_
  intro v' w' happ
  obtain ⟨A', c', rfl, _, _⟩ := happ.slice
  have e : xs.length + news.length = (xs ++ news).length := by simp
  have ho := happ.own
  rw [e, show csC xs ++ csC news = csC (xs ++ news) from (csC_app _ _).symm] at ho
  rw [e]
  exact h A' (xs ++ news) c' w' (Lib.hid rfl) (Lib.hid ho) (Lib.hid ⟨(Below.refl _ _).grown happ.grown hb (fun j hj => (World.ownsRow.lt hown j hj).1), happ.grown.block⟩)
theorem rd_oneS (w : World) (x : ByteArray) : Rd (w.alloc (.cells #[.string x] 9)) (w.alloc (.cells #[.string x] 9)).heap.size (some ⟨w.heap.size, 0, none⟩) (csC [x]) := by
  refine .inr ⟨w.heap.size, 0, rfl, by rw [World.size_alloc]; omega, fun j v hj => ?_⟩
  have hj0 : j = 0 := by
    rcases j with _ | j
    · rfl
    · simp [csC] at hj
  subst hj0
  rw [Nat.zero_add, cell_of_row _ _ _ _ _ _ (heap_alloc_new w _)]
  exact hj
theorem ownS_cells {w : World} {base c : Nat} {A : Option Addr} {x : ByteArray} {xs : List ByteArray} (h : OwnS w base (.slice A (x :: xs).length c) (x :: xs)) : ∃ g, A = some ⟨g, 0, none⟩ ∧ (∀ (j : Nat) z, (x :: xs)[j]? = some z → w.cell? ⟨g, 0 + j, none⟩ = some (.string z)) ∧ (x :: xs).length ≤ c ∧ g < w.heap.size := by
  rcases h.2 with ⟨_, e⟩ | ⟨g, cap, cur, e1, hb, hg, hc, _, hs, ht⟩
  · cases e
  · injection e1 with e1 e2 e3
    subst e1 e3
    refine ⟨g, rfl, fun j z hj => ?_, hc, lt_of_blkC hg⟩
    have hjl : j < (x :: xs).length := by
      rcases Nat.lt_or_ge j (x :: xs).length with h1 | h1
      · exact h1
      · rw [List.getElem?_eq_none h1] at hj; cases hj
    have h0 : (csC (x :: xs))[j]? = some (.string z) := by simp only [csC, List.getElem?_map, hj, Option.map_some]
    rw [← ht, List.getElem?_take, if_pos (by omega)] at h0
    rw [Nat.zero_add, cell_of_row w g j _ _ _ hg]
    simpa using h0
set_option maxRecDepth 100000 in
set_option maxHeartbeats 2000000 in
theorem line0_fix (w : World) (hF : ∀ w', Below w.heap.size w w' → FormsAt w') (hE : ∀ w', Below w.heap.size w w' → EnvC w') :
    Calls Tryd.prog 16 #[.int .i64 0, .agg #[.int .i64 4, .int .i64 5, .int .i64 0]] w fun e w' => e = .returned (.string ⟨#[48, 32, 80, 117, 115, 104, 83, 109, 97, 108, 108, 32, 53, 10]⟩) ∧ Below w.heap.size w w' := by
  have HF := Lib.hid hF
  have HE := Lib.hid hE
  have hw1 := heap_alloc_new w (.cells #[.int .i64 4, .int .i64 5, .int .i64 0] 34)
  have f1 := three_cellsC hw1
  have l1 := lt_of_blkC hw1
  have hb1 : Below w.heap.size w (w.alloc (.cells #[.int .i64 4, .int .i64 5, .int .i64 0] 34)) := (Below.refl _ _).alloc (Nat.le_refl _) _
  obtain ⟨g0, g1, g2, g3, g4, g5, g6⟩ := (HF.out _ hb1).row (k := 4) rfl
  have hgl := (HF.out _ hb1).lt
  clear hF hE
  go_enter Tryd.func16, Tryd.ntmps16
  go_upto_region 2 with fail
  have hw2 := heap_alloc_new (w.alloc (.cells #[.int .i64 4, .int .i64 5, .int .i64 0] 34)) (.cells #[.string ⟨#[80, 117, 115, 104, 83, 109, 97, 108, 108]⟩, .int .i64 1, .int .i64 (-128), .int .i64 0, .int .i64 0, .int .i64 0, .int .i64 1] 52)
  have hx2 := (Below.heap_alloc (w.alloc (.cells #[.int .i64 4, .int .i64 5, .int .i64 0] 34)) (.cells #[.string ⟨#[80, 117, 115, 104, 83, 109, 97, 108, 108]⟩, .int .i64 1, .int .i64 (-128), .int .i64 0, .int .i64 0, .int .i64 0, .int .i64 1] 52) w.heap.size l1).trans hw1
  have hb2 := hb1.alloc (Nat.le_of_lt l1) (.cells #[.string ⟨#[80, 117, 115, 104, 83, 109, 97, 108, 108]⟩, .int .i64 1, .int .i64 (-128), .int .i64 0, .int .i64 0, .int .i64 0, .int .i64 1] 52)
  rw [World.size_alloc] at hw2
  clear g0 g1 g2 g3 g4 g5 g6 hgl hw1 f1 l1 hb1
  generalize (w.alloc (.cells #[.int .i64 4, .int .i64 5, .int .i64 0] 34)).alloc (.cells #[.string ⟨#[80, 117, 115, 104, 83, 109, 97, 108, 108]⟩, .int .i64 1, .int .i64 (-128), .int .i64 0, .int .i64 0, .int .i64 0, .int .i64 1] 52) = w2 at *
  have l2 := lt_of_blkC hw2
  have hit := itoaC 0 (by decide) (by decide) w2.drew (HE.out _ hb2.drew)
  rw [itoaFix0] at hit
  have hne : w.heap.size < w.heap.size + 1 := Nat.lt_succ_self _
  generalize w.heap.size + 1 = F at *
  refine wp_region_noPanic ?_
  refine wp_region_held_drew (S := (fun w' : World => w'.cell? ⟨F, 0, none⟩ = some (.string ⟨#[80, 117, 115, 104, 83, 109, 97, 108, 108]⟩))) (by kernel_rfl) (cell_of_row _ _ _ _ _ _ hw2) (fun hHeld => ?_)
  refine wpAnyH_take (i := 0) (v := ?_) (by first | (simp only [List.getElem?_toArray, List.getElem?_cons_succ, List.getElem?_cons_zero]; rfl) | rfl) (by kernel_rfl) (by kernel_rfl) (by kernel_rfl) (fun _ _ _ h => h) (Or.inl ⟨by rfl, ?_⟩) (by assumption) ?_
  rotate_left 1
  · (intro w' hSw; (try dsimp only at hSw); go_simp; (try with_reducible rfl))
  try simp only [Act.put, List.setIfInBounds_toArray, List.set_cons_zero, List.set_cons_succ]
  refine wpAnyH_take (i := 2) (v := ?_) (by first | (simp only [List.getElem?_toArray, List.getElem?_cons_succ, List.getElem?_cons_zero]; rfl) | rfl) (by kernel_rfl) (by kernel_rfl) (by kernel_rfl) (fun _ _ _ h => h) (Or.inl ⟨by rfl, ?_⟩) (by assumption) ?_
  rotate_left 1
  · (intro w' hSw; (try dsimp only at hSw); go_simp; (try with_reducible rfl))
  try simp only [Act.put, List.setIfInBounds_toArray, List.set_cons_zero, List.set_cons_succ]
  refine wpAnyH_take (i := 3) (v := ?_) (by first | (simp only [List.getElem?_toArray, List.getElem?_cons_succ, List.getElem?_cons_zero]; rfl) | rfl) (by kernel_rfl) (by kernel_rfl) (by kernel_rfl) (fun _ _ _ h => h) (Or.inl ⟨by rfl, ?_⟩) (by assumption) ?_
  rotate_left 1
  · (intro w' hSw; (try dsimp only at hSw); go_simp; (try with_reducible rfl))
  try simp only [Act.put, List.setIfInBounds_toArray, List.set_cons_zero, List.set_cons_succ]
  refine wpAnyH_ready (rs := [1]) (by kernel_rfl) (by simp) ?_
  refine AllReadyH.cons (by first | (simp only [List.getElem?_toArray, List.getElem?_cons_succ, List.getElem?_cons_zero]; rfl) | rfl) (fun K hK => ?_) AllReadyH.nil
  go_simp
  refine hit.mono ?_
  rintro e w3 ⟨rfl, hb3⟩
  dsimp only
  have hx3 := (hb3.block w.heap.size (Nat.lt_trans hne l2)).trans (show w2.drew.heap[w.heap.size]? = _ from hx2)
  have hw3 := (hb3.block F l2).trans (show w2.drew.heap[F]? = _ from hw2)
  have hb3' := hb2.trans (((Below.refl _ _).drew.trans hb3).mono hb2.size)
  refine hK.out _ _ (cell_of_row _ _ _ _ _ _ hw3) (fun hHeld => ?_)
  clear hK K
  try simp only [Act.put, List.setIfInBounds_toArray, List.set_cons_zero, List.set_cons_succ]
  refine wpAnyH_ready (rs := [4]) (by kernel_rfl) (by simp) ?_
  refine AllReadyH.cons (by first | (simp only [List.getElem?_toArray, List.getElem?_cons_succ, List.getElem?_cons_zero]; rfl) | rfl) (fun K hK => ?_) AllReadyH.nil
  go_simp
  have hw4 := (Below.heap_alloc w3 (.cells #[.string ⟨#[48]⟩, .string ⟨#[80, 117, 115, 104, 83, 109, 97, 108, 108]⟩] 9) F (lt_of_blkC hw3)).trans hw3
  have hw4s := heap_alloc_new w3 (.cells #[.string ⟨#[48]⟩, .string ⟨#[80, 117, 115, 104, 83, 109, 97, 108, 108]⟩] 9)
  have hb4 := hb3'.alloc hb3'.size (.cells #[.string ⟨#[48]⟩, .string ⟨#[80, 117, 115, 104, 83, 109, 97, 108, 108]⟩] 9)
  refine hK.out _ _ (cell_of_row _ _ _ _ _ _ hw4) (fun hHeld => ?_)
  clear hK K
  try simp only [Act.put, List.setIfInBounds_toArray, List.set_cons_zero, List.set_cons_succ]
  refine wpAnyH_take (i := 5) (v := ?_) (by first | (simp only [List.getElem?_toArray, List.getElem?_cons_succ, List.getElem?_cons_zero]; rfl) | rfl) (by kernel_rfl) (by kernel_rfl) (by kernel_rfl) (fun _ _ _ h => h) (Or.inl ⟨by rfl, ?_⟩) (by assumption) ?_
  rotate_left 1
  · (intro w' hSw; (try dsimp only at hSw); go_simp; (try with_reducible rfl))
  try simp only [Act.put, List.setIfInBounds_toArray, List.set_cons_zero, List.set_cons_succ]
  refine wpAnyH_done (by kernel_rfl) ?_ _
  refine NoPanic.normal ?_
  have hx4 := (Below.heap_alloc w3 (.cells #[.string ⟨#[48]⟩, .string ⟨#[80, 117, 115, 104, 83, 109, 97, 108, 108]⟩] 9) w.heap.size (lt_of_blkC hx3)).trans hx3
  have hs3 := hb3'.size
  have hO4 : OwnS (w3.alloc (.cells #[.string ⟨#[48]⟩, .string ⟨#[80, 117, 115, 104, 83, 109, 97, 108, 108]⟩] 9)) w.heap.size (.slice (some ⟨w3.heap.size, 0, none⟩) 2 2) [⟨#[48]⟩, nmSmall] := ⟨rfl, .inr ⟨w3.heap.size, 2, _, rfl, hs3, hw4s, Nat.le_refl _, by unfold maxLen; decide, rfl, rfl⟩⟩
  have l4 := lt_of_blkC hw4s
  have hF3 := lt_of_blkC hw3
  generalize w3.alloc (.cells #[.string ⟨#[48]⟩, .string ⟨#[80, 117, 115, 104, 83, 109, 97, 108, 108]⟩] 9) = w4 at *
  have f4 := seven_cellsC hw4
  have fx4 := three_cellsC hx4
  have HB4 := Lib.hid hb4
  have hit5 := itoaC 5 (by decide) (by decide) w4 (HE.out _ hb4)
  rw [itoaFix5] at hit5
  have HO4 := Lib.hid hO4
  have hFn : F ≠ w3.heap.size := Nat.ne_of_lt hF3
  clear hit hb2 l2 hw2 hw3 hb3 hb3' hw4s hb4 hHeld HF HE hx2 hx3 hx4 hO4 hne
  have HW4 := Lib.hid hw4
  have hs4 := HB4.out.size
  clear hw4 hs3
  go_wp2_with (first
    | (go_at_call 25; refine hit5.mono ?_; rintro e w5 ⟨rfl, hb5⟩; have HB5 := Lib.hid hb5; have hs5 := hb5.size; have HO5 := Lib.hid (HO4.out.keep (w' := w5.alloc (.cells #[.string ⟨#[53]⟩] 9)) (fun j hj => by
        have hl := (World.ownsRow.lt HO4.out j hj).2
        exact (Below.heap_alloc _ _ _ (Nat.lt_of_lt_of_le hl hb5.size)).trans (hb5.block j hl))); have HR5 := Lib.hid (rd_oneS w5 ⟨#[53]⟩); clear hb5)
    | (at_builtin; refine wpList_append_s (base := w.heap.size) (v := .slice (some ⟨w3.heap.size, 0, none⟩) 2 2) (xs := [⟨#[48]⟩, nmSmall]) (news := [⟨#[53]⟩]) rfl _ _ rfl rfl rfl HO5.out HR5.out (fun h => by cases h) (by decide) (by decide) (by rw [World.size_alloc]; omega) ?_; intro A6 t6 c6 w6 HT6 HO6 HB6; obtain rfl := HT6.out; have hw6 := ((HB6.out.2 F (by rw [World.size_alloc]; have := lt_of_blkC HW4.out; omega) (fun e => hFn (by injection e))).trans (Below.heap_alloc _ _ _ (by have := lt_of_blkC HW4.out; omega))).trans ((HB5.out.block F (lt_of_blkC HW4.out)).trans HW4.out); have f6 := seven_cellsC hw6; obtain ⟨g6, hg6, hcl6, hcc6, hgl6⟩ := ownS_cells HO6.out; have hj := Tryd.strings_Join g6 0 c6 [⟨#[48]⟩, nmSmall, ⟨#[53]⟩] ⟨#[32]⟩ w6 hcl6 hgl6 (by decide) hcc6 (by rw [joinFix1]; decide); rw [joinFix1, ← hg6] at hj; clear hw6 hcl6 hg6)
    | (go_at_call 26; refine hj.mono ?_; rintro e w8 ⟨rfl, hb8⟩))
  have hb6 := HB4.out.trans ((HB5.out.mono hs4).trans ((((Below.refl w.heap.size w5).alloc (Nat.le_trans hs4 hs5) (.cells #[.string ⟨#[53]⟩] 9)).trans HB6.out.1)))
  have hb9 := hb6.trans (hb8.mono hb6.size)
  go_ret
  exact ⟨rfl, hb9⟩
end Go.Proofs.YtdfghcbojbbgcaaDoor.Fl

