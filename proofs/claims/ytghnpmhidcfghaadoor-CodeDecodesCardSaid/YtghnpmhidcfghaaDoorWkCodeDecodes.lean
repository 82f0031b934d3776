/-
  CodeDecodes' walk.
-/
import Derived.Test.YtghnpmhidcfghaaDoorCeJ
import Derived.Test.YtghnpmhidcfghaaDoorWkCodeJoins
namespace Go.Proofs.YtghnpmhidcfghaaDoor.Fl
open Go.RowKit

def decX (D : (Ins × Nat) ⊕ Int) : Ins := match D with
  | .inl (x, _) => x
  | .inr _ => (0, 0, 0)
def decP (D : (Ins × Nat) ⊕ Int) : Int := match D with
  | .inl (_, p) => (p : Int)
  | .inr _ => 0
def decE (D : (Ins × Nat) ⊕ Int) : Int := match D with
  | .inl _ => 0
  | .inr n => n
theorem decPost_one {D : (Ins × Nat) ⊕ Int} {w w' : World} {e : Ending} (h : DecPost D w e w') : e = .returned (.tuple #[insV (decX D), .int .i64 (decP D), .int .i64 (decE D)]) ∧ Hid (Below w.heap.size w w') := by
  obtain ⟨hb, ⟨x, p, rfl, rfl⟩ | ⟨n, rfl, rfl⟩⟩ := h
  · exact ⟨rfl, Lib.hid hb⟩
  · exact ⟨rfl, Lib.hid hb⟩
def txtS (R : List UInt8 ⊕ Int) : ByteArray := match R with
  | .inl t => ⟨t.toArray⟩
  | .inr _ => ⟨#[]⟩
def txtE (R : List UInt8 ⊕ Int) : Int := match R with
  | .inl _ => 0
  | .inr n => n
theorem textPost_one {R : List UInt8 ⊕ Int} {w w' : World} {e : Ending} (h : TextPost R w e w') : e = .returned (.tuple #[.string (txtS R), .int .i64 (txtE R)]) ∧ Hid (Below w.heap.size w w') := by
  obtain ⟨hb, ⟨t, rfl, rfl⟩ | ⟨n, rfl, rfl⟩⟩ := h
  · exact ⟨rfl, Lib.hid hb⟩
  · exact ⟨rfl, Lib.hid hb⟩
theorem rdB_take {w : World} {B : Nat} {A : Option Addr} {xs : List UInt8} (h : Rd w B A (cb xs)) (n : Nat) : Rd w B A (cb (xs.take n)) := by
  have := h.take_ n
  rwa [show (cb xs).take n = cb (xs.take n) by simp [cb, List.map_take]] at this
set_option maxRecDepth 100000 in
set_option maxHeartbeats 4000000 in
theorem walkp_CodeDecodes (A : Option Addr) (c : Nat) (ys : List UInt8) (at_ : Int) (w : World) (hr : Rd w w.heap.size A (cb ys)) (hc : ys.length ≤ c) (hn : A = none → ys.length = 0) (hF : FormsAt w) (hE : ∀ w', Below w.heap.size w w' → EnvC w') (haw1 : Calls Tryd.prog 6 #[] w fun e w' => e = .returned (.bool true) ∧ Below w.heap.size w w') :
    Calls Tryd.prog 4 #[.slice A ys.length c, .int .i64 at_] w fun e w' => e = .returned (.bool true) ∧ Below w.heap.size w w' := by
  have HR := Lib.hid hr
  have HF := Lib.hid (fun w' (h : Below w.heap.size w w') => hF.below h)
  have HE := Lib.hid hE
  have HN := Lib.hid (show A = none → (ys.take 400).length = 0 from fun h => by rw [List.length_take, hn h]; simp)
  clear hr hF hE hn
  go_enter Tryd.func4, Tryd.ntmps4
  go_wp2_with fail
  refine haw1.mono ?_
  rintro e w1 ⟨rfl, hb1⟩
  clear haw1
  have HB1 := Lib.hid hb1
  clear hb1
  obtain ⟨xs, hxs⟩ : ∃ xs, ys.take 400 = xs := ⟨_, rfl⟩
  have hl0 : xs.length ≤ 400 := by rw [← hxs, List.length_take]; omega
  have HX := Lib.hid (show xs.length = if 400 < ys.length then 400 else ys.length by
    rw [← hxs, List.length_take]; split <;> omega)
  have HQ := Lib.hid (show Rd w w.heap.size A (cb xs) by rw [← hxs]; exact rdB_take HR.out 400)
  have hxc : xs.length ≤ c := by rw [← hxs, List.length_take]; omega
  rw [hxs] at HN
  clear hxs HR
  generalize ys.length = len at *
  go_upto_if 20 with fail
  go_cut [0] (fun v wx => (∃ cc, v = .slice A xs.length cc ∧ xs.length ≤ cc) ∧ w1 = wx)
  case first =>
    by_cases hcc : 400 < len
    · have hx2 := HX.out
      rw [if_pos hcc] at hx2
      have hx3 := Lib.hid hx2
      clear hx2
      go_wp2_with fail
      all_goals go_meet
      all_goals exact ⟨⟨c, by rw [hx3.out], hxc⟩, rfl⟩
    · have hx2 := HX.out
      rw [if_neg hcc] at hx2
      have hx3 := Lib.hid hx2
      clear hx2
      go_wp2_with fail
      all_goals go_meet
      all_goals exact ⟨⟨c, by rw [hx3.out], hxc⟩, rfl⟩
  case rest =>
    obtain ⟨⟨cc, rfl, hcc⟩, rfl⟩ := hcut
    clear HX hc hxc
    have HQ1 := Lib.hid (HQ.out.below HB1.out (Nat.le_refl _))
    have hcp := copyC_any xs cc w.heap.size A w1 HQ1.out HB1.out.size (by omega) HN.out
    obtain ⟨D, hD⟩ : ∃ D, decR xs at_ = D := ⟨_, rfl⟩
    obtain ⟨R, hR⟩ : ∃ R, textD xs (xs.length + 1) 0 = R := ⟨_, rfl⟩
    have HD := Lib.hid hD
    have HRR := Lib.hid hR
    clear hD hR
    go_wp2_with fail
    refine hcp.mono ?_
    rintro e w2 ⟨A2, c2, rfl, hO2, hb2⟩
    have HB2 := Lib.hid (HB1.out.trans (hb2.mono HB1.out.size))
    have ho2 := ownB_rd hO2
    have hdec := decode_any xs at_ A2 c2 w2.heap.size w2 ho2.1 (Nat.le_refl _) ho2.2.2.2 (by omega) (HF.out _ HB2.out)
    rw [HD.out] at hdec
    clear hcp hb2 hO2 ho2 HB1 HQ1
    go_wp2_with fail
    refine hdec.mono ?_
    intro e w3 hp3
    obtain ⟨rfl, HB23⟩ := decPost_one hp3
    have HB3 := Lib.hid (HB2.out.trans (HB23.out.mono HB2.out.size))
    clear hdec hp3 HB23 HB2
    obtain ⟨⟨op, a, b⟩, hX⟩ : ∃ X, decX D = X := ⟨_, rfl⟩
    obtain ⟨P, hP⟩ : ∃ P, decP D = P := ⟨_, rfl⟩
    obtain ⟨E, hE'⟩ : ∃ E, decE D = E := ⟨_, rfl⟩
    have HXPE := Lib.hid (And.intro hX (And.intro hP hE'))
    rw [hX, hP, hE']
    clear hX hP hE'
    have HB4 := Lib.hid (HB3.out.alloc HB3.out.size (.cells #[.int .i64 op, .int .i64 a, .int .i64 b] 27))
    have HW4 := Lib.hid (heap_alloc_new w3 (.cells #[.int .i64 op, .int .i64 a, .int .i64 b] 27))
    have hdec2 := rdecode_any xs at_ A cc w.heap.size (w3.alloc (.cells #[.int .i64 op, .int .i64 a, .int .i64 b] 27)) (HQ.out.below HB4.out (Nat.le_refl _)) HB4.out.size hcc (by omega)
    rw [HD.out] at hdec2
    unfold insV
    go_wp2_with fail
    refine hdec2.mono ?_
    intro e w5 hp5
    obtain ⟨rfl, HB45⟩ := decPost_one hp5
    rw [HXPE.out.1, HXPE.out.2.1, HXPE.out.2.2]
    have HB5 := Lib.hid (HB4.out.trans (HB45.out.mono HB4.out.size))
    have HW5 := Lib.hid ((HB45.out.block _ (lt_of_blkC HW4.out)).trans HW4.out)
    obtain ⟨I, hI⟩ : ∃ I, w3.heap.size = I := ⟨_, rfl⟩
    rw [hI] at HW5 ⊢
    clear hdec2 hp5 HB45 HW4 HB4 HB3 hI
    have HB6 := Lib.hid (HB5.out.alloc HB5.out.size (.cells #[.int .i64 op, .int .i64 a, .int .i64 b] 26))
    have HW6 := Lib.hid ((Below.heap_alloc w5 (.cells #[.int .i64 op, .int .i64 a, .int .i64 b] 26) I (lt_of_blkC HW5.out)).trans HW5.out)
    have HY6 := Lib.hid (heap_alloc_new w5 (.cells #[.int .i64 op, .int .i64 a, .int .i64 b] 26))
    have htx := textD_any xs (by omega) A cc w.heap.size (w5.alloc (.cells #[.int .i64 op, .int .i64 a, .int .i64 b] 26)) (HQ.out.below HB6.out (Nat.le_refl _)) HB6.out.size hcc (fun w' h => HF.out _ (HB6.out.trans (h.mono HB6.out.size))) (fun w' h => HE.out _ (HB6.out.trans (h.mono HB6.out.size)))
    rw [HRR.out] at htx
    unfold insV
    go_wp2_with fail
    refine htx.mono ?_
    intro e w7 hp7
    obtain ⟨rfl, HB67⟩ := textPost_one hp7
    obtain ⟨T, hT⟩ : ∃ T, txtS R = T := ⟨_, rfl⟩
    obtain ⟨G, hG⟩ : ∃ G, txtE R = G := ⟨_, rfl⟩
    have HTG := Lib.hid (And.intro hT hG)
    rw [hT, hG]
    have HB7 := Lib.hid (HB6.out.trans (HB67.out.mono HB6.out.size))
    have HW7 := Lib.hid ((HB67.out.block _ (lt_of_blkC HW6.out)).trans HW6.out)
    have HY7 := Lib.hid ((HB67.out.block _ (lt_of_blkC HY6.out)).trans HY6.out)
    obtain ⟨J, hJ⟩ : ∃ J, w5.heap.size = J := ⟨_, rfl⟩
    rw [hJ] at HY7 ⊢
    clear htx hp7 HB67 HW6 HY6 HB6 hJ hT hG HB5 HW5
    have htx := rtextD_any xs (by omega) A cc w.heap.size w7 (HQ.out.below HB7.out (Nat.le_refl _)) HB7.out.size hcc
    rw [HRR.out] at htx
    go_wp2_with fail
    refine htx.mono ?_
    intro e w8 hp8
    obtain ⟨rfl, HB78⟩ := textPost_one hp8
    rw [HTG.out.1, HTG.out.2]
    have HB8 := Lib.hid (HB7.out.trans (HB78.out.mono HB7.out.size))
    have HW8 := Lib.hid ((HB78.out.block _ (lt_of_blkC HW7.out)).trans HW7.out)
    have HY8 := Lib.hid ((HB78.out.block _ (lt_of_blkC HY7.out)).trans HY7.out)
    clear htx hp8 HB78 HW7 HY7 HB7
    go_upto_region 9 with fail
    rename_i hKo
    have HKo := Lib.hid hKo
    clear hKo
    have heqI := fun w => eq_insS op a b w
    obtain ⟨x0, x1, x2, -⟩ := three_cellsC HW8.out
    obtain ⟨y0, y1, y2, -⟩ := three_cellsC HY8.out
    have HS8 := Lib.hid (And.intro x0 (And.intro x1 (And.intro x2 (And.intro y0 (And.intro y1 y2)))))
    clear x0 x1 x2 y0 y1 y2
    have hown := own_any op a b w8.drew
    refine wp_region_noPanic ?_
    refine wp_region_held_drew (S := (fun w' : World => w'.cell? ⟨I, 0, none⟩ = some (.int .i64 op) ∧ w'.cell? ⟨I, 1, none⟩ = some (.int .i64 a) ∧ w'.cell? ⟨I, 2, none⟩ = some (.int .i64 b) ∧ w'.cell? ⟨J, 0, none⟩ = some (.int .i64 op) ∧ w'.cell? ⟨J, 1, none⟩ = some (.int .i64 a) ∧ w'.cell? ⟨J, 2, none⟩ = some (.int .i64 b))) (by kernel_rfl) HS8.out (fun hHeld => ?_)
    refine wpAnyH_take (i := 0) (v := ?_) (by first | (simp only [List.getElem?_toArray, List.getElem?_cons_succ, List.getElem?_cons_zero]; rfl) | rfl) (by kernel_rfl) (by kernel_rfl) (by kernel_rfl) (fun _ _ _ h => h) (Or.inl ⟨by rfl, ?_⟩) (by assumption) ?_
    rotate_left 1
    · (intro w' hSw; (try dsimp only at hSw); go_simp; (try with_reducible rfl))
    try simp only [Act.put, List.setIfInBounds_toArray, List.set_cons_zero, List.set_cons_succ]
    refine wpAnyH_take (i := 1) (v := ?_) (by first | (simp only [List.getElem?_toArray, List.getElem?_cons_succ, List.getElem?_cons_zero]; rfl) | rfl) (by kernel_rfl) (by kernel_rfl) (by kernel_rfl) (fun _ _ _ h => h) (Or.inl ⟨by rfl, ?_⟩) (by assumption) ?_
    rotate_left 1
    · (intro w' hSw; (try dsimp only at hSw); go_simp; (try with_reducible rfl))
    try simp only [Act.put, List.setIfInBounds_toArray, List.set_cons_zero, List.set_cons_succ]
    refine wpAnyH_ready (rs := [2]) (by kernel_rfl) (by simp) ?_
    refine AllReadyH.cons (by first | (simp only [List.getElem?_toArray, List.getElem?_cons_succ, List.getElem?_cons_zero]; rfl) | rfl) (fun K hK => ?_) AllReadyH.nil
    go_simp
    refine hown.mono ?_
    rintro e w9 ⟨rfl, hb9⟩
    have HB9 := Lib.hid (HB8.out.trans ((show Below w8.heap.size w8 w9 from ((Below.refl _ _).drew).trans hb9).mono HB8.out.size))
    have HW9 := Lib.hid ((hb9.block _ (lt_of_blkC HW8.out)).trans (show w8.drew.heap[I]? = _ from HW8.out))
    have HY9 := Lib.hid ((hb9.block _ (lt_of_blkC HY8.out)).trans (show w8.drew.heap[J]? = _ from HY8.out))
    clear hb9 hown
    obtain ⟨x0, x1, x2, -⟩ := three_cellsC HW9.out
    obtain ⟨y0, y1, y2, -⟩ := three_cellsC HY9.out
    have HS9 := Lib.hid (And.intro x0 (And.intro x1 (And.intro x2 (And.intro y0 (And.intro y1 y2)))))
    clear x0 x1 x2 y0 y1 y2
    dsimp only [insV]
    refine hK.out _ _ HS9.out (fun hHeld => ?_)
    clear hK K
    try simp only [Act.put, List.setIfInBounds_toArray, List.set_cons_zero, List.set_cons_succ]
    refine wpAnyH_take (i := 3) (v := ?_) (by first | (simp only [List.getElem?_toArray, List.getElem?_cons_succ, List.getElem?_cons_zero]; rfl) | rfl) (by kernel_rfl) (by kernel_rfl) (by kernel_rfl) (fun _ _ _ h => h) (Or.inl ⟨by rfl, ?_⟩) (by assumption) ?_
    rotate_left 1
    · (intro w' hSw; (try dsimp only at hSw); go_simp; (try with_reducible rfl))
    try simp only [Act.put, List.setIfInBounds_toArray, List.set_cons_zero, List.set_cons_succ]
    refine wpAnyH_take (i := 4) (v := ?_) (by first | (simp only [List.getElem?_toArray, List.getElem?_cons_succ, List.getElem?_cons_zero]; rfl) | rfl) (by kernel_rfl) (by kernel_rfl) (by kernel_rfl) (fun _ _ _ h => h) (Or.inl ⟨by rfl, ?_⟩) (by assumption) ?_
    rotate_left 1
    · (intro w' hSw; (try dsimp only at hSw); go_simp; (try with_reducible rfl))
    try simp only [Act.put, List.setIfInBounds_toArray, List.set_cons_zero, List.set_cons_succ]
    refine wpAnyH_take (i := 5) (v := ?_) (by first | (simp only [List.getElem?_toArray, List.getElem?_cons_succ, List.getElem?_cons_zero]; rfl) | rfl) (by kernel_rfl) (by kernel_rfl) (by kernel_rfl) (fun _ _ _ h => h) (Or.inl ⟨by rfl, ?_⟩) (by assumption) ?_
    rotate_left 1
    · (intro w' hSw; (try dsimp only at hSw); go_simp; (try with_reducible rfl))
    try simp only [Act.put, List.setIfInBounds_toArray, List.set_cons_zero, List.set_cons_succ]
    refine wpAnyH_take (i := 6) (v := ?_) (by first | (simp only [List.getElem?_toArray, List.getElem?_cons_succ, List.getElem?_cons_zero]; rfl) | rfl) (by kernel_rfl) (by kernel_rfl) (by kernel_rfl) (fun _ _ _ h => h) (Or.inl ⟨by rfl, ?_⟩) (by assumption) ?_
    rotate_left 1
    · (intro w' hSw; (try dsimp only at hSw); go_simp; (try with_reducible rfl))
    try simp only [Act.put, List.setIfInBounds_toArray, List.set_cons_zero, List.set_cons_succ]
    refine wpAnyH_take (i := 7) (v := ?_) (by first | (simp only [List.getElem?_toArray, List.getElem?_cons_succ, List.getElem?_cons_zero]; rfl) | rfl) (by kernel_rfl) (by kernel_rfl) (by kernel_rfl) (fun _ _ _ h => h) (Or.inl ⟨by rfl, ?_⟩) (by assumption) ?_
    rotate_left 1
    · (intro w' hSw; (try dsimp only at hSw); go_simp; (try with_reducible rfl))
    try simp only [Act.put, List.setIfInBounds_toArray, List.set_cons_zero, List.set_cons_succ]
    refine wpAnyH_take (i := 8) (v := ?_) (by first | (simp only [List.getElem?_toArray, List.getElem?_cons_succ, List.getElem?_cons_zero]; rfl) | rfl) (by kernel_rfl) (by kernel_rfl) (by kernel_rfl) (fun _ _ _ h => h) (Or.inl ⟨by rfl, ?_⟩) (by assumption) ?_
    rotate_left 1
    · (intro w' hSw; (try dsimp only at hSw); go_simp; (try with_reducible rfl))
    try simp only [Act.put, List.setIfInBounds_toArray, List.set_cons_zero, List.set_cons_succ]
    refine wpAnyH_take (i := 9) (v := ?_) (by first | (simp only [List.getElem?_toArray, List.getElem?_cons_succ, List.getElem?_cons_zero]; rfl) | rfl) (by kernel_rfl) (by kernel_rfl) (by kernel_rfl) (fun _ _ _ h => h) (Or.inl ⟨by rfl, ?_⟩) (by assumption) ?_
    rotate_left 1
    · (intro w' hSw; (try dsimp only at hSw); go_simp; (try with_reducible rfl))
    try simp only [Act.put, List.setIfInBounds_toArray, List.set_cons_zero, List.set_cons_succ]
    refine wpAnyH_take (i := 10) (v := ?_) (by first | (simp only [List.getElem?_toArray, List.getElem?_cons_succ, List.getElem?_cons_zero]; rfl) | rfl) (by kernel_rfl) (by kernel_rfl) (by kernel_rfl) (fun _ _ _ h => h) (Or.inl ⟨by rfl, ?_⟩) (by assumption) ?_
    rotate_left 1
    · (intro w' hSw; (try dsimp only at hSw); go_simp; (try with_reducible rfl))
    try simp only [Act.put, List.setIfInBounds_toArray, List.set_cons_zero, List.set_cons_succ]
    refine wpAnyH_take (i := 11) (v := ?_) (by first | (simp only [List.getElem?_toArray, List.getElem?_cons_succ, List.getElem?_cons_zero]; rfl) | rfl) (by kernel_rfl) (by kernel_rfl) (by kernel_rfl) (fun _ _ _ h => h) (Or.inl ⟨by rfl, ?_⟩) (by assumption) ?_
    rotate_left 1
    · (intro w' hSw; (try dsimp only at hSw); go_simp; (try with_reducible rfl))
    try simp only [Act.put, List.setIfInBounds_toArray, List.set_cons_zero, List.set_cons_succ]
    refine wpAnyH_take (i := 12) (v := ?_) (by first | (simp only [List.getElem?_toArray, List.getElem?_cons_succ, List.getElem?_cons_zero]; rfl) | rfl) (by kernel_rfl) (by kernel_rfl) (by kernel_rfl) (fun _ _ _ h => h) (Or.inl ⟨by rfl, ?_⟩) (by assumption) ?_
    rotate_left 1
    · (intro w' hSw; (try dsimp only at hSw); go_simp; (try with_reducible rfl))
    try simp only [Act.put, List.setIfInBounds_toArray, List.set_cons_zero, List.set_cons_succ]
    refine wpAnyH_take (i := 13) (v := ?_) (by first | (simp only [List.getElem?_toArray, List.getElem?_cons_succ, List.getElem?_cons_zero]; rfl) | rfl) (by kernel_rfl) (by kernel_rfl) (by kernel_rfl) (fun _ _ _ h => h) (Or.inl ⟨by rfl, ?_⟩) (by assumption) ?_
    rotate_left 1
    · (intro w' hSw; (try dsimp only at hSw); go_simp; (try with_reducible rfl))
    try simp only [Act.put, List.setIfInBounds_toArray, List.set_cons_zero, List.set_cons_succ]
    refine wpAnyH_take (i := 14) (v := ?_) (by first | (simp only [List.getElem?_toArray, List.getElem?_cons_succ, List.getElem?_cons_zero]; rfl) | rfl) (by kernel_rfl) (by kernel_rfl) (by kernel_rfl) (fun _ _ _ h => h) (Or.inl ⟨by rfl, ?_⟩) (by assumption) ?_
    rotate_left 1
    · (intro w' hSw; (try dsimp only at hSw); go_simp; (try with_reducible rfl))
    try simp only [Act.put, List.setIfInBounds_toArray, List.set_cons_zero, List.set_cons_succ]
    refine wpAnyH_take (i := 15) (v := ?_) (by first | (simp only [List.getElem?_toArray, List.getElem?_cons_succ, List.getElem?_cons_zero]; rfl) | rfl) (by kernel_rfl) (by kernel_rfl) (by kernel_rfl) (fun _ _ _ h => h) (Or.inl ⟨by rfl, ?_⟩) (by assumption) ?_
    rotate_left 1
    · (intro w' hSw; (try dsimp only at hSw); go_simp; (try with_reducible rfl))
    try simp only [Act.put, List.setIfInBounds_toArray, List.set_cons_zero, List.set_cons_succ]
    refine wpAnyH_take (i := 16) (v := ?_) (by first | (simp only [List.getElem?_toArray, List.getElem?_cons_succ, List.getElem?_cons_zero]; rfl) | rfl) (by kernel_rfl) (by kernel_rfl) (by kernel_rfl) (fun _ _ _ h => h) (Or.inl ⟨by rfl, ?_⟩) (by assumption) ?_
    rotate_left 1
    · (intro w' hSw; (try dsimp only at hSw); go_simp; (try with_reducible rfl))
    try simp only [Act.put, List.setIfInBounds_toArray, List.set_cons_zero, List.set_cons_succ]
    refine wpAnyH_take (i := 17) (v := ?_) (by first | (simp only [List.getElem?_toArray, List.getElem?_cons_succ, List.getElem?_cons_zero]; rfl) | rfl) (by kernel_rfl) (by kernel_rfl) (by kernel_rfl) (fun _ _ _ h => h) (Or.inl ⟨by rfl, ?_⟩) (by assumption) ?_
    rotate_left 1
    · (intro w' hSw; (try dsimp only at hSw); go_simp; (try with_reducible rfl))
    try simp only [Act.put, List.setIfInBounds_toArray, List.set_cons_zero, List.set_cons_succ]
    refine wpAnyH_take (i := 18) (v := ?_) (by first | (simp only [List.getElem?_toArray, List.getElem?_cons_succ, List.getElem?_cons_zero]; rfl) | rfl) (by kernel_rfl) (by kernel_rfl) (by kernel_rfl) (fun _ _ _ h => h) (Or.inl ⟨by rfl, ?_⟩) (by assumption) ?_
    rotate_left 1
    · (intro w' hSw; (try dsimp only at hSw); go_simp; (try with_reducible rfl))
    try simp only [Act.put, List.setIfInBounds_toArray, List.set_cons_zero, List.set_cons_succ]
    refine wpAnyH_take (i := 19) (v := ?_) (by first | (simp only [List.getElem?_toArray, List.getElem?_cons_succ, List.getElem?_cons_zero]; rfl) | rfl) (by kernel_rfl) (by kernel_rfl) (by kernel_rfl) (fun _ _ _ h => h) (Or.inl ⟨by rfl, ?_⟩) (by assumption) ?_
    rotate_left 1
    · (intro w' hSw; (try dsimp only at hSw); go_simp; (try with_reducible rfl))
    try simp only [Act.put, List.setIfInBounds_toArray, List.set_cons_zero, List.set_cons_succ]
    refine wpAnyH_take (i := 20) (v := ?_) (by first | (simp only [List.getElem?_toArray, List.getElem?_cons_succ, List.getElem?_cons_zero]; rfl) | rfl) (by kernel_rfl) (by kernel_rfl) (by kernel_rfl) (fun _ _ _ h => h) (Or.inl ⟨by rfl, ?_⟩) (by assumption) ?_
    rotate_left 1
    · (intro w' hSw; (try dsimp only at hSw); go_simp; (try with_reducible rfl))
    try simp only [Act.put, List.setIfInBounds_toArray, List.set_cons_zero, List.set_cons_succ]
    refine wpAnyH_take (i := 21) (v := ?_) (by first | (simp only [List.getElem?_toArray, List.getElem?_cons_succ, List.getElem?_cons_zero]; rfl) | rfl) (by kernel_rfl) (by kernel_rfl) (by kernel_rfl) (fun _ _ _ h => h) (Or.inl ⟨by rfl, ?_⟩) (by assumption) ?_
    rotate_left 1
    · (intro w' hSw; (try dsimp only at hSw); go_simp; (try with_reducible rfl))
    try simp only [Act.put, List.setIfInBounds_toArray, List.set_cons_zero, List.set_cons_succ]
    refine wpAnyH_take (i := 22) (v := ?_) (by first | (simp only [List.getElem?_toArray, List.getElem?_cons_succ, List.getElem?_cons_zero]; rfl) | rfl) (by kernel_rfl) (by kernel_rfl) (by kernel_rfl) (fun _ _ _ h => h) (Or.inl ⟨by rfl, ?_⟩) (by assumption) ?_
    rotate_left 1
    · (intro w' hSw; (try dsimp only at hSw); go_simp; (try with_reducible rfl))
    try simp only [Act.put, List.setIfInBounds_toArray, List.set_cons_zero, List.set_cons_succ]
    refine wpAnyH_take (i := 23) (v := ?_) (by first | (simp only [List.getElem?_toArray, List.getElem?_cons_succ, List.getElem?_cons_zero]; rfl) | rfl) (by kernel_rfl) (by kernel_rfl) (by kernel_rfl) (fun _ _ _ h => h) (Or.inl ⟨by rfl, ?_⟩) (by assumption) ?_
    rotate_left 1
    · (intro w' hSw; (try dsimp only at hSw); go_simp; (try with_reducible rfl))
    try simp only [Act.put, List.setIfInBounds_toArray, List.set_cons_zero, List.set_cons_succ]
    refine wpAnyH_done (by kernel_rfl) ?_ _
    refine NoPanic.normal ?_
    refine HKo.out _ _ ?_
    clear hHeld HKo HS8 HS9 HW8 HY8 HY9 heqI HB8 HTG HRR
    rcases D with ⟨x, p⟩ | n
    · obtain ⟨hX, hP, hE⟩ := HXPE.out
      replace hX : x = (op, a, b) := hX
      replace hP : (p : Int) = P := hP
      replace hE : 0 = E := hE
      subst hX hP hE
      clear HXPE
      obtain ⟨n, rfl, hnp, hpl, hi, hen⟩ := enc_dec HD.out
      replace hi : isI op a b = true := hi
      obtain ⟨m, rfl⟩ : ∃ m, p = n + m := ⟨p - n, by omega⟩
      rw [Nat.add_sub_cancel_left] at hen
      have hbl : (bytesAt xs n m).length = m := by unfold bytesAt; rw [List.length_take, List.length_drop]; omega
      obtain ⟨⟨a0, a1⟩, b0, b1⟩ := isI_bd hi
      have he : encR [(op, a, b)] = some (bytesAt xs n m) := by
        rw [encR, if_pos hi, encR, hen]; simp
      obtain ⟨g, o, rfl, hg, -⟩ := cbC_at HQ.out (show n < xs.length by omega)
      have HRs : Hid (Rd w w.heap.size (some ⟨g, o + n, none⟩) (cb (bytesAt xs n m))) := Lib.hid (by
        have h10 := (HQ.out.drop_ n).take_ m
        unfold bytesAt
        rwa [show cb ((xs.drop n).take m) = ((cb xs).drop n).take m by simp [cb, List.map_drop, List.map_take]])
      generalize bytesAt xs n m = bs at *
      have HBa := Lib.hid (HB9.out.alloc HB9.out.size (.cells #[.int .i64 op, .int .i64 a, .int .i64 b] 27))
      have henc := encode_some he (some ⟨w9.heap.size, 0, none⟩) 1 _ (w9.alloc (.cells #[.int .i64 op, .int .i64 a, .int .i64 b] 27)) (rd_oneI w9 op a b) (Nat.le_refl _) (by simp) (fun y hy => by obtain rfl := List.mem_singleton.1 hy; exact ⟨by show _ ≤ a; omega, by show a ≤ _; omega, by show _ ≤ b; omega, by show b ≤ _; omega⟩) (HF.out _ HBa.out)
      simp only [hbl, List.length_singleton] at henc
      have HEn := Lib.hid hbl
      have f9 := three_cellsC HW9.out
      have i1 : (0 : Int) ≤ (n : Int) := by omega
      have i2 : (n : Int) ≤ (n : Int) + (m : Int) := by omega
      have i3 : (n : Int) + (m : Int) ≤ (cc : Int) := by omega
      have i4 : (0 : Int) ≤ (n : Int) + (m : Int) := by omega
      have i5 : ((n : Int) + (m : Int)).toNat = n + m := by omega
      have i6 : ¬ (cc = n) := by omega
      have i7 : (n : Int) ≤ max ((n : Int) + (m : Int)) 0 := by omega
      clear hi hen he hnp hpl hbl HD HN a0 a1 b0 b1 hl0
      go_wp2_with fail
      refine henc.mono ?_
      rintro e w10 ⟨A10, c10, rfl, HO10, HB10⟩
      have HB11 := Lib.hid (HBa.out.trans (HB10.out.mono HBa.out.size))
      have HRt := Lib.hid (HRs.out.below HB11.out (Nat.le_refl _))
      have heq := equalC bs c10 (cc - n) w10.heap.size w.heap.size A10 (some ⟨g, o + n, none⟩) w10 (by
        have := HO10.out
        rw [← HEn.out] at this
        exact (ownB_rd this).1) HRt.out
      rw [HEn.out] at heq
      clear henc HO10 HB10 HBa f9
      go_wp2_with (first | (go_at_call 10; go_must (refine heq.mono ?_; rintro e w14 ⟨rfl, rfl⟩)))
      go_ret
      exact ⟨rfl, HB11.out⟩
    · obtain ⟨hX, hP, hE⟩ := HXPE.out
      replace hE : n = E := hE
      subst hE
      have hne : (n != 0) = true := by rcases decR_err HD.out with rfl | rfl | rfl <;> rfl
      clear HXPE hX hP
      go_wp2_with fail
      go_ret
      exact ⟨rfl, HB9.out⟩
theorem walk_CodeDecodes (A : Option Addr) (len c : Nat) (zs : List Int) (at_ : Int) (w : World) (h : IsRow .u8 w A len c zs) (_wn : (Lit.int .i64 at_).wf = true) (hT : FormsAt w ∧ EnvC w) :
    Calls Tryd.prog 4 #[.slice A len c, .int .i64 at_] w fun e w' => e = .returned (.bool true) ∧ Below w.heap.size w w' := by
  obtain ⟨xs, rfl, hc, _, hr, hn, _⟩ := bytes_of_row h
  exact walkp_CodeDecodes A c xs at_ w hr hc (fun h => (hn h).1) hT.1 (fun w' hb => tab_belowC hT.2 hb) (awake14_any w (fun w' hb => hT.1.below hb) (fun w' hb => tab_belowC hT.2 hb))
end Go.Proofs.YtghnpmhidcfghaaDoor.Fl

