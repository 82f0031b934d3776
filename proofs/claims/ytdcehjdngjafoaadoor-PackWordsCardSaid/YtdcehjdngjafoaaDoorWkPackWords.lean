/-
  The walk of PackWords.
-/
import Derived.Test.YtdcehjdngjafoaaDoorWord
namespace Go.Proofs.YtdcehjdngjafoaaDoor.Fl
open Go.RowKit

theorem ownw_empty (w : World) : OwnW (w.alloc (.cells #[] 22)) w.heap.size (.slice (some ⟨w.heap.size, 0, none⟩) 0 0) [] :=
  ⟨rfl, .inr ⟨w.heap.size, 0, #[], rfl, Nat.le_refl _, heap_alloc_new w _, Nat.le_refl _, by unfold maxLen; omega, rfl, rfl⟩⟩
theorem wpList_copy_words (w : World) {ops : Array Oper} {rest : List Oper} {o : Oper} {a : Act} {Q : Exit → Act → World → Prop} (hgd : o.guard = none) (s x : Operand)
    (ho : o.op = .call { callee := .builtin .append, args := #[s, x], argTypes := #[62, 62] })
    (base G B c : Nat) (A : Option Addr) (ws : List Nat) (hs : a.eval s = .slice (some ⟨G, 0, none⟩) 0 0) (hown : OwnW w base (.slice (some ⟨G, 0, none⟩) 0 0) []) (hx : a.eval x = .slice A ws.length c)
    (hr : Rd w B A (cw ws)) (hn : A = none → ws = [] ∧ c = 0) (hl : ws.length ≤ 1000) (hbase : base ≤ w.heap.size)
    (hK : ∀ v' w', Hid (OwnW w' base v' ws) → Below base w w' → wpList Tryd.prog ops Q rest (a.put o.dst v') w') : wpList Tryd.prog ops Q (o :: rest) a w := by
  obtain ⟨i0, hi, hz0, hz1, hz2⟩ := info_parts u64info
  cases A with
  | none =>
    obtain ⟨rfl, rfl⟩ := hn rfl
    exact wpList_append_own_none hgd s x 62 ho base 22 i0 1 Tryd.underlying62 hi _ 0 [] hs hown hx (hK _ _ hown (Below.refl _ _))
  | some ad =>
    refine wpList_append_own w hgd s x 62 ho base 22 i0 (.int .u64 0) 1 8 Tryd.underlying62 hi hz0 hz1 hz2 rfl (by decide) _ 0 [] hs hown ad ws.length c (cw ws) hx (by rw [cw_len, Nat.mul_one]) (rd_ad hr) (cw_one ws) (by unfold maxLen; omega) (by omega) hbase ?_
    intro v' w' h2 hg _
    rw [Nat.zero_add, List.nil_append] at h2
    exact hK v' w' h2 ((Below.refl _ _).grown hg hbase (fun j hj => OwnW.lt hown j hj))
theorem own_cap {w : World} {base n c : Nat} {A : Option Addr} {xs : List UInt8} (h : Own w base (.slice A n c) xs) : xs.length ≤ c := by
  rcases h.2 with ⟨e, h0⟩ | ⟨g, cap, cur, e, hb, hg, hnc, _⟩
  · omega
  · injection e with _ _ e; omega
set_option maxHeartbeats 4000000 in
theorem packWords_short (ws : List Nat) (ys : List UInt8) (c c2 l l2 : Nat) (A A2 : Option Addr) (w : World) (hr : Rd w w.heap.size A (cw ws)) (hr2 : Rd w w.heap.size A2 (cb ys)) (hn : A = none → ws = [] ∧ c = 0) (hn2 : A2 = none → ys = [] ∧ c2 = 0)
    (hlc : l ≤ c) (hlc2 : l2 ≤ c2) (hl : min l 100 = ws.length) (hl2 : min l2 500 = ys.length) (hx : ∀ x ∈ ws, x < 18446744073709551616) (he : EnvB w) :
    Calls Tryd.prog 11 #[.slice A l c, .slice A2 l2 c2] w fun e w' => e = .returned (.bool true) ∧ Below w.heap.size w w' := by
  have hyl : ys.length ≤ 500 := by omega
  have hwl : ws.length ≤ 100 := by omega
  have hS := fun w' => short_any l2 c2 A2 500 w' hlc2 (by omega)
  rw [hl2] at hS
  have hyc : ys.length ≤ c2 := by omega
  have HX := Lib.hid hx
  have HR := Lib.hid hr
  have HR2 := Lib.hid hr2
  have HHN := Lib.hid hn
  have HHN2 := Lib.hid hn2
  have HW := Lib.hid (uw_wb ws hx)
  have HWL := Lib.hid (wb_len ws)
  have HL := Lib.hid hl
  clear hl hl2 hlc2 hx hr hr2 hn hn2
  go_enter Tryd.func11, Tryd.ntmps11
  go_wp2_with fail
  refine (awakeP_any _ he).mono ?_
  rintro e w1 ⟨rfl, hb1⟩
  have hs1 := hb1.size
  have HR1 := Lib.hid (HR.out.below hb1 (Nat.le_refl _))
  have HR21 := Lib.hid (HR2.out.below hb1 (Nat.le_refl _))
  clear HR HR2
  rcases Nat.lt_or_ge 100 l with h100 | h100
  · have hw : 100 = ws.length := by have := HL.out; omega
    have HW100 := Lib.hid hw
    clear hw HL
    go_wp2_with fail
    rw [HW100.out]
    clear HW100 h100
    refine (hS w1).mono ?_
    rintro e w1' ⟨rfl, rfl⟩
    go_wp2_with (at_builtin; refine wpList_copy_words _ rfl _ _ rfl w1.heap.size w1.heap.size w.heap.size c A ws rfl (ownw_empty w1) rfl (HR1.out.below ((Below.refl w1.heap.size w1).alloc (Nat.le_refl _) _) hs1) HHN.out (by omega) (by simp) ?_; intro v2 w2 HO2 hb2)
    have hb2' : Below w1.heap.size w1 w2 := ((Below.refl w1.heap.size w1).alloc (Nat.le_refl _) _).trans hb2
    clear hb2
    have hs2 := hb2'.size
    obtain ⟨A3, c3, rfl, hr3, _⟩ := ownw_rd HO2.out
    have HR3 := Lib.hid hr3
    clear hr3 HO2
    go_wp2_with fail
    refine (words_any ws c3 w2.heap.size A3 w2 HR3.out (Nat.le_refl _) (by omega) HX.out).mono ?_
    rintro e w3 ⟨v3, rfl, hO3, hb3⟩
    obtain ⟨X, hX⟩ : ∃ X, wb ws = X := ⟨_, rfl⟩
    have HXE := Lib.hid hX
    rw [hX] at hO3
    have HWX : Hid (uw X ws.length = ws) := by rw [← hX]; exact HW
    have HLX : Hid (X.length = 8 * ws.length) := by rw [← hX]; exact HWL
    clear hX HW HWL
    have hxl : X.length ≤ 800 := by have := HLX.out; omega
    have hs3 := hb3.size
    obtain ⟨A4, c4, rfl, hr4, _⟩ := own_rd hO3
    have hcap := own_cap hO3
    have HR4 := Lib.hid hr4
    clear hr4 hO3
    go_wp2_with fail
    refine (unwords_any X c4 w3.heap.size A4 w3 HR4.out (Nat.le_refl _) (by omega) hcap).mono ?_
    rintro e w4 ⟨v4, r4, rfl, hb4, hcond⟩
    have h8 : X.length % 8 = 0 := by have := HLX.out; omega
    have h8' : X.length / 8 = ws.length := by have := HLX.out; omega
    rw [if_pos h8, h8', HWX.out] at hcond
    obtain ⟨rfl, hO4⟩ := hcond
    clear h8 h8'
    have hs4 := hb4.size
    obtain ⟨A5, c5, rfl, hr5, _⟩ := ownw_rd hO4
    have HR5 := Lib.hid hr5
    clear hr5 hO4
    have hb14 : Below w1.heap.size w1 w4 := hb2'.trans ((hb3.mono hs2).trans (hb4.mono (by omega)))
    have HRL := Lib.hid (HR1.out.below hb14 hs1)
    have HRY := Lib.hid (HR21.out.below hb14 hs1)
    have HRX := Lib.hid (HR4.out.below hb4 (Nat.le_refl _))
    go_wp2_with fail
    refine (rwords_any ws c w.heap.size A w4 HRL.out (by omega) (by omega) HX.out).mono ?_
    rintro e w5 ⟨v5, rfl, hO5, hb5⟩
    rw [HXE.out] at hO5
    have hs5 := hb5.size
    obtain ⟨A6, c6, rfl, hr6, _⟩ := own_rd hO5
    have HR6 := Lib.hid hr6
    clear hr6 hO5
    go_wp2_with fail
    refine (equal_same X c4 c6 w3.heap.size w5.heap.size A4 A6 w5 (HRX.out.below hb5 (by omega)) HR6.out).mono ?_
    rintro e w5' ⟨rfl, rfl⟩
    go_wp2_with fail
    refine (same_same ws c5 c w4.heap.size w.heap.size A5 A w5 (HR5.out.below hb5 (Nat.le_refl _)) (HRL.out.below hb5 (by omega)) (by omega)).mono ?_
    rintro e w6 ⟨rfl, q, rfl⟩
    have hb6 : Below w1.heap.size w1 (w5.drewN q) := below_drewN (hb14.trans (hb5.mono (by omega))) q
    have HRY5 := Lib.hid (HRY.out.below (below_drewN hb5 q) (by omega))
    clear hb14 hb5 HRX HR5 HR6 HR4 HR3 HRL HRY hb4 hb3 hb2' HHN HR1 HR21
    go_wp2_with fail
    refine (copy_any ys c2 w.heap.size A2 (w5.drewN q) HRY5.out (by show w.heap.size ≤ w5.heap.size; omega) (by omega) HHN2.out).mono ?_
    rintro e w7 ⟨v7, rfl, hO7, hb7⟩
    obtain ⟨A7, c7, rfl, hr7, _⟩ := own_rd hO7
    have hcap7 := own_cap hO7
    have HR7 := Lib.hid hr7
    clear hr7 hO7
    have hs7 : w5.heap.size ≤ w7.heap.size := hb7.size
    have hs6 : w1.heap.size ≤ w5.heap.size := hb6.size
    have hb7' : Below w5.heap.size (w5.drewN q) w7 := hb7
    clear hb7
    go_wp2_with fail
    refine (unwords_any ys c7 w7.heap.size A7 w7 HR7.out (Nat.le_refl _) (by omega) hcap7).mono ?_
    rintro e w8 ⟨v8, r8, rfl, hb8, hc8⟩
    have hs8 := hb8.size
    have HC8 := Lib.hid hc8
    clear hc8
    have hb58 : Below w5.heap.size (w5.drewN q) w8 := hb7'.trans (hb8.mono hs7)
    have HRY8 := Lib.hid (HRY5.out.below hb58 (by omega))
    go_wp2_with fail
    refine (runwords_any ys c2 w.heap.size A2 w8 HRY8.out (by omega) (by omega) hyc).mono ?_
    rintro e w9 ⟨v9, b9, rfl, hb9, hc9⟩
    have hs9 := hb9.size
    have hb19 : Below w1.heap.size w1 w9 := hb6.trans ((hb58.mono hs6).trans (hb9.mono (by omega)))
    have hc8 := HC8.out
    clear HC8 hb58 hb8 hb7' hb6 HRY8 HRY5 HR7
    by_cases h8 : ys.length % 8 = 0
    · rw [if_pos h8] at hc8 hc9
      obtain ⟨rfl, hO8⟩ := hc8
      obtain ⟨rfl, hO9⟩ := hc9
      have hul : (uw ys (ys.length / 8)).length ≤ 100 := by rw [uw_len]; omega
      generalize uw ys (ys.length / 8) = U at hO8 hO9 hul
      obtain ⟨A8, c8, rfl, hr8, _⟩ := ownw_rd hO8
      obtain ⟨A9, c9, rfl, hr9, _⟩ := ownw_rd hO9
      have HK := same_same U c8 c9 w8.heap.size w9.heap.size A8 A9 w9 (hr8.below hb9 (Nat.le_refl _)) hr9 (by omega)
      clear hO8 hO9 hr8 hr9 h8
      go_wp2_with fail
      refine HK.mono ?_
      rintro e w10 ⟨rfl, q2, rfl⟩
      go_wp2_with fail
      go_ret
      exact ⟨rfl, below_drewN (hb1.trans (hb19.mono hs1)) q2⟩
    · rw [if_neg h8] at hc8 hc9
      obtain ⟨rfl, rfl⟩ := hc8
      obtain ⟨rfl, rfl⟩ := hc9
      have HK := same_same [] 0 0 0 0 none none w9 (Rd.nil _ _ _) (Rd.nil _ _ _) (by simp)
      clear h8
      go_wp2_with fail
      refine HK.mono ?_
      rintro e w10 ⟨rfl, q2, rfl⟩
      go_wp2_with fail
      go_ret
      exact ⟨rfl, below_drewN (hb1.trans (hb19.mono hs1)) q2⟩
  · obtain rfl : l = ws.length := by have := HL.out; omega
    clear HL h100
    go_wp2_with fail
    refine (hS w1).mono ?_
    rintro e w1' ⟨rfl, rfl⟩
    go_wp2_with (at_builtin; refine wpList_copy_words _ rfl _ _ rfl w1.heap.size w1.heap.size w.heap.size c A ws rfl (ownw_empty w1) rfl (HR1.out.below ((Below.refl w1.heap.size w1).alloc (Nat.le_refl _) _) hs1) HHN.out (by omega) (by simp) ?_; intro v2 w2 HO2 hb2)
    have hb2' : Below w1.heap.size w1 w2 := ((Below.refl w1.heap.size w1).alloc (Nat.le_refl _) _).trans hb2
    clear hb2
    have hs2 := hb2'.size
    obtain ⟨A3, c3, rfl, hr3, _⟩ := ownw_rd HO2.out
    have HR3 := Lib.hid hr3
    clear hr3 HO2
    go_wp2_with fail
    refine (words_any ws c3 w2.heap.size A3 w2 HR3.out (Nat.le_refl _) (by omega) HX.out).mono ?_
    rintro e w3 ⟨v3, rfl, hO3, hb3⟩
    obtain ⟨X, hX⟩ : ∃ X, wb ws = X := ⟨_, rfl⟩
    have HXE := Lib.hid hX
    rw [hX] at hO3
    have HWX : Hid (uw X ws.length = ws) := by rw [← hX]; exact HW
    have HLX : Hid (X.length = 8 * ws.length) := by rw [← hX]; exact HWL
    clear hX HW HWL
    have hxl : X.length ≤ 800 := by have := HLX.out; omega
    have hs3 := hb3.size
    obtain ⟨A4, c4, rfl, hr4, _⟩ := own_rd hO3
    have hcap := own_cap hO3
    have HR4 := Lib.hid hr4
    clear hr4 hO3
    go_wp2_with fail
    refine (unwords_any X c4 w3.heap.size A4 w3 HR4.out (Nat.le_refl _) (by omega) hcap).mono ?_
    rintro e w4 ⟨v4, r4, rfl, hb4, hcond⟩
    have h8 : X.length % 8 = 0 := by have := HLX.out; omega
    have h8' : X.length / 8 = ws.length := by have := HLX.out; omega
    rw [if_pos h8, h8', HWX.out] at hcond
    obtain ⟨rfl, hO4⟩ := hcond
    clear h8 h8'
    have hs4 := hb4.size
    obtain ⟨A5, c5, rfl, hr5, _⟩ := ownw_rd hO4
    have HR5 := Lib.hid hr5
    clear hr5 hO4
    have hb14 : Below w1.heap.size w1 w4 := hb2'.trans ((hb3.mono hs2).trans (hb4.mono (by omega)))
    have HRL := Lib.hid (HR1.out.below hb14 hs1)
    have HRY := Lib.hid (HR21.out.below hb14 hs1)
    have HRX := Lib.hid (HR4.out.below hb4 (Nat.le_refl _))
    go_wp2_with fail
    refine (rwords_any ws c w.heap.size A w4 HRL.out (by omega) (by omega) HX.out).mono ?_
    rintro e w5 ⟨v5, rfl, hO5, hb5⟩
    rw [HXE.out] at hO5
    have hs5 := hb5.size
    obtain ⟨A6, c6, rfl, hr6, _⟩ := own_rd hO5
    have HR6 := Lib.hid hr6
    clear hr6 hO5
    go_wp2_with fail
    refine (equal_same X c4 c6 w3.heap.size w5.heap.size A4 A6 w5 (HRX.out.below hb5 (by omega)) HR6.out).mono ?_
    rintro e w5' ⟨rfl, rfl⟩
    go_wp2_with fail
    refine (same_same ws c5 c w4.heap.size w.heap.size A5 A w5 (HR5.out.below hb5 (Nat.le_refl _)) (HRL.out.below hb5 (by omega)) (by omega)).mono ?_
    rintro e w6 ⟨rfl, q, rfl⟩
    have hb6 : Below w1.heap.size w1 (w5.drewN q) := below_drewN (hb14.trans (hb5.mono (by omega))) q
    have HRY5 := Lib.hid (HRY.out.below (below_drewN hb5 q) (by omega))
    clear hb14 hb5 HRX HR5 HR6 HR4 HR3 HRL HRY hb4 hb3 hb2' HHN HR1 HR21
    go_wp2_with fail
    refine (copy_any ys c2 w.heap.size A2 (w5.drewN q) HRY5.out (by show w.heap.size ≤ w5.heap.size; omega) (by omega) HHN2.out).mono ?_
    rintro e w7 ⟨v7, rfl, hO7, hb7⟩
    obtain ⟨A7, c7, rfl, hr7, _⟩ := own_rd hO7
    have hcap7 := own_cap hO7
    have HR7 := Lib.hid hr7
    clear hr7 hO7
    have hs7 : w5.heap.size ≤ w7.heap.size := hb7.size
    have hs6 : w1.heap.size ≤ w5.heap.size := hb6.size
    have hb7' : Below w5.heap.size (w5.drewN q) w7 := hb7
    clear hb7
    go_wp2_with fail
    refine (unwords_any ys c7 w7.heap.size A7 w7 HR7.out (Nat.le_refl _) (by omega) hcap7).mono ?_
    rintro e w8 ⟨v8, r8, rfl, hb8, hc8⟩
    have hs8 := hb8.size
    have HC8 := Lib.hid hc8
    clear hc8
    have hb58 : Below w5.heap.size (w5.drewN q) w8 := hb7'.trans (hb8.mono hs7)
    have HRY8 := Lib.hid (HRY5.out.below hb58 (by omega))
    go_wp2_with fail
    refine (runwords_any ys c2 w.heap.size A2 w8 HRY8.out (by omega) (by omega) hyc).mono ?_
    rintro e w9 ⟨v9, b9, rfl, hb9, hc9⟩
    have hs9 := hb9.size
    have hb19 : Below w1.heap.size w1 w9 := hb6.trans ((hb58.mono hs6).trans (hb9.mono (by omega)))
    have hc8 := HC8.out
    clear HC8 hb58 hb8 hb7' hb6 HRY8 HRY5 HR7
    by_cases h8 : ys.length % 8 = 0
    · rw [if_pos h8] at hc8 hc9
      obtain ⟨rfl, hO8⟩ := hc8
      obtain ⟨rfl, hO9⟩ := hc9
      have hul : (uw ys (ys.length / 8)).length ≤ 100 := by rw [uw_len]; omega
      generalize uw ys (ys.length / 8) = U at hO8 hO9 hul
      obtain ⟨A8, c8, rfl, hr8, _⟩ := ownw_rd hO8
      obtain ⟨A9, c9, rfl, hr9, _⟩ := ownw_rd hO9
      have HK := same_same U c8 c9 w8.heap.size w9.heap.size A8 A9 w9 (hr8.below hb9 (Nat.le_refl _)) hr9 (by omega)
      clear hO8 hO9 hr8 hr9 h8
      go_wp2_with fail
      refine HK.mono ?_
      rintro e w10 ⟨rfl, q2, rfl⟩
      go_wp2_with fail
      go_ret
      exact ⟨rfl, below_drewN (hb1.trans (hb19.mono hs1)) q2⟩
    · rw [if_neg h8] at hc8 hc9
      obtain ⟨rfl, rfl⟩ := hc8
      obtain ⟨rfl, rfl⟩ := hc9
      have HK := same_same [] 0 0 0 0 none none w9 (Rd.nil _ _ _) (Rd.nil _ _ _) (by simp)
      clear h8
      go_wp2_with fail
      refine HK.mono ?_
      rintro e w10 ⟨rfl, q2, rfl⟩
      go_wp2_with fail
      go_ret
      exact ⟨rfl, below_drewN (hb1.trans (hb19.mono hs1)) q2⟩
/-- a slice of words that came in, cut to at most m words -/
theorem words_cut {w : World} {A : Option Addr} {len cap : Nat} {zs : List Int} (m : Nat) (h : IsRow .u64 w A len cap zs) :
    ∃ ws : List Nat, min len m = ws.length ∧ len ≤ cap ∧ Rd w w.heap.size A (cw ws) ∧ (A = none → ws = [] ∧ cap = 0) ∧ ∀ x ∈ ws, x < 18446744073709551616 := by
  rcases h with ⟨rfl, rfl, rfl, rfl⟩ | ⟨x, rfl, hl, hm, hz, hcell, hwz⟩
  · exact ⟨[], by simp, Nat.le_refl _, .inl rfl, fun _ => ⟨rfl, rfl⟩, fun x hx => by cases hx⟩
  · refine ⟨((zs.take len).take m).map Int.toNat, by simp [List.length_take]; omega, hl, ?_, (fun h => by cases h), fun y hy => ?_⟩
    · rcases Nat.eq_zero_or_pos len with h0 | h0
      · subst h0; exact .inl (by simp [cw])
      · obtain ⟨b, off, spot⟩ := x
        have hc := hcell 0 (by omega)
        have hspot : spot = none := by simpa [Addr.add] using World.cell?_spot hc
        subst hspot
        have hc0 : w.cell? ⟨b, off, none⟩ = some (.int .u64 (zs.getD 0 0)) := by simpa [Addr.add] using hc
        refine .inr ⟨b, off, rfl, ?_, fun j v hj => ?_⟩
        · rcases Nat.lt_or_ge b w.heap.size with h1 | h1
          · exact h1
          · simp [World.cell?, Array.getElem?_eq_none h1] at hc0
        · have hjl : j < (cw (((zs.take len).take m).map Int.toNat)).length := by
            rcases Nat.lt_or_ge j (cw (((zs.take len).take m).map Int.toNat)).length with h1 | h1
            · exact h1
            · rw [List.getElem?_eq_none h1] at hj; cases hj
          have hjz : j < zs.length := by simp [cw, List.length_take] at hjl; omega
          have hcj := hcell j hjz
          have hwf := bounds_u64 (hwz _ (List.getElem_mem hjz))
          rw [show (⟨b, off, none⟩ : Addr).add j = ⟨b, off + j, none⟩ from by simp [Addr.add]] at hcj
          rw [hcj, ← hj]
          rw [List.getElem?_eq_getElem hjl]
          simp [cw, List.getD_eq_getElem?_getD, List.getElem?_eq_getElem hjz]
          omega
    · simp only [List.mem_map] at hy
      obtain ⟨z, hz1, rfl⟩ := hy
      have hwf := bounds_u64 (hwz _ (List.mem_of_mem_take (List.mem_of_mem_take hz1)))
      omega
theorem walk_PackWords (A : Option Addr) (len cap : Nat) (zs : List Int) (A2 : Option Addr) (len2 cap2 : Nat) (zs2 : List Int) (W : World) (h : IsRow .u64 W A len cap zs) (h2 : IsRow .u8 W A2 len2 cap2 zs2) (he : EnvB W) :
    Calls Tryd.prog 11 #[.slice A len cap, .slice A2 len2 cap2] W fun e w' => e = .returned (.bool true) ∧ Below W.heap.size W w' := by
  obtain ⟨ws, hl, hc, hr, hn, hx⟩ := words_cut 100 h
  obtain ⟨ys, hl2, hc2, hr2, hn2⟩ := bytes_cut 500 h2
  exact packWords_short ws ys cap cap2 len len2 A A2 W hr hr2 hn hn2 hc hc2 hl hl2 hx he
end Go.Proofs.YtdcehjdngjafoaaDoor.Fl
