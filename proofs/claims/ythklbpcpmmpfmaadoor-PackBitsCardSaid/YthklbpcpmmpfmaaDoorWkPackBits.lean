/-
  The walk of PackBits.
-/
import Derived.Test.YthklbpcpmmpfmaaDoorPC
import Derived.Test.YthklbpcpmmpfmaaDoorActs
import Derived.Test.YthklbpcpmmpfmaaDoorAwP
import Derived.Deep.RegionHeld3
namespace Go.Proofs.YthklbpcpmmpfmaaDoor.Fl
open Go.RowKit
attribute [local irreducible] cnt

theorem vInt2 {k : IntKind} {a b : Int} (h : a = b) : Value.int k a = .int k b := by rw [h]
theorem pb_begin {w1 w2 w3 : World} {g g2 G N : Nat} (he : EnvB w1) (hB : BitsAt w2 g g2 N (List.replicate ((N + 63) / 64) 0)) (hb2 : Below w1.heap.size w1 w2) (l1 : w1.heap.size ≤ g) (l2 : w1.heap.size ≤ g2)
    (hL : LAt w3 G (List.replicate N false)) (hG : w2.heap.size ≤ G) (hb3 : Below w2.heap.size w2 w3) :
    PB (w3.alloc (.cells #[.slice (some ⟨G, 0, none⟩) N N] 28)) w1.heap.size g g2 G w3.heap.size N N (List.replicate ((N + 63) / 64) 0) := by
  have hb13 : Below w1.heap.size w1 w3 := hb2.trans (hb3.mono hb2.size)
  have hbl : Below w3.heap.size w3 (w3.alloc (.cells #[.slice (some ⟨G, 0, none⟩) N N] 28)) := (Below.refl _ _).alloc (Nat.le_refl _) _
  have hB3 := hB.below hb3 hB.gl hB.gl2
  refine ⟨hB3.below hbl hB3.gl hB3.gl2, ?_, heap_alloc_new w3 _, he.below (hb13.trans (hbl.mono hb13.size)), ⟨l2, Nat.le_trans hb2.size hG⟩, he.lt, Nat.le_trans hb13.size hbl.size⟩
  rw [inl_zero]
  exact hL.at_ (hbl.block _ hL.lt)
section
variable {w w' : World} {g2 G D R N : Nat} {i : Int} {on : Bool} {t : Int}
/-- what a round reads: the act's cells, the document's set -/
def ActC (w : World) (D R G N : Nat) (i : Int) (on : Bool) : Prop := w.cell? ⟨D, 1, none⟩ = some (.int .i64 i) ∧ w.cell? ⟨D, 2, none⟩ = some (.bool on) ∧ w.cell? ⟨R, 0, none⟩ = some (.slice (some ⟨G, 0, none⟩) N N)
theorem cell_same {w w' : World} {b o : Nat} (h : w'.heap[b]? = w.heap[b]?) : w'.cell? ⟨b, o, none⟩ = w.cell? ⟨b, o, none⟩ := World.cell?_of_block (a := ⟨b, o, none⟩) h
theorem ActC.at_ (h : ActC w D R G N i on) (h1 : w'.heap[D]? = w.heap[D]?) (h2 : w'.heap[R]? = w.heap[R]?) : ActC w' D R G N i on :=
  ⟨(cell_same h1).trans h.1, (cell_same h1).trans h.2.1, (cell_same h2).trans h.2.2⟩
end
theorem has_both2 (g g2 G N c : Nat) (i : Int) (ws : List Nat) (hN : N ≤ 16777216) : ∃ r : Bool,
    (∀ w, BitsAt w g g2 N ws → Calls Tryd.prog 15 #[.pointer (some ⟨g, 0, none⟩), .int .i64 i] w fun e w' => e = .returned (.bool r) ∧ Below w.heap.size w w') ∧
    (∀ w, LAt w G (inl ws N) → Calls Tryd.prog 16 #[.agg #[.slice (some ⟨G, 0, none⟩) N c], .int .i64 i] w fun e w' => e = .returned (.bool r) ∧ Below w.heap.size w w') := by
  obtain ⟨r, h1, h2, _⟩ := has_both g g2 G N c i ws hN
  refine ⟨r, fun w h => (h1 w h).mono ?_, h2⟩
  rintro e w' ⟨rfl, rfl⟩
  exact ⟨rfl, Below.refl _ _⟩
theorem same_q (g g2 n : Nat) (ws : List Nat) (f f2 : Nat) (us : List Nat) (w : World) {b : Bool} (h : BitsAt w g g2 n ws) (h' : BitsAt w f f2 n us) (hb : decide (ws = us) = b) :
    Calls Tryd.prog 22 #[.pointer (some ⟨g, 0, none⟩), .pointer (some ⟨f, 0, none⟩)] w fun e w' => e = .returned (.bool b) ∧ Below w.heap.size w w' := by
  subst hb
  refine (same_bits_n g g2 n ws f f2 us w h h').mono ?_
  rintro e w' ⟨q, rfl, rfl⟩
  exact ⟨rfl, below_q2 w q⟩
theorem same_no (g g2 n : Nat) (ws : List Nat) (f f2 m : Nat) (us : List Nat) (w : World) (h : BitsAt w g g2 n ws) (h' : BitsAt w f f2 m us) (hne : n ≠ m) :
    Calls Tryd.prog 22 #[.pointer (some ⟨g, 0, none⟩), .pointer (some ⟨f, 0, none⟩)] w fun e w' => e = .returned (.bool false) ∧ Below w.heap.size w w' := by
  refine (same_bits g g2 n ws f f2 m us w h h').mono ?_
  rintro e w' ⟨q, rfl, rfl⟩
  exact ⟨by rw [decide_eq_false (fun h => hne h.1)], below_q2 w q⟩
/-- another set turned at a place -/
theorem turn_both (g' g2' G N c : Nat) (i : Int) (ws : List Nat) (hl : ws.length = (N + 63) / 64) (hN : N ≤ 16777216) : ∃ (r tr : Bool) (ws' : List Nat),
    (∀ w, LAt w G (inl ws N) → Calls Tryd.prog 16 #[.agg #[.slice (some ⟨G, 0, none⟩) N c], .int .i64 i] w fun e w' => e = .returned (.bool r) ∧ Below w.heap.size w w') ∧
    (∀ g g2 w, BitsAt w g g2 N ws → Calls Tryd.prog 15 #[.pointer (some ⟨g, 0, none⟩), .int .i64 i] w fun e w' => e = .returned (.bool r) ∧ Below w.heap.size w w') ∧
    (∀ w, BitsAt w g' g2' N ws → Calls Tryd.prog 13 #[.pointer (some ⟨g', 0, none⟩), .int .i64 i, .bool (!r)] w (SetPost w g' g2' N ws' tr)) ∧
    (tr = true ↔ 0 ≤ i ∧ i < N) ∧ decide (ws = ws') = !tr := by
  by_cases hi : i < 0 ∨ (N : Int) ≤ i
  · exact ⟨false, false, ws, fun w h => rhas_out w c i h hi hN, fun g g2 w h => (has_out g g2 N i ws w h hi).mono (by rintro e w' ⟨rfl, rfl⟩; exact ⟨rfl, Below.refl _ _⟩), fun w h => set_out g' g2' N i true ws w h hi, by simp; omega, by simp⟩
  · obtain ⟨k, rfl⟩ := Int.eq_ofNat_of_zero_le (show 0 ≤ i by omega)
    have hk : k < N := by omega
    refine ⟨bitAt ws k, true, flip ws k, fun w h => rhas_in w c k h hk hN, fun g g2 w h => (has_in g g2 N k ws w h hk).mono (by rintro e w' ⟨rfl, rfl⟩; exact ⟨rfl, Below.refl _ _⟩), fun w h => set_flip g' g2' N k _ ws w h hk (by cases bitAt ws k <;> rfl), by simp; omega, ?_⟩
    have hne : ws ≠ flip ws k := fun e => by
      have h1 := bitAt_flip (ws := ws) (i := k) (by rw [hl]; omega) k
      rw [if_pos rfl, ← e] at h1
      revert h1
      cases bitAt ws k <;> simp
    simp [hne]
theorem size_q {g g2 n : Nat} {ws : List Nat} (w : World) (h : BitsAt w g g2 n ws) :
    Calls Tryd.prog 12 #[.pointer (some ⟨g, 0, none⟩)] w fun e w' => e = .returned (.int .i64 (n : Int)) ∧ w' = w :=
  (size_any g g2 n ws w h).mono fun _ _ h => ⟨h.1, h.2.symm⟩
set_option maxRecDepth 100000 in
set_option maxHeartbeats 40000000 in
theorem bits_any (n : Int) (A : Option Addr) (len cap : Nat) (w : World) (ha : ActRow w w.heap.size A len) (_hl : len ≤ 9223372036854775807) (he : EnvB w) :
    Calls Tryd.prog 3 #[.int .i64 n, .slice A len cap] w fun e w' => e = .returned (.bool true) ∧ Below w.heap.size w w' := by
  obtain ⟨z, N, hzn, hz, hN⟩ : ∃ (z : Int) (N : Nat), max (-1) (min n 400) = z ∧ (z = N ∨ (z = -1 ∧ N = 0)) ∧ N ≤ 400 := ⟨_, (max (-1) (min n 400)).toNat, rfl, by omega, by omega⟩
  have HZ := Lib.hid hzn
  have HZN := Lib.hid hz
  have HA := Lib.hid ha
  have HE := Lib.hid he
  clear hzn hz ha
  go_enter Tryd.func3, Tryd.ntmps3
  go_wp2_with fail
  refine (awakeP_any _ he).mono ?_
  rintro e w1 ⟨rfl, hb1⟩
  go_upto_region 3 with fail
  go_cut [0] (fun v wx => v = .int .i64 z ∧ w1 = wx)
  case first =>
    clear hb1 he
    go_wp2_with fail
    all_goals go_meet
    all_goals exact ⟨vInt2 (by have := HZ.out; omega), rfl⟩
  case rest =>
    obtain ⟨rfl, rfl⟩ := hcut
    have HE1 := Lib.hid (he.below hb1)
    have HB1 := Lib.hid hb1
    clear he hb1 HZ
    go_wp2_with fail
    refine (newB_any z N HZN.out (by omega) w1).mono ?_
    rintro e w2 ⟨g, g2, rfl, l1, l2, hB, hb2⟩
    go_wp2_with fail
    refine (rnewB_any z N HZN.out (by omega) w2).mono ?_
    rintro e w3 ⟨G, rfl, hG, hL, hb3⟩
    have HP := Lib.hid (pb_begin HE1.out hB hb2 l1 l2 hL hG hb3)
    have HBw := Lib.hid (HB1.out.trans ((hb2.trans ((hb3.mono hb2.size).trans (((Below.refl w3.heap.size w3).alloc (Nat.le_refl _) (.cells #[.slice (some ⟨G, 0, none⟩) N N] 28)).mono (Nat.le_trans hb2.size hb3.size)))).mono HB1.out.size))
    have HBase := Lib.hid (show w.heap.size ≤ w1.heap.size from HB1.out.size)
    clear hB hb2 l1 l2 hL hG hb3 HZN
    go_wp2_with fail
    generalize w3.alloc (.cells #[.slice (some ⟨G, 0, none⟩) N N] 28) = wa at *
    generalize w3.heap.size = R at *
    have cR := HP.out.cR
    have hsz := fun q => size_q (wa.drewN q) (HP.out.bits.drewN q)
    go_quiet ((go_at_call 12; exact Calls.quiet_of_same (hsz _)))
    rename_i nq
    have HP2 := Lib.hid (HP.out.below (below_q2 wa nq))
    have HB2 := Lib.hid (HBw.out.trans ((below_q2 wa nq).mono HBw.out.size))
    generalize w1.heap.size = base at *
    clear cR hsz HP HBw
    generalize wa.drewN nq = wb at *
    go_wp2_with fail
    go_loopw [7] (fun v wr => ∃ (k : Nat) (ws : List Nat), k ≤ len ∧ k ≤ 60 ∧ v = .int .i64 k ∧ Hid (PB wr base g g2 G R N N ws) ∧ Hid (Below w.heap.size w wr)) (fun v _ => len - (intOf v).toNat)
    case atStart => exact ⟨0, _, Nat.zero_le _, by omega, rfl, HP2, HB2⟩
    case round =>
      obtain ⟨k, ws, hk, hk60, rfl, HR, HB⟩ := hrel
      clear HP2 HB2
      by_cases hlt : k < len ∧ k < 60
      · obtain ⟨hlt, hlt60⟩ := hlt
        obtain ⟨b, off, t, i, on, rfl, hbB, e0, e1, e2, ht2, hi2⟩ := (HA.out.below HB.out) k hlt
        have hti := bounds_i64 ht2
        have hii := bounds_i64 hi2
        clear ht2 hi2
        go_upto_region 12 with fail
        have hD : (wr.alloc (.cells #[.int .i64 t, .int .i64 i, .bool on] 32)).heap[wr.heap.size]? = some (.cells #[.int .i64 t, .int .i64 i, .bool on] 32 (0, 0)) := heap_alloc_new wr _
        have HP := Lib.hid (HR.out.below ((Below.refl _ wr).alloc (Nat.le_refl _) (.cells #[.int .i64 t, .int .i64 i, .bool on] 32)))
        have HBx := Lib.hid (HB.out.trans (((Below.refl _ wr).alloc (Nat.le_refl _) (.cells #[.int .i64 t, .int .i64 i, .bool on] 32)).mono HB.out.size))
        clear HR HB e0 e1 e2 hbB
        generalize wr.alloc (.cells #[.int .i64 t, .int .i64 i, .bool on] 32) = wx at *
        generalize wr.heap.size = D at *
        have cA : ActC wx D R G N i on := ⟨cell_of_row _ _ _ _ _ _ hD, cell_of_row _ _ _ _ _ _ hD, HP.out.cR⟩
        have ct : wx.cell? ⟨D, 0, none⟩ = some (.int .i64 t) := cell_of_row _ _ _ _ _ _ hD
        have HD := Lib.hid hD
        have HC := Lib.hid cA
        obtain ⟨cA1, cA2, cA3⟩ := cA
        have HDl := Lib.hid (lt_of_block hD)
        clear hD
        by_cases t0 : t = 0
        · subst t0
          go_upto_region 17 with fail
          obtain ⟨ws', r, hs, hr⟩ := set_both g g2 G N N i on ws HP.out.bits.len HP.out.small
          have hrr : (r == r) = true := by cases r <;> rfl
          have HPd := Lib.hid (HP.out.below (Below.refl _ _).drew)
          have hn := HP.out.ne
          have HDg2 := Lib.hid (show D ≠ g2 by obtain ⟨cur, h2, _⟩ := HP.out.bits.wd; exact other_type HD.out h2 (by decide))
          have HDG := Lib.hid (other_type HD.out HP.out.lat (by decide))
          have HN := Lib.hid hn
          have HRl := Lib.hid (lt_of_block HP.out.rb)
          have HS := Lib.hid hs
          have HRr := Lib.hid hr
          clear hn hs hr
          go_wp2_with fail
          go_region_held3 (fun w' : World => w'.cell? ⟨D, 1, none⟩ = some (.int .i64 i) ∧ w'.cell? ⟨D, 2, none⟩ = some (.bool on) ∧ w'.cell? ⟨R, 0, none⟩ = some (.slice (some ⟨G, 0, none⟩) N N))
            (first
              | exact hS2
              | exact hS1
              | exact HC.out)
            (first
              | (go_at_call 13; (refine (HS.out _ HPd.out.bits).mono ?_); rintro e w4 ⟨rfl, hB4, hb4, hs4, hk4⟩; have hS1 := HC.out.at_ (hk4 _ HDg2.out) (hk4 _ HN.out.2.2.1); have hL4 := HP.out.lat.at_ (hk4 _ (fun e => HN.out.1 e.symm)))
              | (go_at_call 14; (refine (HRr.out _ hL4).mono ?_); rintro e w5 ⟨rfl, hL5, hb5, hj5⟩; have hS2 := hS1.at_ (hj5 _ (by rw [hs4]; exact HDl.out) HDG.out) (hj5 _ (by rw [hs4]; exact HRl.out) HN.out.2.2.2)))
          rename_i hK hH
          clear hH
          refine hK _ _ ?_
          clear hK
          have HF := Lib.hid (HPd.out.setA hB4 hb4 hs4 hk4 hL5 hb5 hj5)
          have HP2 := Lib.hid HF.out.1
          have HB3 := Lib.hid (HBx.out.trans (((Below.refl base wx).drew.trans HF.out.2).mono HBase.out))
          clear hB4 hb4 hs4 hk4 hL4 hL5 hb5 hj5 hS1 hS2 HF HBx HP cA1 cA2 cA3 ct HD HC HDl HPd HS HRr HN HDg2 HDG HRl
          go_wp2_with fail
          go_roundw
          case rel => exact ⟨k + 1, ws', by omega, by omega, by simp, HP2, HB3⟩
          case measure => simp [intOf]; omega
        · by_cases t1 : t = 1
          · subst t1
            clear t0
            go_upto_region 19 with fail
            obtain ⟨r, hs, hr⟩ := has_both2 g g2 G N N i ws HP.out.small
            have hrr : (r == r) = true := by simp
            have HPd := Lib.hid (HP.out.below (Below.refl _ _).drew)
            have HRl := Lib.hid (lt_of_block HP.out.rb)
            have HS := Lib.hid hs
            have HRr := Lib.hid hr
            clear hs hr
            go_wp2_with fail
            go_region_held3 (fun w' : World => w'.cell? ⟨D, 1, none⟩ = some (.int .i64 i) ∧ w'.cell? ⟨D, 2, none⟩ = some (.bool on) ∧ w'.cell? ⟨R, 0, none⟩ = some (.slice (some ⟨G, 0, none⟩) N N))
              (first
                | exact hS2
                | exact hS1
                | exact HC.out)
              (first
                | (go_at_call 15; (refine (HS.out _ HPd.out.bits).mono ?_); rintro e w4 ⟨rfl, hb4⟩; have hP4 := HPd.out.below hb4; have hS1 := HC.out.at_ (hb4.block _ HDl.out) (hb4.block _ HRl.out))
                | (go_at_call 16; (refine (HRr.out _ hP4.lat).mono ?_); rintro e w5 ⟨rfl, hb5⟩; have hP5 := hP4.below hb5; have hS2 := hS1.at_ (hb5.block _ (Nat.lt_of_lt_of_le HDl.out hb4.size)) (hb5.block _ (Nat.lt_of_lt_of_le HRl.out hb4.size))))
            rename_i hK hH
            clear hH
            refine hK _ _ ?_
            clear hK
            have HP2 := Lib.hid hP5
            have HB3 := Lib.hid (HBx.out.trans (((Below.refl wx.heap.size wx).drew.trans (hb4.trans (hb5.mono hb4.size))).mono HBx.out.size))
            clear hb4 hb5 hP4 hP5 hS1 hS2 HBx HP cA1 cA2 cA3 ct HD HC HDl HPd HS HRr HRl
            go_wp2_with fail
            go_roundw
            case rel => exact ⟨k + 1, ws, by omega, by omega, by simp, HP2, HB3⟩
            case measure => simp [intOf]; omega
          · by_cases t2 : t = 2
            · subst t2
              clear t0 t1
              go_upto_region 21 with fail
              obtain ⟨r, hs, hr⟩ := next_both g g2 G N N i ws HP.out.small HP.out.bits.top
              have hrr : (r == r) = true := by simp
              have HPd := Lib.hid (HP.out.below (Below.refl _ _).drew)
              have HRl := Lib.hid (lt_of_block HP.out.rb)
              have HS := Lib.hid hs
              have HRr := Lib.hid hr
              clear hs hr
              go_wp2_with fail
              go_region_held3 (fun w' : World => w'.cell? ⟨D, 1, none⟩ = some (.int .i64 i) ∧ w'.cell? ⟨D, 2, none⟩ = some (.bool on) ∧ w'.cell? ⟨R, 0, none⟩ = some (.slice (some ⟨G, 0, none⟩) N N))
                (first
                  | exact hS2
                  | exact hS1
                  | exact HC.out)
                (first
                  | (go_at_call 17; (refine (HS.out _ HPd.out.bits HPd.out.env).mono ?_); rintro e w4 ⟨rfl, hb4⟩; have hP4 := HPd.out.below hb4; have hS1 := HC.out.at_ (hb4.block _ HDl.out) (hb4.block _ HRl.out))
                  | (go_at_call 18; (refine (HRr.out _ hP4.lat).mono ?_); rintro e w5 ⟨rfl, hb5⟩; have hP5 := hP4.below hb5; have hS2 := hS1.at_ (hb5.block _ (Nat.lt_of_lt_of_le HDl.out hb4.size)) (hb5.block _ (Nat.lt_of_lt_of_le HRl.out hb4.size))))
              rename_i hK hH
              clear hH
              refine hK _ _ ?_
              clear hK
              have HP2 := Lib.hid hP5
              have HB3 := Lib.hid (HBx.out.trans (((Below.refl wx.heap.size wx).drew.trans (hb4.trans (hb5.mono hb4.size))).mono HBx.out.size))
              clear hb4 hb5 hP4 hP5 hS1 hS2 HBx HP cA1 cA2 cA3 ct HD HC HDl HPd HS HRr HRl
              go_wp2_with fail
              go_roundw
              case rel => exact ⟨k + 1, ws, by omega, by omega, by simp, HP2, HB3⟩
              case measure => simp [intOf]; omega
            · by_cases t3 : t = 3
              · subst t3
                clear t0 t1 t2
                go_upto_region 23 with fail
                obtain ⟨r, hs, hr⟩ := below_both g g2 G N N i ws HP.out.small
                have hrr : (r == r) = true := by simp
                have HPd := Lib.hid (HP.out.below (Below.refl _ _).drew)
                have HRl := Lib.hid (lt_of_block HP.out.rb)
                have HS := Lib.hid hs
                have HRr := Lib.hid hr
                clear hs hr
                go_wp2_with fail
                go_region_held3 (fun w' : World => w'.cell? ⟨D, 1, none⟩ = some (.int .i64 i) ∧ w'.cell? ⟨D, 2, none⟩ = some (.bool on) ∧ w'.cell? ⟨R, 0, none⟩ = some (.slice (some ⟨G, 0, none⟩) N N))
                  (first
                    | exact hS2
                    | exact hS1
                    | exact HC.out)
                  (first
                    | (go_at_call 19; (refine (HS.out _ HPd.out.bits).mono ?_); rintro e w4 ⟨rfl, hb4⟩; have hP4 := HPd.out.below hb4; have hS1 := HC.out.at_ (hb4.block _ HDl.out) (hb4.block _ HRl.out))
                    | (go_at_call 20; (refine (HRr.out _ hP4.lat).mono ?_); rintro e w5 ⟨rfl, hb5⟩; have hP5 := hP4.below hb5; have hS2 := hS1.at_ (hb5.block _ (Nat.lt_of_lt_of_le HDl.out hb4.size)) (hb5.block _ (Nat.lt_of_lt_of_le HRl.out hb4.size))))
                rename_i hK hH
                clear hH
                refine hK _ _ ?_
                clear hK
                have HP2 := Lib.hid hP5
                have HB3 := Lib.hid (HBx.out.trans (((Below.refl wx.heap.size wx).drew.trans (hb4.trans (hb5.mono hb4.size))).mono HBx.out.size))
                clear hb4 hb5 hP4 hP5 hS1 hS2 HBx HP cA1 cA2 cA3 ct HD HC HDl HPd HS HRr HRl
                go_wp2_with fail
                go_roundw
                case rel => exact ⟨k + 1, ws, by omega, by omega, by simp, HP2, HB3⟩
                case measure => simp [intOf]; omega
              · have t3x := 0
                clear t3x
                go_upto_region 13 with fail
                have HRl := Lib.hid (lt_of_block HP.out.rb)
                go_wp2_with fail
                refine (clone_any g g2 N ws wx HP.out.bits).mono ?_
                rintro e w4 ⟨g', g2', rfl, lg, lg2, hB4, hb4⟩
                obtain ⟨r, tr, ws', hrh, hh, hst, htr, hdec⟩ := turn_both g' g2' G N N i ws HP.out.bits.len HP.out.small
                have HB4 := Lib.hid hB4
                have hbA : Below wx.heap.size wx w4 := hb4
                have HA4 := Lib.hid hbA
                obtain ⟨cB1, cB2, cB3⟩ := HC.out.at_ (hb4.block _ HDl.out) (hb4.block _ HRl.out)
                have Hrh := Lib.hid hrh
                have Hrx := Lib.hid hrh
                have Hh := Lib.hid hh
                have Hst := Lib.hid hst
                have Hdec := Lib.hid hdec
                have Hlg := Lib.hid (And.intro lg lg2)
                clear hB4 hb4 hbA hrh hh hst hdec lg lg2 cA1 cA2 cA3 ct
                go_upto_region 14 with fail
                go_wp2_with fail
                go_region_held3 (fun w' : World => w'.cell? ⟨D, 1, none⟩ = some (.int .i64 i) ∧ w'.cell? ⟨D, 2, none⟩ = some (.bool on) ∧ w'.cell? ⟨R, 0, none⟩ = some (.slice (some ⟨G, 0, none⟩) N N))
                  (first
                    | exact HC.out.at_ (hb6.block _ HDl.out) (hb6.block _ HRl.out)
                    | exact HC.out.at_ (hb5.block _ HDl.out) (hb5.block _ HRl.out)
                    | exact HC.out.at_ (HA4.out.drew.block _ HDl.out) (HA4.out.drew.block _ HRl.out))
                  (first
                    | (go_at_call 16; (refine (Hrh.out _ (HP.out.below HA4.out.drew).lat).mono ?_); rintro e w5 ⟨rfl, hb5x⟩; have hb5 := HA4.out.drew.trans (hb5x.mono HA4.out.drew.size))
                    | (go_at_call 13; (refine (Hst.out _ ((HB4.out.drew).below hb5x HB4.out.gl HB4.out.gl2)).mono ?_); rintro e w6 ⟨rfl, hB6, hb6x, hs6, hk6⟩; have hb6 := hb5.trans (hb6x wx.heap.size Hlg.out.2)))
                rename_i hK hH
                clear hH
                refine hK _ _ ?_
                clear hK
                have HA6 := Lib.hid hb6
                have HB6 := Lib.hid hB6
                clear hb5 hb5x hb6 hB6 hb6x hs6 hk6 cB1 cB2 cB3 HA4 HB4 Hrh Hst
                have hrr : (r == r) = true := by cases r <;> rfl
                rename_i hKo e1 e2 e3 e4 K0
                by_cases hin : 0 ≤ i ∧ i < N
                · obtain rfl : tr = true := htr.2 hin
                  obtain ⟨hi0, hiN⟩ := hin
                  clear htr
                  have hN9 : (N : Int) ≤ 400 := by omega
                  have hnw : N ≠ 401 := by omega
                  have hnb : ∀ w' : World, Calls Tryd.prog 10 #[.int .i64 401] w' (NewPost w' 401) := fun w' => newBits_nat 401 (by decide) w'
                  have Hnb := Lib.hid hnb
                  have Hnw := Lib.hid hnw
                  clear hnb hnw
                  go_region_held3 (fun w' : World => w'.cell? ⟨D, 1, none⟩ = some (.int .i64 i) ∧ w'.cell? ⟨D, 2, none⟩ = some (.bool on) ∧ w'.cell? ⟨R, 0, none⟩ = some (.slice (some ⟨G, 0, none⟩) N N))
                    (first
                      | exact HC.out.at_ (hbE.block _ HDl.out) (hbE.block _ HRl.out)
                      | exact HC.out.at_ (hbD.block _ HDl.out) (hbD.block _ HRl.out)
                      | exact HC.out.at_ (hbC.block _ HDl.out) (hbC.block _ HRl.out)
                      | exact HC.out.at_ (hbB.block _ HDl.out) (hbB.block _ HRl.out)
                      | exact HC.out.at_ (hbA.block _ HDl.out) (hbA.block _ HRl.out)
                      | exact HC.out.at_ (HA6.out.drew.block _ HDl.out) (HA6.out.drew.block _ HRl.out))
                    (first
                      | (go_at_call 15; (refine (Hh.out _ _ _ (HP.out.below HA6.out.drew).bits).mono ?_); rintro e wA ⟨rfl, hxA⟩; have hbA := HA6.out.drew.trans (hxA.mono HA6.out.drew.size); have hcA := (Below.refl w6.heap.size w6).drew.trans hxA)
                      | (go_at_call 16; (refine (Hrx.out _ (HP.out.below hbA).lat).mono ?_); rintro e wB ⟨rfl, hxB⟩; have hbB := hbA.trans (hxB.mono hbA.size); have hcB := hcA.trans (hxB.mono hcA.size))
                      | (go_at_call 22; (with_reducible refine (same_q g g2 N ws g' g2' ws' wB (HP.out.below hbB).bits (HB6.out.below hcB HB6.out.gl HB6.out.gl2) Hdec.out).mono ?_); rintro e wC ⟨rfl, hxC⟩; have hbC := hbB.trans (hxC.mono hbB.size))
                      | (go_at_call 10; (refine (Hnb.out _).mono ?_); rintro e wD ⟨gn, gn2, rfl, hgn, hgn2, hBn, hxD⟩; have hbD := hbC.trans (hxD.mono hbC.size))
                      | (go_at_call 22; (with_reducible refine (same_no g g2 N ws gn gn2 401 _ wD (HP.out.below hbD).bits hBn Hnw.out).mono ?_); rintro e wE ⟨rfl, hxE⟩; have hbE := hbD.trans (hxE.mono hbD.size)))
                  rename_i hH
                  clear hH
                  refine hKo _ _ ?_
                  clear hKo K0
                  have HP2 := Lib.hid (HP.out.below hbE)
                  have HB3 := Lib.hid (HBx.out.trans (hbE.mono HBx.out.size))
                  clear hbA hbB hbC hbD hbE hcA hcB hxA hxB hxC hxD hxE hBn hgn hgn2 HBx HP HD HC HDl Hh Hrx HRl HA6 HB6 Hnb Hnw
                  go_wp2_with fail
                  go_roundw
                  case rel => exact ⟨k + 1, ws, by omega, by omega, by simp, HP2, HB3⟩
                  case measure => simp [intOf]; omega
                · obtain rfl : tr = false := by cases tr; rfl; exact absurd (htr.1 rfl) hin
                  by_cases hi0 : 0 ≤ i
                  · have hiN : (N : Int) ≤ i := by omega
                    have hN2 : decide (i < (N : Int)) = false := by simp; omega
                    clear hin
                    clear htr
                    have hN9 : (N : Int) ≤ 400 := by omega
                    have hnw : N ≠ 401 := by omega
                    have hnb : ∀ w' : World, Calls Tryd.prog 10 #[.int .i64 401] w' (NewPost w' 401) := fun w' => newBits_nat 401 (by decide) w'
                    have Hnb := Lib.hid hnb
                    have Hnw := Lib.hid hnw
                    clear hnb hnw
                    go_region_held3 (fun w' : World => w'.cell? ⟨D, 1, none⟩ = some (.int .i64 i) ∧ w'.cell? ⟨D, 2, none⟩ = some (.bool on) ∧ w'.cell? ⟨R, 0, none⟩ = some (.slice (some ⟨G, 0, none⟩) N N))
                      (first
                        | exact HC.out.at_ (hbE.block _ HDl.out) (hbE.block _ HRl.out)
                        | exact HC.out.at_ (hbD.block _ HDl.out) (hbD.block _ HRl.out)
                        | exact HC.out.at_ (hbC.block _ HDl.out) (hbC.block _ HRl.out)
                        | exact HC.out.at_ (hbB.block _ HDl.out) (hbB.block _ HRl.out)
                        | exact HC.out.at_ (hbA.block _ HDl.out) (hbA.block _ HRl.out)
                        | exact HC.out.at_ (HA6.out.drew.block _ HDl.out) (HA6.out.drew.block _ HRl.out))
                      (first
                        | (go_at_call 15; (refine (Hh.out _ _ _ (HP.out.below HA6.out.drew).bits).mono ?_); rintro e wA ⟨rfl, hxA⟩; have hbA := HA6.out.drew.trans (hxA.mono HA6.out.drew.size); have hcA := (Below.refl w6.heap.size w6).drew.trans hxA)
                        | (go_at_call 16; (refine (Hrx.out _ (HP.out.below hbA).lat).mono ?_); rintro e wB ⟨rfl, hxB⟩; have hbB := hbA.trans (hxB.mono hbA.size); have hcB := hcA.trans (hxB.mono hcA.size))
                        | (go_at_call 22; (with_reducible refine (same_q g g2 N ws g' g2' ws' wB (HP.out.below hbB).bits (HB6.out.below hcB HB6.out.gl HB6.out.gl2) Hdec.out).mono ?_); rintro e wC ⟨rfl, hxC⟩; have hbC := hbB.trans (hxC.mono hbB.size))
                        | (go_at_call 10; (refine (Hnb.out _).mono ?_); rintro e wD ⟨gn, gn2, rfl, hgn, hgn2, hBn, hxD⟩; have hbD := hbC.trans (hxD.mono hbC.size))
                        | (go_at_call 22; (with_reducible refine (same_no g g2 N ws gn gn2 401 _ wD (HP.out.below hbD).bits hBn Hnw.out).mono ?_); rintro e wE ⟨rfl, hxE⟩; have hbE := hbD.trans (hxE.mono hbD.size)))
                    rename_i hH
                    clear hH
                    refine hKo _ _ ?_
                    clear hKo K0
                    have HP2 := Lib.hid (HP.out.below hbE)
                    have HB3 := Lib.hid (HBx.out.trans (hbE.mono HBx.out.size))
                    clear hbA hbB hbC hbD hbE hcA hcB hxA hxB hxC hxD hxE hBn hgn hgn2 HBx HP HD HC HDl Hh Hrx HRl HA6 HB6 Hnb Hnw
                    go_wp2_with fail
                    go_roundw
                    case rel => exact ⟨k + 1, ws, by omega, by omega, by simp, HP2, HB3⟩
                    case measure => simp [intOf]; omega
                  · have hiN : i < 0 := by omega
                    have hi2 : decide (0 ≤ i) = false := by simp; omega
                    clear hin hi0
                    clear htr
                    have hN9 : (N : Int) ≤ 400 := by omega
                    have hnw : N ≠ 401 := by omega
                    have hnb : ∀ w' : World, Calls Tryd.prog 10 #[.int .i64 401] w' (NewPost w' 401) := fun w' => newBits_nat 401 (by decide) w'
                    have Hnb := Lib.hid hnb
                    have Hnw := Lib.hid hnw
                    clear hnb hnw
                    refine wp_region_noPanic ?_
                    refine wp_region_held_drew (S := (fun w' : World => w'.cell? ⟨D, 1, none⟩ = some (.int .i64 i) ∧ w'.cell? ⟨D, 2, none⟩ = some (.bool on) ∧ w'.cell? ⟨R, 0, none⟩ = some (.slice (some ⟨G, 0, none⟩) N N))) (by kernel_rfl) (HC.out.at_ (HA6.out.drew.block _ HDl.out) (HA6.out.drew.block _ HRl.out)) (fun hHeld => ?_)
                    refine wpAnyH_take (i := 0) (v := ?_) (by first | (simp only [List.getElem?_toArray, List.getElem?_cons_succ, List.getElem?_cons_zero]; rfl) | rfl) (by kernel_rfl) (by kernel_rfl) (by kernel_rfl) (fun _ _ _ h => h) (Or.inl ⟨by rfl, ?_⟩) (by assumption) ?_
                    rotate_left 1
                    · (intro w' hSw; (try dsimp only at hSw); go_simp; (try with_reducible rfl))
                    try simp only [Act.put, List.setIfInBounds_toArray, List.set_cons_zero, List.set_cons_succ]
                    refine wpAnyH_take (i := 1) (v := ?_) (by first | (simp only [List.getElem?_toArray, List.getElem?_cons_succ, List.getElem?_cons_zero]; rfl) | rfl) (by kernel_rfl) (by kernel_rfl) (by kernel_rfl) (fun _ _ _ h => h) (Or.inl ⟨by rfl, ?_⟩) (by assumption) ?_
                    rotate_left 1
                    · (intro w' hSw; (try dsimp only at hSw); go_simp; (try with_reducible rfl))
                    try simp only [Act.put, List.setIfInBounds_toArray, List.set_cons_zero, List.set_cons_succ]
                    refine wpAnyH_take (i := 2) (v := ?_) (by first | (simp only [List.getElem?_toArray, List.getElem?_cons_succ, List.getElem?_cons_zero]; rfl) | rfl) (by kernel_rfl) (by kernel_rfl) (by kernel_rfl) (fun _ _ _ h => h) (Or.inl ⟨by rfl, ?_⟩) (by assumption) ?_
                    rotate_left 1
                    · (intro w' hSw; (try dsimp only at hSw); go_simp; (try with_reducible rfl))
                    try simp only [Act.put, List.setIfInBounds_toArray, List.set_cons_zero, List.set_cons_succ]
                    refine wpAnyH_take (i := 3) (v := ?_) (by first | (simp only [List.getElem?_toArray, List.getElem?_cons_succ, List.getElem?_cons_zero]; rfl) | rfl) (by kernel_rfl) (by kernel_rfl) (by kernel_rfl) (fun _ _ _ h => h) (Or.inl ⟨by rfl, ?_⟩) (by assumption) ?_
                    rotate_left 1
                    · (intro w' hSw; (try dsimp only at hSw); go_simp; (try with_reducible rfl))
                    try simp only [Act.put, List.setIfInBounds_toArray, List.set_cons_zero, List.set_cons_succ]
                    refine wpAnyH_take (i := 4) (v := ?_) (by first | (simp only [List.getElem?_toArray, List.getElem?_cons_succ, List.getElem?_cons_zero]; rfl) | rfl) (by kernel_rfl) (by kernel_rfl) (by kernel_rfl) (fun _ _ _ h => h) (Or.inl ⟨by rfl, ?_⟩) (by assumption) ?_
                    rotate_left 1
                    · (intro w' hSw; (try dsimp only at hSw); go_simp; (try with_reducible rfl))
                    try simp only [Act.put, List.setIfInBounds_toArray, List.set_cons_zero, List.set_cons_succ]
                    refine wpAnyH_take (i := 5) (v := undef) (by first | (simp only [List.getElem?_toArray, List.getElem?_cons_succ, List.getElem?_cons_zero]; rfl) | rfl) (by kernel_rfl) (by kernel_rfl) (by kernel_rfl) (fun _ _ _ h => h) (Or.inr ⟨by rfl, rfl⟩) (by assumption) ?_
                    try simp only [Act.put, List.setIfInBounds_toArray, List.set_cons_zero, List.set_cons_succ]
                    refine wpAnyH_take (i := 6) (v := undef) (by first | (simp only [List.getElem?_toArray, List.getElem?_cons_succ, List.getElem?_cons_zero]; rfl) | rfl) (by kernel_rfl) (by kernel_rfl) (by kernel_rfl) (fun _ _ _ h => h) (Or.inr ⟨by rfl, rfl⟩) (by assumption) ?_
                    try simp only [Act.put, List.setIfInBounds_toArray, List.set_cons_zero, List.set_cons_succ]
                    refine wpAnyH_take (i := 7) (v := undef) (by first | (simp only [List.getElem?_toArray, List.getElem?_cons_succ, List.getElem?_cons_zero]; rfl) | rfl) (by kernel_rfl) (by kernel_rfl) (by kernel_rfl) (fun _ _ _ h => h) (Or.inr ⟨by rfl, rfl⟩) (by assumption) ?_
                    try simp only [Act.put, List.setIfInBounds_toArray, List.set_cons_zero, List.set_cons_succ]
                    refine wpAnyH_take (i := 8) (v := undef) (by first | (simp only [List.getElem?_toArray, List.getElem?_cons_succ, List.getElem?_cons_zero]; rfl) | rfl) (by kernel_rfl) (by kernel_rfl) (by kernel_rfl) (fun _ _ _ h => h) (Or.inr ⟨by rfl, rfl⟩) (by assumption) ?_
                    try simp only [Act.put, List.setIfInBounds_toArray, List.set_cons_zero, List.set_cons_succ]
                    refine wpAnyH_take (i := 9) (v := undef) (by first | (simp only [List.getElem?_toArray, List.getElem?_cons_succ, List.getElem?_cons_zero]; rfl) | rfl) (by kernel_rfl) (by kernel_rfl) (by kernel_rfl) (fun _ _ _ h => h) (Or.inr ⟨by rfl, rfl⟩) (by assumption) ?_
                    try simp only [Act.put, List.setIfInBounds_toArray, List.set_cons_zero, List.set_cons_succ]
                    refine wpAnyH_take (i := 10) (v := undef) (by first | (simp only [List.getElem?_toArray, List.getElem?_cons_succ, List.getElem?_cons_zero]; rfl) | rfl) (by kernel_rfl) (by kernel_rfl) (by kernel_rfl) (fun _ _ _ h => h) (Or.inr ⟨by rfl, rfl⟩) (by assumption) ?_
                    try simp only [Act.put, List.setIfInBounds_toArray, List.set_cons_zero, List.set_cons_succ]
                    refine wpAnyH_take (i := 11) (v := ?_) (by first | (simp only [List.getElem?_toArray, List.getElem?_cons_succ, List.getElem?_cons_zero]; rfl) | rfl) (by kernel_rfl) (by kernel_rfl) (by kernel_rfl) (fun _ _ _ h => h) (Or.inl ⟨by rfl, ?_⟩) (by assumption) ?_
                    rotate_left 1
                    · (intro w' hSw; (try dsimp only at hSw); go_simp; (try with_reducible rfl))
                    try simp only [Act.put, List.setIfInBounds_toArray, List.set_cons_zero, List.set_cons_succ]
                    refine wpAnyH_take (i := 12) (v := ?_) (by first | (simp only [List.getElem?_toArray, List.getElem?_cons_succ, List.getElem?_cons_zero]; rfl) | rfl) (by kernel_rfl) (by kernel_rfl) (by kernel_rfl) (fun _ _ _ h => h) (Or.inl ⟨by rfl, ?_⟩) (by assumption) ?_
                    rotate_left 1
                    · (intro w' hSw; (try dsimp only at hSw); go_simp; (try with_reducible rfl))
                    try simp only [Act.put, List.setIfInBounds_toArray, List.set_cons_zero, List.set_cons_succ]
                    refine wpAnyH_take (i := 13) (v := ?_) (by first | (simp only [List.getElem?_toArray, List.getElem?_cons_succ, List.getElem?_cons_zero]; rfl) | rfl) (by kernel_rfl) (by kernel_rfl) (by kernel_rfl) (fun _ _ _ h => h) (Or.inl ⟨by rfl, ?_⟩) (by assumption) ?_
                    rotate_left 1
                    · (intro w' hSw; (try dsimp only at hSw); go_simp; (try with_reducible rfl))
                    try simp only [Act.put, List.setIfInBounds_toArray, List.set_cons_zero, List.set_cons_succ]
                    refine wpAnyH_take (i := 14) (v := ?_) (by first | (simp only [List.getElem?_toArray, List.getElem?_cons_succ, List.getElem?_cons_zero]; rfl) | rfl) (by kernel_rfl) (by kernel_rfl) (by kernel_rfl) (fun _ _ _ h => h) (Or.inl ⟨by rfl, ?_⟩) (by assumption) ?_
                    rotate_left 1
                    · (intro w' hSw; (try dsimp only at hSw); go_simp; (try with_reducible rfl))
                    try simp only [Act.put, List.setIfInBounds_toArray, List.set_cons_zero, List.set_cons_succ]
                    refine wpAnyH_take (i := 15) (v := ?_) (by first | (simp only [List.getElem?_toArray, List.getElem?_cons_succ, List.getElem?_cons_zero]; rfl) | rfl) (by kernel_rfl) (by kernel_rfl) (by kernel_rfl) (fun _ _ _ h => h) (Or.inl ⟨by rfl, ?_⟩) (by assumption) ?_
                    rotate_left 1
                    · (intro w' hSw; (try dsimp only at hSw); go_simp; (try with_reducible rfl))
                    try simp only [Act.put, List.setIfInBounds_toArray, List.set_cons_zero, List.set_cons_succ]
                    refine wpAnyH_take (i := 16) (v := ?_) (by first | (simp only [List.getElem?_toArray, List.getElem?_cons_succ, List.getElem?_cons_zero]; rfl) | rfl) (by kernel_rfl) (by kernel_rfl) (by kernel_rfl) (fun _ _ _ h => h) (Or.inl ⟨by rfl, ?_⟩) (by assumption) ?_
                    rotate_left 1
                    · (intro w' hSw; (try dsimp only at hSw); go_simp; (try with_reducible rfl))
                    try simp only [Act.put, List.setIfInBounds_toArray, List.set_cons_zero, List.set_cons_succ]
                    refine wpAnyH_take (i := 18) (v := ?_) (by first | (simp only [List.getElem?_toArray, List.getElem?_cons_succ, List.getElem?_cons_zero]; rfl) | rfl) (by kernel_rfl) (by kernel_rfl) (by kernel_rfl) (fun _ _ _ h => h) (Or.inl ⟨by rfl, ?_⟩) (by assumption) ?_
                    rotate_left 1
                    · (intro w' hSw; (try dsimp only at hSw); go_simp; (try with_reducible rfl))
                    try simp only [Act.put, List.setIfInBounds_toArray, List.set_cons_zero, List.set_cons_succ]
                    refine wpAnyH_take (i := 19) (v := ?_) (by first | (simp only [List.getElem?_toArray, List.getElem?_cons_succ, List.getElem?_cons_zero]; rfl) | rfl) (by kernel_rfl) (by kernel_rfl) (by kernel_rfl) (fun _ _ _ h => h) (Or.inl ⟨by rfl, ?_⟩) (by assumption) ?_
                    rotate_left 1
                    · (intro w' hSw; (try dsimp only at hSw); go_simp; (try with_reducible rfl))
                    try simp only [Act.put, List.setIfInBounds_toArray, List.set_cons_zero, List.set_cons_succ]
                    refine wpAnyH_take (i := 20) (v := ?_) (by first | (simp only [List.getElem?_toArray, List.getElem?_cons_succ, List.getElem?_cons_zero]; rfl) | rfl) (by kernel_rfl) (by kernel_rfl) (by kernel_rfl) (fun _ _ _ h => h) (Or.inl ⟨by rfl, ?_⟩) (by assumption) ?_
                    rotate_left 1
                    · (intro w' hSw; (try dsimp only at hSw); go_simp; (try with_reducible rfl))
                    try simp only [Act.put, List.setIfInBounds_toArray, List.set_cons_zero, List.set_cons_succ]
                    refine wpAnyH_ready (rs := [17]) (by kernel_rfl) (by simp) ?_
                    refine AllReadyH.cons (by first | (simp only [List.getElem?_toArray, List.getElem?_cons_succ, List.getElem?_cons_zero]; rfl) | rfl) (fun K hK => ?_) AllReadyH.nil
                    go_simp
                    with_reducible refine (Hh.out _ _ _ (HP.out.below HA6.out.drew).bits).mono ?_
                    rintro e wA ⟨rfl, hxA⟩
                    have hbA := HA6.out.drew.trans (hxA.mono HA6.out.drew.size)
                    have hcA := (Below.refl w6.heap.size w6).drew.trans hxA
                    try (go_wp2_with fail)
                    refine hK.out _ _ (HC.out.at_ (hbA.block _ HDl.out) (hbA.block _ HRl.out)) (fun hHeld => ?_)
                    clear hK K
                    try simp only [Act.put, List.setIfInBounds_toArray, List.set_cons_zero, List.set_cons_succ]
                    refine wpAnyH_ready (rs := [21]) (by kernel_rfl) (by simp) ?_
                    refine AllReadyH.cons (by first | (simp only [List.getElem?_toArray, List.getElem?_cons_succ, List.getElem?_cons_zero]; rfl) | rfl) (fun K hK => ?_) AllReadyH.nil
                    go_simp
                    with_reducible refine (Hrx.out _ (HP.out.below hbA).lat).mono ?_
                    rintro e wB ⟨rfl, hxB⟩
                    have hbB := hbA.trans (hxB.mono hbA.size)
                    have hcB := hcA.trans (hxB.mono hcA.size)
                    try (go_wp2_with fail)
                    refine hK.out _ _ (HC.out.at_ (hbB.block _ HDl.out) (hbB.block _ HRl.out)) (fun hHeld => ?_)
                    clear hK K
                    try simp only [Act.put, List.setIfInBounds_toArray, List.set_cons_zero, List.set_cons_succ]
                    refine wpAnyH_take (i := 22) (v := ?_) (by first | (simp only [List.getElem?_toArray, List.getElem?_cons_succ, List.getElem?_cons_zero]; rfl) | rfl) (by kernel_rfl) (by kernel_rfl) (by kernel_rfl) (fun _ _ _ h => h) (Or.inl ⟨by rfl, ?_⟩) (by assumption) ?_
                    rotate_left 1
                    · (intro w' hSw; (try dsimp only at hSw); go_simp; (try with_reducible rfl))
                    try simp only [Act.put, List.setIfInBounds_toArray, List.set_cons_zero, List.set_cons_succ]
                    refine wpAnyH_take (i := 23) (v := ?_) (by first | (simp only [List.getElem?_toArray, List.getElem?_cons_succ, List.getElem?_cons_zero]; rfl) | rfl) (by kernel_rfl) (by kernel_rfl) (by kernel_rfl) (fun _ _ _ h => h) (Or.inl ⟨by rfl, ?_⟩) (by assumption) ?_
                    rotate_left 1
                    · (intro w' hSw; (try dsimp only at hSw); go_simp; (try with_reducible rfl))
                    try simp only [Act.put, List.setIfInBounds_toArray, List.set_cons_zero, List.set_cons_succ]
                    refine wpAnyH_take (i := 24) (v := ?_) (by first | (simp only [List.getElem?_toArray, List.getElem?_cons_succ, List.getElem?_cons_zero]; rfl) | rfl) (by kernel_rfl) (by kernel_rfl) (by kernel_rfl) (fun _ _ _ h => h) (Or.inl ⟨by rfl, ?_⟩) (by assumption) ?_
                    rotate_left 1
                    · (intro w' hSw; (try dsimp only at hSw); go_simp; (try with_reducible rfl))
                    try simp only [Act.put, List.setIfInBounds_toArray, List.set_cons_zero, List.set_cons_succ]
                    refine wpAnyH_take (i := 25) (v := ?_) (by first | (simp only [List.getElem?_toArray, List.getElem?_cons_succ, List.getElem?_cons_zero]; rfl) | rfl) (by kernel_rfl) (by kernel_rfl) (by kernel_rfl) (fun _ _ _ h => h) (Or.inl ⟨by rfl, ?_⟩) (by assumption) ?_
                    rotate_left 1
                    · (intro w' hSw; (try dsimp only at hSw); go_simp; (try with_reducible rfl))
                    try simp only [Act.put, List.setIfInBounds_toArray, List.set_cons_zero, List.set_cons_succ]
                    refine wpAnyH_take (i := 26) (v := ?_) (by first | (simp only [List.getElem?_toArray, List.getElem?_cons_succ, List.getElem?_cons_zero]; rfl) | rfl) (by kernel_rfl) (by kernel_rfl) (by kernel_rfl) (fun _ _ _ h => h) (Or.inl ⟨by rfl, ?_⟩) (by assumption) ?_
                    rotate_left 1
                    · (intro w' hSw; (try dsimp only at hSw); go_simp; (try with_reducible rfl))
                    try simp only [Act.put, List.setIfInBounds_toArray, List.set_cons_zero, List.set_cons_succ]
                    refine wpAnyH_take (i := 28) (v := ?_) (by first | (simp only [List.getElem?_toArray, List.getElem?_cons_succ, List.getElem?_cons_zero]; rfl) | rfl) (by kernel_rfl) (by kernel_rfl) (by kernel_rfl) (fun _ _ _ h => h) (Or.inl ⟨by rfl, ?_⟩) (by assumption) ?_
                    rotate_left 1
                    · (intro w' hSw; (try dsimp only at hSw); go_simp; (try with_reducible rfl))
                    try simp only [Act.put, List.setIfInBounds_toArray, List.set_cons_zero, List.set_cons_succ]
                    refine wpAnyH_take (i := 29) (v := ?_) (by first | (simp only [List.getElem?_toArray, List.getElem?_cons_succ, List.getElem?_cons_zero]; rfl) | rfl) (by kernel_rfl) (by kernel_rfl) (by kernel_rfl) (fun _ _ _ h => h) (Or.inl ⟨by rfl, ?_⟩) (by assumption) ?_
                    rotate_left 1
                    · (intro w' hSw; (try dsimp only at hSw); go_simp; (try with_reducible rfl))
                    try simp only [Act.put, List.setIfInBounds_toArray, List.set_cons_zero, List.set_cons_succ]
                    refine wpAnyH_ready (rs := [27]) (by kernel_rfl) (by simp) ?_
                    refine AllReadyH.cons (by first | (simp only [List.getElem?_toArray, List.getElem?_cons_succ, List.getElem?_cons_zero]; rfl) | rfl) (fun K hK => ?_) AllReadyH.nil
                    go_simp
                    with_reducible refine (same_q g g2 N ws g' g2' ws' wB (HP.out.below hbB).bits (HB6.out.below hcB HB6.out.gl HB6.out.gl2) Hdec.out).mono ?_
                    rintro e wC ⟨rfl, hxC⟩
                    have hbC := hbB.trans (hxC.mono hbB.size)
                    try (go_wp2_with fail)
                    refine hK.out _ _ (HC.out.at_ (hbC.block _ HDl.out) (hbC.block _ HRl.out)) (fun hHeld => ?_)
                    clear hK K
                    try simp only [Act.put, List.setIfInBounds_toArray, List.set_cons_zero, List.set_cons_succ]
                    refine wpAnyH_take (i := 30) (v := ?_) (by first | (simp only [List.getElem?_toArray, List.getElem?_cons_succ, List.getElem?_cons_zero]; rfl) | rfl) (by kernel_rfl) (by kernel_rfl) (by kernel_rfl) (fun _ _ _ h => h) (Or.inl ⟨by rfl, ?_⟩) (by assumption) ?_
                    rotate_left 1
                    · (intro w' hSw; (try dsimp only at hSw); go_simp; (try with_reducible rfl))
                    try simp only [Act.put, List.setIfInBounds_toArray, List.set_cons_zero, List.set_cons_succ]
                    refine wpAnyH_take (i := 31) (v := ?_) (by first | (simp only [List.getElem?_toArray, List.getElem?_cons_succ, List.getElem?_cons_zero]; rfl) | rfl) (by kernel_rfl) (by kernel_rfl) (by kernel_rfl) (fun _ _ _ h => h) (Or.inl ⟨by rfl, ?_⟩) (by assumption) ?_
                    rotate_left 1
                    · (intro w' hSw; (try dsimp only at hSw); go_simp; (try with_reducible rfl))
                    try simp only [Act.put, List.setIfInBounds_toArray, List.set_cons_zero, List.set_cons_succ]
                    refine wpAnyH_take (i := 32) (v := ?_) (by first | (simp only [List.getElem?_toArray, List.getElem?_cons_succ, List.getElem?_cons_zero]; rfl) | rfl) (by kernel_rfl) (by kernel_rfl) (by kernel_rfl) (fun _ _ _ h => h) (Or.inl ⟨by rfl, ?_⟩) (by assumption) ?_
                    rotate_left 1
                    · (intro w' hSw; (try dsimp only at hSw); go_simp; (try with_reducible rfl))
                    try simp only [Act.put, List.setIfInBounds_toArray, List.set_cons_zero, List.set_cons_succ]
                    refine wpAnyH_take (i := 33) (v := ?_) (by first | (simp only [List.getElem?_toArray, List.getElem?_cons_succ, List.getElem?_cons_zero]; rfl) | rfl) (by kernel_rfl) (by kernel_rfl) (by kernel_rfl) (fun _ _ _ h => h) (Or.inl ⟨by rfl, ?_⟩) (by assumption) ?_
                    rotate_left 1
                    · (intro w' hSw; (try dsimp only at hSw); go_simp; (try with_reducible rfl))
                    try simp only [Act.put, List.setIfInBounds_toArray, List.set_cons_zero, List.set_cons_succ]
                    refine wpAnyH_ready (rs := [34]) (by kernel_rfl) (by simp) ?_
                    refine AllReadyH.cons (by first | (simp only [List.getElem?_toArray, List.getElem?_cons_succ, List.getElem?_cons_zero]; rfl) | rfl) (fun K hK => ?_) AllReadyH.nil
                    go_simp
                    with_reducible refine (Hnb.out _).mono ?_
                    rintro e wD ⟨gn, gn2, rfl, hgn, hgn2, hBn, hxD⟩
                    have hbD := hbC.trans (hxD.mono hbC.size)
                    try (go_wp2_with fail)
                    refine hK.out _ _ (HC.out.at_ (hbD.block _ HDl.out) (hbD.block _ HRl.out)) (fun hHeld => ?_)
                    clear hK K
                    try simp only [Act.put, List.setIfInBounds_toArray, List.set_cons_zero, List.set_cons_succ]
                    refine wpAnyH_ready (rs := [35]) (by kernel_rfl) (by simp) ?_
                    refine AllReadyH.cons (by first | (simp only [List.getElem?_toArray, List.getElem?_cons_succ, List.getElem?_cons_zero]; rfl) | rfl) (fun K hK => ?_) AllReadyH.nil
                    go_simp
                    with_reducible refine (same_no g g2 N ws gn gn2 401 _ wD (HP.out.below hbD).bits hBn Hnw.out).mono ?_
                    rintro e wE ⟨rfl, hxE⟩
                    have hbE := hbD.trans (hxE.mono hbD.size)
                    try (go_wp2_with fail)
                    refine hK.out _ _ (HC.out.at_ (hbE.block _ HDl.out) (hbE.block _ HRl.out)) (fun hHeld => ?_)
                    clear hK K
                    try simp only [Act.put, List.setIfInBounds_toArray, List.set_cons_zero, List.set_cons_succ]
                    refine wpAnyH_take (i := 36) (v := ?_) (by first | (simp only [List.getElem?_toArray, List.getElem?_cons_succ, List.getElem?_cons_zero]; rfl) | rfl) (by kernel_rfl) (by kernel_rfl) (by kernel_rfl) (fun _ _ _ h => h) (Or.inl ⟨by rfl, ?_⟩) (by assumption) ?_
                    rotate_left 1
                    · (intro w' hSw; (try dsimp only at hSw); go_simp; (try with_reducible rfl))
                    try simp only [Act.put, List.setIfInBounds_toArray, List.set_cons_zero, List.set_cons_succ]
                    refine wpAnyH_take (i := 37) (v := ?_) (by first | (simp only [List.getElem?_toArray, List.getElem?_cons_succ, List.getElem?_cons_zero]; rfl) | rfl) (by kernel_rfl) (by kernel_rfl) (by kernel_rfl) (fun _ _ _ h => h) (Or.inl ⟨by rfl, ?_⟩) (by assumption) ?_
                    rotate_left 1
                    · (intro w' hSw; (try dsimp only at hSw); go_simp; (try with_reducible rfl))
                    try simp only [Act.put, List.setIfInBounds_toArray, List.set_cons_zero, List.set_cons_succ]
                    refine wpAnyH_take (i := 38) (v := ?_) (by first | (simp only [List.getElem?_toArray, List.getElem?_cons_succ, List.getElem?_cons_zero]; rfl) | rfl) (by kernel_rfl) (by kernel_rfl) (by kernel_rfl) (fun _ _ _ h => h) (Or.inl ⟨by rfl, ?_⟩) (by assumption) ?_
                    rotate_left 1
                    · (intro w' hSw; (try dsimp only at hSw); go_simp; (try with_reducible rfl))
                    try simp only [Act.put, List.setIfInBounds_toArray, List.set_cons_zero, List.set_cons_succ]
                    refine wpAnyH_done (by kernel_rfl) ?_ _
                    refine NoPanic.normal ?_
                    clear hHeld
                    refine hKo _ _ ?_
                    clear hKo K0
                    have HP2 := Lib.hid (HP.out.below hbE)
                    have HB3 := Lib.hid (HBx.out.trans (hbE.mono HBx.out.size))
                    clear hbA hbB hbC hbD hbE hcA hcB hxA hxB hxC hxD hxE hBn hgn hgn2 HBx HP HD HC HDl Hh Hrx HRl HA6 HB6 Hnb Hnw
                    go_wp2_with fail
                    go_roundw
                    case rel => exact ⟨k + 1, ws, by omega, by omega, by simp, HP2, HB3⟩
                    case measure => simp [intOf]; omega
      · rcases Nat.lt_or_ge k len with hq | hq
        · have hq60 : 60 ≤ k := by omega
          have HBw := HB
          have hZ : ZAt (wr.alloc (.cells #[.int .i64 0, .slice none 0 0] 43)) wr.heap.size := heap_alloc_new wr _
          have HP := Lib.hid (HR.out.below ((Below.refl _ wr).alloc (Nat.le_refl _) (.cells #[.int .i64 0, .slice none 0 0] 43)))
          have HBz := Lib.hid (HB.out.trans (((Below.refl _ wr).alloc (Nat.le_refl _) (.cells #[.int .i64 0, .slice none 0 0] 43)).mono HB.out.size))
          obtain ⟨r, hs, hr⟩ := below_both g g2 G N N (N : Int) ws HR.out.small
          have hrr : (r == r) = true := by simp
          clear HR HB HBw
          obtain ⟨wz, hwz⟩ : ∃ wz, wr.alloc (.cells #[.int .i64 0, .slice none 0 0] 43) = wz := ⟨_, rfl⟩
          rw [hwz] at hZ HP HBz
          have hs1 := fun x : Grow wz => hs x.w (HP.out.below x.below).bits
          have hs2 := fun x : Grow wz => hr x.w (HP.out.below x.below).lat
          have hzx := fun x : Grow wz => (x.below.block _ (lt_of_block hZ)).trans hZ
          have hz1 := fun x : Grow wz => zsize x.w (hzx x)
          have hz2 := fun x : Grow wz => zset x.w (hzx x)
          have hz3 := fun x : Grow wz => znext x.w (hzx x)
          have cR := HP.out.cR
          have lR := lt_of_block HP.out.rb
          have H1 := Lib.hid hs1
          have H2 := Lib.hid hs2
          have H3 := Lib.hid hz1
          have H4 := Lib.hid hz2
          have H5 := Lib.hid hz3
          clear hs1 hs2 hz1 hz2 hz3 hzx hZ hs hr
          go_wp2_with fail
          have hx := fun (x : Grow wz) => x.cell
          refine wp_region_grow (by kernel_rfl) (by kernel_rfl) ?_
          repeat (go_big_quiet_step ((first
            | (go_at_call 19; exact Grow.call _ (H1.out _))
            | (go_at_call 20; exact Grow.call _ (H2.out _))
            | (go_at_call 12; exact Grow.same _ (H3.out _))
            | (go_at_call 13; exact Grow.same _ (H4.out _))
            | (go_at_call 17; exact Grow.same _ (H5.out _)))))
          refine wpQuiet_nil ?_
          intro _ hw'
          obtain ⟨x, rfl⟩ := hw'
          have hbx := HBz.out.trans (x.below.mono HBz.out.size)
          go_wp2_with fail
          go_ret
          exact ⟨rfl, hbx⟩
        · have hk2 : k = len := by omega
          have HBw := HB
          have hZ : ZAt (wr.alloc (.cells #[.int .i64 0, .slice none 0 0] 43)) wr.heap.size := heap_alloc_new wr _
          have HP := Lib.hid (HR.out.below ((Below.refl _ wr).alloc (Nat.le_refl _) (.cells #[.int .i64 0, .slice none 0 0] 43)))
          have HBz := Lib.hid (HB.out.trans (((Below.refl _ wr).alloc (Nat.le_refl _) (.cells #[.int .i64 0, .slice none 0 0] 43)).mono HB.out.size))
          obtain ⟨r, hs, hr⟩ := below_both g g2 G N N (N : Int) ws HR.out.small
          have hrr : (r == r) = true := by simp
          clear HR HB HBw
          obtain ⟨wz, hwz⟩ : ∃ wz, wr.alloc (.cells #[.int .i64 0, .slice none 0 0] 43) = wz := ⟨_, rfl⟩
          rw [hwz] at hZ HP HBz
          have hs1 := fun x : Grow wz => hs x.w (HP.out.below x.below).bits
          have hs2 := fun x : Grow wz => hr x.w (HP.out.below x.below).lat
          have hzx := fun x : Grow wz => (x.below.block _ (lt_of_block hZ)).trans hZ
          have hz1 := fun x : Grow wz => zsize x.w (hzx x)
          have hz2 := fun x : Grow wz => zset x.w (hzx x)
          have hz3 := fun x : Grow wz => znext x.w (hzx x)
          have cR := HP.out.cR
          have lR := lt_of_block HP.out.rb
          have H1 := Lib.hid hs1
          have H2 := Lib.hid hs2
          have H3 := Lib.hid hz1
          have H4 := Lib.hid hz2
          have H5 := Lib.hid hz3
          clear hs1 hs2 hz1 hz2 hz3 hzx hZ hs hr
          go_wp2_with fail
          have hx := fun (x : Grow wz) => x.cell
          refine wp_region_grow (by kernel_rfl) (by kernel_rfl) ?_
          repeat (go_big_quiet_step ((first
            | (go_at_call 19; exact Grow.call _ (H1.out _))
            | (go_at_call 20; exact Grow.call _ (H2.out _))
            | (go_at_call 12; exact Grow.same _ (H3.out _))
            | (go_at_call 13; exact Grow.same _ (H4.out _))
            | (go_at_call 17; exact Grow.same _ (H5.out _)))))
          refine wpQuiet_nil ?_
          intro _ hw'
          obtain ⟨x, rfl⟩ := hw'
          have hbx := HBz.out.trans (x.below.mono HBz.out.size)
          go_wp2_with fail
          go_ret
          exact ⟨rfl, hbx⟩
theorem walk_PackBits (n : Int) (A : Option Addr) (len cap : Nat) (W : World) (_wn : (Lit.int .i64 n).wf = true) (h : ActRow W W.heap.size A len ∧ len ≤ cap ∧ cap ≤ maxLen) (he : EnvB W) :
    Calls Tryd.prog 3 #[.int .i64 n, .slice A len cap] W fun e W' => e = .returned (.bool true) ∧ Below W.heap.size W W' :=
  bits_any n A len cap W h.1 (by have := h.2.1; have := h.2.2; unfold maxLen at this; omega) he
end Go.Proofs.YthklbpcpmmpfmaaDoor.Fl
