/-
  What can be reached: Steps.
-/
import Derived.Test.YthklbpcpmmpfmaaMarkE
namespace Go.Proofs.Ythklbpcpmmpfmaa.Fl
open Go.RowKit

section
variable {w w' : World} {base g gc cap gb gb2 size last LB lk sb sb2 : Nat} {L ws fs : List Nat} {k : Nat}
theorem rd_one (w : World) (x : Nat) : Rd (w.alloc (.cells #[.int .u64 (x : Int)] 28)) (w.alloc (.cells #[.int .u64 (x : Int)] 28)).heap.size (some ⟨w.heap.size, 0, none⟩) (cw [x]) :=
  .inr ⟨w.heap.size, 0, rfl, by simp, fun j v hj => by
    have := lone_cell w (.int .u64 (x : Int)) 28 j v hj
    rw [show (⟨w.heap.size, 0, none⟩ : Addr).add j = ⟨w.heap.size, 0 + j, none⟩ by simp [Addr.add]; omega] at this
    exact this⟩
set_option maxHeartbeats 4000000 in
theorem steps_any {ld : Nat → List Nat} {fs0 : List Nat} {S : Nat → List Nat × Nat} {T M : Nat} (p q : Nat) (w : World) (hG : Leads ld L ws) (h : HeapAt w base g gc cap gb gb2 size last L ws) (hp : isP ws p) (hq : isP ws q) (hf : findL ws [] [p] = some fs0) (hS : Waves ld ws fs0 S T) (hM : M < T) (hm : ∀ t, t ≤ T → (q ∈ (S t).1 ↔ M ≤ t)) (hMb : M ≤ 16777216) :
    Calls Try.prog 8 #[.pointer (some ⟨g, 0, none⟩), .int .u64 (p : Int), .int .u64 (q : Int)] w fun e w' => e = .returned (.tuple #[.int .i64 (M : Int), .int .i64 0]) ∧ Below w.heap.size w w' := by
  have hpp := hp
  obtain ⟨i, rfl⟩ : ∃ i, p = 2 * i := ⟨p / 2, by have := hp.1; omega⟩
  obtain ⟨j, rfl⟩ : ∃ j, q = 2 * j := ⟨q / 2, by have := hq.1; omega⟩
  have hhp := fun w' (hw' : HeapAt w' base g gc cap gb gb2 size last L ws) => hhas_any i w' hw' (by have := hp.2.1; omega) (by have := hp.2.2.1; omega)
  have hhq := fun w' (hw' : HeapAt w' base g gc cap gb gb2 size last L ws) => hhas_any j w' hw' (by have := hq.2.1; omega) (by have := hq.2.2.1; omega)
  have b1 := hp.2.2.2
  have b2 := hq.2.2.2
  rw [show 2 * i / 2 = i by omega] at b1
  rw [show 2 * j / 2 = j by omega] at b2
  rw [b1, show ((i : Int) * 2) = ((2 * i : Nat) : Int) by omega] at hhp
  rw [b2, show ((j : Int) * 2) = ((2 * j : Nat) : Int) by omega] at hhq
  have hat := fun w' => at_in ((2 * j : Nat) : Int) w' (by have := hq.2.1; omega) (by have := hq.2.2.1; omega) (by omega)
  rw [show ((2 * j : Nat) : Int) / 2 = (j : Int) by omega] at hat
  have hbg := fun w' (hw' : HeapAt w' base g gc cap gb gb2 size last L ws) hr => begin_any [2 * i] (some ⟨w.heap.size, 0, none⟩) 1 w' hw' hr (by intro x hx; simp at hx; have := hpp.2.2.1; omega) (by simp) hf
  have HG := Lib.hid hG
  have HS := Lib.hid hS
  have H := Lib.hid h
  have HM := Lib.hid (And.intro hm hM)
  clear hG hS h hp hq hpp hf hm b1 b2 hM
  generalize 2 * i = p at *
  generalize hqj : 2 * j = q at *
  have HJ := Lib.hid hqj
  clear hqj
  go_enter Try.func8, Try.ntmps8
  go_wp2_with (first
    | (go_at_call 20; (with_reducible refine (hat _).mono ?_); rintro e w' ⟨rfl, rfl⟩)
    | (go_at_call 21; (with_reducible refine (hhp _ H.out).mono ?_); rintro e w' ⟨rfl, rfl⟩)
    | (go_at_call 21; (with_reducible refine (hhq _ H.out).mono ?_); rintro e w' ⟨rfl, rfl⟩))
  refine (hbg _ (H.out.below ((Below.refl _ _).alloc (Nat.le_refl _) _)) (rd_one w p)).mono ?_
  rintro e w1 ⟨lk, sb, sb2, rfl, hL1, hb1⟩
  have H1 := Lib.hid hL1
  have B1 := Lib.hid (((Below.refl _ _).alloc (Nat.le_refl _) _).trans (hb1.mono (by simp)))
  clear hL1 hb1 hbg hhp hhq hat
  obtain ⟨LB, hLB⟩ : ∃ LB, (w.alloc (.cells #[.int .u64 (p : Int)] 28)).heap.size = LB := ⟨_, rfl⟩
  have HLB := Lib.hid (show w.heap.size ≤ LB by rw [← hLB]; simp)
  rw [hLB] at H1
  clear hLB
  go_wp2_with fail
  go_loopw [11, 12, 13] (fun v u _ wr => ∃ (t n : Nat) (b : Bool), t ≤ T ∧ v = .int .i64 (n : Int) ∧ u = .bool b ∧ Hid (n = min t M) ∧ Hid (b = decide (M < t)) ∧ Hid (LookAt wr base g gc cap gb gb2 size last LB lk sb sb2 L ws (S t).1 (S t).2) ∧ Hid (Below w.heap.size w wr)) (fun _ _ _ wr => size + 1 - askedOf wr lk)
  case atStart => exact ⟨0, 0, false, Nat.zero_le _, rfl, rfl, Lib.hid (by simp), Lib.hid (by simp), Lib.hid (by rw [HS.out.zero]; exact H1.out), B1⟩
  case round =>
    obtain ⟨t, n, b, ht, rfl, rfl, HN, HBo, HR, HB⟩ := hrel
    clear H1 B1
    have hmore := more_any wr HR.out
    by_cases hlt : t < T
    · rw [decide_eq_true ((HS.out.lt ht).2 hlt)] at hmore
      have hle := HS.out.le t ht
      obtain ⟨s1, s2, s3⟩ := HS.out.step t hlt
      have hwave := fun w' (hw' : LookAt w' base g gc cap gb gb2 size last LB lk sb sb2 L ws (S t).1 (S t).2) => wave_any (fs' := (S (t + 1)).1) w' HG.out hw' hle s2
      have HMe := Lib.hid (show (S t).2 < (S (t + 1)).2 by rw [s3]; exact s1)
      rw [← s3] at hwave
      have HT := Lib.hid hlt
      clear s1 s2 s3 hle hlt ht
      by_cases hMt : M < t
      · obtain rfl : b = true := by rw [HBo.out]; exact decide_eq_true hMt
        have HMt := Lib.hid hMt
        clear hMt HBo
        go_wp2_with fail
        refine hmore.mono ?_
        rintro e w2 ⟨rfl, hb2⟩
        have H2 := Lib.hid (HR.out.keep hb2)
        have K2 := Lib.hid (HB.out.trans (hb2.mono (Nat.le_trans HLB.out HR.out.top)))
        clear hb2 hmore HB
        go_wp2_with fail
        refine (hwave _ H2.out).mono ?_
        rintro e w3 ⟨rfl, hL3, hK3⟩
        have H3 := Lib.hid hL3
        have K3 := Lib.hid (K2.out.trans ((hK3.below H2.out.top).mono HLB.out))
        clear hL3 hK3 hwave H2 K2
        go_wp2_with fail
        go_roundw
        case rel => exact ⟨t + 1, n, true, HT.out, rfl, rfl, Lib.hid (by have := HN.out; have := HMt.out; omega), Lib.hid (by have := HMt.out; symm; apply decide_eq_true; omega), H3, K3⟩
        case measure =>
          rw [H3.out.asked, HR.out.asked]
          have h1 := HMe.out
          have h2 := HS.out.le (t + 1) HT.out
          have h3 := H3.out.len
          omega
      · obtain rfl : b = false := by rw [HBo.out]; exact decide_eq_false hMt
        have HMt := Lib.hid hMt
        have HQ := Lib.hid (HM.out.1 t (by have := HT.out; omega))
        clear hMt HBo
        go_wp2_with fail
        refine hmore.mono ?_
        rintro e w2 ⟨rfl, hb2⟩
        have H2 := Lib.hid (HR.out.keep hb2)
        have K2 := Lib.hid (HB.out.trans (hb2.mono (Nat.le_trans HLB.out HR.out.top)))
        clear hb2 hmore HB
        obtain ⟨d0, d1, d3, df, dlt⟩ := H2.out.c
        obtain ⟨bs, hbs, hmem⟩ := H2.out.bits
        have hhas := has_any w2 j hbs
        by_cases hMe : M = t
        · have hbt : bitAt bs j = true := (hmem j).2 (by rw [HJ.out]; exact HQ.out.2 (by omega))
          rw [hbt] at hhas
          have HMe2 := Lib.hid hMe
          clear hbs hmem hbt hMe
          go_wp2_with (go_at_call 24; (with_reducible refine hhas.mono ?_); rintro e w' ⟨rfl, rfl⟩)
          refine (hwave _ H2.out).mono ?_
          rintro e w3 ⟨rfl, hL3, hK3⟩
          have H3 := Lib.hid hL3
          have K3 := Lib.hid (K2.out.trans ((hK3.below H2.out.top).mono HLB.out))
          clear hL3 hK3 hwave H2 K2 hhas d0 d1 d3 df dlt
          go_wp2_with fail
          go_roundw
          case rel => exact ⟨t + 1, n, true, HT.out, rfl, rfl, Lib.hid (by have := HN.out; have := HMe2.out; omega), Lib.hid (by have := HMe2.out; symm; apply decide_eq_true; omega), H3, K3⟩
          case measure =>
            rw [H3.out.asked, HR.out.asked]
            have h1 := HMe.out
            have h2 := HS.out.le (t + 1) HT.out
            have h3 := H3.out.len
            omega
        · have hbt : bitAt bs j = false := by
            cases hc : bitAt bs j with
            | false => rfl
            | true =>
              have h1 := (hmem j).1 hc
              rw [HJ.out] at h1
              have := HQ.out.1 h1
              have := HMt.out
              omega
          rw [hbt] at hhas
          have hn9 : n ≤ 16777216 := by have := HN.out; omega
          have HMe2 := Lib.hid hMe
          clear hbs hmem hbt hMe
          go_wp2_with (go_at_call 24; (with_reducible refine hhas.mono ?_); rintro e w' ⟨rfl, rfl⟩)
          refine (hwave _ H2.out).mono ?_
          rintro e w3 ⟨rfl, hL3, hK3⟩
          have H3 := Lib.hid hL3
          have K3 := Lib.hid (K2.out.trans ((hK3.below H2.out.top).mono HLB.out))
          clear hL3 hK3 hwave H2 K2 hhas d0 d1 d3 df dlt
          go_wp2_with fail
          go_roundw
          case rel => exact ⟨t + 1, n + 1, false, HT.out, by simp, rfl, Lib.hid (by have := HN.out; have := HMe2.out; have := HMt.out; omega), Lib.hid (by have := HMe2.out; have := HMt.out; symm; apply decide_eq_false; omega), H3, K3⟩
          case measure =>
            rw [H3.out.asked, HR.out.asked]
            have h1 := HMe.out
            have h2 := HS.out.le (t + 1) HT.out
            have h3 := H3.out.len
            omega
    · have e : t = T := by omega
      subst e
      rw [decide_eq_false (fun h => hlt ((HS.out.lt ht).1 h))] at hmore
      obtain rfl : b = true := by rw [HBo.out]; exact decide_eq_true HM.out.2
      obtain rfl : n = M := by have := HN.out; have := HM.out.2; omega
      go_wp2_with fail
      refine hmore.mono ?_
      rintro e w2 ⟨rfl, hb2⟩
      have K2 := Lib.hid (HB.out.trans (hb2.mono (Nat.le_trans HLB.out HR.out.top)))
      clear hb2 hmore HB HR
      go_wp2_with fail
      go_ret2
      exact ⟨rfl, K2.out⟩
end
end Go.Proofs.Ythklbpcpmmpfmaa.Fl
