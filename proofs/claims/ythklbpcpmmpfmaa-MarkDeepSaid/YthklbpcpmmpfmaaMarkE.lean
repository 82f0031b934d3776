/-
  What can be reached: all of it.
-/
import Derived.Test.YthklbpcpmmpfmaaMarkD
namespace Go.Proofs.Ythklbpcpmmpfmaa.Fl
open Go.RowKit

/-- the waves from some roots: what is found behind each, and how many of it were asked; T of them -/
structure Waves (ld : Nat → List Nat) (ws fs0 : List Nat) (S : Nat → List Nat × Nat) (T : Nat) : Prop where
  zero : S 0 = (fs0, 0)
  step : ∀ t, t < T → (S t).2 < (S t).1.length ∧ askL ld ws (S t).1 ((S t).1.drop (S t).2) = some (S (t + 1)).1 ∧ (S (t + 1)).2 = (S t).1.length
  stop : (S T).2 = (S T).1.length
theorem askL_pre {ld : Nat → List Nat} {ws : List Nat} : ∀ {ps fs fs' : List Nat}, askL ld ws fs ps = some fs' → ∃ t, fs' = fs ++ t
  | [], fs, fs', h => by rw [askL] at h; injection h with h; exact ⟨[], by simp [h]⟩
  | x :: xs, fs, fs', h => by
    obtain ⟨f1, h1, h2⟩ := askL_cons h
    obtain ⟨t1, rfl⟩ := findL_pre h1
    obtain ⟨t2, rfl⟩ := askL_pre h2
    exact ⟨t1 ++ t2, by simp⟩
theorem Waves.le {ld : Nat → List Nat} {ws fs0 : List Nat} {S : Nat → List Nat × Nat} {T : Nat} (h : Waves ld ws fs0 S T) : ∀ t, t ≤ T → (S t).2 ≤ (S t).1.length
  | 0, _ => by rw [h.zero]; exact Nat.zero_le _
  | t + 1, ht => by
    obtain ⟨_, h2, h3⟩ := h.step t (by omega)
    obtain ⟨r, hr⟩ := askL_pre h2
    rw [h3, hr, List.length_append]; omega
theorem Waves.lt {ld : Nat → List Nat} {ws fs0 : List Nat} {S : Nat → List Nat × Nat} {T : Nat} (h : Waves ld ws fs0 S T) {t : Nat} (ht : t ≤ T) : (S t).2 < (S t).1.length ↔ t < T := by
  constructor
  · intro h1
    rcases Nat.lt_or_ge t T with h2 | h2
    · exact h2
    · have e : t = T := by omega
      subst e
      have := h.stop
      omega
  · exact fun h1 => (h.step t h1).1
/-- the counter of a look in memory -/
def askedOf (w : World) (lk : Nat) : Nat := match w.cell? ⟨lk, 3, none⟩ with | some v => (intOf v).toNat | none => 0
section
variable {w w' : World} {base g gc cap gb gb2 size last LB lk sb sb2 : Nat} {L ws fs : List Nat} {k : Nat}
theorem LookAt.asked (h : LookAt w base g gc cap gb gb2 size last LB lk sb sb2 L ws fs k) : askedOf w lk = k := by
  unfold askedOf
  rw [h.c.2.2.1]
  simp [intOf]
set_option maxHeartbeats 2000000 in
theorem all_any {ld : Nat → List Nat} {fs0 : List Nat} {S : Nat → List Nat × Nat} {T : Nat} (rs : List Nat) (A : Option Addr) (c : Nat) (w : World) (hG : Leads ld L ws) (h : HeapAt w base g gc cap gb gb2 size last L ws) (hr : Rd w w.heap.size A (cw rs)) (hrs : ∀ x ∈ rs, x < 18446744073709551616) (hrl : rs.length ≤ 9223372036854775807) (hf : findL ws [] rs = some fs0) (hS : Waves ld ws fs0 S T) :
    Calls Try.prog 18 #[.pointer (some ⟨g, 0, none⟩), .slice A rs.length c] w (BeginPost w base g gc cap gb gb2 size last L ws (S T).1 (S T).2) := by
  have hbg := begin_any rs A c w h hr hrs hrl hf
  have HG := Lib.hid hG
  have HS := Lib.hid hS
  clear hG hS h hr hrs hf hrl
  go_enter Try.func18, Try.ntmps18
  go_wp2_with fail
  refine hbg.mono ?_
  rintro e w1 ⟨lk, sb, sb2, rfl, hL1, hb1⟩
  have H1 := Lib.hid hL1
  have B1 := Lib.hid hb1
  clear hL1 hb1 hbg
  go_wp2_with fail
  go_loopw [8] (fun _ wr => ∃ t : Nat, t ≤ T ∧ Hid (LookAt wr base g gc cap gb gb2 size last w.heap.size lk sb sb2 L ws (S t).1 (S t).2) ∧ Hid (Below w.heap.size w wr)) (fun _ wr => size + 1 - askedOf wr lk)
  case atStart => exact ⟨0, Nat.zero_le _, Lib.hid (by rw [HS.out.zero]; exact H1.out), B1⟩
  case round =>
    obtain ⟨t, ht, HR, HB⟩ := hrel
    clear H1 B1
    have hmore := more_any wr HR.out
    by_cases hlt : t < T
    · rw [decide_eq_true ((HS.out.lt ht).2 hlt)] at hmore
      have hle := HS.out.le t ht
      obtain ⟨s1, s2, s3⟩ := HS.out.step t hlt
      have hwave := fun w' (hw' : LookAt w' base g gc cap gb gb2 size last w.heap.size lk sb sb2 L ws (S t).1 (S t).2) => wave_any (fs' := (S (t + 1)).1) w' HG.out hw' hle s2
      have HM := Lib.hid (show (S t).2 < (S (t + 1)).2 by rw [s3]; exact s1)
      rw [← s3] at hwave
      clear s1 s2 s3 hle
      go_wp2_with fail
      refine hmore.mono ?_
      rintro e w2 ⟨rfl, hb2⟩
      have H2 := Lib.hid (HR.out.keep hb2)
      have K2 := Lib.hid (HB.out.trans (hb2.mono HR.out.top))
      clear hb2 hmore HB
      go_wp2_with fail
      refine (hwave _ H2.out).mono ?_
      rintro e w3 ⟨rfl, hL3, hK3⟩
      have H3 := Lib.hid hL3
      have K3 := Lib.hid (K2.out.trans (hK3.below H2.out.top))
      clear hL3 hK3 hwave H2 K2
      go_wp2_with fail
      go_roundw
      case rel => exact ⟨t + 1, hlt, H3, K3⟩
      case measure =>
        rw [H3.out.asked, HR.out.asked]
        have h1 := HM.out
        have h2 := HS.out.le (t + 1) hlt
        have h3 := H3.out.len
        omega
    · have e : t = T := by omega
      subst e
      rw [decide_eq_false (fun h => hlt ((HS.out.lt ht).1 h))] at hmore
      go_wp2_with fail
      refine hmore.mono ?_
      rintro e w2 ⟨rfl, hb2⟩
      have H2 := Lib.hid (HR.out.keep hb2)
      have K2 := Lib.hid (HB.out.trans (hb2.mono HR.out.top))
      clear hb2 hmore HB HR
      go_wp2_with fail
      go_ret2
      exact ⟨_, _, _, rfl, H2.out, K2.out⟩
end
end Go.Proofs.Ythklbpcpmmpfmaa.Fl
