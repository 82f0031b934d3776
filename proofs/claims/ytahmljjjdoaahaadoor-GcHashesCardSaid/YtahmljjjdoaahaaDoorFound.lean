/-
  What was reached, as a set in memory: Has and Next; the pointers to objects.
-/
import Derived.Test.YtahmljjjdoaahaaDoorPReach
import Derived.Test.YtahmljjjdoaahaaDoorPBits
import Derived.Test.YtahmljjjdoaahaaDoorPRoots
import Derived.Test.YtahmljjjdoaahaaDoorStand
import Derived.Test.YtahmljjjdoaahaaDoorPAwM
import Derived.Test.YtahmljjjdoaahaaDoorPPut
namespace Go.Proofs.YtahmljjjdoaahaaDoor.Fl
open Go.RowKit

section
variable {w w' : World} {sb size m : Nat} {fs ws : List Nat} {z : Int}
/-- a set in memory of the places of fs -/
def Found (w : World) (sb size : Nat) (fs : List Nat) : Prop := ∃ sb2 bs, BitsAt w sb sb2 size bs ∧ ∀ i, bitAt bs i = true ↔ 2 * i ∈ fs
theorem Found.below (h : Found w sb size fs) (hb : Below w.heap.size w w') : Found w' sb size fs := by
  obtain ⟨sb2, bs, h1, h2⟩ := h
  exact ⟨sb2, bs, h1.below hb h1.gl h1.gl2, h2⟩
theorem found_has (h : Found w sb size fs) (i : Nat) :
    Calls Tryd.prog 47 #[.pointer (some ⟨sb, 0, none⟩), .int .i64 (i : Int)] w fun e w' => e = .returned (.bool (decide (2 * i ∈ fs))) ∧ w = w' := by
  obtain ⟨sb2, bs, h1, h2⟩ := h
  have e : decide (2 * i ∈ fs) = bitAt bs i := by rw [Bool.eq_iff_iff, decide_eq_true_eq, h2 i]
  rw [e]
  by_cases hi : i < size
  · exact has_in sb sb2 size i bs w h1 hi
  · rw [h1.top i (by omega)]
    exact has_out sb sb2 size i bs w h1 (by omega)
/-- the next place from m on, or -1 -/
def NextF (fs : List Nat) (size m : Nat) (r : Int) : Prop := (r = -1 ∧ ∀ k, m ≤ k → 2 * k ∉ fs) ∨ ∃ i : Nat, r = i ∧ m ≤ i ∧ i < size ∧ 2 * i ∈ fs ∧ ∀ j, m ≤ j → j < i → 2 * j ∉ fs
def FNextPost (fs : List Nat) (size m : Nat) (w : World) (e : Ending) (w' : World) : Prop := ∃ r, e = .returned (.int .i64 r) ∧ NextF fs size m r ∧ Below w.heap.size w w'
theorem found_next (h : Found w sb size fs) (he : EnvB w) (hz : max z 0 = (m : Int)) :
    Calls Tryd.prog 66 #[.pointer (some ⟨sb, 0, none⟩), .int .i64 z] w (FNextPost fs size m w) := by
  obtain ⟨sb2, bs, h1, h2⟩ := h
  have hf : ∀ k, bitAt bs k = false → 2 * k ∉ fs := fun k h hm => by rw [(h2 k).2 hm] at h; cases h
  refine (next_any sb sb2 size m z bs w h1 he hz).mono ?_
  rintro e w' ⟨r, q, rfl, hn, rfl⟩
  refine ⟨r, rfl, ?_, below_q' w q⟩
  rcases hn with ⟨e, hno⟩ | ⟨k, e, hm, hk, hb, hno⟩
  · exact .inl ⟨e, fun k hk => hf k (hno k hk)⟩
  · exact .inr ⟨k, e, hm, hk, (h2 k).1 hb, fun j h1 h2 => hf j (hno j h1 h2)⟩
/-- how much is left for Next -/
def nxm (N : Nat) (v : Value) : Nat := if intOf v < 0 then 0 else N + 1 - (intOf v).toNat
theorem nxm_lt {i : Nat} {r : Int} (hi : i < size) (h : NextF fs size (i + 1) r) : nxm size (.int .i64 r) < nxm size (.int .i64 (i : Int)) := by
  have e : ∀ z : Int, nxm size (.int .i64 z) = if z < 0 then 0 else size + 1 - z.toNat := fun _ => rfl
  rw [e, e, if_neg (by omega : ¬ (i : Int) < 0)]
  rcases h with ⟨h, _⟩ | ⟨k, h, h1, h2, _⟩
  · rw [if_pos (by omega)]; omega
  · rw [if_neg (by omega)]; omega
end
section
variable {w w' : World} {lo base g gc cap gb gb2 : Nat} {A : Option Addr} {ws : List Nat} {os : List Ob}
/-- Reach of a laid heap: what is reached, or something is loose -/
def ReachF (w : World) (size n : Nat) (fs : List Nat) (e : Ending) (w' : World) : Prop :=
  ∃ sb, e = .returned (.tuple #[.pointer (some ⟨sb, 0, none⟩), .int .i64 (n : Int), .int .i64 0]) ∧ Found w' sb size fs ∧ Below w.heap.size w w'
theorem reach_obs {size last c : Nat} {rs : List Nat} (h : ObsAt w base g gc cap gb gb2 size last os ws) (hr : Rd w w.heap.size A (cw rs)) (hrs : ∀ x ∈ rs, x < 18446744073709551616) (hrl : rs.length ≤ 9223372036854775807) :
    (∃ fs, IsLed (ldOf os) ws rs fs ∧ Calls Tryd.prog 26 #[.pointer (some ⟨g, 0, none⟩), .slice A rs.length c] w (ReachF w size (sumC (cnOf os) fs) fs)) ∨
    ((∃ x, Led (ldOf os) rs x ∧ ¬ isP ws x) ∧ Calls Tryd.prog 26 #[.pointer (some ⟨g, 0, none⟩), .slice A rs.length c] w (NoReach w)) := by
  rcases reach_total rs A c w h.graph h.heap hr hrs hrl with ⟨fs, h1, h2⟩ | h2
  · refine .inl ⟨fs, h1, h2.mono ?_⟩
    rintro e w' ⟨sb, sb2, bs, rfl, _, _, h3, h4, _, h5⟩
    exact ⟨sb, rfl, ⟨sb2, bs, h3, h4⟩, h5⟩
  · exact .inr h2
/-- what Reach answers: the set of all that is led to, or that something is loose -/
def EitherAt (os : List Ob) (ws rs : List Nat) (size : Nat) (w : World) (S : Value) (n z : Int) : Prop :=
  (∃ sb fs, S = .pointer (some ⟨sb, 0, none⟩) ∧ z = 0 ∧ n = (sumC (cnOf os) fs : Nat) ∧ IsLed (ldOf os) ws rs fs ∧ Found w sb size fs) ∨ (S = .pointer none ∧ z = 13 ∧ n = 0 ∧ ∃ x, Led (ldOf os) rs x ∧ ¬ isP ws x)
theorem EitherAt.below {rs : List Nat} {size : Nat} {S : Value} {n z : Int} (h : EitherAt os ws rs size w S n z) (hb : Below w.heap.size w w') : EitherAt os ws rs size w' S n z := by
  rcases h with ⟨sb, fs, h1, h2, h3, h4, h5⟩ | h
  · exact .inl ⟨sb, fs, h1, h2, h3, h4, h5.below hb⟩
  · exact .inr h
def EitherPost (os : List Ob) (ws rs : List Nat) (size : Nat) (w : World) (e : Ending) (w' : World) : Prop := ∃ S n z, e = .returned (.tuple #[S, .int .i64 n, .int .i64 z]) ∧ EitherAt os ws rs size w' S n z ∧ Below w.heap.size w w'
theorem reach_either {size last c : Nat} {rs : List Nat} (h : ObsAt w base g gc cap gb gb2 size last os ws) (hr : Rd w w.heap.size A (cw rs)) (hrs : ∀ x ∈ rs, x < 18446744073709551616) (hrl : rs.length ≤ 9223372036854775807) :
    Calls Tryd.prog 26 #[.pointer (some ⟨g, 0, none⟩), .slice A rs.length c] w (EitherPost os ws rs size w) := by
  rcases reach_obs (c := c) h hr hrs hrl with ⟨fs, h1, h2⟩ | ⟨h1, h2⟩
  · refine h2.mono ?_
    rintro e w' ⟨sb, rfl, h3, h4⟩
    exact ⟨_, _, _, rfl, .inl ⟨sb, fs, rfl, rfl, rfl, h1, h3⟩, h4⟩
  · refine h2.mono ?_
    rintro e w' ⟨rfl, h4⟩
    exact ⟨_, _, _, rfl, .inr ⟨rfl, rfl, rfl, h1⟩, h4⟩
end
end Go.Proofs.YtahmljjjdoaahaaDoor.Fl
