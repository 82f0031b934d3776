/-
  Contracts of the document's answers for package head: Is, Pack, Unpack, Cells; the law's own, and its fixed fact.
-/
import Derived.Test.YtahmljjjdoaahaaDoorHeadC
namespace Go.Proofs.YtahmljjjdoaahaaDoor.Fl
open Go.RowKit

theorem ris_odd (a : Int) (w : World) (h : 0 ≤ a) (ho : a % 2 = 1) :
    Calls Tryd.prog 59 #[.int .u64 a] w fun e w' => e = .returned (.bool true) ∧ w = w' := by
  have hb : (a % 2 == 1) = true := by rw [ho]; rfl
  go_enter Tryd.func59, Tryd.ntmps59
  go_wp2
  go_ret
  exact ⟨by simp [ho], rfl⟩
theorem ris_even (a : Int) (w : World) (h : 0 ≤ a) (ho : a % 2 = 0) :
    Calls Tryd.prog 59 #[.int .u64 a] w fun e w' => e = .returned (.bool false) ∧ w = w' := by
  have hb : (a % 2 == 1) = false := by rw [ho]; rfl
  go_enter Tryd.func59, Tryd.ntmps59
  go_wp2
  go_ret
  exact ⟨by simp [ho], rfl⟩

theorem hbelow2 (w : World) (o1 o2 : Obj) : Below w.heap.size w ((w.alloc o1).alloc o2) := ((Below.refl _ _).alloc (Nat.le_refl _) _).alloc (by simp) _
set_option maxHeartbeats 2000000 in
theorem rpack_no (cl kind size hash : Int) (mark : Bool) (w : World) (c0 : 0 ≤ cl) (hE : hErr cl kind size hash ≠ 0) :
    Calls Tryd.prog 41 #[.agg #[.int .u64 cl, .int .i64 kind, .int .i64 size, .int .u32 hash, .bool mark]] w fun e w' => e = .returned (.tuple #[.agg #[.int .u64 0, .int .u64 0], .int .i64 (hErr cl kind size hash)]) ∧ Below w.heap.size w w' := by
  by_cases h : cl = 0 ∨ cl % 2 = 1
  · rw [hErr_1 h]
    clear hE
    by_cases hz : cl = 0
    · have hz' : (cl == 0) = true := by simp [hz]
      clear h hz
      go_enter Tryd.func41, Tryd.ntmps41
      go_wp2_with fail
      exact bodyPost_ret (v := .tuple #[.agg #[.int .u64 0, .int .u64 0], .int .i64 1]) (by simp [results, Tryd.results41, go_sem]) rfl ⟨rfl, hbelow2 _ _ _⟩
    · have hz' : (cl == 0) = false := by simp [hz]
      have HO : Hid (cl % 2 = 1) := Lib.hid (by omega)
      clear h hz
      go_enter Tryd.func41, Tryd.ntmps41
      go_wp2_with (go_at_call 59; (with_reducible refine (ris_odd _ _ c0 HO.out).mono ?_); rintro e w' ⟨rfl, rfl⟩)
      exact bodyPost_ret (v := .tuple #[.agg #[.int .u64 0, .int .u64 0], .int .i64 1]) (by simp [results, Tryd.results41, go_sem]) rfl ⟨rfl, hbelow2 _ _ _⟩
  · have hz' : (cl == 0) = false := by simp; omega
    have HO : Hid (cl % 2 = 0) := Lib.hid (by omega)
    by_cases h2 : size < 0 ∨ 1048576 < size
    · rw [hErr_2 h h2]
      clear hE
      by_cases h3 : size < 0
      · clear h h2
        go_enter Tryd.func41, Tryd.ntmps41
        go_wp2_with (go_at_call 59; (with_reducible refine (ris_even _ _ c0 HO.out).mono ?_); rintro e w' ⟨rfl, rfl⟩)
        exact bodyPost_ret (v := .tuple #[.agg #[.int .u64 0, .int .u64 0], .int .i64 2]) (by simp [results, Tryd.results41, go_sem]) rfl ⟨rfl, hbelow2 _ _ _⟩
      · have h4 : 1048576 < size := by omega
        have h5 : 0 ≤ size := by omega
        clear h h2 h3
        go_enter Tryd.func41, Tryd.ntmps41
        go_wp2_with (go_at_call 59; (with_reducible refine (ris_even _ _ c0 HO.out).mono ?_); rintro e w' ⟨rfl, rfl⟩)
        exact bodyPost_ret (v := .tuple #[.agg #[.int .u64 0, .int .u64 0], .int .i64 2]) (by simp [results, Tryd.results41, go_sem]) rfl ⟨rfl, hbelow2 _ _ _⟩
    · have s0 : 0 ≤ size := by omega
      have s1 : size ≤ 1048576 := by omega
      by_cases h3 : 16777216 ≤ hash
      · rw [hErr_9 h h2 h3]
        clear h h2 hE
        go_enter Tryd.func41, Tryd.ntmps41
        go_wp2_with (go_at_call 59; (with_reducible refine (ris_even _ _ c0 HO.out).mono ?_); rintro e w' ⟨rfl, rfl⟩)
        exact bodyPost_ret (v := .tuple #[.agg #[.int .u64 0, .int .u64 0], .int .i64 9]) (by simp [results, Tryd.results41, go_sem]) rfl ⟨rfl, hbelow2 _ _ _⟩
      · have t0 : hash < 16777216 := by omega
        by_cases h4 : kind < 0 ∨ 2 < kind
        · rw [hErr_13 h h2 h3 h4]
          by_cases h5 : kind < 0
          · clear h h2 h4 h3 hE
            go_enter Tryd.func41, Tryd.ntmps41
            go_wp2_with (go_at_call 59; (with_reducible refine (ris_even _ _ c0 HO.out).mono ?_); rintro e w' ⟨rfl, rfl⟩)
            exact bodyPost_ret (v := .tuple #[.agg #[.int .u64 0, .int .u64 0], .int .i64 13]) (by simp [results, Tryd.results41, go_sem]) rfl ⟨rfl, hbelow2 _ _ _⟩
          · have k0 : 0 ≤ kind := by omega
            have k1 : 2 < kind := by omega
            clear h h2 h4 h3 h5 hE
            go_enter Tryd.func41, Tryd.ntmps41
            go_wp2_with (go_at_call 59; (with_reducible refine (ris_even _ _ c0 HO.out).mono ?_); rintro e w' ⟨rfl, rfl⟩)
            exact bodyPost_ret (v := .tuple #[.agg #[.int .u64 0, .int .u64 0], .int .i64 13]) (by simp [results, Tryd.results41, go_sem]) rfl ⟨rfl, hbelow2 _ _ _⟩
        · exact absurd (hErr_0 h h2 h3 h4) hE
theorem pkI_f {kind size hash : Int} (k0 : 0 ≤ kind) (s0 : 0 ≤ size) (z0 : 0 ≤ hash) : size + kind * 4294967296 + hash * 1099511627776 = pkI kind size hash false := by
  obtain ⟨k, rfl⟩ := Int.eq_ofNat_of_zero_le k0
  obtain ⟨s, rfl⟩ := Int.eq_ofNat_of_zero_le s0
  obtain ⟨z, rfl⟩ := Int.eq_ofNat_of_zero_le z0
  unfold pkI
  rw [pk_f]
  simp only [Int.toNat_natCast]
  omega
theorem pkI_t {kind size hash : Int} (k0 : 0 ≤ kind) (s0 : 0 ≤ size) (z0 : 0 ≤ hash) : size + kind * 4294967296 + hash * 1099511627776 + 68719476736 = pkI kind size hash true := by
  obtain ⟨k, rfl⟩ := Int.eq_ofNat_of_zero_le k0
  obtain ⟨s, rfl⟩ := Int.eq_ofNat_of_zero_le s0
  obtain ⟨z, rfl⟩ := Int.eq_ofNat_of_zero_le z0
  unfold pkI
  rw [pk_t]
  simp only [Int.toNat_natCast]
  omega
set_option maxHeartbeats 2000000 in
theorem rpack_yes (cl kind size hash : Int) (mark : Bool) (w : World) (c0 : 0 ≤ cl) (z0 : 0 ≤ hash) (hE : hErr cl kind size hash = 0) :
    Calls Tryd.prog 41 #[.agg #[.int .u64 cl, .int .i64 kind, .int .i64 size, .int .u32 hash, .bool mark]] w fun e w' => e = .returned (.tuple #[.agg #[.int .u64 cl, .int .u64 (pkI kind size hash mark)], .int .i64 0]) ∧ Below w.heap.size w w' := by
  obtain ⟨⟨h1, h2⟩, ⟨s0, s1⟩, h0, ⟨k0, k1⟩⟩ := hErr_ok hE
  have H1 := Lib.hid (pkI_f k0 s0 z0)
  have H2 := Lib.hid (pkI_t k0 s0 z0)
  have hz' : (cl == 0) = false := by simp [h1]
  have HO : Hid (cl % 2 = 0) := Lib.hid (by omega)
  clear hE h1 h2
  cases mark
  all_goals
    go_enter Tryd.func41, Tryd.ntmps41
    go_wp2_with (go_at_call 59; (with_reducible refine (ris_even _ _ c0 HO.out).mono ?_); rintro e w' ⟨rfl, rfl⟩)
  · exact bodyPost_ret (v := .tuple #[.agg #[.int .u64 cl, .int .u64 (pkI kind size hash false)], .int .i64 0]) (by rw [H1.out]; simp [results, Tryd.results41, go_sem]) rfl ⟨rfl, hbelow2 _ _ _⟩
  · exact bodyPost_ret (v := .tuple #[.agg #[.int .u64 cl, .int .u64 (pkI kind size hash true)], .int .i64 0]) (by rw [H2.out]; simp [results, Tryd.results41, go_sem]) rfl ⟨rfl, hbelow2 _ _ _⟩
theorem rpack_any (cl kind size hash : Int) (mark : Bool) (w : World) (c0 : 0 ≤ cl) (z0 : 0 ≤ hash) :
    Calls Tryd.prog 41 #[.agg #[.int .u64 cl, .int .i64 kind, .int .i64 size, .int .u32 hash, .bool mark]] w fun e w' => e = .returned (.tuple #[.agg #[.int .u64 (pkC cl kind size hash), .int .u64 (pkW cl kind size hash mark)], .int .i64 (hErr cl kind size hash)]) ∧ Below w.heap.size w w' := by
  unfold pkW pkC
  by_cases hE : hErr cl kind size hash = 0
  · rw [if_pos hE, if_pos hE, hE]; exact rpack_yes cl kind size hash mark w c0 z0 hE
  · rw [if_neg hE, if_neg hE]; exact rpack_no cl kind size hash mark w c0 hE

end Go.Proofs.YtahmljjjdoaahaaDoor.Fl
