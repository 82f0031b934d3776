/-
  Instructions: the document's bytes of a number.
-/
import Derived.Test.YtghnpmhidcfghaaDoorCdH
namespace Go.Proofs.YtghnpmhidcfghaaDoor.Fl
open Go.RowKit

def okU (s : Nat) (y : Int) : Bool := decide (0 ≤ y) && decide (y < ((256 ^ s : Nat) : Int))
theorem okU_end (s : Nat) (hs : s ≤ 2) (y : Int) (h : 0 < s → 0 ≤ y) : okU s y = (y / ((256 ^ s : Nat) : Int) == 0) := by
  unfold okU
  obtain rfl | rfl | rfl : s = 0 ∨ s = 1 ∨ s = 2 := by omega
  · rw [Bool.eq_iff_iff]; simp only [Bool.and_eq_true, decide_eq_true_eq, beq_iff_eq]; constructor <;> intro _ <;> omega
  · have := h (by omega)
    rw [Bool.eq_iff_iff]; simp only [Bool.and_eq_true, decide_eq_true_eq, beq_iff_eq]; constructor <;> intro _ <;> omega
  · have := h (by omega)
    rw [Bool.eq_iff_iff]; simp only [Bool.and_eq_true, decide_eq_true_eq, beq_iff_eq]; constructor <;> intro _ <;> omega
theorem okU_neg (s : Nat) {y : Int} (h : y < 0) : okU s y = false := by
  unfold okU
  rw [decide_eq_false (by omega)]
  rfl
theorem byteI_mod {a b : Int} (h : a % 256 = b % 256) : byteI a = byteI b := by unfold byteI; rw [h]
theorem bytesN_s1 (x : Int) : bytesN 1 ((x + 256) % 256) = bytesN 1 x := by
  show [byteI ((x + 256) % 256)] = [byteI x]
  rw [byteI_mod (show (x + 256) % 256 % 256 = x % 256 by omega)]
theorem bytesN_s2 (x : Int) : bytesN 2 ((x + 65536) % 65536) = bytesN 2 x := by
  show [byteI ((x + 65536) % 65536), byteI ((x + 65536) % 65536 / 256)] = [byteI x, byteI (x / 256)]
  rw [byteI_mod (show (x + 65536) % 65536 % 256 = x % 256 by omega), byteI_mod (show (x + 65536) % 65536 / 256 % 256 = x / 256 % 256 by omega)]
/-- bytes stand behind those of the call's own, or not all of them -/
def RPost (base : Nat) (xs ys : List UInt8) (ok : Bool) (w : World) (e : Ending) (w' : World) : Prop :=
  Below base w w' ∧ ∃ A c ts, e = .returned (.tuple #[.slice A ts.length c, .bool ok]) ∧ OwnB w' base (.slice A ts.length c) ts ∧ ts.length ≤ xs.length + 2 ∧ (ok = true → ts = xs ++ ys)

set_option maxRecDepth 100000 in
set_option maxHeartbeats 4000000 in
theorem rput_u (s : Nat) (hs : s ≤ 2) (x : Int) (hx0 : -9223372036854775808 ≤ x) (hx1 : x ≤ 9223372036854775807) (base : Nat) (xs : List UInt8) (A0 : Option Addr) (c0 : Nat) (w : World) (hO : OwnB w base (.slice A0 xs.length c0) xs) (hl : xs.length ≤ 1000000) (hb : base ≤ w.heap.size) :
    Calls Tryd.prog 20 #[.slice A0 xs.length c0, .int .i64 x, .int .i64 ((s : Nat) : Int)] w (RPost base xs (bytesN s x) (okU s x) w) := by
  have HO := Lib.hid hO
  have HB0 := Lib.hid (Below.refl base w)
  have hs0 : (s : Nat) ≤ 2 := by omega
  obtain ⟨y, rfl⟩ : ∃ y, y = x := ⟨x, rfl⟩
  have hy0 := hx0
  have hy1 := hx1
  clear hO
  go_enter Tryd.func20, Tryd.ntmps20
  go_wp2_with fail
  go_loopw [0, 1, 9] (fun v0 v1 v9 wr => ∃ (i : Nat) (A : Option Addr) (c : Nat) (ts : List UInt8) (z : Int), i ≤ s ∧ v0 = .slice A ts.length c ∧ v1 = .int .i64 z ∧ v9 = .int .i64 (i : Int) ∧ (-9223372036854775808 ≤ z ∧ z ≤ 9223372036854775807) ∧ Hid (ts = xs ++ (bytesN s y).take i) ∧ Hid (z = y / ((256 ^ i : Nat) : Int)) ∧ Hid (0 < i → 0 ≤ y) ∧ Hid (OwnB wr base (.slice A ts.length c) ts) ∧ Hid (Below base w wr)) (fun _ _ v9 _ => s - (intOf v9).toNat)
  case atStart => exact ⟨0, A0, c0, xs, y, Nat.zero_le _, rfl, (by first | rfl | rw [hy]), rfl, ⟨hy0, hy1⟩, Lib.hid (by simp), Lib.hid (by simp), Lib.hid (fun h => by omega), HO, HB0⟩
  case round =>
    obtain ⟨i, A, c, ts, z, hi, rfl, rfl, rfl, ⟨hz0, hz1⟩, HT, HZ, HP, HOr, HBr⟩ := hrel
    clear HO HB0
    have htl : ts.length ≤ xs.length + i := by
      rw [HT.out, List.length_append, List.length_take]; omega
    have hbr := HBr.out.size
    by_cases hlt : i < s
    · by_cases hz : z < 0
      · have HK : Hid (okU s y = false) := Lib.hid (okU_neg _ (by
          have h1 := HZ.out
          have h2 := HP.out
          rcases Nat.eq_zero_or_pos i with h | h
          · subst h
            have h4 : z = y := by simpa using h1
            omega
          · have h3 : 0 ≤ y / ((256 ^ i : Nat) : Int) := Int.ediv_nonneg (h2 h) (Int.natCast_nonneg _)
            omega))
        go_wp2_with fail
        go_ret2
        exact ⟨HBr.out, A, c, ts, by rw [HK.out]; rfl, HOr.out, by omega, fun h => by rw [HK.out] at h; cases h⟩
      · have HR1 := Lib.hid (rd_oneZ wr z)
        have HP2 : Hid (0 ≤ y) := Lib.hid (by
          have h1 := HZ.out
          have h2 := HP.out
          rcases Nat.eq_zero_or_pos i with h | h
          · subst h
            have h4 : z = y := by simpa using h1
            omega
          · exact h2 h)
        have HT2 : Hid (xs ++ (bytesN s y).take (i + 1) = ts ++ [byteI z]) := Lib.hid (by
          rw [HT.out, HZ.out, List.append_assoc]
          congr 1
          obtain ⟨rfl, h⟩ | ⟨rfl, h⟩ | ⟨rfl, h⟩ : (i = 0 ∧ s = 1) ∨ (i = 0 ∧ s = 2) ∨ (i = 1 ∧ s = 2) := by omega
          all_goals first | (simp [bytesN, h]; done) | (simp [bytesN]; done) | omega)
        have HZ2 : Hid (z / 256 = y / ((256 ^ (i + 1) : Nat) : Int)) := Lib.hid (by
          rw [HZ.out, Int.ediv_ediv_of_nonneg (Int.natCast_nonneg _)]
          congr 1)
        have hba : Below wr.heap.size wr (wr.alloc (.cells #[.int .u8 (z % 256)] 5)) := (Below.refl _ _).alloc (Nat.le_refl _) _
        have HO2 := Lib.hid (HOr.out.below hba)
        have hzz : z / 256 ≤ 9223372036854775807 := by omega
        go_wp2_with (at_builtin; refine wpList_append_u (base := base) (v := .slice A ts.length c) (xs := ts) (news := [byteI z]) rfl _ _ rfl rfl rfl HO2.out HR1.out (fun h => by cases h) (by omega) (by simp) (by rw [World.size_alloc]; omega) ?_; intro A4 t4 c4 w4 HT4 HO4 HB4; have HT3 : Hid (t4 = xs ++ (bytesN s y).take (i + 1)) := Lib.hid (by rw [HT4.out, HT2.out]); have HB5 := Lib.hid ((HBr.out.alloc (by omega) (.cells #[.int .u8 (z % 256)] 5)).trans HB4.out.1))
        go_roundw
        case rel => first | exact ⟨i + 1, A4, c4, t4, z / 256, by omega, rfl, rfl, rfl, ⟨by omega, by omega⟩, HT3, HZ2, Lib.hid (fun _ => HP2.out), HO4, HB5⟩ | exact ⟨_, _, u6, u7, _, ⟨i + 1, by omega, A4, c4, t4, rfl, z / 256, rfl, rfl, ⟨by omega, by omega⟩, HT3, Lib.hid (by have h8 := HZ2.out; rw [h8]; simp), Lib.hid (fun _ => HP2.out), HO4⟩, rfl, rfl, rfl, rfl, rfl⟩
        case measure => simp [intOf]; omega
    · have HE : Hid (ts = xs ++ bytesN s y) := Lib.hid (by
        rw [HT.out, List.take_of_length_le (by rw [bytesN_len _ _ hs0]; omega)])
      have hK : (z == 0) = okU s y := by
        rw [okU_end _ hs0 y (fun h => HP.out (by omega)), HZ.out, show i = s by omega]
      have HK := Lib.hid hK
      clear hK
      go_wp2_with fail
      go_ret2
      exact ⟨HBr.out, A, c, ts, by rw [← HK.out]; rfl, HOr.out, by omega, fun _ => HE.out⟩

set_option maxRecDepth 100000 in
set_option maxHeartbeats 4000000 in
theorem rput_s1 (x : Int) (hx0 : -128 ≤ x) (hx1 : x < 128) (base : Nat) (xs : List UInt8) (A0 : Option Addr) (c0 : Nat) (w : World) (hO : OwnB w base (.slice A0 xs.length c0) xs) (hl : xs.length ≤ 1000000) (hb : base ≤ w.heap.size) :
    Calls Tryd.prog 20 #[.slice A0 xs.length c0, .int .i64 x, .int .i64 (-1)] w (RPost base xs (bytesN 1 ((x + 256) % 256)) (okU 1 ((x + 256) % 256)) w) := by
  have HO := Lib.hid hO
  have HB0 := Lib.hid (Below.refl base w)
  have hs0 : (1 : Nat) ≤ 2 := by omega
  obtain ⟨y, hy⟩ : ∃ y, (x + 256) % 256 = y := ⟨_, rfl⟩
  have hy0 : -9223372036854775808 ≤ y := by omega
  have hy1 : y ≤ 9223372036854775807 := by omega
  rw [hy]
  have hd1 : decide (x < -128) = false := decide_eq_false (by omega)
  have hd2 : decide (x ≥ 128) = false := decide_eq_false (by omega)
  have hd3 : decide (128 ≤ x) = false := decide_eq_false (by omega)
  clear hO
  go_enter Tryd.func20, Tryd.ntmps20
  go_wp2_with fail
  go_loopw [0, 1, 9] (fun v0 v1 v9 wr => ∃ (i : Nat) (A : Option Addr) (c : Nat) (ts : List UInt8) (z : Int), i ≤ 1 ∧ v0 = .slice A ts.length c ∧ v1 = .int .i64 z ∧ v9 = .int .i64 (i : Int) ∧ (-9223372036854775808 ≤ z ∧ z ≤ 9223372036854775807) ∧ Hid (ts = xs ++ (bytesN 1 y).take i) ∧ Hid (z = y / ((256 ^ i : Nat) : Int)) ∧ Hid (0 < i → 0 ≤ y) ∧ Hid (OwnB wr base (.slice A ts.length c) ts) ∧ Hid (Below base w wr)) (fun _ _ v9 _ => 1 - (intOf v9).toNat)
  case atStart => exact ⟨0, A0, c0, xs, y, Nat.zero_le _, rfl, (by first | rfl | rw [hy]), rfl, ⟨hy0, hy1⟩, Lib.hid (by simp), Lib.hid (by simp), Lib.hid (fun h => by omega), HO, HB0⟩
  case round =>
    obtain ⟨i, A, c, ts, z, hi, rfl, rfl, rfl, ⟨hz0, hz1⟩, HT, HZ, HP, HOr, HBr⟩ := hrel
    clear HO HB0
    have htl : ts.length ≤ xs.length + i := by
      rw [HT.out, List.length_append, List.length_take]; omega
    have hbr := HBr.out.size
    by_cases hlt : i < 1
    · by_cases hz : z < 0
      · have HK : Hid (okU 1 y = false) := Lib.hid (okU_neg _ (by
          have h1 := HZ.out
          have h2 := HP.out
          rcases Nat.eq_zero_or_pos i with h | h
          · subst h
            have h4 : z = y := by simpa using h1
            omega
          · have h3 : 0 ≤ y / ((256 ^ i : Nat) : Int) := Int.ediv_nonneg (h2 h) (Int.natCast_nonneg _)
            omega))
        go_wp2_with fail
        go_ret2
        exact ⟨HBr.out, A, c, ts, by rw [HK.out]; rfl, HOr.out, by omega, fun h => by rw [HK.out] at h; cases h⟩
      · have HR1 := Lib.hid (rd_oneZ wr z)
        have HP2 : Hid (0 ≤ y) := Lib.hid (by
          have h1 := HZ.out
          have h2 := HP.out
          rcases Nat.eq_zero_or_pos i with h | h
          · subst h
            have h4 : z = y := by simpa using h1
            omega
          · exact h2 h)
        have HT2 : Hid (xs ++ (bytesN 1 y).take (i + 1) = ts ++ [byteI z]) := Lib.hid (by
          rw [HT.out, HZ.out, List.append_assoc]
          congr 1
          obtain ⟨rfl, h⟩ | ⟨rfl, h⟩ | ⟨rfl, h⟩ : (i = 0 ∧ 1 = 1) ∨ (i = 0 ∧ 1 = 2) ∨ (i = 1 ∧ 1 = 2) := by omega
          all_goals first | (simp [bytesN, h]; done) | (simp [bytesN]; done) | omega)
        have HZ2 : Hid (z / 256 = y / ((256 ^ (i + 1) : Nat) : Int)) := Lib.hid (by
          rw [HZ.out, Int.ediv_ediv_of_nonneg (Int.natCast_nonneg _)]
          congr 1)
        have hba : Below wr.heap.size wr (wr.alloc (.cells #[.int .u8 (z % 256)] 5)) := (Below.refl _ _).alloc (Nat.le_refl _) _
        have HO2 := Lib.hid (HOr.out.below hba)
        have hzz : z / 256 ≤ 9223372036854775807 := by omega
        go_wp2_with (at_builtin; refine wpList_append_u (base := base) (v := .slice A ts.length c) (xs := ts) (news := [byteI z]) rfl _ _ rfl rfl rfl HO2.out HR1.out (fun h => by cases h) (by omega) (by simp) (by rw [World.size_alloc]; omega) ?_; intro A4 t4 c4 w4 HT4 HO4 HB4; have HT3 : Hid (t4 = xs ++ (bytesN 1 y).take (i + 1)) := Lib.hid (by rw [HT4.out, HT2.out]); have HB5 := Lib.hid ((HBr.out.alloc (by omega) (.cells #[.int .u8 (z % 256)] 5)).trans HB4.out.1))
        go_roundw
        case rel => first | exact ⟨i + 1, A4, c4, t4, z / 256, by omega, rfl, rfl, rfl, ⟨by omega, by omega⟩, HT3, HZ2, Lib.hid (fun _ => HP2.out), HO4, HB5⟩ | exact ⟨_, _, u6, u7, _, ⟨i + 1, by omega, A4, c4, t4, rfl, z / 256, rfl, rfl, ⟨by omega, by omega⟩, HT3, Lib.hid (by have h8 := HZ2.out; rw [h8]; simp), Lib.hid (fun _ => HP2.out), HO4⟩, rfl, rfl, rfl, rfl, rfl⟩
        case measure => simp [intOf]; omega
    · have HE : Hid (ts = xs ++ bytesN 1 y) := Lib.hid (by
        rw [HT.out, List.take_of_length_le (by rw [bytesN_len _ _ hs0]; omega)])
      have hK : (z == 0) = okU 1 y := by
        rw [okU_end _ hs0 y (fun h => HP.out (by omega)), HZ.out, show i = 1 by omega]
      have HK := Lib.hid hK
      clear hK
      go_wp2_with fail
      go_ret2
      exact ⟨HBr.out, A, c, ts, by rw [← HK.out]; rfl, HOr.out, by omega, fun _ => HE.out⟩

set_option maxRecDepth 100000 in
set_option maxHeartbeats 4000000 in
theorem rput_s2 (x : Int) (hx0 : -32768 ≤ x) (hx1 : x < 32768) (base : Nat) (xs : List UInt8) (A0 : Option Addr) (c0 : Nat) (w : World) (hO : OwnB w base (.slice A0 xs.length c0) xs) (hl : xs.length ≤ 1000000) (hb : base ≤ w.heap.size) :
    Calls Tryd.prog 20 #[.slice A0 xs.length c0, .int .i64 x, .int .i64 (-2)] w (RPost base xs (bytesN 2 ((x + 65536) % 65536)) (okU 2 ((x + 65536) % 65536)) w) := by
  have HO := Lib.hid hO
  have HB0 := Lib.hid (Below.refl base w)
  have hs0 : (2 : Nat) ≤ 2 := by omega
  obtain ⟨y, hy⟩ : ∃ y, (x + 65536) % 65536 = y := ⟨_, rfl⟩
  have hy0 : -9223372036854775808 ≤ y := by omega
  have hy1 : y ≤ 9223372036854775807 := by omega
  rw [hy]
  have hd1 : decide (x < -32768) = false := decide_eq_false (by omega)
  have hd2 : decide (x ≥ 32768) = false := decide_eq_false (by omega)
  have hd3 : decide (32768 ≤ x) = false := decide_eq_false (by omega)
  clear hO
  go_enter Tryd.func20, Tryd.ntmps20
  go_wp2_with fail
  go_loopw [0, 1, 9] (fun v0 v1 v9 wr => ∃ (i : Nat) (A : Option Addr) (c : Nat) (ts : List UInt8) (z : Int), i ≤ 2 ∧ v0 = .slice A ts.length c ∧ v1 = .int .i64 z ∧ v9 = .int .i64 (i : Int) ∧ (-9223372036854775808 ≤ z ∧ z ≤ 9223372036854775807) ∧ Hid (ts = xs ++ (bytesN 2 y).take i) ∧ Hid (z = y / ((256 ^ i : Nat) : Int)) ∧ Hid (0 < i → 0 ≤ y) ∧ Hid (OwnB wr base (.slice A ts.length c) ts) ∧ Hid (Below base w wr)) (fun _ _ v9 _ => 2 - (intOf v9).toNat)
  case atStart => exact ⟨0, A0, c0, xs, y, Nat.zero_le _, rfl, (by first | rfl | rw [hy]), rfl, ⟨hy0, hy1⟩, Lib.hid (by simp), Lib.hid (by simp), Lib.hid (fun h => by omega), HO, HB0⟩
  case round =>
    obtain ⟨i, A, c, ts, z, hi, rfl, rfl, rfl, ⟨hz0, hz1⟩, HT, HZ, HP, HOr, HBr⟩ := hrel
    clear HO HB0
    have htl : ts.length ≤ xs.length + i := by
      rw [HT.out, List.length_append, List.length_take]; omega
    have hbr := HBr.out.size
    by_cases hlt : i < 2
    · by_cases hz : z < 0
      · have HK : Hid (okU 2 y = false) := Lib.hid (okU_neg _ (by
          have h1 := HZ.out
          have h2 := HP.out
          rcases Nat.eq_zero_or_pos i with h | h
          · subst h
            have h4 : z = y := by simpa using h1
            omega
          · have h3 : 0 ≤ y / ((256 ^ i : Nat) : Int) := Int.ediv_nonneg (h2 h) (Int.natCast_nonneg _)
            omega))
        go_wp2_with fail
        go_ret2
        exact ⟨HBr.out, A, c, ts, by rw [HK.out]; rfl, HOr.out, by omega, fun h => by rw [HK.out] at h; cases h⟩
      · have HR1 := Lib.hid (rd_oneZ wr z)
        have HP2 : Hid (0 ≤ y) := Lib.hid (by
          have h1 := HZ.out
          have h2 := HP.out
          rcases Nat.eq_zero_or_pos i with h | h
          · subst h
            have h4 : z = y := by simpa using h1
            omega
          · exact h2 h)
        have HT2 : Hid (xs ++ (bytesN 2 y).take (i + 1) = ts ++ [byteI z]) := Lib.hid (by
          rw [HT.out, HZ.out, List.append_assoc]
          congr 1
          obtain ⟨rfl, h⟩ | ⟨rfl, h⟩ | ⟨rfl, h⟩ : (i = 0 ∧ 2 = 1) ∨ (i = 0 ∧ 2 = 2) ∨ (i = 1 ∧ 2 = 2) := by omega
          all_goals first | (simp [bytesN, h]; done) | (simp [bytesN]; done) | omega)
        have HZ2 : Hid (z / 256 = y / ((256 ^ (i + 1) : Nat) : Int)) := Lib.hid (by
          rw [HZ.out, Int.ediv_ediv_of_nonneg (Int.natCast_nonneg _)]
          congr 1)
        have hba : Below wr.heap.size wr (wr.alloc (.cells #[.int .u8 (z % 256)] 5)) := (Below.refl _ _).alloc (Nat.le_refl _) _
        have HO2 := Lib.hid (HOr.out.below hba)
        have hzz : z / 256 ≤ 9223372036854775807 := by omega
        go_wp2_with (at_builtin; refine wpList_append_u (base := base) (v := .slice A ts.length c) (xs := ts) (news := [byteI z]) rfl _ _ rfl rfl rfl HO2.out HR1.out (fun h => by cases h) (by omega) (by simp) (by rw [World.size_alloc]; omega) ?_; intro A4 t4 c4 w4 HT4 HO4 HB4; have HT3 : Hid (t4 = xs ++ (bytesN 2 y).take (i + 1)) := Lib.hid (by rw [HT4.out, HT2.out]); have HB5 := Lib.hid ((HBr.out.alloc (by omega) (.cells #[.int .u8 (z % 256)] 5)).trans HB4.out.1))
        go_roundw
        case rel => first | exact ⟨i + 1, A4, c4, t4, z / 256, by omega, rfl, rfl, rfl, ⟨by omega, by omega⟩, HT3, HZ2, Lib.hid (fun _ => HP2.out), HO4, HB5⟩ | exact ⟨_, _, u6, u7, _, ⟨i + 1, by omega, A4, c4, t4, rfl, z / 256, rfl, rfl, ⟨by omega, by omega⟩, HT3, Lib.hid (by have h8 := HZ2.out; rw [h8]; simp), Lib.hid (fun _ => HP2.out), HO4⟩, rfl, rfl, rfl, rfl, rfl⟩
        case measure => simp [intOf]; omega
    · have HE : Hid (ts = xs ++ bytesN 2 y) := Lib.hid (by
        rw [HT.out, List.take_of_length_le (by rw [bytesN_len _ _ hs0]; omega)])
      have hK : (z == 0) = okU 2 y := by
        rw [okU_end _ hs0 y (fun h => HP.out (by omega)), HZ.out, show i = 2 by omega]
      have HK := Lib.hid hK
      clear hK
      go_wp2_with fail
      go_ret2
      exact ⟨HBr.out, A, c, ts, by rw [← HK.out]; rfl, HOr.out, by omega, fun _ => HE.out⟩
end Go.Proofs.YtghnpmhidcfghaaDoor.Fl
