/-
  Instructions: a number as bytes.
-/
import Derived.Test.YtdfghcbojbbgcaaDoorCdC
namespace Go.Proofs.YtdfghcbojbbgcaaDoor.Fl
open Go.RowKit

def byteI (z : Int) : UInt8 := UInt8.ofNat (z % 256).toNat
theorem byteI_nat (z : Int) : ((byteI z).toNat : Int) = z % 256 := by
  unfold byteI
  rw [UInt8.toNat_ofNat']
  omega
def bytesN (s : Nat) (n : Int) : List UInt8 := match s with
  | 0 => []
  | 1 => [byteI n]
  | _ => [byteI n, byteI (n / 256)]
theorem rd_oneZ (w : World) (z : Int) : Rd (w.alloc (.cells #[.int .u8 (z % 256)] 5)) (w.alloc (.cells #[.int .u8 (z % 256)] 5)).heap.size (some ⟨w.heap.size, 0, none⟩) (cb [byteI z]) := by
  rw [← byteI_nat z]
  exact rd_oneB w (byteI z)
/-- bytes stand behind those of the call's own -/
def EPost (base : Nat) (v : Value) (ts : List UInt8) (w : World) (e : Ending) (w' : World) : Prop :=
  ∃ A c, e = .returned (.slice A ts.length c) ∧ OwnB w' base (.slice A ts.length c) ts ∧ Below base w w' ∧ (∀ k, k < w.heap.size → some k ≠ v.ownBlock → w'.heap[k]? = w.heap[k]?) ∧ (∀ j, (Value.slice A ts.length c).ownBlock = some j → v.ownBlock = some j ∨ w.heap.size ≤ j)
set_option maxRecDepth 100000 in
set_option maxHeartbeats 2000000 in
theorem put_any (s : Nat) (hs : s ≤ 2) (l n : Int) (base : Nat) (v : Value) (xs : List UInt8) (A0 : Option Addr) (c0 : Nat) (w : World) (hv : v = .slice A0 xs.length c0) (hO : OwnB w base v xs) (hl : xs.length ≤ 1000000) (hb : base ≤ w.heap.size) (hn0 : -9223372036854775808 ≤ n) (hn1 : n ≤ 9223372036854775807) :
    Calls Tryd.prog 14 #[.agg #[.int .i64 (s : Int), .int .i64 l], v, .int .i64 n] w (EPost base v (xs ++ bytesN s n) w) := by
  subst hv
  have hw1 := heap_alloc_new w (.cells #[.int .i64 (s : Int), .int .i64 l] 50)
  have f1 := two_cellsC hw1
  have l1 : w.heap.size < (w.alloc (.cells #[.int .i64 (s : Int), .int .i64 l] 50)).heap.size := lt_of_blkC hw1
  have hb1 : Below w.heap.size w (w.alloc (.cells #[.int .i64 (s : Int), .int .i64 l] 50)) := (Below.refl _ _).alloc (Nat.le_refl _) _
  have HO := Lib.hid (hO.below hb1)
  have HB1 := Lib.hid (show Below base w (w.alloc (.cells #[.int .i64 (s : Int), .int .i64 l] 50)) from hb1.mono hb)
  have HK1 := Lib.hid (fun k (hk : k < w.heap.size) => hb1.block k hk)
  have HL := Lib.hid (fun j (hj : (Value.slice A0 xs.length c0).ownBlock = some j) => (World.ownsRow.lt hO j hj).2)
  clear hb1 hO
  go_enter Tryd.func14, Tryd.ntmps14
  go_wp2_with fail
  generalize w.alloc (.cells #[.int .i64 (s : Int), .int .i64 l] 50) = w1 at *
  go_loopw [1, 10] (fun v1 v10 wr => ∃ (i : Nat) (A : Option Addr) (c : Nat) (ts : List UInt8), i ≤ s ∧ v1 = .slice A ts.length c ∧ v10 = .int .i64 (i : Int) ∧ Hid (ts = xs ++ (bytesN s n).take i) ∧ Hid (OwnB wr base (.slice A ts.length c) ts) ∧ Hid (Below base w wr) ∧ Hid (∀ k, k < w.heap.size → some k ≠ (Value.slice A0 xs.length c0).ownBlock → wr.heap[k]? = w.heap[k]?) ∧ Hid (∀ j, (Value.slice A ts.length c).ownBlock = some j → (Value.slice A0 xs.length c0).ownBlock = some j ∨ w.heap.size ≤ j) ∧ Hid (w.heap.size ≤ wr.heap.size)) (fun _ v10 _ => s - (intOf v10).toNat)
  case atStart => exact ⟨0, A0, c0, xs, Nat.zero_le _, rfl, rfl, Lib.hid (by simp), HO, HB1, Lib.hid (fun k hk _ => HK1.out k hk), Lib.hid (fun j hj => .inl hj), Lib.hid (by omega)⟩
  case round =>
    obtain ⟨i, A, c, ts, hi, rfl, rfl, HT, HOr, HBr, HKr, HAr, HSr⟩ := hrel
    clear HO HB1 HK1
    by_cases hlt : i < s
    · have htl : ts.length ≤ 1000002 := by
        rw [HT.out, List.length_append, List.length_take]; omega
      have hi2 : i = 0 ∨ i = 1 := by omega
      have hbr := HBr.out.size
      rcases hi2 with rfl | rfl
      · have HR1 := Lib.hid (rd_oneZ wr n)
        have HT2 : Hid (xs ++ (bytesN s n).take 1 = ts ++ [byteI n]) := Lib.hid (by
          rw [HT.out]
          obtain rfl | rfl : s = 1 ∨ s = 2 := by omega
          all_goals simp [bytesN])
        have hba : Below wr.heap.size wr (wr.alloc (.cells #[.int .u8 (n % 256)] 5)) := (Below.refl _ _).alloc (Nat.le_refl _) _
        have HO2 := Lib.hid (HOr.out.below hba)
        go_wp2_with (at_builtin; refine wpList_append_u (base := base) (v := .slice A ts.length c) (xs := ts) (news := [byteI n]) rfl _ _ rfl rfl rfl HO2.out HR1.out (fun h => by cases h) (by omega) (by simp) (by rw [World.size_alloc]; omega) ?_; intro A4 t4 c4 w4 HT4 HO4 HB4; have HT3 : Hid (t4 = xs ++ (bytesN s n).take 1) := Lib.hid (by rw [HT4.out, HT2.out]); have HB5 := Lib.hid ((HBr.out.alloc (by omega) (.cells #[.int .u8 (n % 256)] 5)).trans HB4.out.1); have HK5 : Hid (∀ k, k < w.heap.size → some k ≠ (Value.slice A0 xs.length c0).ownBlock → w4.heap[k]? = w.heap[k]?) := Lib.hid (fun k hk hn => (HB4.out.2.1 k (by rw [World.size_alloc]; omega) (fun e => (HAr.out k e.symm).elim (fun e2 => hn e2.symm) (fun h => by omega))).trans ((Below.heap_alloc _ _ _ (by omega)).trans (HKr.out k hk hn))); have HA5 : Hid (∀ j, (Value.slice A4 t4.length c4).ownBlock = some j → (Value.slice A0 xs.length c0).ownBlock = some j ∨ w.heap.size ≤ j) := Lib.hid (fun j hj => HB4.out.2.2.elim (fun e => HAr.out j (e.symm.trans hj)) (fun e => by rw [hj, World.size_alloc] at e; injection e with e; exact .inr (by omega))); have HS5 : Hid (w.heap.size ≤ w4.heap.size) := Lib.hid (by have h8 := HB4.out.1.size; rw [World.size_alloc] at h8; omega))
        go_roundw
        case rel => exact ⟨1, A4, c4, t4, by omega, rfl, rfl, HT3, HO4, HB5, HK5, HA5, HS5⟩
        case measure => simp [intOf]; omega
      · have HR1 := Lib.hid (rd_oneZ wr (n / 256))
        have HT2 : Hid (xs ++ (bytesN s n).take 2 = ts ++ [byteI (n / 256)]) := Lib.hid (by
          rw [HT.out]
          obtain rfl : s = 2 := by omega
          simp [bytesN])
        have hba : Below wr.heap.size wr (wr.alloc (.cells #[.int .u8 (n / 256 % 256)] 5)) := (Below.refl _ _).alloc (Nat.le_refl _) _
        have HO2 := Lib.hid (HOr.out.below hba)
        go_wp2_with (at_builtin; refine wpList_append_u (base := base) (v := .slice A ts.length c) (xs := ts) (news := [byteI (n / 256)]) rfl _ _ rfl rfl rfl HO2.out HR1.out (fun h => by cases h) (by omega) (by simp) (by rw [World.size_alloc]; omega) ?_; intro A4 t4 c4 w4 HT4 HO4 HB4; have HT3 : Hid (t4 = xs ++ (bytesN s n).take 2) := Lib.hid (by rw [HT4.out, HT2.out]); have HB5 := Lib.hid ((HBr.out.alloc (by omega) (.cells #[.int .u8 (n / 256 % 256)] 5)).trans HB4.out.1); have HK5 : Hid (∀ k, k < w.heap.size → some k ≠ (Value.slice A0 xs.length c0).ownBlock → w4.heap[k]? = w.heap[k]?) := Lib.hid (fun k hk hn => (HB4.out.2.1 k (by rw [World.size_alloc]; omega) (fun e => (HAr.out k e.symm).elim (fun e2 => hn e2.symm) (fun h => by omega))).trans ((Below.heap_alloc _ _ _ (by omega)).trans (HKr.out k hk hn))); have HA5 : Hid (∀ j, (Value.slice A4 t4.length c4).ownBlock = some j → (Value.slice A0 xs.length c0).ownBlock = some j ∨ w.heap.size ≤ j) := Lib.hid (fun j hj => HB4.out.2.2.elim (fun e => HAr.out j (e.symm.trans hj)) (fun e => by rw [hj, World.size_alloc] at e; injection e with e; exact .inr (by omega))); have HS5 : Hid (w.heap.size ≤ w4.heap.size) := Lib.hid (by have h8 := HB4.out.1.size; rw [World.size_alloc] at h8; omega))
        go_roundw
        case rel => exact ⟨2, A4, c4, t4, by omega, rfl, rfl, HT3, HO4, HB5, HK5, HA5, HS5⟩
        case measure => simp [intOf]; omega
    · have hts : ts = xs ++ bytesN s n := by
        rw [HT.out]
        congr 1
        obtain rfl : i = s := by omega
        obtain rfl | rfl | rfl : i = 0 ∨ i = 1 ∨ i = 2 := by omega
        all_goals rfl
      have HTs := Lib.hid hts
      clear hts
      go_wp2_with fail
      go_ret
      rw [← HTs.out]
      exact ⟨A, c, rfl, HOr.out, HBr.out, HKr.out, HAr.out⟩
end Go.Proofs.YtdfghcbojbbgcaaDoor.Fl
