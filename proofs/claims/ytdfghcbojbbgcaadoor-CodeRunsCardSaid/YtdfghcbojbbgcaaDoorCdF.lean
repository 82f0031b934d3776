/-
  Instructions: bytes as a number.
-/
import Derived.Test.YtdfghcbojbbgcaaDoorCdE
import Derived.Laws.BitsLemmas
namespace Go.Proofs.YtdfghcbojbbgcaaDoor.Fl
open Go.RowKit

def valN : List UInt8 → Int
  | [] => 0
  | [b] => (b.toNat : Int)
  | b :: c :: _ => (b.toNat : Int) + (c.toNat : Int) * 256
def getN (s : Nat) (l : Int) (bs : List UInt8) : Int := if hasC s l (valN bs) = true then valN bs else valN bs - ((256 ^ s : Nat) : Int)
theorem wraps_i64C (n : Int) (h₀ : 0 ≤ n) (h₁ : n < 2 ^ 32) : IntKind.i64.wrap n = n := by rw [IntKind.wrap_i64]; omega
theorem or_zeroC (b : UInt8) : bits .or .i64 0 (b.toNat : Int) = (b.toNat : Int) := by
  have hb := b.toNat_lt
  have := bits_join .i64 32 (by decide) wraps_i64C 8 0 (b.toNat : Int) (by decide) (by decide) (by decide) (by omega) (by omega) (by omega)
  rw [this]; omega
theorem or_bytes (b c : UInt8) : bits .or .i64 (b.toNat : Int) ((c.toNat : Int) * 256) = (b.toNat : Int) + (c.toNat : Int) * 256 := by
  have hb := b.toNat_lt
  have hc := c.toNat_lt
  have e : ((c.toNat : Int) * 256) = ((c.toNat * 256 : Nat) : Int) := by omega
  rw [e, (bits_nat .i64 32 (by decide) wraps_i64C b.toNat (c.toNat * 256) (by omega) (by omega)).2, Nat.or_comm, show c.toNat * 256 = 2 ^ 8 * c.toNat by omega, ← Nat.two_pow_add_eq_or_of_lt (show b.toNat < 2 ^ 8 by omega) c.toNat]
  omega
theorem valN_bd : ∀ bs : List UInt8, 0 ≤ valN bs ∧ valN bs ≤ 65535
  | [] => by decide
  | [b] => by have := b.toNat_lt; simp only [valN]; omega
  | b :: c :: _ => by have := b.toNat_lt; have := c.toNat_lt; simp only [valN]; omega
theorem valN_two (bs : List UInt8) (h : bs.length = 2) (b0 ch : UInt8) (h0 : bs[0]'(by omega) = b0) (h1 : bs[1]'(by omega) = ch) : valN (bs.take 1) = (b0.toNat : Int) ∧ valN (bs.take 2) = (b0.toNat : Int) + (ch.toNat : Int) * 256 := by
  match bs, h with
  | [b, c], _ => subst h0 h1; exact ⟨rfl, rfl⟩
theorem cbC_at {w : World} {B : Nat} {A : Option Addr} {bs : List UInt8} (h : Rd w B A (cb bs)) {k : Nat} (hk : k < bs.length) : ∃ g off, A = some ⟨g, off, none⟩ ∧ g < B ∧ w.cell? ⟨g, off + k, none⟩ = some (.int .u8 (bs[k].toNat : Int)) := by
  rcases h with h | ⟨g, off, rfl, hb, hc⟩
  · simp only [cb, List.map_eq_nil_iff] at h
    subst h
    exact absurd hk (Nat.not_lt_zero _)
  · exact ⟨g, off, rfl, hb, hc k _ (by rw [cb, List.getElem?_map, List.getElem?_eq_getElem hk]; rfl)⟩
set_option maxRecDepth 100000 in
set_option maxHeartbeats 2000000 in
theorem getC_any (s : Nat) (hs : s ≤ 2) (l : Int) (hl : -32768 ≤ l) (hl0 : l ≤ 0) (bs : List UInt8) (hbs : bs.length = s) (A : Option Addr) (c B : Nat) (w : World) (hr : Rd w B A (cb bs)) (hB : B ≤ w.heap.size) (hsc : s ≤ c) :
    Calls Tryd.prog 12 #[.agg #[.int .i64 (s : Int), .int .i64 l], .slice A s c] w fun e w' => e = .returned (.int .i64 (getN s l bs)) ∧ Below w.heap.size w w' := by
  have hb1 : Below w.heap.size w (w.alloc (.cells #[.int .i64 (s : Int), .int .i64 l] 50)) := (Below.refl _ _).alloc (Nat.le_refl _) _
  have hw1 := heap_alloc_new w (.cells #[.int .i64 (s : Int), .int .i64 l] 50)
  have f1 := two_cellsC hw1
  have l1 : w.heap.size < (w.alloc (.cells #[.int .i64 (s : Int), .int .i64 l] 50)).heap.size := lt_of_blkC hw1
  have HR := Lib.hid (hr.below hb1 hB)
  have HB := Lib.hid hb1
  have HS := Lib.hid hbs
  have hvb := valN_bd bs
  have hha := fun w => has_any s hs l (valN bs) hl hl0 w
  have hct := fun w => count_any s hs l w
  obtain ⟨r, hrr⟩ : ∃ r, getN s l bs = r := ⟨_, rfl⟩
  rw [hrr]
  have HRr := Lib.hid hrr
  unfold getN at HRr
  have hpw : 256 ^ s ≤ 65536 := by
    obtain rfl | rfl | rfl : s = 0 ∨ s = 1 ∨ s = 2 := by omega
    all_goals decide
  clear hr hb1 hbs hrr
  go_enter Tryd.func12, Tryd.ntmps12
  go_wp2_with fail
  generalize w.alloc (.cells #[.int .i64 (s : Int), .int .i64 l] 50) = w1 at *
  go_loopw [5, 9] (fun v5 v9 wr => ∃ i : Nat, i ≤ s ∧ v5 = .int .i64 (valN (bs.take i)) ∧ v9 = .int .i64 (i : Int) ∧ w1 = wr) (fun _ v9 _ => s - (intOf v9).toNat)
  case atStart => exact ⟨0, Nat.zero_le _, by simp [valN], rfl, rfl⟩
  case round =>
    obtain ⟨i, hi, rfl, rfl, rfl⟩ := hrel
    by_cases hlt : i < s
    · have hi2 : i = 0 ∨ i = 1 := by omega
      rcases hi2 with rfl | rfl
      · obtain ⟨g, o, rfl, hg, c0⟩ := cbC_at HR.out (k := 0) (by rw [HS.out]; exact hlt)
        rw [Nat.add_zero] at c0
        obtain ⟨ch, hch⟩ : ∃ ch, bs[0]'(by rw [HS.out]; exact hlt) = ch := ⟨_, rfl⟩
        rw [hch] at c0
        have hv1 : valN (bs.take 1) = (ch.toNat : Int) := by
          match bs, HS.out, hch with
          | b :: t, _, hch => exact congrArg (fun x : UInt8 => (x.toNat : Int)) hch
        have HV1 := Lib.hid hv1
        have hz := or_zeroC ch
        have h8 : (ch.toNat : Int) ≤ 255 := by have := ch.toNat_lt; omega
        clear hv1 hch
        rw [List.take_zero, show valN [] = 0 from rfl]
        go_wp2_with fail
        go_roundw
        case rel => exact ⟨1, by omega, by rw [HV1.out], rfl, trivial⟩
        case measure => simp [intOf]; omega
      · obtain ⟨g, o, rfl, hg, c0⟩ := cbC_at HR.out (k := 1) (by rw [HS.out]; exact hlt)
        obtain ⟨b0, hb0⟩ : ∃ ch, bs[0]'(by rw [HS.out]; omega) = ch := ⟨_, rfl⟩
        obtain ⟨ch, hch⟩ : ∃ ch, bs[1]'(by rw [HS.out]; exact hlt) = ch := ⟨_, rfl⟩
        rw [hch] at c0
        have hs2 : s = 2 := by omega
        have hv12 : valN (bs.take 1) = (b0.toNat : Int) ∧ valN (bs.take 2) = (b0.toNat : Int) + (ch.toNat : Int) * 256 := by
          exact valN_two bs (by rw [HS.out, hs2]) b0 ch hb0 hch
        have HV1 := Lib.hid hv12.1
        have HV2 := Lib.hid hv12.2
        have hz := or_bytes b0 ch
        have h8 : (ch.toNat : Int) ≤ 255 := by have := ch.toNat_lt; omega
        have h9 : (b0.toNat : Int) ≤ 255 := by have := b0.toNat_lt; omega
        clear hv12 hch hb0
        rw [HV1.out]
        go_wp2_with fail
        go_roundw
        case rel => exact ⟨2, by omega, by rw [HV2.out], rfl, trivial⟩
        case measure => simp [intOf]; omega
    · have hti : bs.take i = bs := List.take_of_length_le (by rw [HS.out]; omega)
      rw [hti]
      clear hti
      generalize valN bs = v at *
      go_wp2_with fail
      refine (hha _).mono ?_
      rintro e w2 ⟨rfl, hb2⟩
      have HB2 := Lib.hid (HB.out.trans (hb2.mono HB.out.size))
      have hw2 := (hb2.block _ l1).trans hw1
      have f2 := two_cellsC hw2
      have l2 := Nat.lt_of_lt_of_le l1 hb2.size
      clear hha hb2 f1 hw1
      cases hh : hasC s l v
      · have HR2 : Hid (v - ((256 ^ s : Nat) : Int) = r) := Lib.hid (by rw [← HRr.out, if_neg (by rw [hh]; simp)])
        generalize 256 ^ s = m at *
        go_wp2_with fail
        refine (hct _).mono ?_
        rintro e w3 ⟨rfl, hb3⟩
        have HB3 := Lib.hid (HB2.out.trans (hb3.mono HB2.out.size))
        clear hct hb3
        go_wp2_with fail
        go_ret
        exact ⟨by rw [← HR2.out]; rfl, HB3.out⟩
      · have HR2 : Hid (v = r) := Lib.hid (by rw [← HRr.out, if_pos hh])
        go_wp2_with fail
        go_ret
        exact ⟨by rw [← HR2.out]; rfl, HB2.out⟩
end Go.Proofs.YtdfghcbojbbgcaaDoor.Fl
