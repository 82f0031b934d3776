/-
  The document's Decode: a number's amount, bytes as a number.
-/
import Derived.Test.YtghnpmhidcfghaaDoorCeF
namespace Go.Proofs.YtghnpmhidcfghaaDoor.Fl
open Go.RowKit

theorem rsize_any (s : Nat) (hs : s ≤ 2) (la : Int) (w : World) :
    Calls Tryd.prog 22 #[.int .i64 (refA s la)] w fun e w' => e = .returned (.int .i64 (s : Int)) ∧ w = w' := by
  unfold refA
  by_cases h : la < 0
  · rw [if_pos h]
    obtain rfl | rfl | rfl : s = 0 ∨ s = 1 ∨ s = 2 := by omega
    all_goals
      go_enter Tryd.func22, Tryd.ntmps22
      go_wp2_with fail
      go_ret
      exact ⟨rfl, rfl⟩
  · rw [if_neg h]
    have h0 : ¬ ((s : Int) < 0) := by omega
    have h1 : (0 : Int) ≤ (s : Int) := by omega
    go_enter Tryd.func22, Tryd.ntmps22
    go_wp2_with fail
    go_ret
    exact ⟨rfl, rfl⟩
theorem valN_cons (b : UInt8) (l : List UInt8) (h : l.length ≤ 1) : valN (b :: l) = valN l * 256 + (b.toNat : Int) := by
  match l, h with
  | [], _ => show (b.toNat : Int) = 0 * 256 + _; omega
  | [c], _ => show (b.toNat : Int) + (c.toNat : Int) * 256 = (c.toNat : Int) * 256 + _; omega
theorem valN_lt : ∀ (bs : List UInt8), bs.length ≤ 2 → valN bs < ((256 ^ bs.length : Nat) : Int)
  | [], _ => by decide
  | [b], _ => by have := b.toNat_lt; show (b.toNat : Int) < 256; omega
  | [b, c], _ => by
    have := b.toNat_lt; have := c.toNat_lt
    have e : ((256 ^ 2 : Nat) : Int) = 65536 := by decide
    show (b.toNat : Int) + (c.toNat : Int) * 256 < ((256 ^ 2 : Nat) : Int)
    rw [e]; omega
  | _ :: _ :: _ :: _, h => by simp only [List.length_cons] at h; omega
/-- what 'get' answers -/
def rgetR (n v : Int) : Int := if n = -1 ∧ 128 ≤ v then v - 256 else if n = -2 ∧ 32768 ≤ v then v - 65536 else v
theorem rgetR_get (s : Nat) (hs : s ≤ 2) (la : Int) (hla : la = 0 ∨ (s = 1 ∧ la = -128) ∨ (s = 2 ∧ la = -32768)) (bs : List UInt8) (hb : bs.length = s) : rgetR (refA s la) (valN bs) = getN s la bs := by
  have h0 := valN_bd bs
  have h1 := valN_lt bs (by omega)
  rw [hb] at h1
  unfold rgetR getN refA hasC
  generalize valN bs = v at *
  simp only [Bool.and_eq_true, decide_eq_true_eq]
  have e0 : ((256 ^ 0 : Nat) : Int) = 1 := by decide
  have e1 : ((256 ^ 1 : Nat) : Int) = 256 := by decide
  have e2 : ((256 ^ 2 : Nat) : Int) = 65536 := by decide
  obtain rfl | rfl | rfl : s = 0 ∨ s = 1 ∨ s = 2 := by omega
  · rw [e0] at h1 ⊢
    rcases hla with rfl | ⟨h, rfl⟩ | ⟨h, rfl⟩
    all_goals (repeat' split) <;> omega
  · rw [e1] at h1 ⊢
    rcases hla with rfl | ⟨h, rfl⟩ | ⟨h, rfl⟩
    all_goals (repeat' split) <;> omega
  · rw [e2] at h1 ⊢
    rcases hla with rfl | ⟨h, rfl⟩ | ⟨h, rfl⟩
    all_goals (repeat' split) <;> omega
set_option maxHeartbeats 1000000 in
theorem rget_raw (n : Int) (hn0 : -3 ≤ n) (hn1 : n ≤ 3) (bs : List UInt8) (hb : bs.length ≤ 2) (A : Option Addr) (c B : Nat) (w : World) (hr : Rd w B A (cb bs)) (hc : bs.length ≤ c) :
    Calls Tryd.prog 23 #[.slice A bs.length c, .int .i64 n] w fun e w' => e = .returned (.int .i64 (rgetR n (valN bs))) ∧ w = w' := by
  have HR := Lib.hid hr
  have HV := Lib.hid (valN_bd bs)
  have HL := Lib.hid hb
  obtain ⟨V, hV⟩ : ∃ V, valN bs = V := ⟨_, rfl⟩
  have HVV := Lib.hid hV
  rw [hV]
  clear hr hb hV
  go_enter Tryd.func23, Tryd.ntmps23
  have hl0 : (bs.length : Int) ≤ 2 := by have := HL.out; omega
  go_wp2_with fail
  go_loopw [5, 6] (fun v5 v6 wr => ∃ (j : Nat), j ≤ bs.length ∧ v5 = .int .i64 (valN (bs.drop j)) ∧ v6 = .int .i64 ((j : Int) - 1) ∧ w = wr) (fun _ v6 _ => (intOf v6 + 1).toNat)
  case atStart => exact ⟨bs.length, Nat.le_refl _, by rw [List.drop_length]; rfl, rfl, rfl⟩
  case round =>
    obtain ⟨j, hj, rfl, rfl, rfl⟩ := hrel
    by_cases hlt : 0 < j
    · obtain ⟨j, rfl⟩ : ∃ j', j = j' + 1 := ⟨j - 1, by omega⟩
      obtain ⟨g, off, rfl, _, hcell⟩ := cbC_at HR.out (show j < bs.length by omega)
      have hvc := valN_cons bs[j] (bs.drop (j + 1)) (by rw [List.length_drop]; have := HL.out; omega)
      rw [← List.drop_eq_getElem_cons (show j < bs.length by omega)] at hvc
      have hvb := valN_bd (bs.drop (j + 1))
      have hvb2 : valN (bs.drop (j + 1)) < 256 := by
        have h1 := valN_lt (bs.drop (j + 1)) (by rw [List.length_drop]; have := HL.out; omega)
        rw [List.length_drop] at h1
        have : bs.length - (j + 1) ≤ 1 := by have := HL.out; omega
        have h2 : 256 ^ (bs.length - (j + 1)) ≤ 256 ^ 1 := Nat.pow_le_pow_right (by decide) this
        omega
      have hch := (bs[j]).toNat_lt
      have HVC := Lib.hid hvc
      obtain ⟨ch, hchh⟩ : ∃ ch, bs[j].toNat = ch := ⟨_, rfl⟩
      rw [hchh] at hcell hvc hch HVC
      generalize valN (bs.drop (j + 1)) = v at *
      clear hvc hchh
      have hj1 : ((j : Int) + 1 - 1) = (j : Int) := by omega
      go_wp2_with fail
      go_roundw
      case rel => exact ⟨j, by omega, by rw [HVC.out], rfl, trivial⟩
      case measure => simp [intOf] <;> omega
    · obtain rfl : j = 0 := by omega
      have hv := HV.out
      rw [List.drop_zero, HVV.out] at *
      by_cases h1 : n = -1
      · subst h1
        by_cases h2 : 128 ≤ V
        · have HE := Lib.hid (show rgetR (-1) V = V - 256 by unfold rgetR; rw [if_pos ⟨rfl, h2⟩])
          go_wp2_with fail
          go_ret
          exact ⟨by rw [HE.out]; rfl, rfl⟩
        · have HE := Lib.hid (show rgetR (-1) V = V by unfold rgetR; rw [if_neg (fun h => h2 h.2), if_neg (by omega)])
          go_wp2_with fail
          go_ret
          exact ⟨by rw [HE.out]; rfl, rfl⟩
      · have hb1 : (n == -1) = false := by rw [beq_eq_false_iff_ne]; exact h1
        by_cases h3 : n = -2
        · subst h3
          by_cases h2 : 32768 ≤ V
          · have HE := Lib.hid (show rgetR (-2) V = V - 65536 by unfold rgetR; rw [if_neg (by omega), if_pos ⟨rfl, h2⟩])
            go_wp2_with fail
            go_ret
            exact ⟨by rw [HE.out]; rfl, rfl⟩
          · have HE := Lib.hid (show rgetR (-2) V = V by unfold rgetR; rw [if_neg (by omega), if_neg (fun h => h2 h.2)])
            go_wp2_with fail
            go_ret
            exact ⟨by rw [HE.out]; rfl, rfl⟩
        · have hb2 : (n == -2) = false := by rw [beq_eq_false_iff_ne]; exact h3
          have HE := Lib.hid (show rgetR n V = V by unfold rgetR; rw [if_neg (fun h => h1 h.1), if_neg (fun h => h3 h.1)])
          clear h1 h3
          go_wp2_with fail
          go_ret
          exact ⟨by rw [HE.out]; rfl, rfl⟩
theorem rget_any (s : Nat) (hs : s ≤ 2) (la : Int) (hla : la = 0 ∨ (s = 1 ∧ la = -128) ∨ (s = 2 ∧ la = -32768)) (bs : List UInt8) (hb : bs.length = s) (A : Option Addr) (c B : Nat) (w : World) (hr : Rd w B A (cb bs)) (hc : s ≤ c) :
    Calls Tryd.prog 23 #[.slice A s c, .int .i64 (refA s la)] w fun e w' => e = .returned (.int .i64 (getN s la bs)) ∧ w = w' := by
  have h := rget_raw (refA s la) (by unfold refA; split <;> omega) (by unfold refA; split <;> omega) bs (by omega) A c B w hr (by omega)
  rw [rgetR_get s hs la hla bs hb, hb] at h
  exact h
end Go.Proofs.YtghnpmhidcfghaaDoor.Fl

