/-
  The document's Decode: a number's amount, bytes as a number.
-/
import Derived.Test.YtdfghcbojbbgcaaDoorCeF
namespace Go.Proofs.YtdfghcbojbbgcaaDoor.Fl
open Go.RowKit

theorem valN_cons (b : UInt8) (l : List UInt8) (h : l.length ≤ 1) : valN (b :: l) = valN l * 256 + (b.toNat : Int) := by
  match l, h with
  | [], _ => show (b.toNat : Int) = 0 * 256 + _; omega
  | [c], _ => show (b.toNat : Int) + (c.toNat : Int) * 256 = (c.toNat : Int) * 256 + _; omega
theorem valN_lt : ∀ (bs : List UInt8), bs.length ≤ 2 → valN bs < ((256 ^ bs.length : Nat) : Int)
  | [], _ => by decide
  | [b], _ => by have := b.toNat_lt; show (b.toNat : Int) < 256; omega
  | [b, c], _ => by
    have := b.toNat_lt; have := c.toNat_lt
    have e : ((256 ^ 2 : Nat) : Int) = 65536 := by decide
    show (b.toNat : Int) + (c.toNat : Int) * 256 < ((256 ^ 2 : Nat) : Int)
    rw [e]; omega
  | _ :: _ :: _ :: _, h => by simp only [List.length_cons] at h; omega
/-- what 'get' answers -/
def rgetR (n v : Int) : Int := if n = -1 ∧ 128 ≤ v then v - 256 else if n = -2 ∧ 32768 ≤ v then v - 65536 else v
theorem rgetR_get (s : Nat) (hs : s ≤ 2) (la : Int) (hla : la = 0 ∨ (s = 1 ∧ la = -128) ∨ (s = 2 ∧ la = -32768)) (bs : List UInt8) (hb : bs.length = s) : rgetR (refA s la) (valN bs) = getN s la bs := by
  have h0 := valN_bd bs
  have h1 := valN_lt bs (by omega)
  rw [hb] at h1
  unfold rgetR getN refA hasC
  generalize valN bs = v at *
  simp only [Bool.and_eq_true, decide_eq_true_eq]
  have e0 : ((256 ^ 0 : Nat) : Int) = 1 := by decide
  have e1 : ((256 ^ 1 : Nat) : Int) = 256 := by decide
  have e2 : ((256 ^ 2 : Nat) : Int) = 65536 := by decide
  obtain rfl | rfl | rfl : s = 0 ∨ s = 1 ∨ s = 2 := by omega
  · rw [e0] at h1 ⊢
    rcases hla with rfl | ⟨h, rfl⟩ | ⟨h, rfl⟩
    all_goals (repeat' split) <;> omega
  · rw [e1] at h1 ⊢
    rcases hla with rfl | ⟨h, rfl⟩ | ⟨h, rfl⟩
    all_goals (repeat' split) <;> omega
  · rw [e2] at h1 ⊢
    rcases hla with rfl | ⟨h, rfl⟩ | ⟨h, rfl⟩
    all_goals (repeat' split) <;> omega
end Go.Proofs.YtdfghcbojbbgcaaDoor.Fl

