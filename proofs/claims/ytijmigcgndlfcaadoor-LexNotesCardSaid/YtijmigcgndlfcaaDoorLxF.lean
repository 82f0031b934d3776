/-
  The lexer: the fixed text of the laws.
-/
import Derived.Test.YtijmigcgndlfcaaDoorLxI
namespace Go.Proofs.YtijmigcgndlfcaaDoor.Fl
open Go.RowKit

/-- x:=3 foo: #at:put: , 'it''s' -/
def fixB : ByteArray := ⟨#[120, 58, 61, 51, 32, 102, 111, 111, 58, 32, 35, 97, 116, 58, 112, 117, 116, 58, 32, 44, 32, 39, 105, 116, 39, 39, 115, 39]⟩
def fixL : List Tok := [(1, [120], 0, 0), (7, [], 0, 1), (3, [], 3, 3), (2, [102, 111, 111, 58], 0, 5), (5, [97, 116, 58, 112, 117, 116, 58], 0, 10), (6, [44], 0, 19), (4, [105, 116, 39, 115], 0, 21), (0, [], 0, 28)]
theorem allW_cons {s : ByteArray} {p k q p' : Nat} {t : List UInt8} {n : Int} {l : List Tok} (hp : p ≤ s.size) (h : tokR s p = .inl (k, t, n, q, p')) (hk : k ≠ 0) (hl : allW s p' = .inl l) : allW s p = .inl ((k, t, n, q) :: l) := by
  have h1 := (allW_go hp (tokR_in hp h) h hk []).2
  rw [preW_nil, hl] at h1
  exact h1
theorem fix_join : joinR fixB 11 = 18 := by
  unfold joinR
  rw [show namedR fixB 11 = (2, 14) from by decide +kernel]
  show joinW fixB 14 = 18
  rw [joinW.eq_def fixB 14, show namedR fixB 14 = (2, 18) from by decide +kernel]
  rw [dif_pos (by decide +kernel)]
  show joinW fixB 18 = 18
  rw [joinW.eq_def fixB 18, dif_neg (by decide +kernel)]
theorem fix_hash : hashR fixB 10 = .inl (5, [97, 116, 58, 112, 117, 116, 58], 18) := by
  unfold hashR
  rw [fix_join]
  decide +kernel
theorem fix0 : tokR fixB 0 = .inl (1, [120], 0, 0, 1) := by decide +kernel
theorem fix1 : tokR fixB 1 = .inl (7, [], 0, 1, 3) := by decide +kernel
theorem fix2 : tokR fixB 3 = .inl (3, [], 3, 3, 4) := by decide +kernel
theorem fix3 : tokR fixB 4 = .inl (2, [102, 111, 111, 58], 0, 5, 9) := by decide +kernel
theorem fix4 : tokR fixB 9 = .inl (5, [97, 116, 58, 112, 117, 116, 58], 0, 10, 18) := by
  have h : skipA none 9 ((sb fixB).drop 9) = .inl 10 := by decide +kernel
  unfold tokR
  rw [h]
  show tokAt fixB 10 = _
  unfold tokAt
  rw [fix_hash]
  decide +kernel
theorem fix5 : tokR fixB 18 = .inl (6, [44], 0, 19, 20) := by decide +kernel
theorem fix6 : tokR fixB 20 = .inl (4, [105, 116, 39, 115], 0, 21, 28) := by decide +kernel
theorem fix7 : tokR fixB 28 = .inl (0, [], 0, 28, 28) := by decide +kernel
theorem fix_all : allW fixB 0 = .inl fixL := allW_cons (by decide +kernel) fix0 (by decide) (allW_cons (by decide +kernel) fix1 (by decide) (allW_cons (by decide +kernel) fix2 (by decide) (allW_cons (by decide +kernel) fix3 (by decide) (allW_cons (by decide +kernel) fix4 (by decide) (allW_cons (by decide +kernel) fix5 (by decide) (allW_cons (by decide +kernel) fix6 (by decide) (allW_end fix7)))))))
end Go.Proofs.YtijmigcgndlfcaaDoor.Fl
