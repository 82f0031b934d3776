/-
  Events: the first byte of what is quoted, and all of them.
-/
import Derived.Test.YtlmelfakmllinaaEvN
import Derived.Deep.RegionHeld3
namespace Go.Proofs.Ytlmelfakmllinaa.Fl
open Go.RowKit

def digE : ByteArray := ⟨#[48, 49, 50, 51, 52, 53, 54, 55, 56, 57, 97, 98, 99, 100, 101, 102]⟩
theorem idx16 : ∀ n : Fin 16, Lib.indexByte digE.data.toList ((hexB n.val).toNat : Int).toNat.toUInt8 = (n.val : Int) := by decide +kernel
theorem or256 : ∀ n : Fin 256, bits BinOp.or IntKind.i64 (16 * ((n.val / 16 : Nat) : Int)) ((n.val % 16 : Nat) : Int) = (n.val : Int) := by decide +kernel
theorem indexE (n : Nat) (h : n < 16) (w : World) :
    Calls Try.prog 56 #[.string digE, .int .u8 ((hexB n).toNat : Int)] w fun e w' => e = .returned (.int .i64 (n : Int)) ∧ w = w' :=
  (Try.strings_IndexByte digE _ w).mono fun e w' ⟨h1, h2⟩ => ⟨by rw [h1, idx16 ⟨n, h⟩], h2.symm⟩
set_option maxRecDepth 100000 in
theorem first_plainE (s : ByteArray) (c : UInt8) (w : World) (h1 : 0 < s.size) (h0 : s[0] = c) (hp : c.toNat ≠ 92) :
    Calls Try.prog 50 #[.string s] w fun e w' => e = .returned (.tuple #[.int .u8 (c.toNat : Int), .int .i64 1]) ∧ Below w.heap.size w w' := by
  have hs : (0 : Int) < (s.size : Int) := by omega
  have hp' : ((c.toNat : Int) != 92) = true := by rw [bne_iff_ne]; omega
  go_enter Try.func50, Try.ntmps50
  go_wp2_with fail
  go_ret2
  exact ⟨rfl, Below.refl _ _⟩
set_option maxRecDepth 100000 in
set_option maxHeartbeats 4000000 in
theorem first_escE (s : ByteArray) (c : UInt8) (w : World) (h3 : 3 ≤ s.size) (h0 : s[0] = 92) (h1 : s[1] = hexB (c.toNat / 16)) (h2 : s[2] = hexB (c.toNat % 16)) :
    Calls Try.prog 50 #[.string s] w fun e w' => e = .returned (.tuple #[.int .u8 (c.toNat : Int), .int .i64 3]) ∧ Below w.heap.size w w' := by
  have hc := c.toNat_lt
  have hs : (0 : Int) < (s.size : Int) := by omega
  have hs1 : (1 : Int) < (s.size : Int) := by omega
  have hs2 : (2 : Int) < (s.size : Int) := by omega
  have hs3 : ¬ (s.size : Int) < 3 := by omega
  have h92 : ((s[0].toNat : Int) != 92) = false := by rw [h0]; rfl
  have HH := Lib.hid (And.intro h1 h2)
  clear h0 h1 h2
  go_enter Try.func50, Try.ntmps50
  go_upto_region 3 with fail
  have hOr : Hid (bits BinOp.or IntKind.i64 (16 * ((c.toNat : Int) / 16)) ((c.toNat : Int) % 16) = (c.toNat : Int)) := Lib.hid (by
    have h : bits BinOp.or IntKind.i64 (16 * ((c.toNat / 16 : Nat) : Int)) ((c.toNat % 16 : Nat) : Int) = (c.toNat : Int) := or256 ⟨c.toNat, hc⟩
    rwa [show ((c.toNat / 16 : Nat) : Int) = (c.toNat : Int) / 16 by omega, show ((c.toNat % 16 : Nat) : Int) = (c.toNat : Int) % 16 by omega] at h)
  refine wp_region_noPanic ?_
  refine wp_region_held_drew (S := fun _ => True) (by kernel_rfl) trivial (fun hHeld => ?_)
  refine wpAnyH_take (i := 0) (v := ?_) (by first | (simp only [List.getElem?_toArray, List.getElem?_cons_succ, List.getElem?_cons_zero]; rfl) | rfl) (by kernel_rfl) (by kernel_rfl) (by kernel_rfl) (fun _ _ _ h => h) (Or.inl ⟨by rfl, ?_⟩) (by assumption) ?_
  rotate_left 1
  · (intro w' hSw; (try dsimp only at hSw); go_simp; (try with_reducible rfl))
  try simp only [Act.put, List.setIfInBounds_toArray, List.set_cons_zero, List.set_cons_succ]
  refine wpAnyH_take (i := 1) (v := .int .u8 ((hexB (c.toNat / 16)).toNat : Int)) (by first | (simp only [List.getElem?_toArray, List.getElem?_cons_succ, List.getElem?_cons_zero]; rfl) | rfl) (by kernel_rfl) (by kernel_rfl) (by kernel_rfl) (fun _ _ _ h => h) (Or.inl ⟨by rfl, ?_⟩) (by assumption) ?_
  · (intro w' hSw; (try dsimp only at hSw); go_simp; rw [HH.out.1])
  try simp only [Act.put, List.setIfInBounds_toArray, List.set_cons_zero, List.set_cons_succ]
  refine wpAnyH_take (i := 4) (v := ?_) (by first | (simp only [List.getElem?_toArray, List.getElem?_cons_succ, List.getElem?_cons_zero]; rfl) | rfl) (by kernel_rfl) (by kernel_rfl) (by kernel_rfl) (fun _ _ _ h => h) (Or.inl ⟨by rfl, ?_⟩) (by assumption) ?_
  rotate_left 1
  · (intro w' hSw; (try dsimp only at hSw); go_simp; (try with_reducible rfl))
  try simp only [Act.put, List.setIfInBounds_toArray, List.set_cons_zero, List.set_cons_succ]
  refine wpAnyH_take (i := 5) (v := .int .u8 ((hexB (c.toNat % 16)).toNat : Int)) (by first | (simp only [List.getElem?_toArray, List.getElem?_cons_succ, List.getElem?_cons_zero]; rfl) | rfl) (by kernel_rfl) (by kernel_rfl) (by kernel_rfl) (fun _ _ _ h => h) (Or.inl ⟨by rfl, ?_⟩) (by assumption) ?_
  · (intro w' hSw; (try dsimp only at hSw); go_simp; rw [HH.out.2])
  try simp only [Act.put, List.setIfInBounds_toArray, List.set_cons_zero, List.set_cons_succ]
  refine wpAnyH_ready (rs := [2]) (by kernel_rfl) (by simp) ?_
  refine AllReadyH.cons (by first | (simp only [List.getElem?_toArray, List.getElem?_cons_succ, List.getElem?_cons_zero]; rfl) | rfl) (fun K hK => ?_) AllReadyH.nil
  go_simp
  refine (indexE (c.toNat / 16) (by omega) _).mono ?_
  rintro e w2 ⟨rfl, rfl⟩
  dsimp only
  refine hK.out _ _ trivial (fun hHeld => ?_)
  clear hK K
  try simp only [Act.put, List.setIfInBounds_toArray, List.set_cons_zero, List.set_cons_succ]
  refine wpAnyH_take (i := 3) (v := .int .i64 (16 * ((c.toNat / 16 : Nat) : Int))) (by first | (simp only [List.getElem?_toArray, List.getElem?_cons_succ, List.getElem?_cons_zero]; rfl) | rfl) (by kernel_rfl) (by kernel_rfl) (by kernel_rfl) (fun _ _ _ h => h) (Or.inl ⟨by rfl, ?_⟩) (by assumption) ?_
  · (intro w' hSw; (try dsimp only at hSw); go_simp; (first | (rw [IntKind.wrap_i64]; omega) | omega))
  try simp only [Act.put, List.setIfInBounds_toArray, List.set_cons_zero, List.set_cons_succ]
  refine wpAnyH_ready (rs := [6]) (by kernel_rfl) (by simp) ?_
  refine AllReadyH.cons (by first | (simp only [List.getElem?_toArray, List.getElem?_cons_succ, List.getElem?_cons_zero]; rfl) | rfl) (fun K hK => ?_) AllReadyH.nil
  go_simp
  refine (indexE (c.toNat % 16) (by omega) _).mono ?_
  rintro e w2 ⟨rfl, rfl⟩
  dsimp only
  refine hK.out _ _ trivial (fun hHeld => ?_)
  clear hK K
  try simp only [Act.put, List.setIfInBounds_toArray, List.set_cons_zero, List.set_cons_succ]
  refine wpAnyH_take (i := 7) (v := .int .i64 (c.toNat : Int)) (by first | (simp only [List.getElem?_toArray, List.getElem?_cons_succ, List.getElem?_cons_zero]; rfl) | rfl) (by kernel_rfl) (by kernel_rfl) (by kernel_rfl) (fun _ _ _ h => h) (Or.inl ⟨by rfl, ?_⟩) (by assumption) ?_
  · (intro w' hSw; (try dsimp only at hSw); go_simp; exact hOr.out)
  try simp only [Act.put, List.setIfInBounds_toArray, List.set_cons_zero, List.set_cons_succ]
  refine wpAnyH_take (i := 8) (v := .int .u8 (c.toNat : Int)) (by first | (simp only [List.getElem?_toArray, List.getElem?_cons_succ, List.getElem?_cons_zero]; rfl) | rfl) (by kernel_rfl) (by kernel_rfl) (by kernel_rfl) (fun _ _ _ h => h) (Or.inl ⟨by rfl, ?_⟩) (by assumption) ?_
  · (intro w' hSw; (try dsimp only at hSw); go_simp; (first | (rw [IntKind.wrap_u8]; omega) | omega))
  try simp only [Act.put, List.setIfInBounds_toArray, List.set_cons_zero, List.set_cons_succ]
  refine wpAnyH_take (i := 9) (v := ?_) (by first | (simp only [List.getElem?_toArray, List.getElem?_cons_succ, List.getElem?_cons_zero]; rfl) | rfl) (by kernel_rfl) (by kernel_rfl) (by kernel_rfl) (fun _ _ _ h => h) (Or.inl ⟨by rfl, ?_⟩) (by assumption) ?_
  rotate_left 1
  · (intro w' hSw; (try dsimp only at hSw); go_simp; (try with_reducible rfl))
  try simp only [Act.put, List.setIfInBounds_toArray, List.set_cons_zero, List.set_cons_succ]
  refine wpAnyH_take (i := 10) (v := ?_) (by first | (simp only [List.getElem?_toArray, List.getElem?_cons_succ, List.getElem?_cons_zero]; rfl) | rfl) (by kernel_rfl) (by kernel_rfl) (by kernel_rfl) (fun _ _ _ h => h) (Or.inl ⟨by rfl, ?_⟩) (by assumption) ?_
  rotate_left 1
  · (intro w' hSw; (try dsimp only at hSw); go_simp; (try with_reducible rfl))
  try simp only [Act.put, List.setIfInBounds_toArray, List.set_cons_zero, List.set_cons_succ]
  refine wpAnyH_done (by kernel_rfl) ?_ _
  refine NoPanic.normal ?_
  go_wp2_with fail
  go_ret2
  exact ⟨rfl, (Below.refl _ _).drew⟩
end Go.Proofs.Ytlmelfakmllinaa.Fl
