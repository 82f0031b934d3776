/-
  The document's lexer: keywords, operators, blanks and notes.
-/
import Derived.Test.YtmdkneollidkfaaGreatDoorLyP
import Derived.Test.YtmdkneollidkfaaGreatDoorCdA
import Derived.Laws.IdiomStrings
import Derived.Test.YtmdkneollidkfaaGreatDoorLxN
namespace Go.Proofs.YtmdkneollidkfaaGreatDoor.Fl
open Go.RowKit

set_option maxHeartbeats 1000000 in
theorem rkeywords_any (s : ByteArray) (p : Nat) (w : World) (hs : s.size ≤ 16777216) (hp : p ≤ s.size) :
    Calls Tryz.prog 79 #[.string s, .int .i64 (p : Int)] w fun e w' => e = .returned (.int .i64 (joinW s p : Int)) ∧ w = w' := by
  obtain ⟨r, hr⟩ : ∃ r, joinW s p = r := ⟨_, rfl⟩
  rw [hr]
  have HR := Lib.hid hr
  clear hr
  go_enter Tryz.func79, Tryz.ntmps79
  go_wp2_with fail
  go_loopw [1] (fun v wr => ∃ q : Nat, q ≤ s.size ∧ v = .int .i64 (q : Int) ∧ Hid (joinW s q = r) ∧ w = wr) (fun v _ => s.size - (intOf v).toNat)
  case atStart => exact ⟨p, hp, rfl, HR, rfl⟩
  case round =>
    obtain ⟨q, hq, rfl, HQ, rfl⟩ := hrel
    have hk := rkeyword_any s q w hs hq
    have hle := keyR_le hq
    by_cases hlt : q < keyR s q
    · have HS := Lib.hid ((join_go hq hlt).symm.trans HQ.out)
      generalize keyR s q = q' at *
      go_wp2_with fail
      refine hk.mono ?_
      rintro e w' ⟨rfl, rfl⟩
      go_wp2_with fail
      refine hk.mono ?_
      rintro e w' ⟨rfl, rfl⟩
      clear hk
      go_wp2_with fail
      go_roundw
      case rel => exact ⟨q', hle.2, rfl, HS, trivial⟩
      case measure => simp [intOf]; omega
    · have HS := Lib.hid ((join_no hq hlt).symm.trans HQ.out)
      generalize keyR s q = q' at *
      have e : q' = q := by omega
      subst e
      go_wp2_with fail
      refine hk.mono ?_
      rintro e w' ⟨rfl, rfl⟩
      clear hk
      go_wp2_with fail
      go_ret
      exact ⟨by rw [← HS.out]; rfl, rfl⟩
set_option maxHeartbeats 1000000 in
theorem roper_any (s : ByteArray) (p : Nat) (w : World) (hs : s.size ≤ 16777216) (hp : p ≤ s.size) :
    Calls Tryz.prog 81 #[.string s, .int .i64 (p : Int)] w fun e w' => e = .returned (.int .i64 ((p + opF s p 2 : Nat) : Int)) ∧ w = w' := by
  obtain ⟨r, hr⟩ : ∃ r, opF s p 2 = r := ⟨_, rfl⟩
  rw [hr]
  have HR := Lib.hid ((opF_eq s p hp).symm.trans hr)
  clear hr
  go_enter Tryz.func81, Tryz.ntmps81
  by_cases h1 : p < s.size
  case neg =>
    have HE := Lib.hid (show r = 0 by rw [← HR.out, lookB_no (by omega)]; rfl)
    clear HR
    go_wp2_with fail
    go_ret
    exact ⟨by rw [HE.out]; rfl, rfl⟩
  rw [lookB_at h1] at HR
  have hdc : decide (s.size ≤ p) = false := decide_eq_false (by omega)
  have hb := s[p].toNat_lt
  by_cases h2 : s[p].toNat = 124
  · have HE := Lib.hid (HR.out.symm.trans (if_pos h2))
    have h2b : ((s[p].toNat : Int) == 124) = true := by rw [beq_iff_eq]; omega
    clear HR h2
    go_wp2_with fail
    go_ret
    exact ⟨by rw [HE.out]; rfl, rfl⟩
  have HR1 := Lib.hid (HR.out.symm.trans (if_neg h2))
  have h2b : ((s[p].toNat : Int) == 124) = false := by rw [beq_eq_false_iff_ne]; omega
  have ho := roper_is s[p].toNat w hb
  clear HR h2
  cases hv : operN s[p].toNat
  · rw [hv] at ho
    have HE := Lib.hid (HR1.out.trans (if_pos hv))
    go_wp2_with fail
    refine ho.mono ?_
    rintro e w' ⟨rfl, rfl⟩
    clear ho
    go_wp2_with fail
    go_ret
    exact ⟨by rw [HE.out]; rfl, rfl⟩
  rw [hv] at ho
  have HR2 := Lib.hid (HR1.out.trans (if_neg (by rw [hv]; decide)))
  clear HR1
  by_cases h3 : p + 1 < s.size
  case neg =>
    have HE := Lib.hid (show r = 1 by rw [HR2.out, lookB_no (by omega), if_neg (fun h => by cases h.1)])
    clear HR2
    go_wp2_with fail
    refine ho.mono ?_
    rintro e w' ⟨rfl, rfl⟩
    clear ho
    go_wp2_with fail
    go_ret
    exact ⟨by rw [HE.out]; rfl, rfl⟩
  have hb2 := s[p + 1].toNat_lt
  have ho2 := roper_is s[p + 1].toNat w hb2
  have HR3 := Lib.hid (show r = if operN s[p + 1].toNat = true ∧ s[p + 1].toNat ≠ 45 then 2 else 1 by rw [HR2.out, lookB_at h3])
  clear HR2
  cases hv2 : operN s[p + 1].toNat
  · rw [hv2] at ho2
    have HE := Lib.hid (HR3.out.trans (if_neg (fun h => by rw [hv2] at h; cases h.1)))
    go_wp2_with fail
    refine ho.mono ?_
    rintro e w' ⟨rfl, rfl⟩
    clear ho
    go_wp2_with fail
    refine ho2.mono ?_
    rintro e w' ⟨rfl, rfl⟩
    clear ho2
    go_wp2_with fail
    go_ret
    exact ⟨by rw [HE.out]; rfl, rfl⟩
  rw [hv2] at ho2
  by_cases h4 : s[p + 1].toNat = 45
  · have HE := Lib.hid (HR3.out.trans (if_neg (fun h => h.2 h4)))
    have h4b : ((s[p + 1].toNat : Int) != 45) = false := by rw [bne_eq_false_iff_eq]; omega
    clear HR3 h4
    go_wp2_with fail
    refine ho.mono ?_
    rintro e w' ⟨rfl, rfl⟩
    clear ho
    go_wp2_with fail
    refine ho2.mono ?_
    rintro e w' ⟨rfl, rfl⟩
    clear ho2
    go_wp2_with fail
    go_ret
    exact ⟨by rw [HE.out]; rfl, rfl⟩
  · have HE := Lib.hid (HR3.out.trans (if_pos ⟨hv2, h4⟩))
    have h4b : ((s[p + 1].toNat : Int) != 45) = true := by rw [bne_iff_ne]; omega
    clear HR3 h4
    go_wp2_with fail
    refine ho.mono ?_
    rintro e w' ⟨rfl, rfl⟩
    clear ho
    go_wp2_with fail
    refine ho2.mono ?_
    rintro e w' ⟨rfl, rfl⟩
    clear ho2
    go_wp2_with fail
    go_ret
    exact ⟨by rw [HE.out]; rfl, rfl⟩
/-- what Skip answers -/
def skV (r : Nat ⊕ Nat) : Value := match r with
  | .inl q => .tuple #[.int .i64 (q : Int), .bool true]
  | .inr q => .tuple #[.int .i64 (q : Int), .bool false]
end Go.Proofs.YtmdkneollidkfaaGreatDoor.Fl

/-
  The document's lexer: texts between quotes, both ways.
-/
namespace Go.Proofs.YtmdkneollidkfaaGreatDoor.Fl
open Go.RowKit

theorem conv_back {w : World} {B : Nat} {A : Option Addr} {xs : List UInt8} (c : Nat) (hr : Rd w B A (cb xs)) : (convert 79 9 (.slice A xs.length c)).run Tryz.prog w = .ok (.string (mkB xs)) w := by
  rcases hr with h | ⟨b, off, rfl, _, hc⟩
  · have h1 : xs = [] := by
      have := congrArg List.length h
      rw [cbC_len] at this
      exact List.eq_nil_of_length_eq_zero this
    subst h1
    have h0 := run_convert_bytes_string (P := Tryz.prog) w 79 9 5 A 0 c Tryz.underlying79 Tryz.underlying5 Tryz.underlying9
    rw [show ([] : List UInt8).length = 0 from rfl, h0]
    cases A <;> simp [Conv.bytesToString, loadCells] <;> rfl
  · refine run_convert_bytes_back w 79 9 5 ⟨b, off, none⟩ c xs Tryz.underlying79 Tryz.underlying5 Tryz.underlying9 (fun j hj => ?_)
    have e : (⟨b, off, none⟩ : Addr).add j = ⟨b, off + j, none⟩ := by unfold Addr.add; split <;> simp_all
    rw [e]
    exact hc j _ (by simp [cb, List.getElem?_map, List.getElem?_eq_getElem hj])
def TxtPost (s : ByteArray) (p : Nat) (r : Option (List UInt8 × Nat)) (w : World) (e : Ending) (w' : World) : Prop :=
  Below w.heap.size w w' ∧ ((r = none ∧ e = .returned (.tuple #[.string ⟨#[]⟩, .int .i64 (p : Int), .bool false])) ∨ ∃ t q, r = some (t, q) ∧ p + 1 < q ∧ q ≤ s.size ∧ t.length ≤ s.size ∧ e = .returned (.tuple #[.string (mkB t), .int .i64 (q : Int), .bool true]))
theorem dbl_app : ∀ (l : List UInt8) (c : UInt8), dbl (l ++ [c]) = dbl l ++ (if c = 39 then [39, 39] else [c])
  | [], c => by
    show (if c = 39 then 39 :: 39 :: dbl [] else c :: dbl []) = [] ++ _
    split <;> rfl
  | d :: l, c => by
    rw [List.cons_append, dbl, dbl, dbl_app l c]
    split <;> rfl
end Go.Proofs.YtmdkneollidkfaaGreatDoor.Fl

/-
  The document's lexer: what a # is with.
-/
namespace Go.Proofs.YtmdkneollidkfaaGreatDoor.Fl
open Go.RowKit

/-- how a symbol's word is found -/
theorem sym_letter {s : ByteArray} {q : Nat} (hq : q ≤ s.size) (h : letterN (lookB s q) = true) : joinR s q ≠ q ∧ ((joinW s q ≠ q ∧ joinW s q = joinR s q) ∨ (joinW s q = q ∧ nameN s q = joinR s q)) := by
  have hlt := namedR_lt hq h
  have hle := (namedR_le hq).2
  unfold joinR
  by_cases hk : (namedR s q).1 = 2
  · have hkr : keyR s q = (namedR s q).2 := by rw [keyR_named hq, if_pos ⟨h, hk⟩]
    have hgo := join_go hq (by rw [hkr]; exact hlt)
    have := (joinW_le s (namedR s q).2 hle).1
    rw [hkr] at hgo
    rw [if_pos hk]
    exact ⟨by omega, .inl ⟨by omega, hgo⟩⟩
  · have hkr : keyR s q = q := by rw [keyR_named hq, if_neg (fun h => hk h.2)]
    rw [if_neg hk]
    refine ⟨by omega, .inr ⟨join_no hq (by omega), ?_⟩⟩
    unfold nameN
    rw [if_pos h]
    unfold namedR at hk ⊢
    split
    · next h2 => rw [if_pos h2] at hk; exact absurd rfl hk
    · rfl
theorem sym_other {s : ByteArray} {q : Nat} (hq : q ≤ s.size) (h : ¬ letterN (lookB s q) = true) : joinW s q = q ∧ nameN s q = q := by
  have hkr : keyR s q = q := by rw [keyR_named hq, if_neg (fun h2 => h h2.1)]
  refine ⟨join_no hq (by omega), ?_⟩
  unfold nameN
  rw [if_neg h]
end Go.Proofs.YtmdkneollidkfaaGreatDoor.Fl

/-
  The document's Parse of a text of any length.
-/
namespace Go.Proofs.YtmdkneollidkfaaGreatDoor.Fl
open Go.RowKit

theorem bs_headL (s : ByteArray) (h : 0 < s.size) : (sb s).head? = some s[0] := by rw [List.head?_eq_getElem?]; exact sb_at s 0 h
theorem bs_nilL (s : ByteArray) (h : s.size = 0) : sb s = [] := List.eq_nil_of_length_eq_zero (by rw [sb_len]; exact h)
theorem neg_bodyL {s : ByteArray} (h : 0 < s.size) (h0 : s[0] = 45) : isNeg (sb s) = true ∧ body (sb s) = (sb s).drop 1 := by
  have hh := bs_headL s h
  rw [h0] at hh
  refine ⟨by simp [isNeg, hh], ?_⟩
  unfold body; rw [if_pos hh]; exact List.drop_one.symm
theorem pos_bodyL {s : ByteArray} (h : 0 < s.size) (h0 : s[0] ≠ 45) : isNeg (sb s) = false ∧ body (sb s) = (sb s).drop 0 := by
  have hh := bs_headL s h
  refine ⟨by simp [isNeg, hh, h0], ?_⟩
  unfold body; rw [if_neg (by rw [hh]; simpa using h0)]; rfl
/-- the digits that were read, from place A up to k -/
def partP (s : ByteArray) (A k : Nat) : List UInt8 := ((sb s).take k).drop A
theorem part_startL (s : ByteArray) (A : Nat) : partP s A A = [] := by unfold partP; exact List.drop_eq_nil_of_le (List.length_take_le _ _)
theorem part_stepL (s : ByteArray) (A k : Nat) (hA : A ≤ k) (h : k < s.size) : partP s A (k + 1) = partP s A k ++ [s[k]] := by
  unfold partP
  rw [sb_take s k h, List.drop_append_of_le_length]
  rw [List.length_take, sb_len]; omega
theorem part_allL (s : ByteArray) (A : Nat) : partP s A s.size = (sb s).drop A := by unfold partP; rw [sb_all]
theorem part_badL {s : ByteArray} {A k : Nat} (hb : body (sb s) = (sb s).drop A) (hA : A ≤ k) (h : k < s.size) (hd : ¬ (48 ≤ (s[k].toNat : Int) ∧ (s[k].toNat : Int) ≤ 57)) : form (sb s) = false := by
  unfold form
  rw [Bool.and_eq_false_iff]
  left
  rw [Bool.eq_false_iff]
  intro ha
  rw [hb] at ha
  unfold allDig at ha
  rw [List.all_eq_true] at ha
  refine hd ((digL_iff _).1 (ha _ (List.mem_of_getElem? (i := k - A) ?_)))
  rw [List.getElem?_drop, show A + (k - A) = k by omega]
  exact sb_at s k h
theorem part_formL {s : ByteArray} {A : Nat} (hb : body (sb s) = (sb s).drop A) (h : A < s.size) (ha : allDig (partP s A s.size) = true) : form (sb s) = true := by
  rw [part_allL, ← hb] at ha
  unfold form
  rw [ha]
  have : (body (sb s)).length ≠ 0 := by rw [hb, List.length_drop, sb_len]; omega
  cases hl : body (sb s) with
  | nil => rw [hl] at this; exact absurd rfl this
  | cons c r => rfl
theorem all_snocL {l : List UInt8} {c : UInt8} (h : allDig l = true) (hc : isDig c = true) : allDig (l ++ [c]) = true := by
  unfold allDig at *; rw [List.all_append, h]; simp [hc]
theorem sat_snocL (l : List UInt8) (c : UInt8) : sat 0 (l ++ [c]) = satStep (sat 0 l) c := by unfold sat; rw [List.foldl_append]; rfl
theorem sat_endL {s : ByteArray} {A m : Nat} (hb : body (sb s) = (sb s).drop A) (h : m = sat 0 (partP s A s.size)) : Sat m (dv 0 (body (sb s))) := by
  rw [h, hb, part_allL]; exact sat_dv _ (.inl rfl)
attribute [irreducible] partP

end Go.Proofs.YtmdkneollidkfaaGreatDoor.Fl

/-
  The document's lexer: Next.
-/
namespace Go.Proofs.YtmdkneollidkfaaGreatDoor.Fl
open Go.RowKit

/-- the place where no mark stands -/
theorem marks_not (c : Nat) (h : c < 256) (hn : ∀ i : Fin 7, (marksL.getD i 0).toNat ≠ c) : Lib.indexByte marksL (UInt8.ofNat c) = -1 := by
  have key : ∀ n : Fin 256, (∀ i : Fin 7, (marksL.getD i 0).toNat ≠ n.1) → Lib.indexByte marksL (UInt8.ofNat n) = -1 := by decide +kernel
  exact key ⟨c, h⟩ hn
theorem marks_op : ∀ i : Fin 7, operN (marksL.getD i 0).toNat = false ∧ (marksL.getD i 0).toNat ≠ 124 ∧ Lib.indexByte marksL (UInt8.ofNat (marksL.getD i 0).toNat) = i := by decide +kernel
end Go.Proofs.YtmdkneollidkfaaGreatDoor.Fl
