/-
  Where a chunk ends, as the program looks for it.
-/
import Derived.Test.YtmdkneollidkfaaGreatDoorLzA
import Derived.Deep.RegionHeld3
import Derived.Sort.BigQuietIn
namespace Go.Proofs.YtmdkneollidkfaaGreatDoor.Fl
open Go.RowKit

/-- the place of the ! that ends a chunk -/
def endL (p : Nat) : List UInt8 → Option Nat
  | [] => none
  | [c] => if c = 33 then some p else none
  | c :: d :: l => if c = 33 then (if d = 33 then endL (p + 2) l else some p) else endL (p + 1) (d :: l)
/-- two of them are one -/
def unE : List UInt8 → List UInt8
  | [] => []
  | [c] => [c]
  | c :: d :: l => if c = 33 ∧ d = 33 then 33 :: unE l else c :: unE (d :: l)
def endV : Option Nat → Int
  | some q => (q : Int)
  | none => -1
theorem index_cons (c b : UInt8) (l : List UInt8) : Lib.indexByte (b :: l) c = if b = c then 0 else if Lib.indexByte l c = -1 then -1 else Lib.indexByte l c + 1 := by
  rw [Lib.indexByte]
  simp
theorem endL_no (p : Nat) (c : UInt8) (l : List UInt8) (h : c ≠ 33) : endL p (c :: l) = endL (p + 1) l := by
  cases l with
  | nil => simp [endL, h]
  | cons d l => rw [endL, if_neg h]
theorem endL_yes (p : Nat) (l : List UInt8) : endL p (33 :: l) = if Lib.hasPrefix (33 :: l) [33, 33] = true then endL (p + 2) (l.drop 1) else some p := by
  cases l with
  | nil => simp [endL, Lib.hasPrefix]
  | cons d l =>
    rw [endL, if_pos rfl]
    by_cases hd : d = 33
    · subst hd; simp [Lib.hasPrefix]
    · have hd' : ¬ (33 : UInt8) = d := fun e => hd e.symm
      rw [if_neg hd]
      simp [Lib.hasPrefix, hd']
theorem endL_index (l : List UInt8) : ∀ p, (Lib.indexByte l 33 = -1 → endL p l = none) ∧ (∀ k : Nat, Lib.indexByte l 33 = (k : Int) → k < l.length ∧ endL p l = if Lib.hasPrefix (l.drop k) [33, 33] = true then endL (p + k + 2) (l.drop (k + 2)) else some (p + k)) := by
  induction l with
  | nil => exact fun p => ⟨fun _ => rfl, fun k h => by simp [Lib.indexByte] at h⟩
  | cons b l ih =>
    intro p
    have hge := indexByte_ge 33 l
    rw [index_cons]
    by_cases hb : b = 33
    · subst hb
      rw [if_pos rfl]
      refine ⟨fun h => by omega, fun k h => ?_⟩
      have hk : k = 0 := by omega
      subst hk
      refine ⟨by simp, ?_⟩
      rw [endL_yes]
      simp
    · rw [if_neg hb, endL_no p b l hb]
      obtain ⟨h1, h2⟩ := ih (p + 1)
      refine ⟨fun h => h1 ?_, fun k h => ?_⟩
      · by_cases hq : Lib.indexByte l 33 = -1
        · exact hq
        · rw [if_neg hq] at h; omega
      · have hq : ¬ Lib.indexByte l 33 = -1 := fun hq => by rw [if_pos hq] at h; omega
        rw [if_neg hq] at h
        obtain ⟨j, hj⟩ : ∃ j : Nat, k = j + 1 := ⟨k - 1, by omega⟩
        subst hj
        obtain ⟨h3, h4⟩ := h2 j (by omega)
        refine ⟨by simpa using h3, ?_⟩
        rw [h4, List.drop_succ_cons, show j + 1 + 2 = (j + 2) + 1 by omega, List.drop_succ_cons, show p + 1 + j + 2 = p + (j + 1) + 2 by omega, show p + 1 + j = p + (j + 1) by omega]
theorem endOf_any (s : ByteArray) (w : World) (hs : s.size ≤ 16777216) :
    Calls Tryz.prog 83 #[.string s] w fun e w' => e = .returned (.int .i64 (endV (endL 0 (sb s)))) ∧ w = w' := by
  obtain ⟨r, hr⟩ : ∃ r, endL 0 (sb s) = r := ⟨_, rfl⟩
  rw [hr]
  have HR := Lib.hid hr
  clear hr
  go_enter Tryz.func83, Tryz.ntmps83
  go_wp2_with fail
  go_loopw [3] (fun v wr => ∃ p : Nat, p ≤ s.size ∧ v = .int .i64 (p : Int) ∧ Hid (endL p ((sb s).drop p) = r) ∧ w = wr) (fun v _ => s.size - (intOf v).toNat)
  case atStart => exact ⟨0, Nat.zero_le _, rfl, Lib.hid (by rw [List.drop_zero]; exact HR.out), rfl⟩
  case round =>
    clear HR
    obtain ⟨p, hp, rfl, HE, rfl⟩ := hrel
    have h1 := Tryz.strings_Index_one (s.extract p s.size) 33 w
    rw [show (s.extract p s.size).data.toList = (sb s).drop p from sb_tail s p] at h1
    obtain ⟨g1, g2⟩ := endL_index ((sb s).drop p) p
    have hge := indexByte_ge 33 ((sb s).drop p)
    obtain ⟨i, hi⟩ : ∃ i, Lib.indexByte ((sb s).drop p) 33 = i := ⟨_, rfl⟩
    rw [hi] at h1 g1 g2 hge
    clear hi
    have hl : ((sb s).drop p).length = s.size - p := by rw [List.length_drop, sb_len]
    by_cases hneg : i = -1
    · have HE2 := Lib.hid (HE.out.symm.trans (g1 hneg))
      subst hneg
      clear g1 g2 hge hl
      go_wp2_with fail
      refine h1.mono ?_
      rintro e w' ⟨rfl, rfl⟩
      go_wp2_with fail
      go_ret
      exact ⟨by rw [HE2.out]; rfl, rfl⟩
    obtain ⟨k, rfl⟩ : ∃ k : Nat, i = (k : Int) := ⟨i.toNat, by omega⟩
    obtain ⟨g3, g4⟩ := g2 k rfl
    rw [hl] at g3
    have h2 := Tryz.strings_HasPrefix (s.extract (p + k) s.size) ⟨#[33, 33]⟩ w
    rw [show (s.extract (p + k) s.size).data.toList = (sb s).drop (p + k) from sb_tail s (p + k)] at h2
    rw [List.drop_drop, List.drop_drop] at g4
    obtain ⟨t, ht⟩ : ∃ t, Lib.hasPrefix ((sb s).drop (p + k)) [33, 33] = t := ⟨_, rfl⟩
    rw [show (⟨#[33, 33]⟩ : ByteArray).data.toList = [33, 33] from rfl, ht] at h2
    rw [ht] at g4
    have HT := Lib.hid ht
    have HE2 := Lib.hid (HE.out.symm.trans g4)
    have hk0 : ¬ ((k : Int) < 0) := by omega
    have HP := Lib.hid (And.intro hp g3)
    have hpk : p + k ≤ s.size := by omega
    clear g1 g2 g4 hge hl hneg ht HE
    go_wp2_with fail
    refine h1.mono ?_
    rintro e w' ⟨rfl, rfl⟩
    clear h1
    cases t
    · go_wp2_with (first | (go_at_call 117; refine h2.mono ?_; rintro e w' ⟨rfl, rfl⟩))
      go_ret
      exact ⟨by rw [HE2.out]; rfl, rfl⟩
    · have hp2 : p + k + 2 ≤ s.size := by
        have h5 := HT.out
        rcases Nat.lt_or_ge s.size (p + k + 2) with h6 | h6
        · have h7 : ((sb s).drop (p + k)).length ≤ 1 := by rw [List.length_drop, sb_len]; omega
          match hm : (sb s).drop (p + k), h7 with
          | [], _ => rw [hm] at h5; simp [Lib.hasPrefix] at h5
          | [c], _ => rw [hm] at h5; simp [Lib.hasPrefix] at h5
          | _ :: _ :: _, h7 => simp at h7
        · exact h6
      have HE3 := Lib.hid (show endL (p + k + 2) ((sb s).drop (p + k + 2)) = r by rw [HE2.out, if_pos rfl, Nat.add_assoc])
      clear HT HE2
      go_wp2_with (first | (go_at_call 117; refine h2.mono ?_; rintro e w' ⟨rfl, rfl⟩))
      go_roundw
      case rel => exact ⟨p + k + 2, hp2, rfl, HE3, trivial⟩
      case measure => simp [intOf]; omega
end Go.Proofs.YtmdkneollidkfaaGreatDoor.Fl

/-
  Two ! are one: as the program has it, and as the document has it.
-/
namespace Go.Proofs.YtmdkneollidkfaaGreatDoor.Fl
open Go.RowKit

/-- one ! becomes two -/
def dblE : List UInt8 → List UInt8
  | [] => []
  | c :: l => if c = 33 then 33 :: 33 :: dblE l else c :: dblE l
theorem unE_skip (c : UInt8) (l : List UInt8) (h : ([33, 33] : List UInt8).isPrefixOf (c :: l) = false) : unE (c :: l) = c :: unE l := by
  cases l with
  | nil => rfl
  | cons d l =>
    rw [unE]
    split
    · next hc =>
      obtain ⟨rfl, rfl⟩ := hc
      simp [List.isPrefixOf] at h
    · rfl
theorem unE_index : ∀ l : List UInt8, (Lib.index l [33, 33] = -1 → unE l = l) ∧ (∀ i : Nat, Lib.index l [33, 33] = i → unE l = l.take i ++ 33 :: unE (l.drop (i + 2)))
  | [] => ⟨fun _ => rfl, fun i h => by simp [Lib.index] at h⟩
  | c :: l => by
    obtain ⟨h1, h2⟩ := unE_index l
    cases hp : ([33, 33] : List UInt8).isPrefixOf (c :: l)
    · rw [Lib.index, hp, unE_skip c l hp]
      rcases Lib.index_spec l [33, 33] with ⟨e, _⟩ | ⟨j, e, _⟩
      · rw [e]
        exact ⟨fun _ => by rw [h1 e], fun i h => by simp at h⟩
      · rw [e]
        have ej : ((j : Int) == -1) = false := by simp
        rw [ej]
        refine ⟨fun h => by simp at h; omega, fun i h => ?_⟩
        have hi : i = j + 1 := by simp at h; omega
        subst hi
        rw [h2 j e, List.take_succ_cons, show j + 1 + 2 = (j + 2) + 1 by omega, List.drop_succ_cons]
        rfl
    · rw [Lib.index, hp]
      refine ⟨fun h => by simp at h, fun i h => ?_⟩
      have hi : i = 0 := by simp at h; omega
      subst hi
      cases l with
      | nil => simp [List.isPrefixOf] at hp
      | cons d l =>
        simp [List.isPrefixOf] at hp
        obtain ⟨e1, e2⟩ := hp
        subst e1 e2
        rw [unE, if_pos ⟨rfl, rfl⟩]; rfl
theorem dblE_index : ∀ l : List UInt8, (Lib.index l [33] = -1 → dblE l = l) ∧ (∀ i : Nat, Lib.index l [33] = i → dblE l = l.take i ++ (33 :: 33 :: dblE (l.drop (i + 1))))
  | [] => ⟨fun _ => rfl, fun i h => by simp [Lib.index] at h⟩
  | c :: l => by
    obtain ⟨h1, h2⟩ := dblE_index l
    cases hp : ([33] : List UInt8).isPrefixOf (c :: l)
    · have hc : c ≠ 33 := fun e => by subst e; simp [List.isPrefixOf] at hp
      rw [Lib.index, hp, dblE, if_neg hc]
      rcases Lib.index_spec l [33] with ⟨e, _⟩ | ⟨j, e, _⟩
      · rw [e]
        exact ⟨fun _ => by rw [h1 e], fun i h => by simp at h⟩
      · rw [e]
        have ej : ((j : Int) == -1) = false := by simp
        rw [ej]
        refine ⟨fun h => by simp at h; omega, fun i h => ?_⟩
        have hi : i = j + 1 := by simp at h; omega
        subst hi
        rw [h2 j e, List.take_succ_cons, List.drop_succ_cons]
        rfl
    · rw [Lib.index, hp]
      refine ⟨fun h => by simp at h, fun i h => ?_⟩
      have hi : i = 0 := by simp at h; omega
      subst hi
      have hc : c = 33 := by simp [List.isPrefixOf] at hp; exact hp.symm
      subst hc
      rw [dblE, if_pos rfl]; rfl
theorem replace_unE : ∀ (n : Nat) (l : List UInt8), l.length ≤ n → Lib.replaceK [33, 33] [33] (Lib.count l [33, 33]) l = unE l
  | n, l, hn => by
    rcases Lib.index_spec l [33, 33] with ⟨e, _⟩ | ⟨i, e, _⟩
    · rw [Lib.count_miss e, (unE_index l).1 e]; rfl
    · have hr := Lib.index_room l [33, 33] (by rw [e]; omega)
      rw [e] at hr
      simp at hr
      rw [Lib.count_hit (by simp) e, Nat.add_comm, Lib.replaceK_hit _ _ _ l i e, (unE_index l).2 i e]
      show _ ++ Lib.replaceK _ _ (Lib.count (l.drop (i + 2)) _) (l.drop (i + 2)) = _
      cases n with
      | zero => omega
      | succ n => rw [replace_unE n (l.drop (i + 2)) (by rw [List.length_drop]; omega)]; simp
theorem replace_dblE : ∀ (n : Nat) (l : List UInt8), l.length ≤ n → Lib.replaceK [33] [33, 33] (Lib.count l [33]) l = dblE l
  | n, l, hn => by
    rcases Lib.index_spec l [33] with ⟨e, _⟩ | ⟨i, e, _⟩
    · rw [Lib.count_miss e, (dblE_index l).1 e]; rfl
    · have hr := Lib.index_room l [33] (by rw [e]; omega)
      rw [e] at hr
      simp at hr
      rw [Lib.count_hit (by simp) e, Nat.add_comm, Lib.replaceK_hit _ _ _ l i e, (dblE_index l).2 i e]
      show _ ++ Lib.replaceK _ _ (Lib.count (l.drop (i + 1)) _) (l.drop (i + 1)) = _
      cases n with
      | zero => omega
      | succ n => rw [replace_dblE n (l.drop (i + 1)) (by rw [List.length_drop]; omega)]; simp
theorem unE_any (s : ByteArray) (w : World) (hs : s.size ≤ 16777216) (hm : MaxAt w) :
    Calls Tryz.prog 53 #[.string s, .string ⟨#[33, 33]⟩, .string ⟨#[33]⟩] w fun e w' => e = .returned (.string ⟨(unE (sb s)).toArray⟩) ∧ Below w.heap.size w w' := by
  obtain ⟨m, hm⟩ := hm
  have h := replaceAll_any s ⟨#[33, 33]⟩ ⟨#[33]⟩ m w hs hm (by decide) (by decide) (by decide) (by decide) (by decide) fun w' hm' => Tryz.strings_Count s ⟨#[33, 33]⟩ m w' (by omega) hm' (by decide)
  rw [show Lib.countB s ⟨#[33, 33]⟩ = Lib.count (sb s) [33, 33] from rfl, show sb ⟨#[33, 33]⟩ = [33, 33] from rfl, show sb ⟨#[33]⟩ = [33] from rfl, replace_unE _ _ (Nat.le_refl _)] at h
  exact h
theorem dblE_any (s : ByteArray) (w : World) (hs : s.size ≤ 16777216) (hm : MaxAt w) :
    Calls Tryz.prog 53 #[.string s, .string ⟨#[33]⟩, .string ⟨#[33, 33]⟩] w fun e w' => e = .returned (.string ⟨(dblE (sb s)).toArray⟩) ∧ Below w.heap.size w w' := by
  obtain ⟨m, hm⟩ := hm
  have h := replaceAll_any s ⟨#[33]⟩ ⟨#[33, 33]⟩ m w hs hm (by decide) (by decide) (by decide) (by decide) (by decide) fun w' hm' => by
    have := Tryz.strings_Count_one s 33 w'
    rw [show Lib.countByte s.data.toList 33 = Lib.countB s ⟨#[33]⟩ from (Lib.count_one 33 _).symm] at this
    exact this
  rw [show Lib.countB s ⟨#[33]⟩ = Lib.count (sb s) [33] from rfl, show sb ⟨#[33, 33]⟩ = [33, 33] from rfl, show sb ⟨#[33]⟩ = [33] from rfl, replace_dblE _ _ (Nat.le_refl _)] at h
  exact h
theorem unE_no (c : UInt8) (l : List UInt8) (h : c ≠ 33) : unE (c :: l) = c :: unE l := by
  cases l with
  | nil => rfl
  | cons d l => rw [unE, if_neg (fun e => h e.1)]
theorem endL_ge (n : Nat) : ∀ (l : List UInt8) (p q : Nat), l.length ≤ n → endL p l = some q → p ≤ q ∧ q < p + l.length := by
  induction n with
  | zero =>
    intro l p q h he
    have : l = [] := List.eq_nil_of_length_eq_zero (by omega)
    subst this
    cases he
  | succ n ih =>
    intro l p q h he
    match l, h with
    | [], _ => cases he
    | [c], _ =>
      rw [endL] at he
      split at he
      · injection he with he; simp; omega
      · cases he
    | c :: d :: l, h =>
      simp only [List.length_cons] at h ⊢
      rw [endL] at he
      split at he
      · split at he
        · have := ih l (p + 2) q (by omega) he; omega
        · injection he with he; omega
      · have := ih (d :: l) (p + 1) q (by simp; omega) he; simp only [List.length_cons] at this; omega
/-- the document's chunk in the program's words -/
theorem chB_endL (n : Nat) : ∀ (l : List UInt8) (p : Nat) (acc : List UInt8), l.length ≤ n → chB p acc l = match endL p l with | some q => (acc ++ unE (l.take (q - p)), q, true) | none => (acc ++ unE l, p + l.length, false) := by
  induction n with
  | zero =>
    intro l p acc h
    have : l = [] := List.eq_nil_of_length_eq_zero (by omega)
    subst this
    simp [chB, endL, unE]
  | succ n ih =>
    intro l p acc h
    match l, h with
    | [], _ => simp [chB, endL, unE]
    | [c], _ =>
      rw [chB, endL]
      split
      · simp [unE]
      · simp [unE]
    | c :: d :: l, h =>
      simp only [List.length_cons] at h
      rw [chB, endL]
      by_cases hc : c = 33
      · rw [if_pos hc, if_pos hc]
        by_cases hd : d = 33
        · rw [if_pos hd, if_pos hd, ih l (p + 2) (acc ++ [33]) (by omega)]
          cases he : endL (p + 2) l with
          | none => simp [unE, hc, hd]; omega
          | some q =>
            have h1 := endL_ge _ l (p + 2) q (Nat.le_refl _) he
            obtain ⟨k, rfl⟩ : ∃ k, q = p + 2 + k := ⟨q - (p + 2), by omega⟩
            dsimp only
            rw [show p + 2 + k - (p + 2) = k by omega, show p + 2 + k - p = k + 2 by omega]
            simp [unE, hc, hd]
        · rw [if_neg hd, if_neg hd]
          simp [unE]
      · rw [if_neg hc, if_neg hc, ih (d :: l) (p + 1) (acc ++ [c]) (by simp; omega)]
        cases he : endL (p + 1) (d :: l) with
        | none => simp [unE_no c (d :: l) hc]; omega
        | some q =>
          have h1 := endL_ge _ (d :: l) (p + 1) q (Nat.le_refl _) he
          obtain ⟨k, rfl⟩ : ∃ k, q = p + 1 + k := ⟨q - (p + 1), by omega⟩
          dsimp only
          rw [show p + 1 + k - (p + 1) = k by omega, show p + 1 + k - p = k + 1 by omega, List.take_succ_cons]
          simp [unE_no c _ hc]
theorem unE_app (n : Nat) : ∀ (l : List UInt8) (c : UInt8), l.length ≤ n → c ≠ 33 → unE (l ++ [c]) = unE l ++ [c] := by
  induction n with
  | zero =>
    intro l c h _
    have : l = [] := List.eq_nil_of_length_eq_zero (by omega)
    subst this
    rfl
  | succ n ih =>
    intro l c h hc
    match l, h with
    | [], _ => rfl
    | [d], _ =>
      simp [unE, hc]
    | d :: d' :: l, h =>
      simp only [List.length_cons] at h
      rw [List.cons_append, List.cons_append, unE, unE]
      split
      · rw [ih l c (by omega) hc]; rfl
      · rw [← List.cons_append, ih (d' :: l) c (by simp; omega) hc]; rfl
theorem unE_last (n : Nat) : ∀ (l : List UInt8), l.length ≤ n → ∃ y, unE (l ++ [33]) = y ++ [33] := by
  induction n with
  | zero =>
    intro l h
    have : l = [] := List.eq_nil_of_length_eq_zero (by omega)
    subst this
    exact ⟨[], rfl⟩
  | succ n ih =>
    intro l h
    match l, h with
    | [], _ => exact ⟨[], rfl⟩
    | [d], _ =>
      show ∃ y, unE [d, 33] = _
      rw [unE]
      split
      · exact ⟨[], rfl⟩
      · exact ⟨[d], rfl⟩
    | d :: d' :: l, h =>
      simp only [List.length_cons] at h
      rw [List.cons_append, List.cons_append, unE]
      split
      · obtain ⟨y, hy⟩ := ih l (by omega)
        exact ⟨33 :: y, by rw [hy]; rfl⟩
      · obtain ⟨y, hy⟩ := ih (d' :: l) (by simp; omega)
        exact ⟨d :: y, by rw [← List.cons_append, hy]; rfl⟩
theorem trimR_nil : trimR [] = [] := rfl
theorem trimR_unE (l : List UInt8) : trimR (unE l) = unE (trimR l) := by
  obtain ⟨n, hn⟩ : ∃ n, l.length = n := ⟨_, rfl⟩
  induction n generalizing l with
  | zero =>
    have : l = [] := List.eq_nil_of_length_eq_zero hn
    subst this
    rfl
  | succ n ih =>
    have hne : l ≠ [] := fun e => by rw [e] at hn; simp at hn
    obtain ⟨x, c, rfl⟩ : ∃ x c, l = x ++ [c] := ⟨l.dropLast, l.getLast hne, (List.dropLast_concat_getLast hne).symm⟩
    have hx : x.length = n := by simpa using hn
    cases hb : blankN c.toNat
    · rw [trimR_stop hb]
      by_cases hc : c = 33
      · subst hc
        obtain ⟨y, hy⟩ := unE_last _ x (Nat.le_refl _)
        rw [hy, trimR_stop hb]
      · rw [unE_app _ x c (Nat.le_refl _) hc, trimR_stop hb]
    · have hc : c ≠ 33 := fun e => by rw [e] at hb; exact absurd hb (by decide)
      rw [trimR_blank hb, unE_app _ x c (Nat.le_refl _) hc, trimR_blank hb, ih x hx]
end Go.Proofs.YtmdkneollidkfaaGreatDoor.Fl

/-
  Where a byte of a text stands in the file.
-/
namespace Go.Proofs.YtmdkneollidkfaaGreatDoor.Fl
open Go.RowKit

def clampN (i : Int) (n : Nat) : Nat := (min (max i 0) (n : Int)).toNat
def placeV (t : ByteArray) (at_ i : Int) : Int := at_ + (clampN i t.size : Int) + (((sb t).take (clampN i t.size)).count 33 : Nat)
end Go.Proofs.YtmdkneollidkfaaGreatDoor.Fl
