/-
  Images as bytes: one byte that is another one shows.
-/
import Derived.Test.YtahmljjjdoaahaaDoorPPut
import Derived.Test.YtahmljjjdoaahaaDoorPMath
import Derived.Test.YtahmljjjdoaahaaDoorPBits
import Derived.Lib.SlBytesConst
namespace Go.Proofs.YtahmljjjdoaahaaDoor.Fl
open Go.RowKit

theorem leNat_inj : ∀ {a b : List UInt8}, a.length = b.length → leNat a = leNat b → a = b
  | [], [], _, _ => rfl
  | [], _ :: _, h, _ => by simp at h
  | _ :: _, [], h, _ => by simp at h
  | c :: cs, d :: ds, h, e => by
    have hc := UInt8.toNat_lt c
    have hd := UInt8.toNat_lt d
    simp only [leNat] at e
    have e1 : c.toNat = d.toNat := by omega
    rw [UInt8.toNat_inj.1 e1, leNat_inj (by simpa using h) (by omega : leNat cs = leNat ds)]
theorem set_same_at {l : List UInt8} {i : Nat} {c : UInt8} (h : l.set i c = l) (hi : i < l.length) : l[i] = c := by
  have := congrArg (fun t => t[i]?) h
  simp only [List.getElem?_set_self hi, List.getElem?_eq_getElem hi] at this
  injection this with this
  exact this.symm
def imgOpen : List UInt8 := [70, 78, 68, 76, 1, 0, 0, 0]
/-- the bytes of an image, but for its sum -/
def imgBody (last root : Nat) (L : List Nat) : List UInt8 := imgOpen ++ (wb [L.length, last, root] ++ wb L)
def imgB (last root : Nat) (L : List Nat) : List UInt8 := imgBody last root L ++ le (upd 0 (imgBody last root L)) 4
/-- what bytes are like of which nothing wrong is told -/
structure ImgOk (xs : List UInt8) : Prop where
  len : 36 ≤ xs.length
  op : xs.take 8 = imgOpen
  lo : leNat ((xs.drop 8).take 8) ≤ (xs.length - 36) / 8
  hi : xs.length - 36 ≤ leNat ((xs.drop 8).take 8) * 8
  sum : leNat (xs.drop (xs.length - 4)) = upd 0 (xs.take (xs.length - 4))
theorem imgBody_len (last root : Nat) (L : List Nat) : (imgBody last root L).length = 32 + 8 * L.length := by
  unfold imgBody
  rw [List.length_append, List.length_append, wb_len, wb_len]
  show 8 + (8 * 3 + 8 * L.length) = _
  omega
theorem imgB_len (last root : Nat) (L : List Nat) : (imgB last root L).length = 36 + 8 * L.length := by
  unfold imgB
  rw [List.length_append, imgBody_len, le_len]; omega
theorem imgB_take (last root : Nat) (L : List Nat) : (imgB last root L).take (32 + 8 * L.length) = imgBody last root L := by
  unfold imgB
  rw [List.take_append_of_le_length (by rw [imgBody_len]; omega), List.take_of_length_le (by rw [imgBody_len]; omega)]
theorem imgB_drop (last root : Nat) (L : List Nat) : (imgB last root L).drop (32 + 8 * L.length) = le (upd 0 (imgBody last root L)) 4 := by
  unfold imgB
  rw [List.drop_append_of_le_length (by rw [imgBody_len]; omega), List.drop_of_length_le (by rw [imgBody_len]; omega), List.nil_append]
theorem imgB_op (last root : Nat) (L : List Nat) : (imgB last root L).take 8 = imgOpen := by
  unfold imgB imgBody
  rw [List.append_assoc, List.take_append_of_le_length (by decide)]; rfl
theorem imgB_count (last root : Nat) (L : List Nat) : ((imgB last root L).drop 8).take 8 = le L.length 8 := by
  unfold imgB imgBody
  rw [List.append_assoc, List.append_assoc, List.drop_append_of_le_length (by decide), show imgOpen.drop 8 = [] from rfl, List.nil_append, wb, List.append_assoc, List.take_append_of_le_length (by rw [le_len]; omega), List.take_of_length_le (by rw [le_len]; omega)]
theorem imgB_sum (last root : Nat) (L : List Nat) : leNat (le (upd 0 (imgBody last root L)) 4) = upd 0 (imgBody last root L) := by
  rw [leNat_le, Nat.mod_eq_of_lt (upd_lt _ _)]
theorem img_ok (last root : Nat) (L : List Nat) (hL : L.length < 2305843009213693952) : ImgOk (imgB last root L) := by
  have hc : leNat (((imgB last root L).drop 8).take 8) = L.length := by
    rw [imgB_count, leNat_le, Nat.mod_eq_of_lt (by omega)]
  have hl := imgB_len last root L
  refine ⟨by omega, imgB_op last root L, by omega, by omega, ?_⟩
  rw [hl, show 36 + 8 * L.length - 4 = 32 + 8 * L.length by omega, imgB_take, imgB_drop, imgB_sum]
theorem img_changed (last root : Nat) (L : List Nat) (hL : L.length < 2305843009213693952) {i : Nat} {c : UInt8} (hi : i < (imgB last root L).length) (hc : (imgB last root L)[i] ≠ c) : ¬ ImgOk ((imgB last root L).set i c) := by
  intro ⟨_, h2, h3, h4, h5⟩
  have hl := imgB_len last root L
  rw [List.length_set, hl] at h3 h4 h5
  rw [show 36 + 8 * L.length - 4 = 32 + 8 * L.length by omega] at h5
  have key : ∀ a n, a ≤ i → i < a + n → a + n ≤ (imgB last root L).length → (((imgB last root L).drop a).take n).set (i - a) c ≠ ((imgB last root L).drop a).take n := by
    intro a n h1 h2 h3 e
    have hlen : i - a < (((imgB last root L).drop a).take n).length := by simp; omega
    refine hc ?_
    have := set_same_at e hlen
    rw [← this]
    simp [Nat.add_sub_cancel' h1]
  by_cases h8 : i < 8
  · refine key 0 8 (Nat.zero_le _) (by omega) (by omega) ?_
    rw [List.drop_zero, Nat.sub_zero, ← List.take_set, h2, imgB_op]
  · by_cases h16 : i < 16
    · refine key 8 8 (by omega) (by omega) (by omega) ?_
      rw [List.drop_set, if_neg h8, List.take_set] at h3 h4
      refine leNat_inj (by simp) ?_
      rw [imgB_count, leNat_le, Nat.mod_eq_of_lt (by omega)]
      rw [imgB_count] at h3 h4
      omega
    · by_cases hb : i < 32 + 8 * L.length
      · rw [List.drop_set, if_pos hb, List.take_set, imgB_take, imgB_drop, imgB_sum] at h5
        have hib : i < (imgBody last root L).length := by rw [imgBody_len]; exact hb
        have hci : (imgBody last root L)[i] ≠ c := by
          intro e
          refine key 0 (32 + 8 * L.length) (Nat.zero_le _) (by omega) (by omega) ?_
          rw [List.drop_zero, Nat.sub_zero, imgB_take, ← e, List.set_getElem_self]
        rw [List.set_eq_take_append_cons_drop, if_pos hib] at h5
        have e2 : imgBody last root L = (imgBody last root L).take i ++ (imgBody last root L)[i] :: (imgBody last root L).drop (i + 1) := by simp
        have := upd_other ((imgBody last root L).take i) ((imgBody last root L).drop (i + 1)) hci
        rw [← e2] at this
        exact this h5
      · refine key (32 + 8 * L.length) 4 (by omega) (by omega) (by omega) ?_
        rw [List.drop_set, if_neg hb, List.take_set, imgB_drop] at h5
        rw [imgB_drop, List.take_of_length_le (by rw [le_len]; omega)]
        refine leNat_inj (by simp) ?_
        rw [h5, imgB_sum, List.set_eq_of_length_le (by simp; omega), imgB_take]
end Go.Proofs.YtahmljjjdoaahaaDoor.Fl

/-
  Images: what all begin with; what is wrong with bytes.
-/
namespace Go.Proofs.YtahmljjjdoaahaaDoor.Fl
open Go.RowKit

theorem str_of (l : List UInt8) : strOfNums (l.map fun b => (b.toNat : Int)) = ⟨l.toArray⟩ := by
  unfold strOfNums
  rw [List.map_map]
  congr 2
  conv => rhs; rw [← List.map_id l]
  exact List.map_congr_left fun b _ => by simp
def letters4 : List UInt8 := [70, 78, 68, 76]
theorem cb_letters : cb letters4 = [.int .u8 70, .int .u8 78, .int .u8 68, .int .u8 76] := rfl
theorem rd_letters (w : World) : Rd (w.alloc (.cells #[.int .u8 70, .int .u8 78, .int .u8 68, .int .u8 76] 5 (4, 5))) (w.heap.size + 1) (some ⟨w.heap.size, 0, none⟩) (cb letters4) := by
  refine .inr ⟨_, 0, rfl, by omega, fun j v hj => ?_⟩
  rw [Nat.zero_add, cell_of_row _ _ _ _ _ _ (heap_alloc_new w _), ← hj, cb_letters]; simp
theorem le_four : letters4 ++ le 1 (min (4 : Int).toNat 8) = imgOpen := by decide
def OpenPost (xs : List UInt8) (w : World) (e : Ending) (w' : World) : Prop := ∃ A c, e = .returned (.slice A xs.length c) ∧ Rd w' w'.heap.size A (cb xs) ∧ xs.length ≤ c ∧ Own w' w.heap.size (.slice A xs.length c) xs ∧ Below w.heap.size w w'
theorem rdb_drop {w : World} {B b off : Nat} {xs : List UInt8} (h : Rd w B (some ⟨b, off, none⟩) (cb xs)) (k : Nat) : Rd w B (some ⟨b, off + k, none⟩) (cb (xs.drop k)) := by
  have := h.drop_ k
  rwa [show (cb xs).drop k = cb (xs.drop k) by simp [cb, List.map_drop]] at this
theorem rdb_take {w : World} {B : Nat} {A : Option Addr} {xs : List UInt8} (h : Rd w B A (cb xs)) (k : Nat) : Rd w B A (cb (xs.take k)) := by
  have := h.take_ k
  rwa [show (cb xs).take k = cb (xs.take k) by simp [cb, List.map_take]] at this
/-- what is told of bytes: nothing is wrong of just those that are like an image -/
def WrongPost (xs : List UInt8) (w : World) (e : Ending) (w' : World) : Prop := ∃ r : Nat, e = .returned (.int .i64 (r : Int)) ∧ (r = 0 ↔ ImgOk xs) ∧ Below w.heap.size w w'
end Go.Proofs.YtahmljjjdoaahaaDoor.Fl
