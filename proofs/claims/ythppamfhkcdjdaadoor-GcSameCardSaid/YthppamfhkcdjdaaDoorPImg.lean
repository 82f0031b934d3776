/-
  Images as bytes: one byte that is another one shows.
-/
import Derived.Test.YthppamfhkcdjdaaDoorPPut
import Derived.Test.YthppamfhkcdjdaaDoorPMath
import Derived.Test.YthppamfhkcdjdaaDoorPBits
import Derived.Lib.SlBytesConst
namespace Go.Proofs.YthppamfhkcdjdaaDoor.Fl
open Go.RowKit

theorem leNat_inj : ∀ {a b : List UInt8}, a.length = b.length → leNat a = leNat b → a = b
  | [], [], _, _ => rfl
  | [], _ :: _, h, _ => by simp at h
  | _ :: _, [], h, _ => by simp at h
  | c :: cs, d :: ds, h, e => by
    have hc := UInt8.toNat_lt c
    have hd := UInt8.toNat_lt d
    simp only [leNat] at e
    have e1 : c.toNat = d.toNat := by omega
    rw [UInt8.toNat_inj.1 e1, leNat_inj (by simpa using h) (by omega : leNat cs = leNat ds)]
theorem set_same_at {l : List UInt8} {i : Nat} {c : UInt8} (h : l.set i c = l) (hi : i < l.length) : l[i] = c := by
  have := congrArg (fun t => t[i]?) h
  simp only [List.getElem?_set_self hi, List.getElem?_eq_getElem hi] at this
  injection this with this
  exact this.symm
def imgOpen : List UInt8 := [70, 78, 68, 76, 1, 0, 0, 0]
/-- the bytes of an image, but for its sum -/
def imgBody (last root : Nat) (L : List Nat) : List UInt8 := imgOpen ++ (wb [L.length, last, root] ++ wb L)
def imgB (last root : Nat) (L : List Nat) : List UInt8 := imgBody last root L ++ le (upd 0 (imgBody last root L)) 4
/-- what bytes are like of which nothing wrong is told -/
structure ImgOk (xs : List UInt8) : Prop where
  len : 36 ≤ xs.length
  op : xs.take 8 = imgOpen
  lo : leNat ((xs.drop 8).take 8) ≤ (xs.length - 36) / 8
  hi : xs.length - 36 ≤ leNat ((xs.drop 8).take 8) * 8
  sum : leNat (xs.drop (xs.length - 4)) = upd 0 (xs.take (xs.length - 4))
theorem imgBody_len (last root : Nat) (L : List Nat) : (imgBody last root L).length = 32 + 8 * L.length := by
  unfold imgBody
  rw [List.length_append, List.length_append, wb_len, wb_len]
  show 8 + (8 * 3 + 8 * L.length) = _
  omega
theorem imgB_len (last root : Nat) (L : List Nat) : (imgB last root L).length = 36 + 8 * L.length := by
  unfold imgB
  rw [List.length_append, imgBody_len, le_len]; omega
theorem imgB_take (last root : Nat) (L : List Nat) : (imgB last root L).take (32 + 8 * L.length) = imgBody last root L := by
  unfold imgB
  rw [List.take_append_of_le_length (by rw [imgBody_len]; omega), List.take_of_length_le (by rw [imgBody_len]; omega)]
theorem imgB_drop (last root : Nat) (L : List Nat) : (imgB last root L).drop (32 + 8 * L.length) = le (upd 0 (imgBody last root L)) 4 := by
  unfold imgB
  rw [List.drop_append_of_le_length (by rw [imgBody_len]; omega), List.drop_of_length_le (by rw [imgBody_len]; omega), List.nil_append]
theorem imgB_op (last root : Nat) (L : List Nat) : (imgB last root L).take 8 = imgOpen := by
  unfold imgB imgBody
  rw [List.append_assoc, List.take_append_of_le_length (by decide)]; rfl
theorem imgB_count (last root : Nat) (L : List Nat) : ((imgB last root L).drop 8).take 8 = le L.length 8 := by
  unfold imgB imgBody
  rw [List.append_assoc, List.append_assoc, List.drop_append_of_le_length (by decide), show imgOpen.drop 8 = [] from rfl, List.nil_append, wb, List.append_assoc, List.take_append_of_le_length (by rw [le_len]; omega), List.take_of_length_le (by rw [le_len]; omega)]
theorem imgB_sum (last root : Nat) (L : List Nat) : leNat (le (upd 0 (imgBody last root L)) 4) = upd 0 (imgBody last root L) := by
  rw [leNat_le, Nat.mod_eq_of_lt (upd_lt _ _)]
theorem img_ok (last root : Nat) (L : List Nat) (hL : L.length < 2305843009213693952) : ImgOk (imgB last root L) := by
  have hc : leNat (((imgB last root L).drop 8).take 8) = L.length := by
    rw [imgB_count, leNat_le, Nat.mod_eq_of_lt (by omega)]
  have hl := imgB_len last root L
  refine ⟨by omega, imgB_op last root L, by omega, by omega, ?_⟩
  rw [hl, show 36 + 8 * L.length - 4 = 32 + 8 * L.length by omega, imgB_take, imgB_drop, imgB_sum]
theorem img_changed (last root : Nat) (L : List Nat) (hL : L.length < 2305843009213693952) {i : Nat} {c : UInt8} (hi : i < (imgB last root L).length) (hc : (imgB last root L)[i] ≠ c) : ¬ ImgOk ((imgB last root L).set i c) := by
  intro ⟨_, h2, h3, h4, h5⟩
  have hl := imgB_len last root L
  rw [List.length_set, hl] at h3 h4 h5
  rw [show 36 + 8 * L.length - 4 = 32 + 8 * L.length by omega] at h5
  have key : ∀ a n, a ≤ i → i < a + n → a + n ≤ (imgB last root L).length → (((imgB last root L).drop a).take n).set (i - a) c ≠ ((imgB last root L).drop a).take n := by
    intro a n h1 h2 h3 e
    have hlen : i - a < (((imgB last root L).drop a).take n).length := by simp; omega
    refine hc ?_
    have := set_same_at e hlen
    rw [← this]
    simp [Nat.add_sub_cancel' h1]
  by_cases h8 : i < 8
  · refine key 0 8 (Nat.zero_le _) (by omega) (by omega) ?_
    rw [List.drop_zero, Nat.sub_zero, ← List.take_set, h2, imgB_op]
  · by_cases h16 : i < 16
    · refine key 8 8 (by omega) (by omega) (by omega) ?_
      rw [List.drop_set, if_neg h8, List.take_set] at h3 h4
      refine leNat_inj (by simp) ?_
      rw [imgB_count, leNat_le, Nat.mod_eq_of_lt (by omega)]
      rw [imgB_count] at h3 h4
      omega
    · by_cases hb : i < 32 + 8 * L.length
      · rw [List.drop_set, if_pos hb, List.take_set, imgB_take, imgB_drop, imgB_sum] at h5
        have hib : i < (imgBody last root L).length := by rw [imgBody_len]; exact hb
        have hci : (imgBody last root L)[i] ≠ c := by
          intro e
          refine key 0 (32 + 8 * L.length) (Nat.zero_le _) (by omega) (by omega) ?_
          rw [List.drop_zero, Nat.sub_zero, imgB_take, ← e, List.set_getElem_self]
        rw [List.set_eq_take_append_cons_drop, if_pos hib] at h5
        have e2 : imgBody last root L = (imgBody last root L).take i ++ (imgBody last root L)[i] :: (imgBody last root L).drop (i + 1) := by simp
        have := upd_other ((imgBody last root L).take i) ((imgBody last root L).drop (i + 1)) hci
        rw [← e2] at this
        exact this h5
      · refine key (32 + 8 * L.length) 4 (by omega) (by omega) (by omega) ?_
        rw [List.drop_set, if_neg hb, List.take_set, imgB_drop] at h5
        rw [imgB_drop, List.take_of_length_le (by rw [le_len]; omega)]
        refine leNat_inj (by simp) ?_
        rw [h5, imgB_sum, List.set_eq_of_length_le (by simp; omega), imgB_take]
end Go.Proofs.YthppamfhkcdjdaaDoor.Fl

/-
  Images: what all begin with; what is wrong with bytes.
-/
namespace Go.Proofs.YthppamfhkcdjdaaDoor.Fl
open Go.RowKit

theorem str_of (l : List UInt8) : strOfNums (l.map fun b => (b.toNat : Int)) = ⟨l.toArray⟩ := by
  unfold strOfNums
  rw [List.map_map]
  congr 2
  conv => rhs; rw [← List.map_id l]
  exact List.map_congr_left fun b _ => by simp
set_option maxHeartbeats 1000000 in
theorem beq_any (xs ys : List UInt8) (c c2 B B2 : Nat) (A A2 : Option Addr) (w : World) (hr : Rd w B A (cb xs)) (hr2 : Rd w B2 A2 (cb ys)) :
    Calls Tryd.prog 107 #[.slice A xs.length c, .slice A2 ys.length c2] w fun e w' => e = .returned (.bool (decide (xs = ys))) ∧ w = w' := by
  have h1 := conv_str c hr
  have h2 := conv_str c2 hr2
  rw [str_of] at h1 h2
  rw [show decide (xs = ys) = (xs == ys) by rw [Bool.eq_iff_iff]; simp]
  go_enter Tryd.func107, Tryd.ntmps107
  go_wp2_with fail
  go_ret
  exact ⟨rfl, rfl⟩
set_option maxHeartbeats 1000000 in
theorem hasPrefix_any (xs ys : List UInt8) (c c2 B B2 : Nat) (A A2 : Option Addr) (w : World) (hr : Rd w B A (cb xs)) (hr2 : Rd w B2 A2 (cb ys)) (hc : xs.length ≤ c) :
    Calls Tryd.prog 99 #[.slice A xs.length c, .slice A2 ys.length c2] w fun e w' => e = .returned (.bool (decide (xs.take ys.length = ys))) ∧ w = w' := by
  by_cases h : ys.length ≤ xs.length
  · have hq := beq_any (xs.take ys.length) ys c c2 B B2 A A2 w (by have := hr.take_ ys.length; rwa [show (cb xs).take ys.length = cb (xs.take ys.length) by simp [cb, List.map_take]] at this) hr2
    rw [List.length_take, Nat.min_eq_left h] at hq
    go_enter Tryd.func99, Tryd.ntmps99
    go_wp2_with (go_at_call 107; (with_reducible refine hq.mono ?_); rintro e w' ⟨rfl, rfl⟩)
    go_ret
    exact ⟨rfl, rfl⟩
  · have e : decide (xs.take ys.length = ys) = false := decide_eq_false (fun e => by
      have := congrArg List.length e
      rw [List.length_take] at this; omega)
    rw [e]
    clear e
    go_enter Tryd.func99, Tryd.ntmps99
    go_wp2_with fail
    go_ret
    exact ⟨rfl, rfl⟩
def letters4 : List UInt8 := [70, 78, 68, 76]
theorem cb_letters : cb letters4 = [.int .u8 70, .int .u8 78, .int .u8 68, .int .u8 76] := rfl
theorem rd_letters (w : World) : Rd (w.alloc (.cells #[.int .u8 70, .int .u8 78, .int .u8 68, .int .u8 76] 5 (4, 5))) (w.heap.size + 1) (some ⟨w.heap.size, 0, none⟩) (cb letters4) := by
  refine .inr ⟨_, 0, rfl, by omega, fun j v hj => ?_⟩
  rw [Nat.zero_add, cell_of_row _ _ _ _ _ _ (heap_alloc_new w _), ← hj, cb_letters]; simp
theorem le_four : letters4 ++ le 1 (min (4 : Int).toNat 8) = imgOpen := by decide
def OpenPost (xs : List UInt8) (w : World) (e : Ending) (w' : World) : Prop := ∃ A c, e = .returned (.slice A xs.length c) ∧ Rd w' w'.heap.size A (cb xs) ∧ xs.length ≤ c ∧ Own w' w.heap.size (.slice A xs.length c) xs ∧ Below w.heap.size w w'
set_option maxHeartbeats 1000000 in
theorem opening_any (w : World) : Calls Tryd.prog 65 #[] w (OpenPost imgOpen w) := by
  have hcv := Lib.run_convert_bytes_const (P := Tryd.prog) w 46 5 #[.int .u8 70, .int .u8 78, .int .u8 68, .int .u8 76] 4 4 Tryd.underlying46 Tryd.underlying5
  rw [show (#[Value.int .u8 70, .int .u8 78, .int .u8 68, .int .u8 76] : Array Value).size = 4 from rfl] at hcv
  have hrd := rd_letters w
  go_enter Tryd.func65, Tryd.ntmps65
  go_wp2_with fail
  refine (put_any letters4 4 _ _ 1 4 _ (hrd.more (by simp)) (Nat.le_refl _) (by omega) (by decide)).mono ?_
  rintro e w1 ⟨v', rfl, hO, hb⟩
  rw [le_four] at hO
  obtain ⟨A', c', rfl, hr', _⟩ := own_rd hO
  have hO' := Lib.hid (Own.le hO (show w.heap.size ≤ _ by simp))
  have hcap : imgOpen.length ≤ c' := by
    rcases hO.2 with ⟨h1, h2⟩ | ⟨g, cap, cur, h1, _, _, h2, _⟩
    · exact absurd h2 (by decide)
    · injection h1 with _ _ h3
      subst h3; exact h2
  have hb2 : Below w.heap.size w w1 := ((Below.refl _ _).alloc (Nat.le_refl _) _).trans (hb.mono (by simp))
  clear hO hb hrd hcv
  go_wp2_with fail
  go_ret
  exact ⟨A', c', rfl, hr', hcap, hO'.out, hb2⟩
theorem rdb_drop {w : World} {B b off : Nat} {xs : List UInt8} (h : Rd w B (some ⟨b, off, none⟩) (cb xs)) (k : Nat) : Rd w B (some ⟨b, off + k, none⟩) (cb (xs.drop k)) := by
  have := h.drop_ k
  rwa [show (cb xs).drop k = cb (xs.drop k) by simp [cb, List.map_drop]] at this
theorem rdb_take {w : World} {B : Nat} {A : Option Addr} {xs : List UInt8} (h : Rd w B A (cb xs)) (k : Nat) : Rd w B A (cb (xs.take k)) := by
  have := h.take_ k
  rwa [show (cb xs).take k = cb (xs.take k) by simp [cb, List.map_take]] at this
/-- what is told of bytes: nothing is wrong of just those that are like an image -/
def WrongPost (xs : List UInt8) (w : World) (e : Ending) (w' : World) : Prop := ∃ r : Nat, e = .returned (.int .i64 (r : Int)) ∧ (r = 0 ↔ ImgOk xs) ∧ Below w.heap.size w w'
set_option maxHeartbeats 2000000 in
theorem iwrong_any (xs : List UInt8) (c : Nat) (A : Option Addr) (w : World) (hr : Rd w w.heap.size A (cb xs)) (hc : xs.length ≤ c) (hl : xs.length ≤ 4096) :
    Calls Tryd.prog 69 #[.slice A xs.length c] w (WrongPost xs w) := by
  by_cases hlen : xs.length < 36
  · have h4 : Hid (WrongPost xs w (.returned (.int .i64 ((4 : Nat) : Int))) w) := Lib.hid ⟨4, rfl, ⟨fun h => (by cases h), fun h => absurd h.len (by omega)⟩, Below.refl _ _⟩
    clear hr
    go_enter Tryd.func69, Tryd.ntmps69
    go_wp2_with fail
    go_ret
    exact h4.out
  · obtain ⟨b, off, rfl, hb, -⟩ := rdb_at hr (by omega : 0 < xs.length)
    have HR := Lib.hid hr
    clear hr
    go_enter Tryd.func69, Tryd.ntmps69
    go_wp2_with fail
    refine (opening_any w).mono ?_
    rintro e w1 ⟨A1, c1, rfl, hr1, hc1, -, hb1⟩
    have HR1 := Lib.hid (HR.out.below hb1 (Nat.le_refl _))
    have HB1 := Lib.hid hb1
    clear hb1 HR
    go_wp2_with fail
    refine (hasPrefix_any xs imgOpen c c1 _ _ _ A1 w1 HR1.out hr1 hc).mono ?_
    rintro e w' ⟨rfl, rfl⟩
    clear hr1
    have HL := Lib.hid hlen
    have hlen36 : (36 : Int) ≤ (xs.length : Int) := by omega
    by_cases hp : xs.take imgOpen.length = imgOpen
    · rw [decide_eq_true hp]
      have HP := Lib.hid hp
      clear hp hlen
      obtain ⟨m, hm⟩ : ∃ m, leNat ((xs.drop 8).take 8) = m := ⟨_, rfl⟩
      have hm64 : m < 18446744073709551616 := by
        have h1 := leNat_lt ((xs.drop 8).take 8)
        have h2 : 256 ^ ((xs.drop 8).take 8).length ≤ 256 ^ 8 := Nat.pow_le_pow_right (by decide) (by simp; omega)
        omega
      have hq := get_any (xs.drop 8) (c - 8) _ (some ⟨b, off + 8, none⟩) 8 w1 (rdb_drop HR1.out 8) (by simp; omega)
      rw [List.length_drop, show resNum (xs.drop 8) (min (8 : Int).toNat 8) = m by
        show (if (xs.drop 8).length < 8 then 0 else leNat ((xs.drop 8).take 8)) = m
        rw [if_neg (by simp; omega)]; exact hm, show errNum (xs.drop 8) (min (8 : Int).toNat 8) = 0 by
        show (if (xs.drop 8).length < 8 then 4 else 0) = 0
        rw [if_neg (by simp; omega)]] at hq
      have HM := Lib.hid hm
      have H64 := Lib.hid hm64
      clear hm hm64
      have h8 : ¬ (c = 8) := by omega
      have h8' : 8 ≤ xs.length := by omega
      go_wp2_with fail
      refine hq.mono ?_
      rintro e w' ⟨rfl, rfl⟩
      clear hq
      go_wp2_with fail
      · have Q1 := Lib.hid (show ((xs.length : Int) - 36) / 8 < (m : Int) by assumption)
        go_ret
        exact ⟨4, rfl, ⟨fun h => (by cases h), fun h => absurd h.lo (by rw [HM.out]; have := Q1.out; omega)⟩, HB1.out⟩
      · have Q1 := Lib.hid (show (m : Int) * 8 < (xs.length : Int) - 36 by assumption)
        go_ret
        exact ⟨2, rfl, ⟨fun h => (by cases h), fun h => absurd h.hi (by rw [HM.out]; have := Q1.out; omega)⟩, HB1.out⟩
      · have Q1 := Lib.hid (show (m : Int) ≤ ((xs.length : Int) - 36) / 8 by assumption)
        have Q2 := Lib.hid (show (xs.length : Int) - 36 ≤ (m : Int) * 8 by assumption)
        have hq := get_any (xs.drop (xs.length - 4)) (c - (xs.length - 4)) _ (some ⟨b, off + (xs.length - 4), none⟩) 4 w1 (rdb_drop HR1.out _) (by simp; omega)
        rw [List.length_drop, show resNum (xs.drop (xs.length - 4)) (min (4 : Int).toNat 8) = leNat (xs.drop (xs.length - 4)) by
          show (if (xs.drop (xs.length - 4)).length < 4 then 0 else leNat ((xs.drop (xs.length - 4)).take 4)) = _
          rw [if_neg (by simp; omega), List.take_of_length_le (by simp; omega)], show errNum (xs.drop (xs.length - 4)) (min (4 : Int).toNat 8) = 0 by
          show (if (xs.drop (xs.length - 4)).length < 4 then 4 else 0) = 0
          rw [if_neg (by simp; omega)]] at hq
        have hcr := crc_any (xs.take (xs.length - 4)) c (some ⟨b, off, none⟩) w1 ((rdb_take HR1.out _).more HB1.out.size) (by simp; omega)
        rw [List.length_take, Nat.min_eq_left (Nat.sub_le _ _)] at hcr
        have hfin : Hid (∀ (w2 : World) (z : Nat), Below w1.heap.size w1 w2 → (z = 0 ↔ leNat (xs.drop (xs.length - 4)) = upd 0 (xs.take (xs.length - 4))) → WrongPost xs w (.returned (.int .i64 (z : Int))) w2) := Lib.hid fun w2 z hb2 hz => by
          have hl36 := HL.out
          have e := HM.out
          have q1 := Q1.out
          have q2 := Q2.out
          exact ⟨z, rfl, ⟨fun h0 => ⟨by omega, HP.out, by rw [e]; omega, by rw [e]; omega, hz.1 h0⟩, fun h => hz.2 h.sum⟩, HB1.out.trans (hb2.mono HB1.out.size)⟩
        have hu : leNat (xs.drop (xs.length - 4)) < 18446744073709551616 := by
          have h1 := leNat_lt (xs.drop (xs.length - 4))
          rw [show (xs.drop (xs.length - 4)).length = 4 by simp; omega] at h1
          have h2 : (256 : Nat) ^ 4 = 4294967296 := by decide
          omega
        have hv := upd_lt 0 (xs.take (xs.length - 4))
        generalize leNat (xs.drop (xs.length - 4)) = s at hq hfin hu
        generalize upd 0 (xs.take (xs.length - 4)) = v at hcr hfin hv
        refine hq.mono ?_
        rintro e w' ⟨rfl, rfl⟩
        go_wp2_with fail
        refine hcr.mono ?_
        rintro e w2 ⟨rfl, hb2⟩
        by_cases hsv : s = v
        · have h0 := Lib.hid (hfin.out w2 0 hb2 ⟨fun _ => hsv, fun _ => rfl⟩)
          have hne : ((s : Int) != (v : Int)) = false := by simp [hsv]
          clear hsv hb2
          go_wp2_with fail
          go_ret
          exact h0.out
        · have h5 := Lib.hid (hfin.out w2 5 hb2 ⟨fun h => (by cases h), fun h => absurd h hsv⟩)
          have hne : ((s : Int) != (v : Int)) = true := by simp; omega
          clear hsv hb2
          go_wp2_with fail
          go_ret
          exact h5.out
    · rw [decide_eq_false hp]
      have h3 : Hid (WrongPost xs w (.returned (.int .i64 ((3 : Nat) : Int))) w1) := Lib.hid ⟨3, rfl, ⟨fun h => (by cases h), fun h => absurd h.op hp⟩, HB1.out⟩
      clear hp
      go_wp2_with fail
      go_ret
      exact h3.out
end Go.Proofs.YthppamfhkcdjdaaDoor.Fl
