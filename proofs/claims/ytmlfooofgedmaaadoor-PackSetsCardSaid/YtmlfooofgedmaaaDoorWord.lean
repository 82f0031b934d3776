/-
  Contracts of package pack's words: Words, Unwords; the document's Words, Unwords, Same.
-/
import Derived.Test.YtmlfooofgedmaaaDoorSpare
import Derived.Test.YtmlfooofgedmaaaDoorWkPackNumbers
namespace Go.Proofs.YtmlfooofgedmaaaDoor.Fl
open Go.RowKit

/-- words as bytes -/
def wb : List Nat → List UInt8
  | [] => []
  | x :: xs => le x 8 ++ wb xs
theorem wb_snoc (l : List Nat) (x : Nat) : wb (l ++ [x]) = wb l ++ le x 8 := by
  induction l with
  | nil => simp [wb]
  | cons a t ih => rw [List.cons_append, wb, ih, wb, List.append_assoc]
theorem wb_len (l : List Nat) : (wb l).length = 8 * l.length := by
  induction l with
  | nil => rfl
  | cons a t ih => rw [wb, List.length_append, le_len, ih, List.length_cons]; omega
theorem wb_take {l : List Nat} {k : Nat} (h : k < l.length) : wb (l.take (k + 1)) = wb (l.take k) ++ le l[k] 8 := by
  rw [List.take_succ_eq_append_getElem h, wb_snoc]
theorem leNat_le (x n : Nat) : leNat (le x n) = x % 256 ^ n := by
  induction n generalizing x with
  | zero => simp [leNat, le, Nat.mod_one]
  | succ n ih =>
    rw [le, leNat, ih, UInt8.toNat_ofNat', show x % 256 % 2 ^ 8 = x % 256 by omega, Nat.pow_succ, Nat.mul_comm (256 ^ n) 256, Nat.mod_mul]
/-- bytes as words -/
def uw (xs : List UInt8) (k : Nat) : List Nat := (List.range k).map fun i => leNat ((xs.drop (8 * i)).take 8)
theorem uw_len (xs : List UInt8) (k : Nat) : (uw xs k).length = k := by simp [uw]
theorem uw_succ (xs : List UInt8) (k : Nat) : uw xs (k + 1) = uw xs k ++ [leNat ((xs.drop (8 * k)).take 8)] := by simp [uw, List.range_succ]
theorem wb_drop (l : List Nat) (k : Nat) (h : k < l.length) : ((wb l).drop (8 * k)).take 8 = le l[k] 8 := by
  induction l generalizing k with
  | nil => simp at h
  | cons a t ih =>
    cases k with
    | zero => rw [wb, Nat.mul_zero, List.drop_zero, List.take_append_of_le_length (by rw [le_len]; omega), List.take_of_length_le (by rw [le_len]; omega)]; rfl
    | succ k =>
      rw [wb, show 8 * (k + 1) = 8 + 8 * k by omega, ← List.drop_drop, List.drop_append_of_le_length (by rw [le_len]; omega), show List.drop 8 (le a 8) = [] from List.drop_of_length_le (by rw [le_len]; omega), List.nil_append, ih k (by simpa using h)]
      rfl
theorem uw_wb (l : List Nat) (hl : ∀ x ∈ l, x < 18446744073709551616) : uw (wb l) l.length = l := by
  apply List.ext_getElem (by rw [uw_len])
  intro i h1 h2
  simp only [uw, List.getElem_map, List.getElem_range]
  rw [wb_drop l i h2, leNat_le, Nat.mod_eq_of_lt (Nat.lt_of_lt_of_le (hl _ (List.getElem_mem h2)) (by decide))]
theorem uw_lt (xs : List UInt8) (k : Nat) : ∀ x ∈ uw xs k, x < 18446744073709551616 := by
  intro x hx
  simp only [uw, List.mem_map] at hx
  obtain ⟨i, _, rfl⟩ := hx
  have h := leNat_lt ((xs.drop (8 * i)).take 8)
  have h2 : 256 ^ ((xs.drop (8 * i)).take 8).length ≤ 256 ^ 8 := Nat.pow_le_pow_right (by decide) (by simp; omega)
  have h3 : (256 : Nat) ^ 8 = 18446744073709551616 := by decide
  omega
/-- words in memory of the call's own -/
def OwnW (w : World) (base : Nat) (v : Value) (ws : List Nat) : Prop := w.ownsRow base 59 1 v ws.length (cw ws)
theorem Own.le {w : World} {base base' : Nat} {v : Value} {xs : List UInt8} (h : Own w base v xs) (hb : base' ≤ base) : Own w base' v xs :=
  ⟨h.1, h.2.elim .inl fun ⟨g, cap, cur, hv, hbg, r⟩ => .inr ⟨g, cap, cur, hv, Nat.le_trans hb hbg, r⟩⟩
theorem rdw_at {w : World} {B : Nat} {A : Option Addr} {ws : List Nat} (h : Rd w B A (cw ws)) {k : Nat} (hk : k < ws.length) :
    ∃ b off, A = some ⟨b, off, none⟩ ∧ b < B ∧ w.cell? ⟨b, off + k, none⟩ = some (.int .u64 (ws[k] : Int)) := by
  obtain ⟨b, off, hA, hb, hc⟩ := h.at_ (k := k) (by rw [cw_len]; exact hk)
  refine ⟨b, off, hA, hb, ?_⟩
  rw [hc]; simp [cw]
theorem own_nilb (w : World) (base : Nat) : Own w base (.slice none 0 0) [] := ⟨rfl, .inl ⟨rfl, rfl⟩⟩
def WordsPost (ws : List Nat) (w : World) (e : Ending) (w' : World) : Prop := ∃ v', e = .returned v' ∧ Own w' w.heap.size v' (wb ws) ∧ Below w.heap.size w w'
set_option maxHeartbeats 1000000 in
theorem words_any (ws : List Nat) (c B : Nat) (A : Option Addr) (w : World) (hr : Rd w B A (cw ws)) (hB : B ≤ w.heap.size) (hl : ws.length ≤ 1000) (hx : ∀ x ∈ ws, x < 18446744073709551616) :
    Calls Tryd.prog 30 #[.slice A ws.length c] w (WordsPost ws w) := by
  obtain ⟨i0, hi, hz0, hz1, hz2⟩ := info_parts u8info
  have HX := Lib.hid hx
  clear hx
  go_enter Tryd.func30, Tryd.ntmps30
  go_wp2_with (at_make; refine wpList_make_own _ rfl _ _ _ rfl w.heap.size 5 i0 (.int .u8 0) 1 Tryd.underlying22 hi hz0 hz1 .i64 .i64 (8 * (ws.length : Int)) (8 * ws.length) rfl rfl (by omega) (by rw [hz2]; omega) (by unfold maxLen; omega) (Nat.le_refl _) ?_; intro w1 HO HG)
  have HO1 : Hid (Own w1 w.heap.size (.slice (some ⟨w.heap.size, 0, none⟩) 0 (8 * ws.length)) []) := HO
  have hb1 := (Below.refl w.heap.size w).grown HG (Nat.le_refl _) (fun k hk => by cases hk)
  clear HO HG
  go_loopw [3, 11] (fun u i wr => ∃ k : Nat, k ≤ ws.length ∧ i = .int .i64 k ∧ Own wr w.heap.size u (wb (ws.take k)) ∧ Below w.heap.size w wr) (fun _ i _ => ws.length - (intOf i).toNat)
  case atStart => exact ⟨0, Nat.zero_le _, rfl, HO1.out, hb1⟩
  case round =>
    obtain ⟨k, hk, rfl, hown, hbl⟩ := hrel
    by_cases hlt : k < ws.length
    · obtain ⟨b, off, rfl, hbB, hcell⟩ := rdw_at (hr.below hbl hB) hlt
      have hap : Calls Tryd.prog 49 #[_, .int .u64 (ws[k] : Int), .int .i64 8] wr (AppPost w.heap.size (wb (ws.take k)) ws[k] 8 wr) := appendBytes_any w.heap.size _ _ ws[k] 8 wr hown (by omega) (HX.out _ (List.getElem_mem hlt)) (by rw [wb_len, List.length_take]; omega) hbl.size
      have HW := Lib.hid (wb_take hlt)
      go_wp2_with (go_at_call 49; (with_reducible refine hap.mono ?_); rintro e w2 ⟨v', rfl, h1, h2⟩)
      go_roundw
      case rel => exact ⟨k + 1, by omega, by simp, by rw [HW.out]; exact h1, hbl.trans h2⟩
      case measure => simp [intOf]; omega
    · have e : ws.take k = ws := List.take_of_length_le (by omega)
      rw [e] at hown
      go_wp2_with fail
      go_ret
      exact ⟨_, rfl, hown, hbl⟩
theorem cw_one (ws : List Nat) : ∀ u ∈ cw ws, u.oneCell' = true := by
  intro u hu; simp [cw] at hu; obtain ⟨x, _, rfl⟩ := hu; rfl
theorem ownw_rd {w : World} {base : Nat} {v : Value} {ws : List Nat} (h : OwnW w base v ws) :
    ∃ A c, v = .slice A ws.length c ∧ Rd w w.heap.size A (cw ws) ∧ (A = none → ws = [] ∧ c = 0) := by
  rcases h.2 with ⟨rfl, h0⟩ | ⟨g, cap, cur, rfl, hb, hg, hnc, hcm, hcs, htake⟩
  · have : ws = [] := List.eq_nil_of_length_eq_zero h0
    subst this
    exact ⟨none, 0, rfl, Rd.nil _ _ _, fun _ => ⟨rfl, rfl⟩⟩
  · refine ⟨_, _, rfl, .inr ⟨g, 0, rfl, ?_, fun j v hj => ?_⟩, fun h => by cases h⟩
    · rcases Nat.lt_or_ge g w.heap.size with h1 | h1
      · exact h1
      · rw [Array.getElem?_eq_none h1] at hg; cases hg
    · rw [Nat.zero_add, cell_of_row w g j cur _ _ hg, ← hj, ← htake]
      have : j < (cw ws).length := by
        rcases Nat.lt_or_ge j (cw ws).length with h1 | h1
        · exact h1
        · rw [List.getElem?_eq_none h1] at hj; cases hj
      rw [List.getElem?_take, if_pos (by rw [cw_len] at this; omega)]; simp
theorem OwnW.below {w w' : World} {base : Nat} {v : Value} {ws : List Nat} (h : OwnW w base v ws) (hb : Below w.heap.size w w') : OwnW w' base v ws := by
  refine ⟨h.1, h.2.elim .inl fun ⟨g, cap, cur, hv, hbg, hg, r⟩ => .inr ⟨g, cap, cur, hv, hbg, ?_, r⟩⟩
  have hlt : g < w.heap.size := by
    rcases Nat.lt_or_ge g w.heap.size with h1 | h1
    · exact h1
    · rw [Array.getElem?_eq_none h1] at hg; cases hg
  rw [hb.block g hlt]; exact hg
theorem ownw_set {w : World} {base g n cap : Nat} {L : List Nat} (h : OwnW w base (.slice (some ⟨g, 0, none⟩) n cap) L) (hn : L.length = n) (j x : Nat) : OwnW (w.setCell ⟨g, j, none⟩ (.int .u64 (x : Int))) base (.slice (some ⟨g, 0, none⟩) n cap) (L.set j x) := by
  subst hn
  have := (World.ownsRow.stored h j (.int .u64 (x : Int))).1
  unfold OwnW
  rw [List.length_set]
  have e : cw (L.set j x) = (cw L).set j (.int .u64 (x : Int)) := by unfold cw; rw [List.map_set]
  rw [e]; exact this
theorem ownw_cell {w : World} {base g n cap : Nat} {L : List Nat} (h : OwnW w base (.slice (some ⟨g, 0, none⟩) n cap) L) (hn : L.length = n) {j : Nat} (hj : j < L.length) : w.cell? ⟨g, j, none⟩ = some (.int .u64 (L[j] : Int)) := by
  subst hn
  rw [World.ownsRow.cellAt h j (by omega), cw_at _ _ hj]
theorem ownw_free {w : World} {base g n cap : Nat} {L : List Nat} (h : OwnW w base (.slice (some ⟨g, 0, none⟩) n cap) L) (hn : L.length = n) (j : Nat) : w.frozen? ⟨g, j, none⟩ = false := by
  subst hn; exact World.ownsRow.frozenAt h j
theorem ownw_zero (w : World) (n : Nat) (h : n ≤ maxLen) : OwnW (w.alloc (.cells (cw (List.replicate n 0)).toArray 59)) w.heap.size (.slice (some ⟨w.heap.size, 0, none⟩) n n) (List.replicate n 0) := by
  unfold OwnW
  rw [List.length_replicate]
  exact ⟨by simp [cw], .inr ⟨_, _, _, rfl, Nat.le_refl _, heap_alloc_new w _, Nat.le_refl _, h, by simp [cw], by rw [List.take_of_length_le (by simp [cw])]⟩⟩
theorem make_words (w : World) (n : Nat) (h : n ≤ 20000) :
    (Instr.makeSlice 53 (.int .i64 (n : Int)) (.int .i64 (n : Int))).run Tryd.prog w = .ok (.slice (some ⟨w.heap.size, 0, none⟩) n n) (w.alloc (.cells (cw (List.replicate n 0)).toArray 59)) := by
  have hmk := run_make_row' (P := Tryd.prog) 53 59 (.int .u64 0) 8 Tryd.underlying53 u64info rfl .i64 .i64 n (by omega) (by omega) w
  rw [hmk, made_eq]
theorem wpList_make_words (w : World) {ops : Array Oper} {rest : List Oper} {o : Oper} {a : Act} {Q : Exit → Act → World → Prop} (hg : o.guard = none) (l c : Operand) (hop : o.op = Op.makeSlice 53 l c)
    (n : Nat) {z : Int} (hz : z = (n : Int)) (hl : a.eval l = .int .i64 z) (hc : a.eval c = .int .i64 z) (h : n ≤ 20000)
    (hK : ∀ w', Hid (OwnW w' w.heap.size (.slice (some ⟨w.heap.size, 0, none⟩) n n) (List.replicate n 0)) → Below w.heap.size w w' → w.heap.size < w'.heap.size → wpList Tryd.prog ops Q rest (a.put o.dst (.slice (some ⟨w.heap.size, 0, none⟩) n n)) w') :
    wpList Tryd.prog ops Q (o :: rest) a w := by
  subst hz
  exact wpList_make_run w _ hg l c _ hop _ _ _ hl hc (make_words w n h) (hK _ (ownw_zero w _ (by unfold maxLen; omega)) ((Below.refl _ _).alloc (Nat.le_refl _) _) (by simp))
theorem uw_set {xs : List UInt8} {k n : Nat} (h : k < n) : (uw xs k ++ List.replicate (n - k) 0).set k (leNat ((xs.drop (8 * k)).take 8)) = uw xs (k + 1) ++ List.replicate (n - (k + 1)) 0 := by
  rw [List.set_append_right _ _ (by rw [uw_len]; omega), uw_len, Nat.sub_self, show n - k = (n - (k + 1)) + 1 by omega, List.replicate_succ, List.set_cons_zero, uw_succ, List.append_assoc]; rfl
/-- what Unwords answers -/
def UnwPost (xs : List UInt8) (w : World) (e : Ending) (w' : World) : Prop := ∃ v' r, e = .returned (.tuple #[v', .int .i64 r]) ∧ Below w.heap.size w w' ∧
  if xs.length % 8 = 0 then r = 0 ∧ OwnW w' w.heap.size v' (uw xs (xs.length / 8)) else r = 2 ∧ v' = .slice none 0 0
set_option maxHeartbeats 1000000 in
theorem unwords_any (xs : List UInt8) (c B : Nat) (A : Option Addr) (w : World) (hr : Rd w B A (cb xs)) (hB : B ≤ w.heap.size) (hl : xs.length ≤ 99000) (hc : xs.length ≤ c) :
    Calls Tryd.prog 34 #[.slice A xs.length c] w (UnwPost xs w) := by
  by_cases h8 : xs.length % 8 = 0
  · go_enter Tryd.func34, Tryd.ntmps34
    go_wp2_with (at_make; refine wpList_make_words _ rfl _ _ rfl (xs.length / 8) (by omega) rfl rfl (by omega) ?_; intro w1 HO hb1 hs1)
    obtain ⟨q, hq⟩ : ∃ q, xs.length / 8 = q := ⟨_, rfl⟩
    rw [hq] at HO
    have hq8 : xs.length = 8 * q := by omega
    have HQ := Lib.hid hq
    simp only [hq]
    have HQ8 := Lib.hid hq8
    clear hq hq8
    go_loopw [16] (fun i wr => ∃ k : Nat, k ≤ q ∧ i = .int .i64 k ∧ Hid (OwnW wr w.heap.size (.slice (some ⟨w.heap.size, 0, none⟩) q q) (uw xs k ++ List.replicate (q - k) 0)) ∧ Below w.heap.size w wr) (fun i _ => q - (intOf i).toNat)
    case atStart => exact ⟨0, Nat.zero_le _, rfl, HO, hb1⟩
    case round =>
      obtain ⟨k, hk, rfl, HOr, hbl⟩ := hrel
      by_cases hlt : k < q
      · have hb8 : 8 * k + 8 ≤ xs.length := by have := HQ8.out; omega
        obtain ⟨b, off, rfl, hbB, _⟩ := rdb_at (hr.below hbl hB) (k := 8 * k) (by omega)
        have hlen : (uw xs k ++ List.replicate (q - k) 0).length = q := by rw [List.length_append, uw_len, List.length_replicate]; omega
        have hc1 := ownw_cell HOr.out hlen (j := k) (by omega)
        have hf1 := ownw_free HOr.out hlen k
        have R1 := ownw_set HOr.out hlen k (leNat ((xs.drop (8 * k)).take 8))
        rw [uw_set hlt] at R1
        have R2 := Lib.hid R1
        clear R1
        have hN := numberP_any ((xs.drop (8 * k)).take 8) (c - 8 * k) B (some ⟨b, off + 8 * k, none⟩) wr (by rw [← cb_take, ← cb_drop]; exact ((hr.below hbl hB).drop_ (8 * k)).take_ 8) (by simp; omega)
        rw [show ((xs.drop (8 * k)).take 8).length = 8 by simp; omega] at hN
        generalize leNat ((xs.drop (8 * k)).take 8) = nx at hN R2
        obtain ⟨old, hold⟩ : ∃ u, wr.cell? ⟨w.heap.size, k, none⟩ = some u := ⟨_, hc1⟩
        clear hc1 hlen HOr
        go_wp2_with (go_at_call 56; (with_reducible refine hN.mono ?_); rintro e w2 ⟨rfl, rfl⟩)
        go_roundw
        case rel => exact ⟨k + 1, by omega, by simp, R2, hbl.setCell (Nat.le_refl _) _⟩
        case measure => simp [intOf]; omega
      · have e : k = q := by omega
        subst e
        have HF := Lib.hid (show OwnW wr w.heap.size (.slice (some ⟨w.heap.size, 0, none⟩) k k) (uw xs k) by
          have := HOr.out
          rwa [Nat.sub_self, List.replicate_zero, List.append_nil] at this)
        have hend : xs.length / 8 ≤ k := by rw [HQ.out]; omega
        go_wp2_with fail
        go_ret2
        exact ⟨_, _, rfl, hbl, by rw [if_pos h8, HQ.out]; exact ⟨rfl, HF.out⟩⟩
  · go_enter Tryd.func34, Tryd.ntmps34
    go_wp2_with fail
    go_ret2
    exact ⟨_, _, rfl, Below.refl _ _, by rw [if_neg h8]; exact ⟨rfl, rfl⟩⟩
theorem ownw_push {w' : World} {base : Nat} {v : Value} {ws : List Nat} {x : Nat} (h : w'.ownsRow base 59 1 v (ws.length + 1) (cw ws ++ [.int .u64 (x : Int)])) : OwnW w' base v (ws ++ [x]) := by
  have e : cw (ws ++ [x]) = cw ws ++ [.int .u64 (x : Int)] := by simp [cw]
  unfold OwnW; rw [e, List.length_append]; exact h
theorem OwnW.lt {w : World} {base : Nat} {v : Value} {xs : List Nat} (h : OwnW w base v xs) (k : Nat) (hk : v.ownBlock = some k) : base ≤ k := (World.ownsRow.lt h k hk).1
theorem lone_onew (z : Int) : ∀ u ∈ [Value.int .u64 z], u.oneCell' = true := by
  intro u hu; simp at hu; subst hu; rfl
theorem ownw_nil (w : World) (base : Nat) : OwnW w base (.slice none 0 0) [] := ⟨rfl, .inl ⟨rfl, rfl⟩⟩
theorem res_eight {xs : List UInt8} {k : Nat} (h : 8 * k + 8 ≤ xs.length) : resNum (xs.drop (8 * k)) 8 = leNat ((xs.drop (8 * k)).take 8) := by
  unfold resNum; rw [if_neg (by simp; omega)]
def RUnwPost (xs : List UInt8) (w : World) (e : Ending) (w' : World) : Prop := ∃ v' b, e = .returned (.tuple #[v', .bool b]) ∧ Below w.heap.size w w' ∧
  if xs.length % 8 = 0 then b = true ∧ OwnW w' w.heap.size v' (uw xs (xs.length / 8)) else b = false ∧ v' = .slice none 0 0
theorem same_same (ws : List Nat) (c c2 B B2 : Nat) (A A2 : Option Addr) (w : World) (hr : Rd w B A (cw ws)) (hr2 : Rd w B2 A2 (cw ws)) (hl : ws.length ≤ 100000) :
    Calls Tryd.prog 35 #[.slice A ws.length c, .slice A2 ws.length c2] w fun e w' => e = .returned (.bool true) ∧ ∃ q, w.drewN q = w' := by
  go_enter Tryd.func35, Tryd.ntmps35
  go_wp2_with fail
  go_loopw [5] (fun i wr => ∃ k q : Nat, k ≤ ws.length ∧ i = .int .i64 k ∧ w.drewN q = wr) (fun i _ => ws.length - (intOf i).toNat)
  case atStart => exact ⟨0, 0, Nat.zero_le _, rfl, rfl⟩
  case round =>
    obtain ⟨k, q, hk, rfl, rfl⟩ := hrel
    by_cases hlt : k < ws.length
    · obtain ⟨b, off, rfl, hbB, hcell⟩ := rdw_at (w := w) hr hlt
      obtain ⟨b2, off2, rfl, hbB2, hcell2⟩ := rdw_at (w := w) hr2 hlt
      go_wp2_with fail
      go_quiet (fail)
      go_wp2_with fail
      go_roundw
      case rel => exact ⟨k + 1, _, by omega, by simp, rfl⟩
      case measure => simp [intOf]; omega
    · go_wp2_with fail
      go_ret
      exact ⟨rfl, _, rfl⟩
end Go.Proofs.YtmlfooofgedmaaaDoor.Fl
