/-
  Images: memory as bytes.
-/
import Derived.Test.YthppamfhkcdjdaaDoorPImg
import Derived.Test.YthppamfhkcdjdaaDoorPHeap
import Derived.Test.YthppamfhkcdjdaaDoorPMem
import Derived.Test.YthppamfhkcdjdaaDoorMark
namespace Go.Proofs.YthppamfhkcdjdaaDoor.Fl
open Go.RowKit

theorem ownH_rd {w : World} {base n c : Nat} {A : Option Addr} {xs : List Nat} (h : OwnH w base (.slice A n c) xs) : Rd w w.heap.size A (cw xs) := by
  rcases h.2 with ⟨_, e2⟩ | ⟨g, cap, cur, e1, hb, hg, _, _, _, ht⟩
  · rw [List.eq_nil_of_length_eq_zero e2]; exact .inl rfl
  · injection e1 with e1 _ _
    subst e1
    refine .inr ⟨g, 0, rfl, lt_of_block hg, fun j v hj => ?_⟩
    have hjl : j < xs.length := by
      rcases Nat.lt_or_ge j (cw xs).length with h1 | h1
      · rwa [cw_len] at h1
      · rw [List.getElem?_eq_none h1] at hj; cases hj
    rw [Nat.zero_add, cell_of_row w g j _ _ _ hg, ← hj, ← ht, List.getElem?_take, if_pos (by omega)]
    simp
/-- words in memory of the call's own, as a slice -/
def RowPost (ws : List Nat) (w : World) (e : Ending) (w' : World) : Prop := ∃ A c, e = .returned (.slice A ws.length c) ∧ OwnH w' w.heap.size (.slice A ws.length c) ws ∧ Below w.heap.size w w'
set_option maxHeartbeats 1000000 in
theorem clone_h (ws : List Nat) (c b off : Nat) (w : World) (hr : Rd w w.heap.size (some ⟨b, off, none⟩) (cw ws)) (hl : ws.length ≤ 16777216) :
    Calls Tryd.prog 45 #[.slice (some ⟨b, off, none⟩) ws.length c] w (RowPost ws w) := by
  have HR := Lib.hid ((hr.below ((Below.refl w.heap.size w).alloc (Nat.le_refl _) (.cells #[] 49)) (Nat.le_refl _)).more (B' := (w.alloc (.cells #[] 49)).heap.size) (by simp))
  clear hr
  have q22 : ∀ (w : World) (a : Option Addr) (n c n' c' : Nat), (binOp .eql 34 (.slice a n c) (.slice none n' c')).run Tryd.prog w = .ok (.bool a.isNone) w := fun w a n c n' c' => Lib.run_eql_slice_nil w _ _ a n c n' c' Tryd.underlying34
  obtain ⟨i0, hi, hz0, hz1, hz2⟩ := info_parts wordinfo
  have HI := Lib.hid (And.intro hi (And.intro hz0 (And.intro hz1 hz2)))
  clear hi hz0 hz1 hz2
  have HL := Lib.hid hl
  clear hl
  go_enter Tryd.func45, Tryd.ntmps45
  go_wp2_with (at_builtin; refine wpList_append_rd (base := w.heap.size) (size := 1) (bytes := 8) (n := 0) (m := ws.length) (c := c) (v := .slice (some ⟨w.heap.size, 0, none⟩) 0 0) (xs := []) rfl _ _ rfl Tryd.underlying34 HI.out.1 HI.out.2.1 HI.out.2.2.1 HI.out.2.2.2 rfl (by decide) rfl rfl (own_void w 49 1 w.heap.size (Nat.le_refl _)) HR.out (by rw [cw_len]; omega) (fun h => by cases h) (cw_one ws) (by have := HL.out; unfold maxLen; omega) (by have := HL.out; omega) (by simp) ?_; intro v' w2 happ; obtain ⟨A2, c2, hv, _, _⟩ := happ.slice; subst hv; have HAp := Lib.hid happ; clear happ)
  go_ret
  have h := HAp.out
  rw [Nat.zero_add] at h
  exact ⟨A2, c2, rfl, by have := h.own; rwa [Nat.zero_add, List.nil_append] at this, h.below ((Below.refl _ _).alloc (Nat.le_refl _) _) (fun k hk => by simp [Value.ownBlock] at hk; omega)⟩
set_option maxHeartbeats 1000000 in
theorem hWords_any {base g gc cap gb gb2 size last : Nat} {L ws : List Nat} (w : World) (h : HeapAt w base g gc cap gb gb2 size last L ws) (h2 : 2 < L.length) :
    Calls Tryd.prog 64 #[.pointer (some ⟨g, 0, none⟩)] w (RowPost (L.drop 2) w) := by
  have c1 := h.c1
  have hu := used_any w h
  have hcl := clone_h (L.drop 2) (cap - 2) gc 2 w (by
    refine .inr ⟨gc, 2, rfl, h.gl.2.1, fun j v hj => ?_⟩
    have hjl : j < (L.drop 2).length := by
      rcases Nat.lt_or_ge j (L.drop 2).length with h1 | h1
      · exact h1
      · rw [List.getElem?_eq_none (by rw [cw_len]; exact h1)] at hj; cases hj
    rw [h.cell (k := 2 + j) (by rw [List.length_drop] at hjl; omega), ← hj, cw_at _ j hjl]
    simp) (by have := h.room; have := h.small; simp; omega)
  rw [List.length_drop] at hcl
  have hcap := h.row
  obtain ⟨cur, _, _, hn, _⟩ := hcap
  have h3 : ¬ (cap = 2) := by omega
  clear h
  go_enter Tryd.func64, Tryd.ntmps64
  go_wp2_with (first
    | (go_at_call 21; (with_reducible refine hu.mono ?_); rintro e w' ⟨rfl, rfl⟩)
    | (go_at_call 45; refine hcl.mono ?_; rintro e w' ⟨A, c, rfl, ho, hb⟩))
  go_ret
  unfold RowPost
  rw [List.length_drop] at ho ⊢
  exact ⟨A, c, rfl, ho, hb⟩
theorem lastH_any {base g gc cap gb gb2 size last : Nat} {L ws : List Nat} (w : World) (h : HeapAt w base g gc cap gb gb2 size last L ws) :
    Calls Tryd.prog 17 #[.pointer (some ⟨g, 0, none⟩)] w fun e w' => e = .returned (.int .u32 (last : Int)) ∧ w = w' := by
  have c3 := h.c3
  go_enter Tryd.func17, Tryd.ntmps17
  go_wp2_with (go_at_call 52; (with_reducible refine (there_any _ _).mono ?_); rintro e w' ⟨rfl, rfl⟩)
  go_ret
  exact ⟨rfl, rfl⟩
/-- append of bytes onto a row of the call's own -/
theorem wpList_append_b {w : World} {base c : Nat} {A : Option Addr} {xs news : List UInt8} {v : Value} {ops : Array Oper} {rest : List Oper} {o : Oper} {a : Act} {Q : Exit → Act → World → Prop} (hg : o.guard = none) (s x : Operand) (ho : o.op = .call { callee := .builtin .append, args := #[s, x], argTypes := #[46, 46] })
    (hs : a.eval s = v) (hx : a.eval x = .slice A news.length c) (hown : Own w base v xs) (hr : Rd w w.heap.size A (cb news)) (hA : A = none → news.length = 0) (hl : xs.length ≤ 1000000) (hl2 : news.length ≤ 1000000) (hb : base ≤ w.heap.size)
    (h : ∀ A' ts c' w', Hid (ts = xs ++ news) → Hid (Own w' base (.slice A' ts.length c') ts) → Hid (Below base w w') → wpList Tryd.prog ops Q rest (a.put o.dst (.slice A' ts.length c')) w') : wpList Tryd.prog ops Q (o :: rest) a w := by
  obtain ⟨i0, hi, hz0, hz1, hz2⟩ := info_parts u8info
  refine wpList_append_rd (base := base) (size := 1) (bytes := 1) (n := xs.length) (m := news.length) (c := c) (v := v) (xs := cb xs) (news := cb news) hg s x ho Tryd.underlying46 hi hz0 hz1 hz2 rfl (by decide) hs hx hown hr (by rw [cb_len]; omega) hA (cb_oneCell news) (by unfold maxLen; omega) (by omega) hb ?_
  intro v' w' happ
  obtain ⟨A', c', rfl, _, _⟩ := happ.slice
  have e : xs.length + news.length = (xs ++ news).length := by simp
  have ho := happ.own
  rw [e, ← cb_append] at ho
  rw [e]
  exact h A' (xs ++ news) c' w' (Lib.hid rfl) (Lib.hid ho) (Lib.hid ((Below.refl _ _).grown happ.grown hb (fun j hj => (World.ownsRow.lt hown j hj).1)))
theorem wb_head (x y z : Nat) (l : List Nat) : wb [x, y, z] ++ wb l = wb (x :: y :: z :: l) := by simp [wb]
def EncPost (L : List Nat) (last root : Nat) (w : World) (e : Ending) (w' : World) : Prop :=
  ∃ A c, e = .returned (.tuple #[.slice A (imgB last root (L.drop 2)).length c, .int .i64 0]) ∧ Own w' w.heap.size (.slice A (imgB last root (L.drop 2)).length c) (imgB last root (L.drop 2)) ∧ Below w.heap.size w w'
set_option maxRecDepth 100000 in
set_option maxHeartbeats 4000000 in
theorem encode_any {base g gc cap gb gb2 size last root : Nat} {L ws : List Nat} (w : World) (h : HeapAt w base g gc cap gb gb2 size last L ws) (hp : isP ws root) (h2 : 2 < L.length) (hsz : L.length ≤ 400) (hlast : last < 4294967296) :
    Calls Tryd.prog 28 #[.pointer (some ⟨g, 0, none⟩), .int .u64 (root : Int)] w (EncPost L last root w) := by
  obtain ⟨p1, p2, p3, p4⟩ := hp
  have hhas := hhas_any (root / 2) w h (by omega) (by have := h.small; omega)
  rw [show ((root / 2 : Nat) : Int) * 2 = (root : Int) by omega, p4] at hhas
  have hwd := hWords_any w h h2
  have HH := Lib.hid h
  have HL2 := Lib.hid h2
  have HSz := Lib.hid hsz
  have HLst := Lib.hid hlast
  have HRt := Lib.hid (show root < 18446744073709551616 by omega)
  have hdl := h.lt
  have HDl : Hid (∀ x ∈ L.drop 2, x < 18446744073709551616) := Lib.hid fun x hx => hdl x (List.mem_of_mem_drop hx)
  have HDn : Hid ((L.drop 2).length ≤ 398) := Lib.hid (by simp; omega)
  unfold EncPost
  generalize L.drop 2 = D at *
  clear h h2 hsz hlast p1 p2 p3 p4 hdl
  go_enter Tryd.func28, Tryd.ntmps28
  go_wp2_with fail
  refine hhas.mono ?_
  rintro e w' ⟨rfl, rfl⟩
  go_wp2_with fail
  refine hwd.mono ?_
  rintro e w1 ⟨AW, cW, rfl, hoW, hb1⟩
  have HOW := Lib.hid hoW
  have HB1 := Lib.hid hb1
  clear hhas hwd hoW hb1
  go_wp2_with (at_make; refine wpList_make_words _ rfl _ _ rfl D.length rfl rfl rfl (by have := HDn.out; omega) ?_; intro w2 HN hb2 hs2)
  have HB2 := Lib.hid hb2
  clear hb2 hs2
  go_wp2_with fail
  go_loopw [21] (fun v wx => ∃ k : Nat, v = .int .i64 (k : Int) ∧ k ≤ D.length ∧ Hid (OwnW wx w1.heap.size (.slice (some ⟨w1.heap.size, 0, none⟩) D.length D.length) (D.take k ++ List.replicate (D.length - k) 0)) ∧ Hid (Below w1.heap.size w1 wx)) (fun v _ => D.length - (intOf v).toNat)
  case atStart => exact ⟨0, rfl, Nat.zero_le _, by simpa using HN, HB2⟩
  case round =>
    clear HN HB2
    obtain ⟨k, rfl, hk, HN, HB2⟩ := hrel
    have hnl : (D.take k ++ List.replicate (D.length - k) 0).length = D.length := by simp; omega
    have hdn := HDn.out
    by_cases hlt : k < D.length
    · obtain ⟨b, off, rfl, hb, hcl⟩ := rdw_at ((ownH_rd HOW.out).below HB2.out (Nat.le_refl _)) hlt
      have hset := Lib.hid (ownw_set HN.out hnl k D[k])
      have hfr := ownw_free HN.out hnl k
      obtain ⟨x0, hc0⟩ : ∃ x0 : Nat, wr.cell? ⟨w1.heap.size, k, none⟩ = some (.int .u64 (x0 : Int)) := ⟨_, ownw_cell HN.out hnl (by rw [hnl]; exact hlt)⟩
      have he : (D.take k ++ List.replicate (D.length - k) 0).set k D[k] = D.take (k + 1) ++ List.replicate (D.length - (k + 1)) 0 := by
        rw [List.set_append_right _ _ (by simp; omega), List.length_take, Nat.min_eq_left hk, Nat.sub_self, show D.length - k = (D.length - (k + 1)) + 1 by omega, List.replicate_succ, List.set_cons_zero, List.take_succ_eq_append_getElem hlt, List.append_assoc]; rfl
      rw [he] at hset
      have HB3 := Lib.hid (HB2.out.setCell (p := ⟨w1.heap.size, k, none⟩) (Nat.le_refl _) (.int .u64 (D[k] : Int)))
      clear he hnl HN HB2
      go_wp2_with fail
      go_roundw
      case rel => exact ⟨k + 1, by simp, hlt, hset, HB3⟩
      case measure => simp [intOf]; omega
    · obtain rfl : k = D.length := by omega
      have HN2 : Hid (OwnW wr w1.heap.size (.slice (some ⟨w1.heap.size, 0, none⟩) D.length D.length) D) := by
        have h := HN.out
        rw [Nat.sub_self, List.take_length, List.replicate_zero, List.append_nil] at h
        exact Lib.hid h
      clear HN hnl
      go_wp2_with fail
      refine (opening_any _).mono ?_
      rintro e w3 ⟨A3, c3, rfl, -, -, ho3, hb3⟩
      have HO3 := Lib.hid ho3
      have HB3 := Lib.hid hb3
      have HBa := Lib.hid (HB1.out.trans (HB2.out.mono HB1.out.size))
      have HHr := Lib.hid ((HH.out.below HBa.out).below hb3)
      have hla := lastH_any _ HHr.out
      have hl32 := HLst.out
      clear ho3 hb3
      go_wp2_with (go_at_call 17; (with_reducible refine hla.mono ?_); rintro e w' ⟨rfl, rfl⟩)
      have hb4 : Below w3.heap.size w3 (w3.alloc (.cells #[.int .u64 (D.length : Int), .int .u64 (last : Int), .int .u64 (root : Int)] 43)) := (Below.refl _ _).alloc (Nat.le_refl _) _
      have hw3 := words_any [D.length, last, root] 3 (w3.heap.size + 1) (some ⟨w3.heap.size, 0, none⟩) (w3.alloc (.cells #[.int .u64 (D.length : Int), .int .u64 (last : Int), .int .u64 (root : Int)] 43)) (rd_block (heap_alloc_new w3 _) (Nat.lt_succ_self _)) (by simp) (by simp) (by have := HRt.out; intro y hy; simp at hy; omega)
      obtain ⟨hd, hhd⟩ : ∃ hd, wb [D.length, last, root] = hd := ⟨_, rfl⟩
      have HHd := Lib.hid hhd
      have HHl : Hid (hd.length = 24) := Lib.hid (by rw [← hhd, wb_len]; rfl)
      unfold WordsPost at hw3
      rw [hhd] at hw3
      clear hhd hla
      refine hw3.mono ?_
      rintro e w5 ⟨v5, rfl, ho5, hb5⟩
      obtain ⟨A5, c5, rfl, hr5, hn5⟩ := own_rd ho5
      have hb35 := hb4.trans (hb5.mono (by simp))
      have HO5 := Lib.hid (HO3.out.below hb35)
      have HB5 := Lib.hid (HB3.out.trans (hb35.mono HB3.out.size))
      have HR5 := Lib.hid hr5
      have HN5 : Hid (A5 = none → hd.length = 0) := Lib.hid fun h => by rw [(hn5 h).1]; rfl
      clear hw3 hb4 hb5 hb35 ho5 hr5 hn5 HO3 HB3 HHr hl32
      go_wp2_with (at_builtin; refine wpList_append_b (base := wr.heap.size) rfl _ _ rfl rfl rfl HO5.out HR5.out HN5.out (by decide) (by have := HHl.out; omega) HB5.out.size ?_; intro A6 t1 c6 w6 HT1 HO6 HB6)
      have HB6' := Lib.hid (HB5.out.trans HB6.out)
      have hbn := HB2.out.trans (HB6'.out.mono HB2.out.size)
      have hrn : Rd w6 w6.heap.size (some ⟨w1.heap.size, 0, none⟩) (cw D) := by
        obtain ⟨A, c, e, hr, _⟩ := ownw_rd (HN2.out.below HB6'.out)
        injection e with e1
        subst e1
        exact hr
      have hw6 := words_any D D.length w6.heap.size (some ⟨w1.heap.size, 0, none⟩) w6 hrn (Nat.le_refl _) (by have := HDn.out; omega) HDl.out
      obtain ⟨bd, hbd⟩ : ∃ bd, wb D = bd := ⟨_, rfl⟩
      have HBd := Lib.hid hbd
      have HBl : Hid (bd.length ≤ 3200) := Lib.hid (by rw [← hbd, wb_len]; have := HDn.out; omega)
      unfold WordsPost at hw6
      rw [hbd] at hw6
      clear hbd hrn hbn HB5 HB6 HO5 HR5 HN5
      go_wp2_with fail
      refine hw6.mono ?_
      rintro e w7 ⟨v7, rfl, ho7, hb7⟩
      obtain ⟨A7, c7, rfl, hr7, hn7⟩ := own_rd ho7
      have HO7 := Lib.hid (HO6.out.below hb7)
      have HB7 := Lib.hid (HB6'.out.trans (hb7.mono HB6'.out.size))
      have HR7 := Lib.hid hr7
      have HN7 : Hid (A7 = none → bd.length = 0) := Lib.hid fun h => by rw [(hn7 h).1]; rfl
      have HT1l : Hid (t1.length = 32) := Lib.hid (by rw [HT1.out, List.length_append, HHl.out]; rfl)
      clear hw6 ho7 hb7 hr7 hn7 HO6 HB6'
      go_wp2_with (at_builtin; refine wpList_append_b (base := wr.heap.size) rfl _ _ rfl rfl rfl HO7.out HR7.out HN7.out (by have := HT1l.out; omega) (by have := HBl.out; omega) HB7.out.size ?_; intro A8 t2 c8 w8 HT2 HO8 HB8)
      have HB8' := Lib.hid (HB7.out.trans HB8.out)
      have HT : Hid (t2 = imgBody last root D) := Lib.hid (by rw [HT2.out, HT1.out, ← HHd.out, ← HBd.out, List.append_assoc]; rfl)
      have HT2l : Hid (t2.length ≤ 4096) := Lib.hid (by rw [HT2.out, List.length_append]; have := HT1l.out; have := HBl.out; omega)
      have hr8 : Rd w8 w8.heap.size A8 (cb t2) := by
        obtain ⟨A, c, e, hr, _⟩ := own_rd HO8.out
        injection e with e1
        subst e1
        exact hr
      have HR8 := Lib.hid hr8
      have hcr := crc_any t2 c8 A8 w8 hr8 HT2l.out
      have hu := upd_lt 0 t2
      obtain ⟨cr, hcr0⟩ : ∃ cr, upd 0 t2 = cr := ⟨_, rfl⟩
      have HCr := Lib.hid hcr0
      rw [hcr0] at hcr hu
      clear hcr0 hr8 HB7 HB8 HO7 HR7 HN7
      go_wp2_with fail
      refine hcr.mono ?_
      rintro e w9 ⟨rfl, hb9⟩
      have HB9 := Lib.hid (HB8'.out.trans (hb9.mono HB8'.out.size))
      have hpu := put_any t2 c8 w9.heap.size A8 cr 4 w9 ((HR8.out.below hb9 (Nat.le_refl _)).more hb9.size) (Nat.le_refl _) (by omega) (by have := HT2l.out; omega)
      clear hcr hb9 HR8 HB8' HO8
      go_wp2_with fail
      refine hpu.mono ?_
      rintro e w10 ⟨v10, rfl, ho10, hb10⟩
      rw [show le cr (min (4 : Int).toNat 8) = le cr 4 from rfl] at ho10
      have hfin : t2 ++ le cr 4 = imgB last root D := by rw [← HCr.out, HT.out]; rfl
      rw [hfin] at ho10
      obtain ⟨A10, c10, rfl, -, -⟩ := own_rd ho10
      have hsz := HBa.out.size
      have hsz9 := HB9.out.size
      have HF := Lib.hid (Own.le ho10 (show w.heap.size ≤ w9.heap.size by omega))
      have HB10 := Lib.hid (HBa.out.trans ((HB9.out.trans (hb10.mono HB9.out.size)).mono hsz))
      clear hfin ho10 hb10 hpu
      go_wp2_with fail
      go_ret2
      exact ⟨A10, c10, rfl, HF.out, HB10.out⟩
end Go.Proofs.YthppamfhkcdjdaaDoor.Fl
