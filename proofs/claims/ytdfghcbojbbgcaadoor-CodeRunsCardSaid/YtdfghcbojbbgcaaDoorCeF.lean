/-
  What is decoded of any bytes is an instruction that is encoded there; Text of any bytes.
-/
import Derived.Test.YtdfghcbojbbgcaaDoorCeE
namespace Go.Proofs.YtdfghcbojbbgcaaDoor.Fl
open Go.RowKit

theorem byteI_of {z : Int} {c : UInt8} (h : z % 256 = (c.toNat : Int)) : byteI z = c := UInt8.toNat_inj.1 (by have h1 := byteI_nat z; omega)
theorem bytes_getN (s : Nat) (la : Int) (hs : s ≤ 2) (hla : la = 0 ∨ (s = 1 ∧ la = -128) ∨ (s = 2 ∧ la = -32768)) (bs : List UInt8) (hb : bs.length = s) : bytesN s (getN s la bs) = bs ∧ hasC s la (getN s la bs) = true := by
  obtain rfl | rfl | rfl : s = 0 ∨ s = 1 ∨ s = 2 := by omega
  · obtain rfl : la = 0 := by omega
    obtain rfl := List.eq_nil_of_length_eq_zero hb
    exact ⟨rfl, rfl⟩
  · match bs, hb with
    | [c], _ =>
      have hc := c.toNat_lt
      have hv : valN [c] = (c.toNat : Int) := rfl
      unfold getN
      rw [hv]
      split
      · next h => exact ⟨by show [byteI _] = _; rw [byteI_of (z := (c.toNat : Int)) (c := c) (by omega)], h⟩
      · next h =>
        refine ⟨by show [byteI ((c.toNat : Int) - 256)] = _; rw [byteI_of (z := (c.toNat : Int) - 256) (c := c) (by omega)], ?_⟩
        unfold hasC at h ⊢
        simp only [Bool.and_eq_true, decide_eq_true_eq] at h ⊢
        show la ≤ (c.toNat : Int) - 256 ∧ (c.toNat : Int) - 256 < la + 256
        replace h : ¬ (la ≤ (c.toNat : Int) ∧ (c.toNat : Int) < la + 256) := h
        omega
  · match bs, hb with
    | [c, d], _ =>
      have hc := c.toNat_lt
      have hd := d.toNat_lt
      have hv : valN [c, d] = (c.toNat : Int) + (d.toNat : Int) * 256 := rfl
      unfold getN
      rw [hv]
      split
      · next h => exact ⟨by show [byteI ((c.toNat : Int) + (d.toNat : Int) * 256), byteI (((c.toNat : Int) + (d.toNat : Int) * 256) / 256)] = _; rw [byteI_of (z := (c.toNat : Int) + (d.toNat : Int) * 256) (c := c) (by omega), byteI_of (z := ((c.toNat : Int) + (d.toNat : Int) * 256) / 256) (c := d) (by omega)], h⟩
      · next h =>
        refine ⟨by show [byteI ((c.toNat : Int) + (d.toNat : Int) * 256 - 65536), byteI (((c.toNat : Int) + (d.toNat : Int) * 256 - 65536) / 256)] = _; rw [byteI_of (z := (c.toNat : Int) + (d.toNat : Int) * 256 - 65536) (c := c) (by omega), byteI_of (z := ((c.toNat : Int) + (d.toNat : Int) * 256 - 65536) / 256) (c := d) (by omega)], ?_⟩
        unfold hasC at h ⊢
        simp only [Bool.and_eq_true, decide_eq_true_eq] at h ⊢
        show la ≤ (c.toNat : Int) + (d.toNat : Int) * 256 - 65536 ∧ (c.toNat : Int) + (d.toNat : Int) * 256 - 65536 < la + 65536
        replace h : ¬ (la ≤ (c.toNat : Int) + (d.toNat : Int) * 256 ∧ (c.toNat : Int) + (d.toNat : Int) * 256 < la + 65536) := h
        omega
/-- what is decoded is an instruction, whose bytes stand there -/
theorem enc_dec {b : List UInt8} {at_ : Int} {x : Ins} {p : Nat} (h : decR b at_ = .inl (x, p)) : ∃ n : Nat, at_ = (n : Int) ∧ n < p ∧ p ≤ b.length ∧ isI x.1 x.2.1 x.2.2 = true ∧ enc1 x = bytesAt b n (p - n) := by
  unfold decR at h
  split at h
  · cases h
  next h1 =>
  split at h
  · cases h
  next h2 =>
  obtain ⟨n, rfl⟩ : ∃ n : Nat, at_ = (n : Int) := ⟨at_.toNat, by omega⟩
  have hn : n < b.length := by omega
  simp only [Int.toNat_natCast] at h
  obtain ⟨kb, hkb⟩ : ∃ kb, b.getD n 0 = kb := ⟨_, rfl⟩
  rw [hkb] at h
  have hk : kb.toNat < 20 := by
    rcases Nat.lt_or_ge kb.toNat 20 with hk | hk
    · exact hk
    · rw [formsL_none hk] at h; cases h
  obtain ⟨nmx, sa, la, sb, t, u, hrow, ⟨hsa, hsb⟩, hla, _⟩ := formsL_get2 hk
  simp only [hrow, Int.toNat_natCast] at h
  split at h
  · cases h
  next h3 =>
  injection h with h
  injection h with hx hp
  have hbl : ∀ i m, i + m ≤ b.length → (bytesAt b i m).length = m := fun i m him => by
    unfold bytesAt; rw [List.length_take, List.length_drop]; omega
  obtain ⟨ea, ia⟩ := bytes_getN sa la hsa hla (bytesAt b (n + 1) sa) (hbl _ _ (by omega))
  obtain ⟨eb, ib⟩ := bytes_getN sb 0 hsb (.inl rfl) (bytesAt b (n + 1 + sa) sb) (hbl _ _ (by omega))
  generalize getN sa la (bytesAt b (n + 1) sa) = va at *
  generalize getN sb 0 (bytesAt b (n + 1 + sa) sb) = vb at *
  subst hx
  refine ⟨n, rfl, by omega, by omega, ?_, ?_⟩
  · unfold isI
    show (if 0 ≤ (kb.toNat : Int) ∧ (kb.toNat : Int) < 20 then _ else false) = true
    rw [if_pos ⟨by omega, by omega⟩]
    simp only [Int.toNat_natCast, hrow, ia, ib, Bool.and_self]
  · unfold enc1 sizeA sizeB
    simp only [Int.toNat_natCast, hrow, Option.map_some, Option.getD_some]
    rw [ea, eb, byteI_of (z := (kb.toNat : Int)) (c := kb) (by have := kb.toNat_lt; omega)]
    have hd : b.drop n = kb :: b.drop (n + 1) := by
      rw [List.drop_eq_getElem_cons hn]
      rw [List.getD_eq_getElem?_getD, List.getElem?_eq_getElem hn] at hkb
      rw [← hkb]
      rfl
    unfold bytesAt
    rw [hd, show p - n = (sa + sb) + 1 by omega, List.take_succ_cons, List.take_add, List.drop_drop]
/-- a text's lines ahead -/
def addT (ts : List UInt8) : List UInt8 ⊕ Int → List UInt8 ⊕ Int
  | .inl t => .inl (ts ++ t)
  | .inr e => .inr e
theorem addT_add (ts us : List UInt8) (r : List UInt8 ⊕ Int) : addT ts (addT us r) = addT (ts ++ us) r := by
  cases r <;> simp [addT]
/-- what Text says of the bytes from a place on -/
def textD (b : List UInt8) : Nat → Nat → List UInt8 ⊕ Int
  | 0, _ => .inl []
  | f + 1, q => if q < b.length then (match decR b (q : Int) with
    | .inl (x, p) => addT (lineR q x) (textD b f p)
    | .inr e => .inr e) else .inl []
theorem textD_step {b : List UInt8} {f q p : Nat} {x : Ins} (hq : q < b.length) (h : decR b (q : Int) = .inl (x, p)) : textD b (f + 1) q = addT (lineR q x) (textD b f p) := by
  rw [textD, if_pos hq, h]
theorem textD_bad {b : List UInt8} {f q : Nat} {e : Int} (hq : q < b.length) (h : decR b (q : Int) = .inr e) : textD b (f + 1) q = .inr e := by
  rw [textD, if_pos hq, h]
theorem textD_end {b : List UInt8} {f q : Nat} (hq : ¬ q < b.length) : textD b (f + 1) q = .inl [] := by
  rw [textD, if_neg hq]
def TextPost (r : List UInt8 ⊕ Int) (w : World) (e : Ending) (w' : World) : Prop :=
  Below w.heap.size w w' ∧ ((∃ t, r = .inl t ∧ e = .returned (.tuple #[.string ⟨t.toArray⟩, .int .i64 0])) ∨ ∃ n, r = .inr n ∧ e = .returned (.tuple #[.string ⟨#[]⟩, .int .i64 n]))
theorem decR_op {b : List UInt8} {at_ : Int} {x : Ins} {p : Nat} (h : decR b at_ = .inl (x, p)) : ∃ k : Nat, k < 20 ∧ x.1 = (k : Int) := by
  obtain ⟨_, _, _, _, hi, _⟩ := enc_dec h
  obtain ⟨k, hk, hk2⟩ := isI_op hi
  exact ⟨k, hk2, hk⟩
theorem decR_err {b : List UInt8} {at_ : Int} {n : Int} (h : decR b at_ = .inr n) : n = 1 ∨ n = 3 ∨ n = 4 := by
  unfold decR at h
  split at h
  · injection h with h; omega
  split at h
  · injection h with h; omega
  split at h
  · injection h with h; omega
  · split at h
    · injection h with h; omega
    · cases h
set_option maxRecDepth 100000 in
set_option maxHeartbeats 2000000 in
theorem textD_any (bs : List UInt8) (hl : bs.length ≤ 1000) (A : Option Addr) (c B : Nat) (w : World) (hr : Rd w B A (cb bs)) (hB : B ≤ w.heap.size) (hc : bs.length ≤ c) (hF : ∀ w', Below w.heap.size w w' → FormsAt w') (hE : ∀ w', Below w.heap.size w w' → EnvC w') :
    Calls Tryd.prog 8 #[.slice A bs.length c] w (TextPost (textD bs (bs.length + 1) 0) w) := by
  have HR := Lib.hid hr
  have HF := Lib.hid hF
  have HE := Lib.hid hE
  have hw1 := heap_alloc_new w (.cells #[.pointer none, .slice none 0 0] 60)
  have hb1 : Below w.heap.size w (w.alloc (.cells #[.pointer none, .slice none 0 0] 60)) := (Below.refl _ _).alloc (Nat.le_refl _) _
  have HI1 : Hid (IsB (w.alloc (.cells #[.pointer none, .slice none 0 0] 60)) w.heap.size w.heap.size []) := Lib.hid (.inl ⟨Nat.le_refl _, _, hw1, World.ownsRow_nil _ _ _ _, by simp [Value.ownBlock]⟩)
  have HB1 := Lib.hid hb1
  obtain ⟨R, hR⟩ : ∃ R, textD bs (bs.length + 1) 0 = R := ⟨_, rfl⟩
  have HRe := Lib.hid hR
  rw [hR]
  clear hr hF hE hb1 hw1 hR
  go_enter Tryd.func8, Tryd.ntmps8
  go_wp2_with fail
  generalize w.alloc (.cells #[.pointer none, .slice none 0 0] 60) = w1 at *
  go_loopw [5] (fun v5 wr => ∃ (f q : Nat) (ts : List UInt8), bs.length ≤ f + q ∧ q ≤ bs.length ∧ ts.length ≤ 200 * q ∧ v5 = .int .i64 (q : Int) ∧ Hid (addT ts (textD bs (f + 1) q) = R) ∧ Hid (IsB wr w.heap.size w.heap.size ts) ∧ Hid (Below w.heap.size w wr)) (fun v5 _ => bs.length - (intOf v5).toNat)
  case atStart => exact ⟨bs.length, 0, [], by omega, Nat.zero_le _, Nat.zero_le _, rfl, Lib.hid (by rw [← HRe.out]; cases textD bs (bs.length + 1) 0 <;> rfl), HI1, HB1⟩
  case round =>
    obtain ⟨f, q, ts, hf, hq, htl, rfl, HT, HI, HO⟩ := hrel
    clear HI1 HB1 HRe
    by_cases hlt : q < bs.length
    · obtain ⟨f, rfl⟩ : ∃ f', f = f' + 1 := ⟨f - 1, by omega⟩
      have hdec := decode_any bs (q : Int) A c B wr (HR.out.below HO.out hB) (Nat.le_trans hB HO.out.size) hc (by omega) (HF.out _ HO.out)
      obtain ⟨D, hD⟩ : ∃ D, decR bs (q : Int) = D := ⟨_, rfl⟩
      rw [hD] at hdec
      rcases D with ⟨⟨op, a, b⟩, p⟩ | n
      · obtain ⟨n, hqn, hnp, hpl, hi, _⟩ := enc_dec hD
        obtain rfl : q = n := by omega
        replace hi : isI op a b = true := hi
        have HT3 : Hid (addT (ts ++ lineR q (op, a, b)) (textD bs (f + 1) p) = R) := Lib.hid (by rw [← HT.out, textD_step hlt hD, addT_add])
        obtain ⟨⟨a0, a1⟩, b0, b1⟩ := isI_bd hi
        obtain ⟨kk, rfl, hkk⟩ := isI_op hi
        have hll := line_le q ((kk : Int), a, b) (by omega) (by show _ ≤ a ∧ a ≤ _; omega) (by show _ ≤ b ∧ b ≤ _; omega)
        clear HT hi hD hqn
        go_wp2_with fail
        refine hdec.mono ?_
        rintro e w2 ⟨hb2, hcase⟩
        obtain ⟨y, p', hxp, rfl⟩ | ⟨n, hxp, _⟩ := hcase
        rotate_left 1
        · cases hxp
        obtain ⟨rfl, rfl⟩ : y = ((kk : Int), a, b) ∧ p' = p := by cases hxp; exact ⟨rfl, rfl⟩
        have hb3 : Below wr.heap.size wr (w2.alloc (.cells #[.int .i64 (kk : Int), .int .i64 a, .int .i64 b] 34)) := hb2.alloc hb2.size _
        have HO3 := Lib.hid (HO.out.trans (hb3.mono HO.out.size))
        have HI3 := Lib.hid (HI.out.keep hb3)
        have hw3 := heap_alloc_new w2 (.cells #[.int .i64 (kk : Int), .int .i64 a, .int .i64 b] 34)
        have f3 := three_cellsC hw3
        have hli := line_any q kk (by omega) hkk a b (by omega) (by omega) (w2.alloc (.cells #[.int .i64 (kk : Int), .int .i64 a, .int .i64 b] 34)) (fun w' h => HF.out _ (HO3.out.trans (h.mono HO3.out.size))) (fun w' h => HE.out _ (HO3.out.trans (h.mono HO3.out.size)))
        have hwr := fun (w4 : World) (hb : Below (w2.alloc (.cells #[.int .i64 (kk : Int), .int .i64 a, .int .i64 b] 34)).heap.size (w2.alloc (.cells #[.int .i64 (kk : Int), .int .i64 a, .int .i64 b] 34)) w4) => writeC w.heap.size w.heap.size (Lib.byteCells ts) ⟨(lineR q ((kk : Int), a, b)).toArray⟩ w4 (HI3.out.keep hb) (by rw [Lib.byteCells_length]; show _ + (lineR q ((kk : Int), a, b)).length ≤ _; omega) (Nat.le_trans HO3.out.size hb.size)
        rw [show Lib.byteCells ts ++ Lib.strCells ⟨(lineR q ((kk : Int), a, b)).toArray⟩ = Lib.byteCells (ts ++ lineR q ((kk : Int), a, b)) from (Lib.byteCells_append _ _).symm] at hwr
        have htl2 : (ts ++ lineR q ((kk : Int), a, b)).length ≤ 200 * p' := by rw [List.length_append]; omega
        generalize lineR q ((kk : Int), a, b) = ln at *
        clear hdec hxp hb2 hb3 hw3 HO HI hll
        unfold insV
        go_wp2_with (first | (go_at_call 16; refine hli.mono ?_; rintro e w4 ⟨rfl, hb4⟩; have hw4 := hwr w4 hb4; have HO4 := Lib.hid (HO3.out.trans (hb4.mono HO3.out.size)); clear hwr hli hb4) | (go_at_call 15; refine hw4.mono ?_; rintro e w5 ⟨rfl, hbd, hb5⟩; have HI5 : Hid (IsB w5 w.heap.size w.heap.size (ts ++ ln)) := Lib.hid (.inr hbd); have HO5 := Lib.hid (HO4.out.trans hb5); clear hw4 hbd hb5))
        go_roundw
        case rel => exact ⟨f, p', ts ++ ln, by omega, hpl, htl2, rfl, HT3, HI5, HO5⟩
        case measure => simp [intOf]; omega
      · have HT3 : Hid (R = .inr n) := Lib.hid (by rw [← HT.out, textD_bad hlt hD]; rfl)
        have hne : (n == 0) = false := by rcases decR_err hD with rfl | rfl | rfl <;> rfl
        clear HT hD
        go_wp2_with fail
        refine hdec.mono ?_
        rintro e w2 ⟨hb2, hcase⟩
        obtain ⟨y, p', hxp, _⟩ | ⟨n', hxp, rfl⟩ := hcase
        · cases hxp
        obtain rfl : n = n' := by cases hxp; rfl
        have hb3 : Below wr.heap.size wr (w2.alloc (.cells #[.int .i64 0, .int .i64 0, .int .i64 0] 34)) := hb2.alloc hb2.size _
        have hb8 := HO.out.trans (hb3.mono HO.out.size)
        clear hdec hxp
        unfold insV
        go_wp2_with fail
        go_ret2
        exact ⟨hb8, .inr ⟨n, HT3.out, rfl⟩⟩
    · have HT3 : Hid (R = .inl ts) := Lib.hid (by rw [← HT.out, textD_end hlt]; simp [addT])
      have hst := Tryd.Builder_String_any w.heap.size w.heap.size ts wr HI.out HO.out.size
      clear HT
      go_wp2_with (first | (go_at_call 17; refine hst.mono ?_; rintro e w7 ⟨rfl, hb7⟩))
      have hb8 := HO.out.trans hb7
      go_ret2
      exact ⟨hb8, .inl ⟨ts, HT3.out, rfl⟩⟩
end Go.Proofs.YtdfghcbojbbgcaaDoor.Fl
