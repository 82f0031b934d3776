/-
  LexJoins where both texts are read.
-/
import Derived.Test.YtijmigcgndlfcaaDoorLxEq
namespace Go.Proofs.YtijmigcgndlfcaaDoor.Fl
open Go.RowKit

theorem rd_initK {w : World} {B : Nat} {A : Option Addr} {x : List Tok} {e : Tok} (h : Rd w B A (ct (x ++ [e]))) : Rd w B A (ct x) := by
  have h2 := h.take_ (ct x).length
  rwa [ct_append, List.take_left'  rfl] at h2
theorem ownK_none {w : World} {base n c : Nat} {A : Option Addr} {xs : List Tok} (h : OwnK w base (.slice A n c) xs) : (A = none → xs.length = 0) ∧ xs.length ≤ c := by
  rcases h.2 with ⟨e1, e2⟩ | ⟨g, cap, cur, e1, _, _, hc, _⟩
  · exact ⟨fun _ => e2, by omega⟩
  · injection e1 with e1 _ e3
    subst e1 e3
    exact ⟨fun h => (by cases h), hc⟩
theorem rdK_at {w : World} {B : Nat} {A : Option Addr} {xs : List Tok} (h : Rd w B A (ct xs)) {k : Nat} (hk : k < xs.length) {kd : Nat} {wd : List UInt8} {nm : Int} {at_ : Nat} (hx : xs[k] = (kd, wd, nm, at_)) :
    ∃ b off, A = some ⟨b, off, none⟩ ∧ b < B ∧ w.cell? ⟨b, off + k * 4, none⟩ = some (.int .i64 (kd : Int)) ∧ w.cell? ⟨b, off + k * 4 + 1, none⟩ = some (.string ⟨wd.toArray⟩) ∧ w.cell? ⟨b, off + k * 4 + 2, none⟩ = some (.int .i64 nm) ∧ w.cell? ⟨b, off + k * 4 + 3, none⟩ = some (.int .i64 (at_ : Int)) := by
  rcases h with h | ⟨b, off, rfl, hb, hc⟩
  · have := congrArg List.length h
    rw [ct_len] at this
    simp only [List.length_nil] at this
    omega
  · obtain ⟨h0, h1, h2, h3⟩ := ct_at xs k hk
    rw [hx] at h0 h1 h2 h3
    rw [Nat.mul_comm k 4]
    exact ⟨b, off, rfl, hb, hc _ _ h0, hc _ _ h1, hc _ _ h2, hc _ _ h3⟩
theorem allW_at {s : ByteArray} {p : Nat} {l : List Tok} (hp : p ≤ s.size) (h : allW s p = .inl l) : ∀ x ∈ l, p ≤ x.2.2.2 ∧ x.2.2.2 ≤ s.size := by
  obtain ⟨m, hm⟩ : ∃ m, s.size - p = m := ⟨_, rfl⟩
  induction m using Nat.strongRecOn generalizing p l with
  | _ m ih =>
    cases ht : tokR s p with
    | inr e => rw [allW_no ht] at h; cases h
    | inl x =>
      obtain ⟨k, t, n, q, p'⟩ := x
      have hin := tokR_in hp ht
      obtain ⟨hg1, hg2⟩ := tokR_go hp ht
      by_cases hk : k = 0
      · subst hk
        rw [allW_end ht] at h
        injection h with h
        intro x hx
        rw [← h, List.mem_singleton] at hx
        subst hx
        exact ⟨hg1, by show q ≤ _; omega⟩
      · have h1 := allW_go hp hin ht hk []
        rw [preW_nil, h] at h1
        cases hy : allW s p' with
        | inr e => rw [hy] at h1; cases h1.2
        | inl l' =>
          rw [hy] at h1
          have h2 := ih (s.size - p') (by have := h1.1; omega) hin hy rfl
          have h3 : l = (k, t, n, q) :: l' := by
            have := h1.2
            injection this
          intro x hx
          rw [h3] at hx
          rcases List.mem_cons.1 hx with rfl | hx
          · exact ⟨hg1, by show q ≤ _; omega⟩
          · have := h2 x hx
            have := h1.1
            exact ⟨by omega, by omega⟩
/-- the two lists' tokens at a place -/
theorem joins_at {x y : List Tok} {d k : Nat} (hk : k < (x ++ y).length) :
    ∃ kd wd nm at_, ∃ h : k < (x ++ y.map (atK d)).length, (x ++ y)[k] = (kd, wd, nm, at_) ∧ ((k < x.length ∧ (x ++ y.map (atK d))[k] = (kd, wd, nm, at_)) ∨ (x.length ≤ k ∧ (kd, wd, nm, at_) ∈ y ∧ (x ++ y.map (atK d))[k] = (kd, wd, nm, d + at_))) := by
  have h2 : k < (x ++ y.map (atK d)).length := by simpa using hk
  obtain ⟨kd, wd, nm, at_, he⟩ : ∃ kd wd nm at_, (x ++ y)[k] = (kd, wd, nm, at_) := ⟨_, _, _, _, rfl⟩
  refine ⟨kd, wd, nm, at_, h2, he, ?_⟩
  by_cases hx : k < x.length
  · left
    refine ⟨hx, ?_⟩
    rw [List.getElem_append_left hx] at he ⊢
    exact he
  · right
    rw [List.getElem_append_right (by omega)] at he
    refine ⟨by omega, he ▸ List.getElem_mem _, ?_⟩
    rw [List.getElem_append_right (by omega), List.getElem_map, he]
    rfl
theorem eq_same (k n q : Int) (t : ByteArray) (w : World) : (Op.equalIn 10000 30 (.agg #[.int .i64 k, .string t, .int .i64 n, .int .i64 q]) (.agg #[.int .i64 k, .string t, .int .i64 n, .int .i64 q])).run Tryd.prog w = .ok true w := by
  rw [eq_tok]; simp
set_option maxRecDepth 100000 in
set_option maxHeartbeats 4000000 in
theorem lexJoins_c (a b : ByteArray) (w : World) (hm : MaxAt w) (hE : ∀ w', Below w.heap.size w w' → EnvL w') (x y : List Tok) (hx : allW (shortB a 1000) 0 = .inl x) (hy : allW (shortB b 1000) 0 = .inl y) :
    Calls Tryd.prog 5 #[.string a, .string b] w fun e w' => e = .returned (.bool true) ∧ Below w.heap.size w w' := by
  have haw := awake9_any w hm hE
  have hsa : ∀ w, Calls Tryd.prog 8 #[.string a, .int .i64 1000] w fun e w' => e = .returned (.string (shortB a 1000)) ∧ w' = w := fun w => short9_any a 1000 w
  have hsb : ∀ w, Calls Tryd.prog 8 #[.string b, .int .i64 1000] w fun e w' => e = .returned (.string (shortB b 1000)) ∧ w' = w := fun w => short9_any b 1000 w
  have hla := shortB_size a 1000
  have hlb := shortB_size b 1000
  generalize shortB a 1000 = a' at *
  generalize shortB b 1000 = b' at *
  have HA := Lib.hid (fun w' (h : Below w.heap.size w w') => all_any a' w' (by omega) (max_below hm h) (fun w2 h2 => hE w2 (h.trans (h2.mono h.size))))
  have HBb := Lib.hid (fun w' (h : Below w.heap.size w w') => all_any b' w' (by omega) (max_below hm h) (fun w2 h2 => hE w2 (h.trans (h2.mono h.size))))
  have HZ := Lib.hid (fun w' (h : Below w.heap.size w w') => all_any (a' ++ ⟨#[32]⟩ ++ b') w' (by rw [blank_size]; omega) (max_below hm h) (fun w2 h2 => hE w2 (h.trans (h2.mono h.size))))
  have HX := Lib.hid hx
  have HY := Lib.hid hy
  obtain ⟨x', en, hxe, hjo⟩ := joins_ok hx hy
  have HN := Lib.hid hjo
  have HXe := Lib.hid hxe
  have HLx := Lib.hid (show x.length = x'.length + 1 by rw [hxe, List.length_append]; rfl)
  clear hxe
  have hl1 := allW_len (Nat.zero_le _) hx
  have hl2 := allW_len (Nat.zero_le _) hy
  rw [HLx.out] at hl1
  have hl3 : x'.length ≤ 1000 := by omega
  have hl4 : y.length ≤ 1001 := by omega
  clear hl1 hl2
  clear hm hE hx hy hjo
  go_enter Tryd.func5, Tryd.ntmps5
  go_wp2_with fail
  refine haw.mono ?_
  rintro e w1 ⟨rfl, hb1⟩
  have HB1 := Lib.hid hb1
  clear haw hb1
  go_wp2_with fail
  refine (hsa w1).mono ?_
  rintro e w' ⟨rfl, rfl⟩
  go_wp2_with fail
  refine (hsb _).mono ?_
  rintro e w' ⟨rfl, rfl⟩
  go_wp2_with fail
  refine (HA.out _ HB1.out).mono ?_
  rintro e w2 ⟨hb2, (⟨l, A, c, hl, rfl, ho2⟩ | ⟨n2, q2, hl, _⟩)⟩
  case inr => rw [HX.out] at hl; cases hl
  rw [HX.out] at hl
  injection hl with hl
  subst hl
  have HB2 := Lib.hid (HB1.out.trans (hb2.mono HB1.out.size))
  have HO2 := Lib.hid ho2
  clear hb2 ho2
  go_wp2_with fail
  refine (HBb.out _ HB2.out).mono ?_
  rintro e w3 ⟨hb3, (⟨l, A3, c3, hl, rfl, ho3⟩ | ⟨n2, q2, hl, _⟩)⟩
  case inr => rw [HY.out] at hl; cases hl
  rw [HY.out] at hl
  injection hl with hl
  subst hl
  have HB3 := Lib.hid (HB2.out.trans (hb3.mono HB2.out.size))
  have HO3 := Lib.hid ho3
  have HX3 := Lib.hid (HO2.out.below hb3)
  clear hb3 ho3 HO2
  go_wp2_with fail
  refine (HZ.out _ HB3.out).mono ?_
  rintro e w4 ⟨hb4, (⟨l, A4, c4, hl, rfl, ho4⟩ | ⟨n2, q2, hl, _⟩)⟩
  case inr => rw [HN.out] at hl; cases hl
  rw [HN.out] at hl
  injection hl with hl
  have HB4 := Lib.hid (HB3.out.trans (hb4.mono HB3.out.size))
  have HO4 := Lib.hid ho4
  have HX4 := Lib.hid (HX3.out.below hb4)
  have HY4 := Lib.hid (HO3.out.below hb4)
  clear hb4 ho4 HX3 HO3
  have hlz : l.length = x'.length + y.length := by rw [← hl, List.length_append, List.length_map]
  have HL := Lib.hid hl
  clear hl
  rw [hlz]
  have hlx := HLx.out
  rw [hlx]
  clear hlz hlx
  go_upto_region 13 with fail
  have hbv : Below w4.heap.size w4 (w4.alloc (.cells #[] 30)) := (Below.refl _ _).alloc (Nat.le_refl _) _
  have HOv : Hid (OwnK (w4.alloc (.cells #[] 30)) w4.heap.size (.slice (some ⟨w4.heap.size, 0, none⟩) 0 0) []) := Lib.hid (World.ownsRow_lit w4 #[] 0 (Nat.le_refl _) (by decide) rfl)
  have hrx := ownK_rd HX4.out
  rw [HXe.out] at hrx
  have HRx := Lib.hid (((rd_initK hrx).below hbv (Nat.le_refl _)).more hbv.size)
  have HNx : Hid (A = none → x'.length = 0) := Lib.hid (fun h => by have := (ownK_none HX4.out).1 h; have := HLx.out; omega)
  have hcx : x'.length ≤ c := by have := (ownK_none HX4.out).2; have := HLx.out; omega
  have hcx2 : x'.length + 1 ≤ c := by have := (ownK_none HX4.out).2; have := HLx.out; omega
  have HRy := Lib.hid (ownK_rd HY4.out)
  have HNy := Lib.hid (ownK_none HY4.out).1
  have HRz := Lib.hid (ownK_rd HO4.out)
  clear hrx
  go_wp2_with (first
    | (at_builtin; refine wpList_append_k (base := w4.heap.size) (v := .slice (some ⟨w4.heap.size, 0, none⟩) 0 0) (xs := []) (news := x') rfl _ _ rfl rfl rfl HOv.out HRx.out HNx.out (by simp) (by omega) hbv.size ?_; intro A5 t1 c5 w5 HT1 HO5 HB5)
    | (at_builtin; refine wpList_append_k (base := w4.heap.size) (v := .slice A5 t1.length c5) (xs := t1) (news := y) rfl _ _ rfl rfl rfl HO5.out ((HRy.out.below (hbv.trans HB5.out.1) (Nat.le_refl _)).more (hbv.trans HB5.out.1).size) HNy.out (by rw [HT1.out]; simp; omega) (by omega) (hbv.trans HB5.out.1).size ?_; intro A6 t2 c6 w6 HT2 HO6 HB6))
  have HT : Hid (t2 = x' ++ y) := Lib.hid (by rw [HT2.out, HT1.out]; rfl)
  have hb46 := (hbv.trans HB5.out.1).trans HB6.out.1
  have HR6 := Lib.hid (ownK_rd HO6.out)
  have HZ6 := Lib.hid ((HRz.out.below hb46 (Nat.le_refl _)).more hb46.size)
  have HB7 := Lib.hid (HB4.out.trans (hb46.mono HB4.out.size))
  have HAt := Lib.hid (allW_at (Nat.zero_le _) HY.out)
  have htl : t2.length ≤ 2001 := by rw [HT.out, List.length_append]; omega
  clear hbv HOv HRx HNx hcx hcx2 HRy HNy HRz HT1 HT2 HO5 HB5 HO6 HB6 hb46 HO4 HX4 HY4 HB4 HB3 HB2 HB1 HA HBb HZ HX HY HN HXe hsa hsb
  go_wp2_with fail
  go_loopw [87] (fun v wr => ∃ k : Nat, k ≤ t2.length ∧ v = .int .i64 (k : Int) ∧ Hid (Rd wr w6.heap.size A6 (ct t2)) ∧ Hid (Rd wr w6.heap.size A4 (ct l)) ∧ Hid (Below w.heap.size w wr) ∧ Hid (w6.heap.size ≤ wr.heap.size)) (fun v _ => t2.length - (intOf v).toNat)
  case atStart => exact ⟨0, Nat.zero_le _, rfl, HR6, HZ6, HB7, Lib.hid (Nat.le_refl _)⟩
  case round =>
    clear HR6 HZ6 HB7
    obtain ⟨k, hk, rfl, HRa, HRb, HB, HS⟩ := hrel
    by_cases hkl : k < t2.length
    · obtain ⟨kd, wd, nm, at_, hkz, e1, hor⟩ := joins_at (d := a'.size + 1) (show k < (x' ++ y).length by rw [← HT.out]; exact hkl)
      have e2 : t2[k]'hkl = (kd, wd, nm, at_) := (List.getElem_of_eq HT.out hkl).trans e1
      have hkz2 : k < l.length := by rw [← HL.out]; exact hkz
      obtain ⟨b1, o1, rfl, hb1, c0, c1, c2, c3⟩ := rdK_at HRa.out hkl e2
      clear e1 e2
      have hb1w : b1 < wr.heap.size := by have := HS.out; omega
      rcases hor with ⟨hkx, e3⟩ | ⟨hkx, hmem, e3⟩
      · have e4 : l[k]'hkz2 = (kd, wd, nm, at_) := (List.getElem_of_eq HL.out.symm hkz2).trans e3
        obtain ⟨b2, o2, rfl, hb2, d0, d1, d2, d3⟩ := rdK_at HRb.out hkz2 e4
        have hb2w : b2 < wr.heap.size := by have := HS.out; omega
        have he := fun w => eq_same kd nm at_ ⟨wd.toArray⟩ w
        clear e3 e4
        have hnb : Below wr.heap.size wr (wr.alloc (.cells #[.int .i64 (kd : Int), .string ⟨wd.toArray⟩, .int .i64 nm, .int .i64 (at_ : Int)] 30)) := (Below.refl _ _).alloc (Nat.le_refl _) _
        have hn : ¬ x'.length ≤ k := by omega
        have g0 := (World.cell?_of_block (a := ⟨b2, o2 + k * 4, none⟩) (hnb.block b2 hb2w)).trans d0
        have g1 := (World.cell?_of_block (a := ⟨b2, o2 + k * 4 + 1, none⟩) (hnb.block b2 hb2w)).trans d1
        have g2 := (World.cell?_of_block (a := ⟨b2, o2 + k * 4 + 2, none⟩) (hnb.block b2 hb2w)).trans d2
        have g3 := (World.cell?_of_block (a := ⟨b2, o2 + k * 4 + 3, none⟩) (hnb.block b2 hb2w)).trans d3
        have hw2 := heap_alloc_new wr (.cells #[.int .i64 (kd : Int), .string ⟨wd.toArray⟩, .int .i64 nm, .int .i64 (at_ : Int)] 30)
        have HBn := Lib.hid (HB.out.trans (hnb.mono HB.out.size))
        have HRa2 := Lib.hid (HRa.out.below hnb HS.out)
        have HRb2 := Lib.hid (HRb.out.below hnb HS.out)
        have HS2 := Lib.hid (Nat.le_trans HS.out hnb.size)
        have hb2w2 := Nat.lt_of_lt_of_le hb2w hnb.size
        have hl2 : wr.heap.size < (wr.alloc (.cells #[.int .i64 (kd : Int), .string ⟨wd.toArray⟩, .int .i64 nm, .int .i64 (at_ : Int)] 30)).heap.size := lt_of_blk hw2
        have hkz3 : k < x'.length + y.length := by rw [← HL.out, List.length_append, List.length_map] at hkz2; exact hkz2
        clear d0 d1 d2 d3
        go_upto_region 18 with fail
        generalize wr.alloc (.cells #[.int .i64 (kd : Int), .string ⟨wd.toArray⟩, .int .i64 nm, .int .i64 (at_ : Int)] 30) = w9 at *
        have f2 := cells4L hw2
        clear hnb hw2 c0 c1 c2 c3
        go_quiet (fail)
        have hd : Below w9.heap.size w9 (w9.drewN nq) := below_drewN (Below.refl _ _) _
        have HBn := Lib.hid (HBn.out.trans (hd.mono HBn.out.size))
        have HRa2 := Lib.hid (HRa2.out.below hd HS2.out)
        have HRb2 := Lib.hid (HRb2.out.below hd HS2.out)
        have HS2 := Lib.hid (Nat.le_trans HS2.out hd.size)
        clear hd he
        go_wp2_with fail
        go_roundw
        case rel => exact ⟨k + 1, hkl, rfl, HRa2, HRb2, HBn, HS2⟩
        case measure => simp [intOf]; omega
      · have hat := (HAt.out _ hmem).2
        have e4 : l[k]'hkz2 = (kd, wd, nm, a'.size + 1 + at_) := (List.getElem_of_eq HL.out.symm hkz2).trans e3
        obtain ⟨b2, o2, rfl, hb2, d0, d1, d2, d3⟩ := rdK_at HRb.out hkz2 e4
        have hat2 : at_ ≤ 1000 := Nat.le_trans hat hlb
        rw [show ((a'.size + 1 + at_ : Nat) : Int) = (at_ : Int) + ((a'.size : Int) + 1) by omega] at d3
        have hb2w : b2 < wr.heap.size := by have := HS.out; omega
        have he := fun w => eq_same kd nm ((at_ : Int) + ((a'.size : Int) + 1)) ⟨wd.toArray⟩ w
        clear e3 e4 hat hmem
        have hnb : Below wr.heap.size wr (wr.alloc (.cells #[.int .i64 (kd : Int), .string ⟨wd.toArray⟩, .int .i64 nm, .int .i64 ((at_ : Int) + ((a'.size : Int) + 1))] 30)) := (Below.refl _ _).alloc (Nat.le_refl _) _
        have g0 := (World.cell?_of_block (a := ⟨b2, o2 + k * 4, none⟩) (hnb.block b2 hb2w)).trans d0
        have g1 := (World.cell?_of_block (a := ⟨b2, o2 + k * 4 + 1, none⟩) (hnb.block b2 hb2w)).trans d1
        have g2 := (World.cell?_of_block (a := ⟨b2, o2 + k * 4 + 2, none⟩) (hnb.block b2 hb2w)).trans d2
        have g3 := (World.cell?_of_block (a := ⟨b2, o2 + k * 4 + 3, none⟩) (hnb.block b2 hb2w)).trans d3
        have hw2 := heap_alloc_new wr (.cells #[.int .i64 (kd : Int), .string ⟨wd.toArray⟩, .int .i64 nm, .int .i64 ((at_ : Int) + ((a'.size : Int) + 1))] 30)
        have HBn := Lib.hid (HB.out.trans (hnb.mono HB.out.size))
        have HRa2 := Lib.hid (HRa.out.below hnb HS.out)
        have HRb2 := Lib.hid (HRb.out.below hnb HS.out)
        have HS2 := Lib.hid (Nat.le_trans HS.out hnb.size)
        have hb2w2 := Nat.lt_of_lt_of_le hb2w hnb.size
        have hl2 : wr.heap.size < (wr.alloc (.cells #[.int .i64 (kd : Int), .string ⟨wd.toArray⟩, .int .i64 nm, .int .i64 ((at_ : Int) + ((a'.size : Int) + 1))] 30)).heap.size := lt_of_blk hw2
        have hkz3 : k < x'.length + y.length := by rw [← HL.out, List.length_append, List.length_map] at hkz2; exact hkz2
        clear d0 d1 d2 d3
        go_upto_region 18 with fail
        generalize wr.alloc (.cells #[.int .i64 (kd : Int), .string ⟨wd.toArray⟩, .int .i64 nm, .int .i64 ((at_ : Int) + ((a'.size : Int) + 1))] 30) = w9 at *
        have f2 := cells4L hw2
        clear hnb hw2 c0 c1 c2 c3
        go_quiet (fail)
        have hd : Below w9.heap.size w9 (w9.drewN nq) := below_drewN (Below.refl _ _) _
        have HBn := Lib.hid (HBn.out.trans (hd.mono HBn.out.size))
        have HRa2 := Lib.hid (HRa2.out.below hd HS2.out)
        have HRb2 := Lib.hid (HRb2.out.below hd HS2.out)
        have HS2 := Lib.hid (Nat.le_trans HS2.out hd.size)
        clear hd he
        go_wp2_with fail
        go_roundw
        case rel => exact ⟨k + 1, hkl, rfl, HRa2, HRb2, HBn, HS2⟩
        case measure => simp [intOf]; omega
    · go_wp2_with fail
      go_ret
      exact ⟨rfl, HB.out⟩
end Go.Proofs.YtijmigcgndlfcaaDoor.Fl
