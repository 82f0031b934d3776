/-
  Instructions: the document's Encode.
-/
import Derived.Test.YtghnpmhidcfghaaDoorCdJ
import Derived.Lib.SlicesS
namespace Go.Proofs.YtghnpmhidcfghaaDoor.Fl
open Go.RowKit

theorem step_append_u {w : World} {base c : Nat} {A : Option Addr} {xs news : List UInt8} {v : Value} {ops : Array Oper} {o : Oper} {a : Act} {K : Act → World → Prop} {Q : Exit → Act → World → Prop} {E : Prop} (hg : o.guard = none) (s x : Operand) (ho : o.op = .call { callee := .builtin .append, args := #[s, x], argTypes := #[29, 29] })
    (hs : a.eval s = v) (hx : a.eval x = .slice A news.length c) (hown : OwnB w base v xs) (hr : Rd w w.heap.size A (cb news)) (hA : A = none → news.length = 0) (hl : xs.length ≤ 100000000) (hl2 : news.length ≤ 100000000) (hb : base ≤ w.heap.size)
    (h : ∀ A' ts c' w', Hid (ts = xs ++ news) → Hid (OwnB w' base (.slice A' ts.length c') ts) → Hid (Below base w w') → K (a.put o.dst (.slice A' ts.length c')) w') :
    if Region.wanted o (yielded ops a.tmps) = true then Oper.wp Tryd.prog o a w K Q else E := by
  obtain ⟨i0, hi, hz0, hz1, hz2⟩ := info_parts u8infoC
  refine step_append_rd (base := base) (size := 1) (bytes := 1) (n := xs.length) (m := news.length) (c := c) (v := v) (xs := cb xs) (news := cb news) hg s x ho Tryd.underlying29 hi hz0 hz1 hz2 rfl (by decide) hs hx hown hr (by rw [cbC_len, Nat.mul_one]) hA (cbC_one news) (by unfold maxLen; omega) (by omega) hb ?_
  intro v' w' happ
  obtain ⟨A', c', rfl, _, _⟩ := happ.slice
  have e : xs.length + news.length = (xs ++ news).length := by simp
  have ho := happ.own
  rw [e, show cb xs ++ cb news = cb (xs ++ news) from (cbC_app _ _).symm] at ho
  rw [e]
  exact h A' (xs ++ news) c' w' (Lib.hid rfl) (Lib.hid ho) (Lib.hid ((Below.refl _ _).grown happ.grown hb (fun j hj => (World.ownsRow.lt hown j hj).1)))
theorem emptyB : (⟨#[]⟩ : ByteArray).toList = [] := by
  first
    | (unfold ByteArray.toList ByteArray.toList.loop; rfl)
    | (simp [ByteArray.toList, ByteArray.toList.loop]; done)
theorem formsL_get2 {k : Nat} (h : k < 20) : ∃ (nmx : List UInt8) (a : Nat) (la : Int) (b : Nat) (t u : Int), formsL[k]? = some (nmx, (a : Int), la, (b : Int), 0, t, u) ∧ (a ≤ 2 ∧ b ≤ 2) ∧ (la = 0 ∨ (a = 1 ∧ la = -128) ∨ (a = 2 ∧ la = -32768)) ∧ nmx.toArray ≠ #[] := by
  obtain rfl | rfl | rfl | rfl | rfl | rfl | rfl | rfl | rfl | rfl | rfl | rfl | rfl | rfl | rfl | rfl | rfl | rfl | rfl | rfl : k = 0 ∨ k = 1 ∨ k = 2 ∨ k = 3 ∨ k = 4 ∨ k = 5 ∨ k = 6 ∨ k = 7 ∨ k = 8 ∨ k = 9 ∨ k = 10 ∨ k = 11 ∨ k = 12 ∨ k = 13 ∨ k = 14 ∨ k = 15 ∨ k = 16 ∨ k = 17 ∨ k = 18 ∨ k = 19 := by omega
  all_goals first
    | exact ⟨_, 0, _, 0, _, _, rfl, by decide, by decide, by decide⟩
    | exact ⟨_, 1, _, 0, _, _, rfl, by decide, by decide, by decide⟩
    | exact ⟨_, 2, _, 0, _, _, rfl, by decide, by decide, by decide⟩
    | exact ⟨_, 1, _, 1, _, _, rfl, by decide, by decide, by decide⟩
    | exact ⟨_, 1, _, 2, _, _, rfl, by decide, by decide, by decide⟩
def REncPost (l : List Ins) (w : World) (e : Ending) (w' : World) : Prop :=
  Below w.heap.size w w' ∧ ((∃ bs A c, encR l = some bs ∧ bs.length ≤ 5 * l.length ∧ e = .returned (.tuple #[.slice A bs.length c, .bool true]) ∧ OwnB w' w.heap.size (.slice A bs.length c) bs) ∨ (encR l = none ∧ e = .returned (.tuple #[.slice none 0 0, .bool false])))
set_option maxRecDepth 100000 in
set_option maxHeartbeats 4000000 in
theorem rencode_any (l : List Ins) (A : Option Addr) (c B : Nat) (w : World) (hr : Rd w B A (ci l)) (hB : B ≤ w.heap.size) (hl : l.length ≤ 10000) (hw : ∀ x ∈ l, (-9223372036854775808 ≤ x.1 ∧ x.1 ≤ 9223372036854775807) ∧ -9223372036854775808 ≤ x.2.1 ∧ x.2.1 ≤ 9223372036854775807 ∧ -9223372036854775808 ≤ x.2.2 ∧ x.2.2 ≤ 9223372036854775807) :
    Calls Tryd.prog 9 #[.slice A l.length c] w (REncPost l w) := by
  have HR0 := Lib.hid (hr.more hB)
  have HW := Lib.hid hw
  clear hr hB hw
  go_enter Tryd.func9, Tryd.ntmps9
  go_wp2_with fail
  go_loopw [4, 5] (fun v4 v5 wr => ∃ (k : Nat) (A' : Option Addr) (c' : Nat) (ts : List UInt8), k ≤ l.length ∧ v4 = .slice A' ts.length c' ∧ v5 = .int .i64 (k : Int) ∧ ts.length ≤ 5 * k ∧ Hid ((encR (l.drop k)).map (ts ++ ·) = encR l) ∧ Hid (OwnB wr w.heap.size (.slice A' ts.length c') ts) ∧ Hid (Below w.heap.size w wr)) (fun _ v5 _ => l.length - (intOf v5).toNat)
  case atStart => exact ⟨0, none, 0, [], Nat.zero_le _, rfl, rfl, Nat.zero_le _, Lib.hid (by rw [List.drop_zero]; cases encR l <;> rfl), Lib.hid (ownB_nil _ _), Lib.hid (Below.refl _ _)⟩
  case round =>
    obtain ⟨k, A', c', ts, hk, rfl, rfl, htk, HT, HO, HB⟩ := hrel
    by_cases hkl : k < l.length
    · obtain ⟨op, a, b, he⟩ : ∃ op a b, l[k] = (op, a, b) := ⟨_, _, _, rfl⟩
      have hwf := HW.out l[k] (List.getElem_mem _)
      rw [he] at hwf
      obtain ⟨⟨wo0, wo1⟩, wa0, wa1, wb0, wb1⟩ := hwf
      have HSx : Hid (∀ (g off : Nat), A = some ⟨g, off, none⟩ → ∀ w' : World, Below w.heap.size wr w' → (w'.cell? ⟨g, off + k * 3, none⟩ = some (.int .i64 op) ∧ w'.cell? ⟨g, off + k * 3 + 1, none⟩ = some (.int .i64 a) ∧ w'.cell? ⟨g, off + k * 3 + 2, none⟩ = some (.int .i64 b))) := Lib.hid (fun g off hA w' h => by
        obtain ⟨g', o', hA', hg, c0, c1, c2⟩ := rdI_at (HR0.out.below (HB.out.trans h) (Nat.le_refl _)) hkl he
        rw [hA] at hA'
        cases hA'
        exact ⟨c0, c1, c2⟩)
      obtain ⟨g, off, rfl, hg, c0, c1, c2⟩ := rdI_at (HR0.out.below HB.out (Nat.le_refl _)) hkl he
      have HS := Lib.hid (fun w' h => HSx.out g off rfl w' h)
      clear HSx
      have hgw := Nat.lt_of_lt_of_le hg HB.out.size
      have HTe := HT.out
      rw [List.drop_eq_getElem_cons hkl, he, encR] at HTe
      have HT2 := Lib.hid HTe
      clear HTe HT
      by_cases hop : 0 ≤ op ∧ op < 20
      · obtain ⟨kk, rfl⟩ : ∃ kk : Nat, op = (kk : Int) := ⟨op.toNat, by omega⟩
        have hkk : kk < 20 := by omega
        obtain ⟨nmx, sa, la, sb, t, u, hrow, ⟨hsa, hsb⟩, hla, hne⟩ := formsL_get2 hkk
        have hn := fun w => rname_row hkk hrow w
        have HE1 : Hid (enc1 ((kk : Int), a, b) = byteI (kk : Int) :: (bytesN sa a ++ bytesN sb b)) := Lib.hid (by
          unfold enc1 sizeA sizeB
          simp only [Int.toNat_natCast, hrow, Option.map_some, Option.getD_some])
        have HI : Hid (isI (kk : Int) a b = (hasC sa la a && okU sb b)) := Lib.hid (by
          unfold isI
          rw [if_pos hop, Int.toNat_natCast, hrow]
          show (hasC ((sa : Int).toNat) la a && hasC ((sb : Int).toNat) 0 b) = _
          rw [Int.toNat_natCast, Int.toNat_natCast, okU_has])
        obtain ⟨nms, hnms⟩ : ∃ nms : ByteArray, (⟨nmx.toArray⟩ : ByteArray) = nms := ⟨_, rfl⟩
        have hne2 : (nms.toList == (⟨#[]⟩ : ByteArray).toList) = false := (Lib.bytes_beq_false_iff _ _).2 (fun e => hne (by rw [← hnms] at e; injection e))
        have hne1 : (nms.toList == []) = false := by rw [← hne2, emptyB]
        rw [hnms] at hn
        have hp1 := fun (xs : List UInt8) (A0 : Option Addr) (c0 : Nat) (w0 : World) (h : OwnB w0 w.heap.size (.slice A0 xs.length c0) xs) (h1 : xs.length ≤ 1000000) (h2 : w.heap.size ≤ w0.heap.size) => rput_any sa hsa la hla a wa0 wa1 w.heap.size xs A0 c0 w0 h h1 h2
        have hp2 := fun (xs : List UInt8) (A0 : Option Addr) (c0 : Nat) (w0 : World) (h : OwnB w0 w.heap.size (.slice A0 xs.length c0) xs) (h1 : xs.length ≤ 1000000) (h2 : w.heap.size ≤ w0.heap.size) => rput_u sb hsb b wb0 wb1 w.heap.size xs A0 c0 w0 h h1 h2
        have ha5 := bytesN_len sa a hsa
        have hb5 := bytesN_len sb b hsb
        have HL5 : Hid ((enc1 ((kk : Int), a, b)).length ≤ 5) := Lib.hid (by rw [HE1.out, List.length_cons, List.length_append, ha5, hb5]; omega)
        clear hrow hop hla hne hnms ha5 hb5
        generalize hasC sa la a = ra at *
        generalize okU sb b = rb at *
        generalize refA (sa : Int) la = na at *
        go_upto_region 8 with (first | (go_at_call 19; refine (hn _).mono ?_; rintro e w7 ⟨rfl, rfl⟩))
        clear hn hne1 hne2
        have HD := Lib.hid (HB.out.drew)
        have hbw := HB.out.size
        refine wp_region_noPanic ?_
        refine wp_region_held_drew (S := (fun w' : World => w'.cell? ⟨g, off + k * 3, none⟩ = some (.int .i64 (kk : Int)) ∧ w'.cell? ⟨g, off + k * 3 + 1, none⟩ = some (.int .i64 a) ∧ w'.cell? ⟨g, off + k * 3 + 2, none⟩ = some (.int .i64 b))) (by kernel_rfl) (HS.out _ ((Below.refl _ _).drew)) (fun hHeld => ?_)
        refine wpAnyH_take (i := 0) (v := ?_) (by first | (simp only [List.getElem?_toArray, List.getElem?_cons_succ, List.getElem?_cons_zero]; rfl) | rfl) (by kernel_rfl) (by kernel_rfl) (by kernel_rfl) (fun _ _ _ h => h) (Or.inl ⟨by rfl, ?_⟩) (by assumption) ?_
        rotate_left 1
        · (intro w' hSw; (try dsimp only at hSw); go_simp; (try with_reducible rfl))
        try simp only [Act.put, List.setIfInBounds_toArray, List.set_cons_zero, List.set_cons_succ]
        refine wpAnyH_take (i := 1) (v := ?_) (by first | (simp only [List.getElem?_toArray, List.getElem?_cons_succ, List.getElem?_cons_zero]; rfl) | rfl) (by kernel_rfl) (by kernel_rfl) (by kernel_rfl) (fun _ _ _ h => h) (Or.inl ⟨by rfl, ?_⟩) (by assumption) ?_
        rotate_left 1
        · (intro w' hSw; (try dsimp only at hSw); go_simp; (try with_reducible rfl))
        try simp only [Act.put, List.setIfInBounds_toArray, List.set_cons_zero, List.set_cons_succ]
        refine wpAnyH_take (i := 2) (v := ?_) (by first | (simp only [List.getElem?_toArray, List.getElem?_cons_succ, List.getElem?_cons_zero]; rfl) | rfl) (by kernel_rfl) (by kernel_rfl) (by kernel_rfl) (fun _ _ _ h => h) (Or.inl ⟨by rfl, ?_⟩) (by assumption) ?_
        rotate_left 1
        · (intro w' hSw; (try dsimp only at hSw); go_simp; (try with_reducible rfl))
        try simp only [Act.put, List.setIfInBounds_toArray, List.set_cons_zero, List.set_cons_succ]
        refine wpAnyH_take (i := 3) (v := ?_) (by first | (simp only [List.getElem?_toArray, List.getElem?_cons_succ, List.getElem?_cons_zero]; rfl) | rfl) (by kernel_rfl) (by kernel_rfl) (by kernel_rfl) (fun _ _ _ h => h) (Or.inl ⟨by rfl, ?_⟩) (by assumption) ?_
        rotate_left 1
        · (intro w' hSw; (try dsimp only at hSw); go_simp; (try with_reducible rfl))
        try simp only [Act.put, List.setIfInBounds_toArray, List.set_cons_zero, List.set_cons_succ]
        refine wpAnyH_take (i := 4) (v := ?_) (by first | (simp only [List.getElem?_toArray, List.getElem?_cons_succ, List.getElem?_cons_zero]; rfl) | rfl) (by kernel_rfl) (by kernel_rfl) (by kernel_rfl) (fun _ _ _ h => h) (Or.inl ⟨by rfl, ?_⟩) (by assumption) ?_
        rotate_left 1
        · (intro w' hSw; (try dsimp only at hSw); go_simp; (try with_reducible rfl))
        try simp only [Act.put, List.setIfInBounds_toArray, List.set_cons_zero, List.set_cons_succ]
        refine wpAnyH_take (i := 5) (v := ?_) (by first | (simp only [List.getElem?_toArray, List.getElem?_cons_succ, List.getElem?_cons_zero]; rfl) | rfl) (by kernel_rfl) (by kernel_rfl) (by kernel_rfl) (fun _ _ _ h => h) (Or.inl ⟨by rfl, ?_⟩) (by assumption) ?_
        rotate_left 1
        · (intro w' hSw; (try dsimp only at hSw); go_simp; (try with_reducible rfl))
        try simp only [Act.put, List.setIfInBounds_toArray, List.set_cons_zero, List.set_cons_succ]
        refine wpAnyH_take (i := 6) (v := ?_) (by first | (simp only [List.getElem?_toArray, List.getElem?_cons_succ, List.getElem?_cons_zero]; rfl) | rfl) (by kernel_rfl) (by kernel_rfl) (by kernel_rfl) (fun _ _ _ h => h) (Or.inl ⟨by rfl, ?_⟩) (by assumption) ?_
        rotate_left 1
        · (intro w' hSw; (try dsimp only at hSw); go_simp; (try with_reducible rfl))
        try simp only [Act.put, List.setIfInBounds_toArray, List.set_cons_zero, List.set_cons_succ]
        refine wpAnyH_take (i := 9) (v := ?_) (by first | (simp only [List.getElem?_toArray, List.getElem?_cons_succ, List.getElem?_cons_zero]; rfl) | rfl) (by kernel_rfl) (by kernel_rfl) (by kernel_rfl) (fun _ _ _ h => h) (Or.inl ⟨by rfl, ?_⟩) (by assumption) ?_
        rotate_left 1
        · (intro w' hSw; (try dsimp only at hSw); go_simp; (try with_reducible rfl))
        try simp only [Act.put, List.setIfInBounds_toArray, List.set_cons_zero, List.set_cons_succ]
        refine wpAnyH_take (i := 10) (v := ?_) (by first | (simp only [List.getElem?_toArray, List.getElem?_cons_succ, List.getElem?_cons_zero]; rfl) | rfl) (by kernel_rfl) (by kernel_rfl) (by kernel_rfl) (fun _ _ _ h => h) (Or.inl ⟨by rfl, ?_⟩) (by assumption) ?_
        rotate_left 1
        · (intro w' hSw; (try dsimp only at hSw); go_simp; (try with_reducible rfl))
        try simp only [Act.put, List.setIfInBounds_toArray, List.set_cons_zero, List.set_cons_succ]
        refine wpAnyH_take (i := 11) (v := ?_) (by first | (simp only [List.getElem?_toArray, List.getElem?_cons_succ, List.getElem?_cons_zero]; rfl) | rfl) (by kernel_rfl) (by kernel_rfl) (by kernel_rfl) (fun _ _ _ h => h) (Or.inl ⟨by rfl, ?_⟩) (by assumption) ?_
        rotate_left 1
        · (intro w' hSw; (try dsimp only at hSw); go_simp; (try with_reducible rfl))
        try simp only [Act.put, List.setIfInBounds_toArray, List.set_cons_zero, List.set_cons_succ]
        refine wpAnyH_take (i := 12) (v := ?_) (by first | (simp only [List.getElem?_toArray, List.getElem?_cons_succ, List.getElem?_cons_zero]; rfl) | rfl) (by kernel_rfl) (by kernel_rfl) (by kernel_rfl) (fun _ _ _ h => h) (Or.inl ⟨by rfl, ?_⟩) (by assumption) ?_
        rotate_left 1
        · (intro w' hSw; (try dsimp only at hSw); go_simp; (try with_reducible rfl))
        try simp only [Act.put, List.setIfInBounds_toArray, List.set_cons_zero, List.set_cons_succ]
        refine wpAnyH_take (i := 13) (v := ?_) (by first | (simp only [List.getElem?_toArray, List.getElem?_cons_succ, List.getElem?_cons_zero]; rfl) | rfl) (by kernel_rfl) (by kernel_rfl) (by kernel_rfl) (fun _ _ _ h => h) (Or.inl ⟨by rfl, ?_⟩) (by assumption) ?_
        rotate_left 1
        · (intro w' hSw; (try dsimp only at hSw); go_simp; (try with_reducible rfl))
        try simp only [Act.put, List.setIfInBounds_toArray, List.set_cons_zero, List.set_cons_succ]
        refine wpAnyH_take (i := 14) (v := ?_) (by first | (simp only [List.getElem?_toArray, List.getElem?_cons_succ, List.getElem?_cons_zero]; rfl) | rfl) (by kernel_rfl) (by kernel_rfl) (by kernel_rfl) (fun _ _ _ h => h) (Or.inl ⟨by rfl, ?_⟩) (by assumption) ?_
        rotate_left 1
        · (intro w' hSw; (try dsimp only at hSw); go_simp; (try with_reducible rfl))
        try simp only [Act.put, List.setIfInBounds_toArray, List.set_cons_zero, List.set_cons_succ]
        refine wpAnyH_ready (rs := [7]) (by kernel_rfl) (by simp) ?_
        refine AllReadyH.cons (by first | (simp only [List.getElem?_toArray, List.getElem?_cons_succ, List.getElem?_cons_zero]; rfl) | rfl) (fun K hK => ?_) AllReadyH.nil
        go_simp
        have hba : Below w.heap.size wr (wr.alloc (.cells #[.int .u8 ((kk : Int) % 256)] 5)).drew := ((Below.refl _ _).alloc hbw _).drew
        have HO2 := Lib.hid (HO.out.below (((Below.refl wr.heap.size wr).alloc (Nat.le_refl _) (.cells #[.int .u8 ((kk : Int) % 256)] 5)).drew))
        have HR1 := Lib.hid ((rd_oneZ wr (kk : Int)))
        show K _ (wr.alloc (.cells #[.int .u8 ((kk : Int) % 256)] 5)).drew
        refine hK.out _ _ (HS.out _ hba) (fun hHeld => ?_)
        clear hK K
        try simp only [Act.put, List.setIfInBounds_toArray, List.set_cons_zero, List.set_cons_succ]
        refine wpAnyH_ready (rs := [8]) (by kernel_rfl) (by simp) ?_
        refine AllReadyH.cons (by first | (simp only [List.getElem?_toArray, List.getElem?_cons_succ, List.getElem?_cons_zero]; rfl) | rfl) (fun K hK => ?_) AllReadyH.nil
        refine step_append_u (base := w.heap.size) (v := .slice A' ts.length c') (xs := ts) (news := [byteI (kk : Int)]) rfl _ _ rfl rfl rfl HO2.out HR1.out (fun h => by cases h) (by omega) (by simp) (by show _ ≤ (wr.alloc _).heap.size; rw [World.size_alloc]; omega) ?_
        intro A4 t4 c4 w4 HT4 HO4 HB4
        have hB4 : Below w.heap.size wr w4 := hba.trans HB4.out
        have ht4 : Hid (t4.length = ts.length + 1) := Lib.hid (by rw [HT4.out, List.length_append]; rfl)
        refine hK.out _ _ (HS.out _ hB4) (fun hHeld => ?_)
        clear hK K
        try simp only [Act.put, List.setIfInBounds_toArray, List.set_cons_zero, List.set_cons_succ]
        refine wpAnyH_ready (rs := [15]) (by kernel_rfl) (by simp) ?_
        refine AllReadyH.cons (by first | (simp only [List.getElem?_toArray, List.getElem?_cons_succ, List.getElem?_cons_zero]; rfl) | rfl) (fun K hK => ?_) AllReadyH.nil
        go_simp
        refine (hp1 t4 A4 c4 w4 HO4.out (by have := ht4.out; omega) (Nat.le_trans hbw hB4.size)).mono ?_
        rintro e w5 ⟨hb5, A5, c5, t5, rfl, hO5, hl5, hx5⟩
        have hB5 : Below w.heap.size wr w5 := hB4.trans hb5
        dsimp only
        refine hK.out _ _ (HS.out _ hB5) (fun hHeld => ?_)
        clear hK K
        try simp only [Act.put, List.setIfInBounds_toArray, List.set_cons_zero, List.set_cons_succ]
        refine wpAnyH_take (i := 16) (v := ?_) (by first | (simp only [List.getElem?_toArray, List.getElem?_cons_succ, List.getElem?_cons_zero]; rfl) | rfl) (by kernel_rfl) (by kernel_rfl) (by kernel_rfl) (fun _ _ _ h => h) (Or.inl ⟨by rfl, ?_⟩) (by assumption) ?_
        rotate_left 1
        · (intro w' hSw; (try dsimp only at hSw); go_simp; (try with_reducible rfl))
        try simp only [Act.put, List.setIfInBounds_toArray, List.set_cons_zero, List.set_cons_succ]
        refine wpAnyH_take (i := 17) (v := ?_) (by first | (simp only [List.getElem?_toArray, List.getElem?_cons_succ, List.getElem?_cons_zero]; rfl) | rfl) (by kernel_rfl) (by kernel_rfl) (by kernel_rfl) (fun _ _ _ h => h) (Or.inl ⟨by rfl, ?_⟩) (by assumption) ?_
        rotate_left 1
        · (intro w' hSw; (try dsimp only at hSw); go_simp; (try with_reducible rfl))
        try simp only [Act.put, List.setIfInBounds_toArray, List.set_cons_zero, List.set_cons_succ]
        refine wpAnyH_take (i := 18) (v := ?_) (by first | (simp only [List.getElem?_toArray, List.getElem?_cons_succ, List.getElem?_cons_zero]; rfl) | rfl) (by kernel_rfl) (by kernel_rfl) (by kernel_rfl) (fun _ _ _ h => h) (Or.inl ⟨by rfl, ?_⟩) (by assumption) ?_
        rotate_left 1
        · (intro w' hSw; (try dsimp only at hSw); go_simp; (try with_reducible rfl))
        try simp only [Act.put, List.setIfInBounds_toArray, List.set_cons_zero, List.set_cons_succ]
        refine wpAnyH_take (i := 19) (v := ?_) (by first | (simp only [List.getElem?_toArray, List.getElem?_cons_succ, List.getElem?_cons_zero]; rfl) | rfl) (by kernel_rfl) (by kernel_rfl) (by kernel_rfl) (fun _ _ _ h => h) (Or.inl ⟨by rfl, ?_⟩) (by assumption) ?_
        rotate_left 1
        · (intro w' hSw; (try dsimp only at hSw); go_simp; (try with_reducible rfl))
        try simp only [Act.put, List.setIfInBounds_toArray, List.set_cons_zero, List.set_cons_succ]
        refine wpAnyH_take (i := 20) (v := ?_) (by first | (simp only [List.getElem?_toArray, List.getElem?_cons_succ, List.getElem?_cons_zero]; rfl) | rfl) (by kernel_rfl) (by kernel_rfl) (by kernel_rfl) (fun _ _ _ h => h) (Or.inl ⟨by rfl, ?_⟩) (by assumption) ?_
        rotate_left 1
        · (intro w' hSw; (try dsimp only at hSw); go_simp; (try with_reducible rfl))
        try simp only [Act.put, List.setIfInBounds_toArray, List.set_cons_zero, List.set_cons_succ]
        refine wpAnyH_done (by kernel_rfl) ?_ _
        refine NoPanic.normal ?_
        have HB5 := Lib.hid (HB.out.trans hB5)
        have HO5 := Lib.hid hO5
        have HT5 := Lib.hid (show ra = true → t5 = ts ++ [byteI (kk : Int)] ++ bytesN sa a from fun h => by rw [hx5 h, HT4.out])
        have hl5' : t5.length ≤ ts.length + 3 := by have := ht4.out; omega
        have hbw5 : w.heap.size ≤ w5.heap.size := HB5.out.size
        obtain ⟨d0, d1, d2⟩ := HS.out _ hB5
        clear hx5 hO5 hb5 hB5 hB4 ht4 HB4 HO4 HT4 HO2 HR1 hba hp1 hHeld HO HB HD HS
        have hc2 := hp2 t5 A5 c5 w5 HO5.out (by omega) hbw5
        clear hp2
        go_wp2_with fail
        refine hc2.mono ?_
        rintro e w6 ⟨hb6, A6, c6, t6, rfl, hO6, hl6, hx6⟩
        have HB6 := Lib.hid (HB5.out.trans hb6)
        have HO6 := Lib.hid hO6
        have HT6 := Lib.hid (show ra = true → rb = true → t6 = ts ++ enc1 ((kk : Int), a, b) from fun h h2 => by rw [hx6 h2, HT5.out h, HE1.out]; simp)
        clear hc2 hb6 hO6 hx6 HB5 HO5 HT5 d0 d1 d2
        cases ra
        · have HN : Hid (encR l = none) := Lib.hid (by rw [← HT2.out]; simp only [HI.out, Bool.false_and, Bool.false_eq_true, if_false]; rfl)
          clear HT6 HI HT2
          go_wp2_with fail
          go_ret2
          exact ⟨HB6.out, .inr ⟨HN.out, rfl⟩⟩
        · cases rb
          · have HN : Hid (encR l = none) := Lib.hid (by rw [← HT2.out]; simp only [HI.out, Bool.and_false, Bool.false_eq_true, if_false]; rfl)
            clear HT6 HI HT2
            go_wp2_with fail
            go_ret2
            exact ⟨HB6.out, .inr ⟨HN.out, rfl⟩⟩
          · have HT7 := Lib.hid (HT6.out rfl rfl)
            have HT8 : Hid ((encR (l.drop (k + 1))).map (t6 ++ ·) = encR l) := Lib.hid (by
              rw [← HT2.out, HT7.out]
              simp only [HI.out, Bool.and_self, if_true]
              rw [Option.map_map]
              congr 1
              funext z
              simp)
            have hl6' : t6.length ≤ 5 * (k + 1) := by
              have h1 := congrArg List.length HT7.out
              rw [List.length_append] at h1
              have := HL5.out
              omega
            clear HT6 HI HT2 HT7
            go_wp2_with fail
            go_roundw
            case rel => exact ⟨k + 1, A6, c6, t6, hkl, rfl, rfl, hl6', HT8, HO6, HB6⟩
            case measure => simp [intOf]; omega
      · have hn := fun w => rname_none hop w
        have HI : Hid (encR l = none) := Lib.hid (by
          rw [← HT2.out]
          have : isI op a b = false := by unfold isI; rw [if_neg hop]
          simp only [this, Bool.false_eq_true, if_false]
          rfl)
        clear hop HT2
        go_wp2_with (first | (go_at_call 19; refine (hn _).mono ?_; rintro e w7 ⟨rfl, rfl⟩))
        go_ret2
        exact ⟨HB.out, .inr ⟨HI.out, rfl⟩⟩
    · have HTe := HT.out
      rw [List.drop_of_length_le (by omega), encR] at HTe
      have HT2 : Hid (encR l = some ts) := Lib.hid (by rw [← HTe]; simp)
      clear HTe HT
      go_wp2_with fail
      go_ret2
      exact ⟨HB.out, .inl ⟨ts, A', c', HT2.out, by omega, rfl, HO.out⟩⟩
end Go.Proofs.YtghnpmhidcfghaaDoor.Fl

