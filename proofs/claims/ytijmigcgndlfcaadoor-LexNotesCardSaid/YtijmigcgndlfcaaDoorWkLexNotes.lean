/-
  LexNotes: whatever the text, and the notes.
-/
import Derived.Test.YtijmigcgndlfcaaDoorLxNn
import Derived.Laws.IdiomStrings
namespace Go.Proofs.YtijmigcgndlfcaaDoor.Fl
open Go.RowKit

/-- a row of strings -/
def StrsAt (w : World) (B : Nat) (S : Option Addr) (ts : List ByteArray) : Prop := Rd w B S (ts.map Value.string)
theorem strs_at {w : World} {B : Nat} {S : Option Addr} {ts : List ByteArray} (h : StrsAt w B S ts) {k : Nat} (hk : k < ts.length) : ∃ b off, S = some ⟨b, off, none⟩ ∧ b < B ∧ w.cell? ⟨b, off + k, none⟩ = some (.string ts[k]) := by
  rcases h with h | ⟨b, off, rfl, hb, hc⟩
  · rw [List.map_eq_nil_iff] at h
    subst h
    exact absurd hk (Nat.not_lt_zero _)
  · exact ⟨b, off, rfl, hb, hc k _ (by rw [List.getElem?_map, List.getElem?_eq_getElem hk]; rfl)⟩
def notesF (ts : List ByteArray) (i : Nat) : List UInt8 := if h : 0 < ts.length then sb (shortB (ts[i % ts.length]'(Nat.mod_lt _ h)) 30) else []
theorem drop_noteL (l : List UInt8) (j : Nat) (hj : j < l.length) : noteL (l.drop j) = if l[j] = 34 then noteL (l.drop (j + 1)) else 34 :: l[j] :: 34 :: 10 :: 32 :: noteL (l.drop (j + 1)) := by
  rw [List.drop_eq_getElem_cons hj, noteL]
theorem one_u8 (w : World) (c : UInt8) :
    (convert 31 9 (.slice (some ⟨w.heap.size, 0, none⟩) 1 1)).run Tryd.prog (w.alloc (.cells #[.int .u8 (c.toNat : Int)] 5)) = .ok (.string ⟨#[c]⟩) (w.alloc (.cells #[.int .u8 (c.toNat : Int)] 5)) := by
  refine run_convert_bytes_back (P := Tryd.prog) (w.alloc (.cells #[.int .u8 (c.toNat : Int)] 5)) 31 9 5 ⟨w.heap.size, 0, none⟩ 1 [c] Tryd.underlying31 Tryd.underlying5 Tryd.underlying9 (fun j hj => ?_)
  obtain rfl : j = 0 := by simp at hj; omega
  exact cell_of_row _ _ _ _ _ _ (heap_alloc_new w _)
theorem note_app (t : ByteArray) (c : UInt8) : sb (t ++ (((⟨#[34]⟩ : ByteArray) ++ ⟨#[c]⟩) ++ ⟨#[34, 10, 32]⟩)) = sb t ++ [34, c, 34, 10, 32] := by
  simp [sb]
theorem bytes_world (w : World) (U : ByteArray) : Below w.heap.size w (Lib.bytesWorld w 5 U) ∧ w.heap.size < (Lib.bytesWorld w 5 U).heap.size ∧ ∀ j (h : j < (sb U).length), (Lib.bytesWorld w 5 U).cell? ⟨w.heap.size, j, none⟩ = some (.int .u8 ((sb U)[j].toNat : Int)) := by
  refine ⟨Joins.below_bytesWorld _ _ _ _ (Nat.le_refl _), by rw [Lib.bytesWorld_size]; omega, fun j h => ?_⟩
  rw [Lib.bytesWorld_cell _ _ _ _ (by rw [← sb_len]; exact h)]
  congr 4
  rw [List.getD, List.getElem?_eq_getElem h]
  rfl
set_option maxRecDepth 100000 in
set_option maxHeartbeats 8000000 in
theorem lexNotes_ok (a : ByteArray) (S : Option Addr) (cap : Nat) (ts : List ByteArray) (w : World) (hm : MaxAt w) (hE : ∀ w', Below w.heap.size w w' → EnvL w') (hS : StrsAt w w.heap.size S ts) (hcap : ts.length ≤ cap) (x : List Tok) (hx : allW (shortB a 1500) 0 = .inl x) :
    Calls Tryd.prog 3 #[.string a, .slice S ts.length cap] w fun e w' => e = .returned (.bool true) ∧ Below w.heap.size w w' := by
  have haw := awake9_any w hm hE
  have hsa : ∀ w, Calls Tryd.prog 8 #[.string a, .int .i64 1500] w fun e w' => e = .returned (.string (shortB a 1500)) ∧ w' = w := fun w => short9_any a 1500 w
  have hla := shortB_size a 1500
  generalize shortB a 1500 = s at *
  have HSh := Lib.hid (fun (t : ByteArray) w => show Calls Tryd.prog 8 #[.string t, .int .i64 30] w fun e w' => e = .returned (.string (shortB t 30)) ∧ w' = w from short9_any t 30 w)
  have HA := Lib.hid (fun (t : ByteArray) (ht : t.size ≤ 16777216) w' (h : Below w.heap.size w w') => all_any t w' ht (max_below hm h) (fun w2 h2 => hE w2 (h.trans (h2.mono h.size))))
  have HSp := Lib.hid (fun (k : Nat) (t : ByteArray) (n : Int) (q : Nat) (hv : TokV k (sb t) n) w' (h : Below w.heap.size w w') => spell_any k t n q w' hv (max_below hm h) (hE w' h))
  have HX := Lib.hid hx
  have HP := Lib.hid (allW_pl (Nat.zero_le _) hx (Nat.le_refl 0))
  have hxn : x ≠ [] := fun e => allW_ne (Nat.zero_le _) (e ▸ hx)
  have HN := Lib.hid (pairs_end (notesF ts) x 0 0 HP.out hxn)
  have hxl := allW_len (Nat.zero_le _) hx
  have hlx : x.length ≤ 1501 := by omega
  clear hm hE hx hxl
  go_enter Tryd.func3, Tryd.ntmps3
  go_wp2_with fail
  refine haw.mono ?_
  rintro e w1 ⟨rfl, hb1⟩
  have HB1 := Lib.hid hb1
  have HS1 := Lib.hid (hS.below hb1 (Nat.le_refl _))
  clear haw hb1 hS
  go_wp2_with fail
  refine (hsa w1).mono ?_
  rintro e w' ⟨rfl, rfl⟩
  go_wp2_with fail
  refine (HA.out s (by omega) _ HB1.out).mono ?_
  rintro e w2 ⟨hb2, (⟨l, A, c, hl, rfl, ho2⟩ | ⟨n2, q2, hl, _⟩)⟩
  case inr => rw [HX.out] at hl; cases hl
  rw [HX.out] at hl
  injection hl with hl
  subst hl
  have HB2 := Lib.hid (HB1.out.trans (hb2.mono HB1.out.size))
  have HR2 := Lib.hid (ownK_rd ho2)
  have HS2 := Lib.hid (HS1.out.below (hb2.mono HB1.out.size) (Nat.le_refl _))
  clear hb2 ho2 HX HB1 hsa HS1
  go_wp2_with fail
  go_loopw [8, 31] (fun v8 v wr => ∃ (k : Nat) (t : ByteArray), k ≤ x.length ∧ v8 = .string t ∧ v = .int .i64 (k : Int) ∧ t.size ≤ 8400 * k ∧ Hid (sb t ++ blkT (pairsT (notesF ts) (x.drop k) k) = blkT (pairsT (notesF ts) x 0)) ∧ Hid (∃ last, PlA s last (x.drop k)) ∧ Hid (Rd wr w2.heap.size A (ct x)) ∧ Hid (StrsAt wr w.heap.size S ts) ∧ Hid (Below w.heap.size w wr) ∧ Hid (w2.heap.size ≤ wr.heap.size)) (fun _ v _ => x.length - (intOf v).toNat)
  case atStart => exact ⟨0, ⟨#[]⟩, Nat.zero_le _, rfl, rfl, Nat.zero_le _, Lib.hid rfl, Lib.hid ⟨0, HP.out⟩, HR2, HS2, HB2, Lib.hid (Nat.le_refl _)⟩
  case round =>
    clear HP HR2 HS2 HB2
    obtain ⟨k, t, hk, rfl, rfl, htk, HT, HPl, HRa, HSr, HB, HS⟩ := hrel
    by_cases hkl : k < x.length
    · obtain ⟨kd, wd, nm, at_, he⟩ : ∃ kd wd nm at_, x[k] = (kd, wd, nm, at_) := ⟨_, _, _, _, rfl⟩
      obtain ⟨b1, o1, rfl, hb1, c0, c1, c2, c3⟩ := rdK_at HRa.out hkl he
      obtain ⟨last, hpl⟩ := HPl.out
      rw [List.drop_eq_getElem_cons hkl, he] at hpl
      obtain ⟨hv, p1, p2, p3, p4, p5⟩ := hpl
      have HP5 := Lib.hid p5
      have HV := Lib.hid (show TokV kd wd nm from hv)
      have HTe := HT.out
      rw [List.drop_eq_getElem_cons hkl, he, pairsT, blkT] at HTe
      have HT2 := Lib.hid (show sb t ++ (noteL (notesF ts k) ++ 32 :: (writL kd wd nm ++ blkT (pairsT (notesF ts) (x.drop (k + 1)) (k + 1)))) = blkT (pairsT (notesF ts) x 0) from HTe)
      have hb1w : b1 < wr.heap.size := by have := HS.out; omega
      have hnb : Below wr.heap.size wr (wr.alloc (.cells #[.int .i64 (kd : Int), .string ⟨wd.toArray⟩, .int .i64 nm, .int .i64 (at_ : Int)] 30)) := (Below.refl _ _).alloc (Nat.le_refl _) _
      have hw2 := heap_alloc_new wr (.cells #[.int .i64 (kd : Int), .string ⟨wd.toArray⟩, .int .i64 nm, .int .i64 (at_ : Int)] 30)
      have HBn := Lib.hid (HB.out.trans (hnb.mono HB.out.size))
      have HRn := Lib.hid (HRa.out.below hnb HS.out)
      have HSn := Lib.hid (Nat.le_trans HS.out hnb.size)
      have HSrn := Lib.hid (HSr.out.below hnb HB.out.size)
      have f1 := cells4L hw2
      have l1 : wr.heap.size < (wr.alloc (.cells #[.int .i64 (kd : Int), .string ⟨wd.toArray⟩, .int .i64 nm, .int .i64 (at_ : Int)] 30)).heap.size := lt_of_blk hw2
      clear hv p1 p2 p3 p4 p5 HPl HTe HT hnb
      by_cases h0 : 0 < ts.length
      · have hmod : k % ts.length < ts.length := Nat.mod_lt _ h0
        obtain ⟨b2, o2, rfl, hb2, d0⟩ := strs_at HSrn.out hmod
        have hNF : notesF ts k = sb (shortB (ts[k % ts.length]'hmod) 30) := by unfold notesF; rw [dif_pos h0]
        generalize ts[k % ts.length]'hmod = T at *
        have hsh := HSh.out T
        have hT30 := shortB_size T 30
        generalize shortB T 30 = U at *
        have h0i : (0 : Int) < (ts.length : Int) := by omega
        have h1i : (1 : Int) ≤ (ts.length : Int) := by omega
        have hki : (0 : Int) ≤ (k : Int) := by omega
        have hne : ((ts.length : Int) == 0) = false := by rw [beq_eq_false_iff_ne]; omega
        have hkb : (k : Int) ≤ 1501 := by omega
        have hcv := Lib.run_convert_string_bytes (P := Tryd.prog) (wr.alloc (.cells #[.int .i64 (kd : Int), .string ⟨wd.toArray⟩, .int .i64 nm, .int .i64 (at_ : Int)] 30)) 9 31 5 U Tryd.underlying9 Tryd.underlying31 Tryd.underlying5
        go_wp2_with fail
        refine (hsh _).mono ?_
        rintro e w' ⟨rfl, rfl⟩
        clear hsh
        obtain ⟨hbw, hlw, hcw⟩ := bytes_world (wr.alloc (.cells #[.int .i64 (kd : Int), .string ⟨wd.toArray⟩, .int .i64 nm, .int .i64 (at_ : Int)] 30)) U
        obtain ⟨G, hG⟩ : ∃ G, wr.heap.size + 1 = G := ⟨_, rfl⟩
        rw [World.size_alloc, hG] at hlw
        simp only [World.size_alloc, hG] at hcw
        go_wp2_with fail
        try rw [hG]
        have HBx := Lib.hid (HBn.out.trans (hbw.mono HBn.out.size))
        have HRx := Lib.hid (HRn.out.below hbw HSn.out)
        have HSx := Lib.hid (Nat.le_trans HSn.out hbw.size)
        have HSrx := Lib.hid (HSrn.out.below hbw HBn.out.size)
        have HTok := Lib.hid ((hbw.block _ l1).trans hw2)
        have lx := Nat.lt_of_lt_of_le l1 hbw.size
        clear hcv hbw HBn HRn HSn HSrn f1 l1 hw2 c0 c1 c2 c3 d0
        generalize Lib.bytesWorld (wr.alloc (.cells #[.int .i64 (kd : Int), .string ⟨wd.toArray⟩, .int .i64 nm, .int .i64 (at_ : Int)] 30)) 5 U = wx at *
        have HCw := Lib.hid hcw
        clear hcw hG
        have hul : (sb U).length = U.size := sb_len U
        go_loopw [8, 49] (fun v8 v wi => ∃ (j : Nat) (t' : ByteArray), j ≤ U.size ∧ v8 = .string t' ∧ v = .int .i64 (j : Int) ∧ t'.size ≤ t.size + 5 * j ∧ Hid (sb t' ++ noteL ((sb U).drop j) = sb t ++ noteL (sb U)) ∧ Hid (Below wx.heap.size wx wi)) (fun _ v _ => U.size - (intOf v).toNat)
        case atStart => exact ⟨0, t, Nat.zero_le _, rfl, rfl, Nat.le_refl _, Lib.hid rfl, Lib.hid (Below.refl _ _)⟩
        case round =>
          obtain ⟨j, t', hj, rfl, rfl, htj, HTj, HBj⟩ := hrel
          have hcell := fun (a : Addr) (ha : a.block < wx.heap.size) => World.cell?_of_block (a := a) (HBj.out.block a.block ha)
          by_cases hjl : j < U.size
          · have hc0 := (hcell ⟨G, j, none⟩ hlw).trans (HCw.out j (by omega))
            have hdn := drop_noteL (sb U) j (by omega)
            obtain ⟨ch, hch⟩ : ∃ ch, (sb U)[j]'(by omega) = ch := ⟨_, rfl⟩
            rw [hch] at hc0 hdn
            have HTj2 := HTj.out
            rw [hdn] at HTj2
            clear hcell HTj hdn
            have hc8 : ch.toNat < 256 := ch.toNat_lt
            by_cases h34 : ch = 34
            · rw [if_pos h34] at HTj2
              have HT3 := Lib.hid HTj2
              have hq : ((ch.toNat : Int) != 34) = false := by rw [h34]; rfl
              clear HTj2 h34
              go_wp2_with fail
              go_roundw
              case rel => exact ⟨j + 1, t', hjl, rfl, rfl, by omega, HT3, HBj⟩
              case measure => simp [intOf]; omega
            · rw [if_neg h34] at HTj2
              have hq : ((ch.toNat : Int) != 34) = true := by
                rw [bne_iff_ne]
                intro e
                exact h34 (UInt8.toNat_inj.1 (by have h8 : (34 : UInt8).toNat = 34 := rfl; omega))
              have hone := one_u8 wr ch
              have HT3 : Hid (sb (t' ++ (((⟨#[34]⟩ : ByteArray) ++ ⟨#[ch]⟩) ++ ⟨#[34, 10, 32]⟩)) ++ noteL ((sb U).drop (j + 1)) = sb t ++ noteL (sb U)) := Lib.hid (by rw [note_app, List.append_assoc]; exact HTj2)
              have hts : (t' ++ (((⟨#[34]⟩ : ByteArray) ++ ⟨#[ch]⟩) ++ ⟨#[34, 10, 32]⟩)).size = t'.size + 5 := by rw [sb_size, note_app, List.length_append, sb_len]; rfl
              have HTs := Lib.hid hts
              have hbb : t'.size ≤ 13000000 := by omega
              have HB4 := Lib.hid (HBj.out.alloc HBj.out.size (.cells #[.int .u8 (ch.toNat : Int)] 5))
              clear HTj2 h34 hts
              go_wp2_with fail
              go_roundw
              case rel => exact ⟨j + 1, _, hjl, rfl, rfl, by rw [HTs.out]; omega, HT3, HB4⟩
              case measure => simp [intOf]; omega
          · have hju : j = U.size := by omega
            subst hju
            have HTj2 := HTj.out
            rw [List.drop_of_length_le (by omega), noteL, List.append_nil] at HTj2
            have HT3 := Lib.hid HTj2
            have hbn := HBx.out.trans (HBj.out.mono HBx.out.size)
            have htok := (HBj.out.block _ lx).trans HTok.out
            have lw := Nat.lt_of_lt_of_le lx HBj.out.size
            have hv := HV.out
            have hwb : (writL kd wd nm).length ≤ 8196 := hv.bounds.2.2.2
            have hsp := HSp.out kd ⟨wd.toArray⟩ nm at_ (by rw [sb_mk]; exact hv) wr hbn
            rw [sb_mk] at hsp
            obtain ⟨W, hW⟩ : ∃ W, mkB (writL kd wd nm) = W := ⟨_, rfl⟩
            rw [hW] at hsp
            have hWs : W.size ≤ 8196 := by rw [← hW, mkB_size]; exact hwb
            have HW := Lib.hid (show sb W = writL kd wd nm by rw [← hW, sb_mk])
            have HBn := Lib.hid hbn
            have HRn := Lib.hid (HRx.out.below HBj.out HSx.out)
            have HSn := Lib.hid (Nat.le_trans HSx.out HBj.out.size)
            have HSrn := Lib.hid (HSrx.out.below HBj.out HBx.out.size)
            have f3 := cells4L htok
            clear hcell HTj2 HTj hv hwb hW hbn HBj HRx HSx HSrx HTok HBx HCw
            go_wp2_with fail
            refine hsp.mono ?_
            rintro e w5 ⟨rfl, hb5⟩
            have HB5 := Lib.hid (HBn.out.trans (hb5.mono HBn.out.size))
            have HR5 := Lib.hid (HRn.out.below hb5 HSn.out)
            have HS5 := Lib.hid (Nat.le_trans HSn.out hb5.size)
            have HSr5 := Lib.hid (HSrn.out.below hb5 HBn.out.size)
            have HT5 : Hid (sb (t' ++ ((⟨#[32]⟩ : ByteArray) ++ W)) ++ blkT (pairsT (notesF ts) (x.drop (k + 1)) (k + 1)) = blkT (pairsT (notesF ts) x 0)) := Lib.hid (by
              rw [← HT2.out, hNF, sb_append, sb_append, HT3.out, HW.out]
              simp [sb])
            have hts : (t' ++ ((⟨#[32]⟩ : ByteArray) ++ W)).size = t'.size + 1 + W.size := by
              rw [sb_size, sb_append, sb_append, List.length_append, List.length_append, sb_len, sb_len]
              show t'.size + (1 + W.size) = _
              omega
            have HTs := Lib.hid hts
            have hbb : t'.size ≤ 13000000 := by omega
            clear hb5 hsp f3 HBn HRn HSn HSrn hts
            go_wp2_with fail
            go_roundw
            case rel => exact ⟨k + 1, _, hkl, rfl, rfl, by rw [HTs.out]; omega, HT5, Lib.hid ⟨_, HP5.out⟩, HR5, HSr5, HB5, HS5⟩
            case measure => simp [intOf]; omega
      · have hNF : notesF ts k = [] := by unfold notesF; rw [dif_neg h0]
        have h0n : ¬ ((0 : Int) < (ts.length : Int)) := by omega
        have hv := HV.out
        have hwb : (writL kd wd nm).length ≤ 8196 := hv.bounds.2.2.2
        have hsp := HSp.out kd ⟨wd.toArray⟩ nm at_ (by rw [sb_mk]; exact hv) _ HBn.out
        rw [sb_mk] at hsp
        obtain ⟨W, hW⟩ : ∃ W, mkB (writL kd wd nm) = W := ⟨_, rfl⟩
        rw [hW] at hsp
        have hWs : W.size ≤ 8196 := by rw [← hW, mkB_size]; exact hwb
        have HW := Lib.hid (show sb W = writL kd wd nm by rw [← hW, sb_mk])
        clear hv hwb hW
        go_wp2_with fail
        refine hsp.mono ?_
        rintro e w5 ⟨rfl, hb5⟩
        have HB5 := Lib.hid (HBn.out.trans (hb5.mono HBn.out.size))
        have HR5 := Lib.hid (HRn.out.below hb5 HSn.out)
        have HS5 := Lib.hid (Nat.le_trans HSn.out hb5.size)
        have HSr5 := Lib.hid (HSrn.out.below hb5 HBn.out.size)
        have HT5 : Hid (sb (t ++ ((⟨#[32]⟩ : ByteArray) ++ W)) ++ blkT (pairsT (notesF ts) (x.drop (k + 1)) (k + 1)) = blkT (pairsT (notesF ts) x 0)) := Lib.hid (by
          rw [← HT2.out, hNF, sb_append, sb_append, HW.out]
          simp [sb, noteL])
        have hts : (t ++ ((⟨#[32]⟩ : ByteArray) ++ W)).size = t.size + 1 + W.size := by
          rw [sb_size, sb_append, sb_append, List.length_append, List.length_append, sb_len, sb_len]
          show t.size + (1 + W.size) = _
          omega
        have HTs := Lib.hid hts
        have hbb : t.size ≤ 13000000 := by omega
        clear hb5 hsp hw2 f1 l1 c0 c1 c2 c3 HBn HRn HSn HSrn hts
        go_wp2_with fail
        go_roundw
        case rel => exact ⟨k + 1, _, hkl, rfl, rfl, by rw [HTs.out]; omega, HT5, Lib.hid ⟨_, HP5.out⟩, HR5, HSr5, HB5, HS5⟩
        case measure => simp [intOf]; omega
    · have hkx : k = x.length := by omega
      subst hkx
      have hTt := HT.out
      rw [List.drop_length, pairsT, blkT, List.append_nil] at hTt
      have hsz : (t ++ ⟨#[32]⟩ : ByteArray).size = t.size + 1 := by
        rw [sb_size, sb_append, List.length_append, sb_len]; rfl
      obtain ⟨l', hl1, hl2⟩ := blk_all (pairsT (notesF ts) x 0) (t ++ ⟨#[32]⟩) 0 (by rw [List.drop_zero, sb_append, hTt]) (Nat.zero_le _) HN.out
      rw [pairs_map] at hl2
      have hll : l'.length = x.length := by
        have := congrArg List.length hl2
        simpa using this
      have HLL := Lib.hid hll
      have HL1 := Lib.hid hl1
      have HL2 := Lib.hid hl2
      have hbb : t.size ≤ 13000000 := by omega
      have hal := HA.out (t ++ ⟨#[32]⟩) (by rw [hsz]; omega) wr HB.out
      clear hTt hl1 hl2 hll HT HPl HSr hsz
      go_wp2_with fail
      refine hal.mono ?_
      rintro e w6 ⟨hb6, (⟨l2, A6, c6, hl6, rfl, ho6⟩ | ⟨n6, q6, hl6, _⟩)⟩
      case inr => rw [HL1.out] at hl6; cases hl6
      rw [HL1.out] at hl6
      injection hl6 with hl6
      subst hl6
      have HB6 := Lib.hid (HB.out.trans (hb6.mono HB.out.size))
      have HR6 := Lib.hid ((HRa.out.below hb6 HS.out).more (Nat.le_trans HS.out hb6.size))
      have HZ6 := Lib.hid (ownK_rd ho6)
      clear hal hb6 ho6 HB HRa HS HL1
      rw [HLL.out]
      go_wp2_with fail
      go_loopw [93] (fun v wi => ∃ j : Nat, j ≤ x.length ∧ v = .int .i64 (j : Int) ∧ Hid (Below w6.heap.size w6 wi)) (fun v _ => x.length - (intOf v).toNat)
      case atStart => exact ⟨0, Nat.zero_le _, rfl, Lib.hid (Below.refl _ _)⟩
      case round =>
        obtain ⟨j, hj, rfl, HBj⟩ := hrel
        by_cases hjl : j < x.length
        · have hjl2 : j < l'.length := by rw [HLL.out]; exact hjl
          obtain ⟨kd, wd, nm, at_, he⟩ : ∃ kd wd nm at_, x[j] = (kd, wd, nm, at_) := ⟨_, _, _, _, rfl⟩
          obtain ⟨kd2, wd2, nm2, at2, he2⟩ : ∃ kd wd nm at_, l'[j] = (kd, wd, nm, at_) := ⟨_, _, _, _, rfl⟩
          have hss : str3 l'[j] = str3 x[j] := by
            have h1 := congrArg (fun l => l[j]?) HL2.out
            simp only [List.getElem?_map, List.getElem?_eq_getElem hjl, List.getElem?_eq_getElem hjl2, Option.map_some, Option.some.injEq] at h1
            exact h1
          rw [he, he2] at hss
          simp only [str3, Prod.mk.injEq] at hss
          obtain ⟨rfl, rfl, rfl⟩ := hss
          obtain ⟨b1, o1, rfl, hb1, c0, c1, c2, c3⟩ := rdK_at (HR6.out.below HBj.out (Nat.le_refl _)) hjl he
          obtain ⟨b2, o2, rfl, hb2, d0, d1, d2, d3⟩ := rdK_at (HZ6.out.below HBj.out (Nat.le_refl _)) hjl2 he2
          have hb1w := Nat.lt_of_lt_of_le hb1 HBj.out.size
          have hb2w := Nat.lt_of_lt_of_le hb2 HBj.out.size
          clear he he2 hjl2 c3 d3
          go_wp2_with fail
          go_quiet (fail)
          have HBq := Lib.hid (HBj.out.trans ((below_drewN (Below.refl _ _) _ : Below wr.heap.size wr (wr.drewN nq)).mono HBj.out.size))
          go_wp2_with fail
          go_roundw
          case rel => exact ⟨j + 1, hjl, rfl, HBq⟩
          case measure => simp [intOf]; omega
        · go_wp2_with fail
          go_ret
          exact ⟨rfl, HB6.out.trans (HBj.out.mono HB6.out.size)⟩
set_option maxRecDepth 100000 in
set_option maxHeartbeats 8000000 in
theorem lexNotes_no (a : ByteArray) (S : Option Addr) (len cap : Nat) (w : World) (hm : MaxAt w) (hE : ∀ w', Below w.heap.size w w' → EnvL w') (n : Int) (q : Nat) (hx : allW (shortB a 1500) 0 = .inr (n, q)) :
    Calls Tryd.prog 3 #[.string a, .slice S len cap] w fun e w' => e = .returned (.bool true) ∧ Below w.heap.size w w' := by
  have haw := awake9_any w hm hE
  have hsa : ∀ w, Calls Tryd.prog 8 #[.string a, .int .i64 1500] w fun e w' => e = .returned (.string (shortB a 1500)) ∧ w' = w := fun w => short9_any a 1500 w
  have hla := shortB_size a 1500
  generalize shortB a 1500 = s at *
  have hn0 := allW_err hx
  have HA := Lib.hid (fun w' (h : Below w.heap.size w w') => all_any s w' (by omega) (max_below hm h) (fun w2 h2 => hE w2 (h.trans (h2.mono h.size))))
  have HX := Lib.hid hx
  clear hm hE hx
  go_enter Tryd.func3, Tryd.ntmps3
  go_wp2_with fail
  refine haw.mono ?_
  rintro e w1 ⟨rfl, hb1⟩
  have HB1 := Lib.hid hb1
  clear haw hb1
  go_wp2_with fail
  refine (hsa w1).mono ?_
  rintro e w' ⟨rfl, rfl⟩
  go_wp2_with fail
  refine (HA.out _ HB1.out).mono ?_
  rintro e w2 ⟨hb2, (⟨l, A, c, hl, _⟩ | ⟨n2, q2, hl, _, rfl⟩)⟩
  · rw [HX.out] at hl; cases hl
  rw [HX.out] at hl
  injection hl with hl
  injection hl with hl1 hl2
  subst hl1 hl2
  have HB2 := Lib.hid (HB1.out.trans (hb2.mono HB1.out.size))
  clear hb2
  go_wp2_with fail
  go_ret
  exact ⟨rfl, HB2.out⟩
theorem walk_LexNotes (a : ByteArray) (S : Option Addr) (cap : Nat) (ts : List ByteArray) (w : World) (_ : a.size ≤ maxLen) (hS : StrsAt w w.heap.size S ts) (hcap : ts.length ≤ cap) (henv : EnvL w) (hm : MaxAt w) :
    Calls Tryd.prog 3 #[.string a, .slice S ts.length cap] w fun e w' => e = .returned (.bool true) ∧ Below w.heap.size w w' := by
  have hE : ∀ w', Below w.heap.size w w' → EnvL w' := fun w' hb => henv.below hb
  cases hx : allW (shortB a 1500) 0 with
  | inr e => exact lexNotes_no a S ts.length cap w hm hE e.1 e.2 hx
  | inl x => exact lexNotes_ok a S cap ts w hm hE hS hcap x hx
end Go.Proofs.YtijmigcgndlfcaaDoor.Fl
