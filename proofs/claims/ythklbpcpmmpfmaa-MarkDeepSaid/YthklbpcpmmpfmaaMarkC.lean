/-
  What can be reached: what an object leads to.
-/
import Derived.Test.YthklbpcpmmpfmaaMarkB
namespace Go.Proofs.Ythklbpcpmmpfmaa.Fl
open Go.RowKit

/-- what is found with some words more -/
def findL (ws : List Nat) : List Nat → List Nat → Option (List Nat)
  | fs, [] => some fs
  | fs, x :: t => (find1 ws fs x).bind fun fs' => findL ws fs' t
theorem findL_cons {ws fs fs' : List Nat} {x : Nat} {t : List Nat} (h : findL ws fs (x :: t) = some fs') : ∃ f1, find1 ws fs x = some f1 ∧ findL ws f1 t = some fs' := by
  rw [findL] at h
  cases hc : find1 ws fs x with
  | none => rw [hc] at h; cases h
  | some f1 => rw [hc] at h; exact ⟨f1, rfl, h⟩
/-- an object: its head, and what it leads to -/
structure ObAt (L ws : List Nat) (p cl kind sz hash : Nat) (mark : Bool) (xs : List Nat) : Prop where
  isp : isP ws p
  hi : HeadIn L (p / 2) cl kind sz hash mark
  body : kind ≠ 2 → p / 2 + 2 + sz ≤ L.length ∧ xs = (L.drop (p / 2 + 2)).take sz
  raw : kind = 2 → xs = []
section
variable {w w' : World} {base g gc cap gb gb2 size last LB lk sb sb2 : Nat} {L ws fs : List Nat} {k : Nat}
set_option maxHeartbeats 2000000 in
theorem ask_any {fs' xs : List Nat} (p cl kind sz hash : Nat) (mark : Bool) (w : World) (h : LookAt w base g gc cap gb gb2 size last LB lk sb sb2 L ws fs k) (hp : ObAt L ws p cl kind sz hash mark xs) (hf : findL ws fs (cl :: xs) = some fs') :
    Calls Try.prog 38 #[.pointer (some ⟨lk, 0, none⟩), .int .u64 (p : Int)] w (FindPost w base g gc cap gb gb2 size last LB lk sb sb2 L ws fs' k) := by
  obtain ⟨f1, hf1, hfx⟩ := findL_cons hf
  obtain ⟨i, rfl⟩ : ∃ i, p = 2 * i := ⟨p / 2, by have := hp.isp.1; omega⟩
  have hi := hp.hi
  have hpx := hp.body
  have hpr := hp.raw
  have hbit := hp.isp.2.2.2
  have hi1 : 1 ≤ i := by have := hp.isp.2.1; omega
  rw [show 2 * i / 2 = i by omega] at hi hpx hbit
  have hhead := fun w' (hw' : HeapAt w' base g gc cap gb gb2 size last L ws) => head_yes i cl kind sz hash mark w' hw' hi hbit hi1
  have hget := fun (j x : Nat) w' (hw' : HeapAt w' base g gc cap gb gb2 size last L ws) (hk : kind ≠ 2) (hs : j < sz) hx => get_yes i j cl kind sz hash x mark w' hw' hi hbit hi1 hk hs hx
  rw [show ((i : Int) * 2) = ((2 * i : Nat) : Int) by omega] at hhead hget
  have HCl := Lib.hid hi.lt
  have HSz := Lib.hid (hErr_ok hi.ok).2.1
  have H := Lib.hid h
  obtain ⟨c0, c1, c3, cf, clt⟩ := h.c
  have HX := Lib.hid (And.intro hpx hpr)
  have HF1 := Lib.hid hf1
  have HFx := Lib.hid hfx
  clear hpx hpr hf1 hfx hf hp h hi hbit
  generalize 2 * i = p at *
  go_enter Try.func38, Try.ntmps38
  go_wp2_with fail
  refine (hhead _ H.out.heap).mono ?_
  rintro e w1 ⟨rfl, hb1⟩
  have H1 := Lib.hid ((H.out.keep hb1).keep ((Below.refl _ _).alloc (Nat.le_refl _) (.cells #[.int .u64 (cl : Int), .int .i64 (kind : Int), .int .i64 (sz : Int), .int .u32 (hash : Int), .bool mark] 45)))
  have K1 := Lib.hid ((Keep.of_below (B := LB) hb1).trans (Keep.of_below ((Below.refl _ _).alloc (Nat.le_refl _) (.cells #[.int .u64 (cl : Int), .int .i64 (kind : Int), .int .i64 (sz : Int), .int .u32 (hash : Int), .bool mark] 45))))
  have l1 := hb1.size
  clear hb1 hhead c0 c1 c3 cf
  go_wp2_with fail
  refine (find_any cl _ H1.out HCl.out HF1.out).mono ?_
  rintro e w2 ⟨rfl, hL2, hK2⟩
  have B2 : w2.heap[w1.heap.size]? = some (.cells #[.int .u64 (cl : Int), .int .i64 (kind : Int), .int .i64 (sz : Int), .int .u32 (hash : Int), .bool mark] 45 (0, 0)) := by
    rw [hK2.block _ (by simp) (.inr ⟨_, _, _, heap_alloc_new w1 _, by decide, by decide, by decide⟩)]; exact heap_alloc_new w1 _
  have H2 := Lib.hid hL2
  have K2 := Lib.hid (K1.out.trans hK2)
  have f2 := cells5 B2
  clear hL2 hK2 K1 H1 B2
  by_cases hk2 : kind = 2
  · have hk3 : ((kind : Int) == 2) = true := by simp; omega
    have e : f1 = fs' := by
      have := HFx.out
      rw [HX.out.2 hk2] at this
      simpa [findL] using this
    subst e
    clear hk2
    go_wp2_with fail
    go_ret
    exact ⟨rfl, H2.out, K2.out⟩
  · have hk3 : ((kind : Int) == 2) = false := by simp; omega
    have HK2 := Lib.hid hk2
    clear hk2
    go_wp2_with fail
    go_loopw [35] (fun v wr => ∃ (j : Nat) (fj : List Nat), j ≤ sz ∧ v = .int .i64 j ∧ Hid (findL ws fj (xs.drop j) = some fs') ∧ Hid (LookAt wr base g gc cap gb gb2 size last LB lk sb sb2 L ws fj k) ∧ Hid (Keep LB w wr)) (fun v _ => sz - (intOf v).toNat)
    case atStart => exact ⟨0, f1, Nat.zero_le _, rfl, Lib.hid (by rw [List.drop_zero]; exact HFx.out), H2, K2⟩
    case round =>
      obtain ⟨j, fj, hj, rfl, HFj, HR, HK⟩ := hrel
      clear H2 K2 HFx
      have hsz := HSz.out
      by_cases hlt : j < sz
      · obtain ⟨d0, d1, d3, df, dlt⟩ := HR.out.c
        obtain ⟨hx0, hx1⟩ := HX.out.1 HK2.out
        have hxl : j < xs.length := by rw [hx1, List.length_take, List.length_drop]; omega
        have hxj : L[i + 2 + j]? = some xs[j] := by
          have : xs[j]? = L[i + 2 + j]? := by
            conv => lhs; rw [hx1]
            rw [List.getElem?_take, if_pos hlt, List.getElem?_drop]
          rw [← this, List.getElem?_eq_getElem hxl]
        have HF := HFj.out
        rw [List.drop_eq_getElem_cons hxl] at HF
        obtain ⟨f2', hf2, hf2x⟩ := findL_cons HF
        have hxb : xs[j] < 18446744073709551616 := HR.out.heap.lt _ (List.mem_of_getElem? hxj)
        have hg := hget j xs[j]
        obtain ⟨x, hxe⟩ : ∃ x, xs[j] = x := ⟨_, rfl⟩
        rw [hxe] at hg hxj hf2 hxb
        have HB := Lib.hid hxb
        have HF2 := Lib.hid hf2
        have HF2x := Lib.hid hf2x
        clear hx0 hx1 hxl HF hf2 hf2x hxb hxe HFj
        go_wp2_with fail
        refine (hg _ HR.out.heap HK2.out hlt hxj).mono ?_
        rintro e w3 ⟨rfl, hb3⟩
        have H3 := Lib.hid (HR.out.keep hb3)
        have K3 := Lib.hid (HK.out.trans (Keep.of_below hb3))
        clear hb3 hg HR HK hxj d0 d1 d3 df dlt
        go_wp2_with fail
        refine (find_any x _ H3.out HB.out HF2.out).mono ?_
        rintro e w4 ⟨rfl, hL4, hK4⟩
        have H4 := Lib.hid hL4
        have K4 := Lib.hid (K3.out.trans hK4)
        clear hL4 hK4 K3 H3
        go_wp2_with fail
        go_roundw
        case rel => exact ⟨j + 1, f2', by omega, by simp, HF2x, H4, K4⟩
        case measure => simp [intOf]; omega
      · have e : j = sz := by omega
        subst e
        have e : fj = fs' := by
          have h1 := HFj.out
          obtain ⟨hx0, hx1⟩ := HX.out.1 HK2.out
          rw [List.drop_of_length_le (by rw [hx1, List.length_take]; omega)] at h1
          simpa [findL] using h1
        subst e
        go_wp2_with fail
        go_ret
        exact ⟨rfl, HR.out, HK.out⟩
end
end Go.Proofs.Ythklbpcpmmpfmaa.Fl
