/-
  What can be reached: all of it.
-/
import Derived.Test.YtahmljjjdoaahaaDoorMarkD
namespace Go.Proofs.YtahmljjjdoaahaaDoor.Fl
open Go.RowKit

/-- the waves from some roots: what is found behind each, and how many of it were asked; T of them -/
structure Waves (ld : Nat → List Nat) (ws fs0 : List Nat) (S : Nat → List Nat × Nat) (T : Nat) : Prop where
  zero : S 0 = (fs0, 0)
  step : ∀ t, t < T → (S t).2 < (S t).1.length ∧ askL ld ws (S t).1 ((S t).1.drop (S t).2) = some (S (t + 1)).1 ∧ (S (t + 1)).2 = (S t).1.length
  stop : (S T).2 = (S T).1.length
theorem askL_pre {ld : Nat → List Nat} {ws : List Nat} : ∀ {ps fs fs' : List Nat}, askL ld ws fs ps = some fs' → ∃ t, fs' = fs ++ t
  | [], fs, fs', h => by rw [askL] at h; injection h with h; exact ⟨[], by simp [h]⟩
  | x :: xs, fs, fs', h => by
    obtain ⟨f1, h1, h2⟩ := askL_cons h
    obtain ⟨t1, rfl⟩ := findL_pre h1
    obtain ⟨t2, rfl⟩ := askL_pre h2
    exact ⟨t1 ++ t2, by simp⟩
theorem Waves.le {ld : Nat → List Nat} {ws fs0 : List Nat} {S : Nat → List Nat × Nat} {T : Nat} (h : Waves ld ws fs0 S T) : ∀ t, t ≤ T → (S t).2 ≤ (S t).1.length
  | 0, _ => by rw [h.zero]; exact Nat.zero_le _
  | t + 1, ht => by
    obtain ⟨_, h2, h3⟩ := h.step t (by omega)
    obtain ⟨r, hr⟩ := askL_pre h2
    rw [h3, hr, List.length_append]; omega
theorem Waves.lt {ld : Nat → List Nat} {ws fs0 : List Nat} {S : Nat → List Nat × Nat} {T : Nat} (h : Waves ld ws fs0 S T) {t : Nat} (ht : t ≤ T) : (S t).2 < (S t).1.length ↔ t < T := by
  constructor
  · intro h1
    rcases Nat.lt_or_ge t T with h2 | h2
    · exact h2
    · have e : t = T := by omega
      subst e
      have := h.stop
      omega
  · exact fun h1 => (h.step t h1).1
/-- the counter of a look in memory -/
def askedOf (w : World) (lk : Nat) : Nat := match w.cell? ⟨lk, 3, none⟩ with | some v => (intOf v).toNat | none => 0
section
variable {w w' : World} {base g gc cap gb gb2 size last LB lk sb sb2 : Nat} {L ws fs : List Nat} {k : Nat}
theorem LookAt.asked (h : LookAt w base g gc cap gb gb2 size last LB lk sb sb2 L ws fs k) : askedOf w lk = k := by
  unfold askedOf
  rw [h.c.2.2.1]
  simp [intOf]
set_option maxHeartbeats 2000000 in
theorem all_any {ld : Nat → List Nat} {fs0 : List Nat} {S : Nat → List Nat × Nat} {T : Nat} (rs : List Nat) (A : Option Addr) (c : Nat) (w : World) (hG : Leads ld L ws) (h : HeapAt w base g gc cap gb gb2 size last L ws) (hr : Rd w w.heap.size A (cw rs)) (hrs : ∀ x ∈ rs, x < 18446744073709551616) (hrl : rs.length ≤ 9223372036854775807) (hf : findL ws [] rs = some fs0) (hS : Waves ld ws fs0 S T) :
    Calls Tryd.prog 24 #[.pointer (some ⟨g, 0, none⟩), .slice A rs.length c] w (BeginPost w base g gc cap gb gb2 size last L ws (S T).1 (S T).2) := by
  have hbg := begin_any rs A c w h hr hrs hrl hf
  have HG := Lib.hid hG
  have HS := Lib.hid hS
  clear hG hS h hr hrs hf hrl
  go_enter Tryd.func24, Tryd.ntmps24
  go_wp2_with fail
  refine hbg.mono ?_
  rintro e w1 ⟨lk, sb, sb2, rfl, hL1, hb1⟩
  have H1 := Lib.hid hL1
  have B1 := Lib.hid hb1
  clear hL1 hb1 hbg
  go_wp2_with fail
  go_loopw [8] (fun _ wr => ∃ t : Nat, t ≤ T ∧ Hid (LookAt wr base g gc cap gb gb2 size last w.heap.size lk sb sb2 L ws (S t).1 (S t).2) ∧ Hid (Below w.heap.size w wr)) (fun _ wr => size + 1 - askedOf wr lk)
  case atStart => exact ⟨0, Nat.zero_le _, Lib.hid (by rw [HS.out.zero]; exact H1.out), B1⟩
  case round =>
    obtain ⟨t, ht, HR, HB⟩ := hrel
    clear H1 B1
    have hmore := more_any wr HR.out
    by_cases hlt : t < T
    · rw [decide_eq_true ((HS.out.lt ht).2 hlt)] at hmore
      have hle := HS.out.le t ht
      obtain ⟨s1, s2, s3⟩ := HS.out.step t hlt
      have hwave := fun w' (hw' : LookAt w' base g gc cap gb gb2 size last w.heap.size lk sb sb2 L ws (S t).1 (S t).2) => wave_any (fs' := (S (t + 1)).1) w' HG.out hw' hle s2
      have HM := Lib.hid (show (S t).2 < (S (t + 1)).2 by rw [s3]; exact s1)
      rw [← s3] at hwave
      clear s1 s2 s3 hle
      go_wp2_with fail
      refine hmore.mono ?_
      rintro e w2 ⟨rfl, hb2⟩
      have H2 := Lib.hid (HR.out.keep hb2)
      have K2 := Lib.hid (HB.out.trans (hb2.mono HR.out.top))
      clear hb2 hmore HB
      go_wp2_with fail
      refine (hwave _ H2.out).mono ?_
      rintro e w3 ⟨rfl, hL3, hK3⟩
      have H3 := Lib.hid hL3
      have K3 := Lib.hid (K2.out.trans (hK3.below H2.out.top))
      clear hL3 hK3 hwave H2 K2
      go_wp2_with fail
      go_roundw
      case rel => exact ⟨t + 1, hlt, H3, K3⟩
      case measure =>
        rw [H3.out.asked, HR.out.asked]
        have h1 := HM.out
        have h2 := HS.out.le (t + 1) hlt
        have h3 := H3.out.len
        omega
    · have e : t = T := by omega
      subst e
      rw [decide_eq_false (fun h => hlt ((HS.out.lt ht).1 h))] at hmore
      go_wp2_with fail
      refine hmore.mono ?_
      rintro e w2 ⟨rfl, hb2⟩
      have H2 := Lib.hid (HR.out.keep hb2)
      have K2 := Lib.hid (HB.out.trans (hb2.mono HR.out.top))
      clear hb2 hmore HB HR
      go_wp2_with fail
      go_ret2
      exact ⟨_, _, _, rfl, H2.out, K2.out⟩
end
end Go.Proofs.YtahmljjjdoaahaaDoor.Fl

/-
  What can be reached: the objects of a heap, and how many cells they have.
-/
namespace Go.Proofs.YtahmljjjdoaahaaDoor.Fl
open Go.RowKit

/-- how many cells some objects have, with their heads -/
def sumC (cn : Nat → Nat) : List Nat → Nat
  | [] => 0
  | p :: t => 2 + cn p + sumC cn t
theorem sumC_snoc (cn : Nat → Nat) (l : List Nat) (p : Nat) : sumC cn (l ++ [p]) = sumC cn l + (2 + cn p) := by
  induction l with
  | nil => simp [sumC]
  | cons a t ih => rw [List.cons_append, sumC, ih, sumC]; omega
theorem sumC_le (cn : Nat → Nat) (l : List Nat) (h : ∀ p ∈ l, cn p ≤ 1048576) : sumC cn l ≤ l.length * 1048578 := by
  induction l with
  | nil => simp [sumC]
  | cons a t ih =>
    have h1 := h a (by simp)
    have h2 := ih (fun p hp => h p (by simp [hp]))
    rw [sumC, List.length_cons, Nat.succ_mul]; omega
/-- the objects of a heap, what each leads to, how many cells it has behind its head -/
def Graph (ld : Nat → List Nat) (cn : Nat → Nat) (L ws : List Nat) : Prop := ∀ p, isP ws p → ∃ cl kind sz hash mark xs, ObAt L ws p cl kind sz hash mark xs ∧ ld p = cl :: xs ∧ cellsI cl kind sz hash = (cn p : Int)
theorem Graph.leads {ld : Nat → List Nat} {cn : Nat → Nat} {L ws : List Nat} (h : Graph ld cn L ws) : Leads ld L ws := fun p hp => by
  obtain ⟨cl, kind, sz, hash, mark, xs, h1, h2, _⟩ := h p hp
  exact ⟨cl, kind, sz, hash, mark, xs, h1, h2⟩
theorem cellsI_le {cl kind sz hash : Nat} : cellsI cl kind sz hash ≤ 1048576 := by
  unfold cellsI
  split
  · next h =>
    have := (hErr_ok h).2.1
    split <;> omega
  · omega
theorem Graph.cn_le {ld : Nat → List Nat} {cn : Nat → Nat} {L ws : List Nat} (h : Graph ld cn L ws) {p : Nat} (hp : isP ws p) : cn p ≤ 1048576 := by
  obtain ⟨cl, kind, sz, hash, mark, xs, h1, h2, h3⟩ := h p hp
  have := @cellsI_le cl kind sz hash
  omega
end Go.Proofs.YtahmljjjdoaahaaDoor.Fl

/-
  What can be reached: where something is loose.
-/
namespace Go.Proofs.YtahmljjjdoaahaaDoor.Fl
open Go.RowKit

section
variable {w w' : World} {base g gc cap gb gb2 size last LB lk sb sb2 : Nat} {L ws fs : List Nat} {k : Nat}
theorem hhas_no (x : Nat) (w : World) (h : HeapAt w base g gc cap gb gb2 size last L ws) (hx : x < 18446744073709551616) (hn : ¬ isP ws x) :
    Calls Tryd.prog 70 #[.pointer (some ⟨g, 0, none⟩), .int .u64 (x : Int)] w fun e w' => e = .returned (.bool false) ∧ w = w' := by
  by_cases hb : x % 2 = 1 ∨ x = 0 ∨ 33554432 ≤ x
  · have hat := fun w' => at_out (x : Int) w' (by omega) (by omega) (by omega)
    clear h hx hn hb
    go_enter Tryd.func70, Tryd.ntmps70
    go_wp2_with (go_at_call 46; (with_reducible refine (hat _).mono ?_); rintro e w' ⟨rfl, rfl⟩)
    go_ret
    exact ⟨rfl, rfl⟩
  · have hbit : bitAt ws (x / 2) = false := by
      cases hc : bitAt ws (x / 2) with
      | false => rfl
      | true => exact absurd ⟨by omega, by omega, by omega, hc⟩ hn
    have := hhas_any (x / 2) w h (by omega) (by omega)
    rw [hbit, show ((x / 2 : Nat) : Int) * 2 = (x : Int) by omega] at this
    exact this
theorem find_loose (x : Nat) (w : World) (h : LookAt w base g gc cap gb gb2 size last LB lk sb sb2 L ws fs k) (hx : x < 18446744073709551616) (hf : find1 ws fs x = none) :
    Calls Tryd.prog 63 #[.pointer (some ⟨lk, 0, none⟩), .int .u64 (x : Int)] w fun e w' => e = .returned (.int .i64 13) ∧ w = w' := by
  have h0 : ¬ (x = 0 ∨ x % 2 = 1) ∧ ¬ isP ws x := by
    unfold find1 at hf
    split at hf
    · cases hf
    · next h1 =>
      split at hf
      · split at hf <;> cases hf
      · next h2 => exact ⟨h1, h2⟩
  have hi := fun w' => is_even (x : Int) w' (by omega) (by omega) (by omega)
  have hhas := hhas_no x w h.heap hx h0.2
  have hx0 : ((x : Int) == 0) = false := by simp; omega
  obtain ⟨c0, c1, c3, cf, clt⟩ := h.c
  clear h hx hf h0
  go_enter Tryd.func63, Tryd.ntmps63
  go_wp2_with (first
    | (go_at_call 62; (with_reducible refine (hi _).mono ?_); rintro e w' ⟨rfl, rfl⟩)
    | (go_at_call 70; (with_reducible refine hhas.mono ?_); rintro e w' ⟨rfl, rfl⟩))
  go_ret
  exact ⟨rfl, rfl⟩
theorem findL_none {x : Nat} {t : List Nat} (h : findL ws fs (x :: t) = none) : find1 ws fs x = none ∨ ∃ f1, find1 ws fs x = some f1 ∧ findL ws f1 t = none := by
  rw [findL] at h
  cases hc : find1 ws fs x with
  | none => exact .inl rfl
  | some f1 => rw [hc] at h; exact .inr ⟨f1, rfl, h⟩
def LoosePost (LB : Nat) (w : World) (e : Ending) (w' : World) : Prop := e = .returned (.int .i64 13) ∧ Keep LB w w'
set_option maxHeartbeats 2000000 in
theorem ask_loose {xs : List Nat} (p cl kind sz hash : Nat) (mark : Bool) (w : World) (h : LookAt w base g gc cap gb gb2 size last LB lk sb sb2 L ws fs k) (hp : ObAt L ws p cl kind sz hash mark xs) (hf : findL ws fs (cl :: xs) = none) :
    Calls Tryd.prog 64 #[.pointer (some ⟨lk, 0, none⟩), .int .u64 (p : Int)] w (LoosePost LB w) := by
  have hff := findL_none hf
  obtain ⟨i, rfl⟩ : ∃ i, p = 2 * i := ⟨p / 2, by have := hp.isp.1; omega⟩
  have hi := hp.hi
  have hpx := hp.body
  have hpr := hp.raw
  have hbit := hp.isp.2.2.2
  have hi1 : 1 ≤ i := by have := hp.isp.2.1; omega
  rw [show 2 * i / 2 = i by omega] at hi hpx hbit
  have hhead := fun w' (hw' : HeapAt w' base g gc cap gb gb2 size last L ws) => head_yes i cl kind sz hash mark w' hw' hi hbit hi1
  have hget := fun (j x : Nat) w' (hw' : HeapAt w' base g gc cap gb gb2 size last L ws) (hk : kind ≠ 2) (hs : j < sz) hx => get_yes i j cl kind sz hash x mark w' hw' hi hbit hi1 hk hs hx
  rw [show ((i : Int) * 2) = ((2 * i : Nat) : Int) by omega] at hhead hget
  have HCl := Lib.hid hi.lt
  have HSz := Lib.hid (hErr_ok hi.ok).2.1
  have H := Lib.hid h
  obtain ⟨c0, c1, c3, cf, clt⟩ := h.c
  have HX := Lib.hid (And.intro hpx hpr)
  have HFF := Lib.hid hff
  clear hpx hpr hff hf hp h hi hbit
  generalize 2 * i = p at *
  go_enter Tryd.func64, Tryd.ntmps64
  go_wp2_with fail
  refine (hhead _ H.out.heap).mono ?_
  rintro e w1 ⟨rfl, hb1⟩
  have H1 := Lib.hid ((H.out.keep hb1).keep ((Below.refl _ _).alloc (Nat.le_refl _) (.cells #[.int .u64 (cl : Int), .int .i64 (kind : Int), .int .i64 (sz : Int), .int .u32 (hash : Int), .bool mark] 52)))
  have K1 := Lib.hid ((Keep.of_below (B := LB) hb1).trans (Keep.of_below ((Below.refl _ _).alloc (Nat.le_refl _) (.cells #[.int .u64 (cl : Int), .int .i64 (kind : Int), .int .i64 (sz : Int), .int .u32 (hash : Int), .bool mark] 52))))
  have l1 := hb1.size
  clear hb1 hhead c0 c1 c3 cf
  go_wp2_with fail
  rcases HFF.out with hno | ⟨f1, hf1, hfx⟩
  · refine (find_loose cl _ H1.out HCl.out hno).mono ?_
    rintro e w2 ⟨rfl, rfl⟩
    have f1 := cells5 (heap_alloc_new w1 (.cells #[.int .u64 (cl : Int), .int .i64 (kind : Int), .int .i64 (sz : Int), .int .u32 (hash : Int), .bool mark] 52))
    clear H1
    go_wp2_with fail
    go_ret
    exact ⟨rfl, K1.out⟩
  have HFx := Lib.hid hfx
  clear HFF
  refine (find_any cl _ H1.out HCl.out hf1).mono ?_
  rintro e w2 ⟨rfl, hL2, hK2⟩
  clear hf1
  have B2 : w2.heap[w1.heap.size]? = some (.cells #[.int .u64 (cl : Int), .int .i64 (kind : Int), .int .i64 (sz : Int), .int .u32 (hash : Int), .bool mark] 52 (0, 0)) := by
    rw [hK2.block _ (by simp) (.inr ⟨_, _, _, heap_alloc_new w1 _, by decide, by decide, by decide⟩)]; exact heap_alloc_new w1 _
  have H2 := Lib.hid hL2
  have K2 := Lib.hid (K1.out.trans hK2)
  have f2 := cells5 B2
  clear hL2 hK2 K1 H1 B2
  by_cases hk2 : kind = 2
  · have hk3 : ((kind : Int) == 2) = true := by simp; omega
    have := HFx.out
    rw [HX.out.2 hk2] at this
    simp [findL] at this
  · have hk3 : ((kind : Int) == 2) = false := by simp; omega
    have HK2 := Lib.hid hk2
    clear hk2
    go_wp2_with fail
    go_loopw [35] (fun v wr => ∃ (j : Nat) (fj : List Nat), j ≤ sz ∧ v = .int .i64 j ∧ Hid (findL ws fj (xs.drop j) = none) ∧ Hid (LookAt wr base g gc cap gb gb2 size last LB lk sb sb2 L ws fj k) ∧ Hid (Keep LB w wr)) (fun v _ => sz - (intOf v).toNat)
    case atStart => exact ⟨0, f1, Nat.zero_le _, rfl, Lib.hid (by rw [List.drop_zero]; exact HFx.out), H2, K2⟩
    case round =>
      obtain ⟨j, fj, hj, rfl, HFj, HR, HK⟩ := hrel
      clear H2 K2 HFx
      have hsz := HSz.out
      by_cases hlt : j < sz
      · obtain ⟨d0, d1, d3, df, dlt⟩ := HR.out.c
        obtain ⟨hx0, hx1⟩ := HX.out.1 HK2.out
        have hxl : j < xs.length := by rw [hx1, List.length_take, List.length_drop]; omega
        have hxj : L[i + 2 + j]? = some xs[j] := by
          have : xs[j]? = L[i + 2 + j]? := by
            conv => lhs; rw [hx1]
            rw [List.getElem?_take, if_pos hlt, List.getElem?_drop]
          rw [← this, List.getElem?_eq_getElem hxl]
        have HF := HFj.out
        rw [List.drop_eq_getElem_cons hxl] at HF
        have hcs := findL_none HF
        have hxb : xs[j] < 18446744073709551616 := HR.out.heap.lt _ (List.mem_of_getElem? hxj)
        have hg := hget j xs[j]
        obtain ⟨x, hxe⟩ : ∃ x, xs[j] = x := ⟨_, rfl⟩
        rw [hxe] at hg hxj hcs hxb
        have HB := Lib.hid hxb
        have HCs := Lib.hid hcs
        clear hx0 hx1 hxl HF hcs hxb hxe HFj
        go_wp2_with fail
        refine (hg _ HR.out.heap HK2.out hlt hxj).mono ?_
        rintro e w3 ⟨rfl, hb3⟩
        have H3 := Lib.hid (HR.out.keep hb3)
        have K3 := Lib.hid (HK.out.trans (Keep.of_below hb3))
        clear hb3 hg HR HK hxj d0 d1 d3 df dlt
        go_wp2_with fail
        rcases HCs.out with hno | ⟨f2', hf2, hf2x⟩
        · refine (find_loose x _ H3.out HB.out hno).mono ?_
          rintro e w4 ⟨rfl, rfl⟩
          clear H3
          go_wp2_with fail
          go_ret
          exact ⟨rfl, K3.out⟩
        have HF2x := Lib.hid hf2x
        clear HCs hf2x
        refine (find_any x _ H3.out HB.out hf2).mono ?_
        rintro e w4 ⟨rfl, hL4, hK4⟩
        have H4 := Lib.hid hL4
        have K4 := Lib.hid (K3.out.trans hK4)
        clear hL4 hK4 K3 H3
        go_wp2_with fail
        go_roundw
        case rel => exact ⟨j + 1, f2', by omega, by simp, HF2x, H4, K4⟩
        case measure => simp [intOf]; omega
      · have e : j = sz := by omega
        subst e
        have h1 := HFj.out
        obtain ⟨hx0, hx1⟩ := HX.out.1 HK2.out
        rw [List.drop_of_length_le (by rw [hx1, List.length_take]; omega)] at h1
        simp [findL] at h1
end
end Go.Proofs.YtahmljjjdoaahaaDoor.Fl

/-
  What can be reached: the waves come to an end, or something is loose; what they find is led to, and closed.
-/
namespace Go.Proofs.YtahmljjjdoaahaaDoor.Fl
open Go.RowKit

/-- a list of objects, each once -/
def Good (ws fs : List Nat) : Prop := fs.Nodup ∧ ∀ p ∈ fs, isP ws p
/-- a word that is to lead somewhere -/
def isW (x : Nat) : Prop := ¬ (x = 0 ∨ x % 2 = 1)
section
variable {ld : Nat → List Nat} {ws : List Nat}
theorem find1_good {fs fs' : List Nat} {x : Nat} (h : find1 ws fs x = some fs') (hg : Good ws fs) : Good ws fs' ∧ (isW x → isP ws x ∧ x ∈ fs') ∧ (∀ p ∈ fs, p ∈ fs') ∧ ∀ p ∈ fs', p ∈ fs ∨ (p = x ∧ isW x) := by
  unfold find1 at h
  split at h
  · next h0 =>
    injection h with h; subst h
    exact ⟨hg, fun hw => absurd h0 hw, fun p hp => hp, fun p hp => .inl hp⟩
  · next h0 =>
    split at h
    · next h1 =>
      split at h
      · next h2 =>
        injection h with h; subst h
        exact ⟨hg, fun _ => ⟨h1, h2⟩, fun p hp => hp, fun p hp => .inl hp⟩
      · next h2 =>
        injection h with h; subst h
        refine ⟨⟨?_, ?_⟩, fun _ => ⟨h1, by simp⟩, fun p hp => by simp [hp], fun p hp => ?_⟩
        · rw [List.nodup_append]
          refine ⟨hg.1, by simp, fun a ha b hb e => ?_⟩
          rw [List.mem_singleton] at hb
          subst hb e
          exact h2 ha
        · intro p hp
          rcases List.mem_append.1 hp with hp | hp
          · exact hg.2 p hp
          · rw [List.mem_singleton] at hp; subst hp; exact h1
        · rcases List.mem_append.1 hp with hp | hp
          · exact .inl hp
          · rw [List.mem_singleton] at hp; exact .inr ⟨hp, h0⟩
    · cases h
theorem find1_loose {fs : List Nat} {x : Nat} (h : find1 ws fs x = none) : isW x ∧ ¬ isP ws x := by
  unfold find1 at h
  split at h
  · cases h
  · next h0 =>
    split at h
    · split at h <;> cases h
    · next h1 => exact ⟨h0, h1⟩
theorem findL_good : ∀ {xs fs fs' : List Nat}, findL ws fs xs = some fs' → Good ws fs → Good ws fs' ∧ (∀ x ∈ xs, isW x → isP ws x ∧ x ∈ fs') ∧ (∀ p ∈ fs, p ∈ fs') ∧ ∀ p ∈ fs', p ∈ fs ∨ (p ∈ xs ∧ isW p)
  | [], fs, fs', h, hg => by
    rw [findL] at h; injection h with h; subst h
    exact ⟨hg, fun x hx => (by cases hx), fun p hp => hp, fun p hp => .inl hp⟩
  | x :: xs, fs, fs', h, hg => by
    obtain ⟨f1, h1, h2⟩ := findL_cons h
    obtain ⟨a1, a2, a3, a4⟩ := find1_good h1 hg
    obtain ⟨b1, b2, b3, b4⟩ := findL_good h2 a1
    refine ⟨b1, fun y hy hw => ?_, fun p hp => b3 p (a3 p hp), fun p hp => ?_⟩
    · rcases List.mem_cons.1 hy with rfl | hy
      · exact ⟨(a2 hw).1, b3 _ (a2 hw).2⟩
      · exact b2 y hy hw
    · rcases b4 p hp with h | ⟨h, hw⟩
      · rcases a4 p h with h | ⟨rfl, hw⟩
        · exact .inl h
        · exact .inr ⟨by simp, hw⟩
      · exact .inr ⟨by simp [h], hw⟩
theorem findL_loose : ∀ {xs fs : List Nat}, findL ws fs xs = none → ∃ x ∈ xs, isW x ∧ ¬ isP ws x
  | [], fs, h => by rw [findL] at h; cases h
  | x :: xs, fs, h => by
    rw [findL] at h
    cases hc : find1 ws fs x with
    | none => exact ⟨x, by simp, find1_loose hc⟩
    | some f1 =>
      rw [hc] at h
      obtain ⟨y, hy, h2⟩ := findL_loose h
      exact ⟨y, by simp [hy], h2⟩
theorem askL_good : ∀ {ps fs fs' : List Nat}, askL ld ws fs ps = some fs' → Good ws fs → Good ws fs' ∧ (∀ p ∈ ps, ∀ x ∈ ld p, isW x → isP ws x ∧ x ∈ fs') ∧ (∀ p ∈ fs, p ∈ fs') ∧ ∀ q ∈ fs', q ∈ fs ∨ ∃ p ∈ ps, q ∈ ld p ∧ isW q
  | [], fs, fs', h, hg => by
    rw [askL] at h; injection h with h; subst h
    exact ⟨hg, fun x hx => (by cases hx), fun p hp => hp, fun p hp => .inl hp⟩
  | p :: ps, fs, fs', h, hg => by
    obtain ⟨f1, h1, h2⟩ := askL_cons h
    obtain ⟨a1, a2, a3, a4⟩ := findL_good h1 hg
    obtain ⟨b1, b2, b3, b4⟩ := askL_good h2 a1
    refine ⟨b1, fun y hy x hx hw => ?_, fun q hq => b3 q (a3 q hq), fun q hq => ?_⟩
    · rcases List.mem_cons.1 hy with rfl | hy
      · exact ⟨(a2 x hx hw).1, b3 _ (a2 x hx hw).2⟩
      · exact b2 y hy x hx hw
    · rcases b4 q hq with h | ⟨p', hp', h, hw⟩
      · rcases a4 q h with h | ⟨h, hw⟩
        · exact .inl h
        · exact .inr ⟨p, by simp, h, hw⟩
      · exact .inr ⟨p', by simp [hp'], h, hw⟩
theorem askL_loose : ∀ {ps fs : List Nat}, askL ld ws fs ps = none → ∃ p ∈ ps, ∃ x ∈ ld p, isW x ∧ ¬ isP ws x
  | [], fs, h => by rw [askL] at h; cases h
  | p :: ps, fs, h => by
    rw [askL] at h
    cases hc : findL ws fs (ld p) with
    | none =>
      obtain ⟨x, hx, h2⟩ := findL_loose hc
      exact ⟨p, by simp, x, hx, h2⟩
    | some f1 =>
      rw [hc] at h
      obtain ⟨q, hq, h2⟩ := askL_loose h
      exact ⟨q, by simp [hq], h2⟩
/-- the waves, up to one in which something is loose -/
structure WavesNo (ld : Nat → List Nat) (ws fs0 : List Nat) (S : Nat → List Nat × Nat) (T : Nat) : Prop where
  zero : S 0 = (fs0, 0)
  step : ∀ t, t < T → (S t).2 < (S t).1.length ∧ askL ld ws (S t).1 ((S t).1.drop (S t).2) = some (S (t + 1)).1 ∧ (S (t + 1)).2 = (S t).1.length
  last : (S T).2 < (S T).1.length ∧ askL ld ws (S T).1 ((S T).1.drop (S T).2) = none
/-- one wave after another -/
def wvS (ld : Nat → List Nat) (ws fs0 : List Nat) : Nat → List Nat × Nat
  | 0 => (fs0, 0)
  | t + 1 => ((askL ld ws (wvS ld ws fs0 t).1 ((wvS ld ws fs0 t).1.drop (wvS ld ws fs0 t).2)).getD [], (wvS ld ws fs0 t).1.length)
theorem waves_total {fs0 : List Nat} {size : Nat} (hs : ∀ fs, Good ws fs → fs.length ≤ size) (h0 : Good ws fs0) :
    (∃ T, Waves ld ws fs0 (wvS ld ws fs0) T) ∨ ∃ T, WavesNo ld ws fs0 (wvS ld ws fs0) T := by
  have key : ∀ d t, size - (wvS ld ws fs0 t).2 ≤ d → Good ws (wvS ld ws fs0 t).1 → (wvS ld ws fs0 t).2 ≤ (wvS ld ws fs0 t).1.length →
      (∀ u, u < t → (wvS ld ws fs0 u).2 < (wvS ld ws fs0 u).1.length ∧ askL ld ws (wvS ld ws fs0 u).1 ((wvS ld ws fs0 u).1.drop (wvS ld ws fs0 u).2) = some (wvS ld ws fs0 (u + 1)).1 ∧ (wvS ld ws fs0 (u + 1)).2 = (wvS ld ws fs0 u).1.length) →
      (∃ T, Waves ld ws fs0 (wvS ld ws fs0) T) ∨ ∃ T, WavesNo ld ws fs0 (wvS ld ws fs0) T := by
    intro d
    induction d with
    | zero =>
      intro t hd hg hle hst
      have := hs _ hg
      exact .inl ⟨t, rfl, hst, by omega⟩
    | succ d ih =>
      intro t hd hg hle hst
      by_cases he : (wvS ld ws fs0 t).2 = (wvS ld ws fs0 t).1.length
      · exact .inl ⟨t, rfl, hst, he⟩
      · have hlt : (wvS ld ws fs0 t).2 < (wvS ld ws fs0 t).1.length := by omega
        cases hc : askL ld ws (wvS ld ws fs0 t).1 ((wvS ld ws fs0 t).1.drop (wvS ld ws fs0 t).2) with
        | none => exact .inr ⟨t, rfl, hst, hlt, hc⟩
        | some f1 =>
          have e1 : (wvS ld ws fs0 (t + 1)).1 = f1 := by rw [wvS, hc]; rfl
          have e2 : (wvS ld ws fs0 (t + 1)).2 = (wvS ld ws fs0 t).1.length := rfl
          have hg1 := (askL_good hc hg).1
          obtain ⟨r, hr⟩ := askL_pre hc
          have hl := hs _ hg
          refine ih (t + 1) (by rw [e2]; omega) (by rw [e1]; exact hg1) (by rw [e1, e2, hr, List.length_append]; omega) (fun u hu => ?_)
          by_cases e : u = t
          · subst e; exact ⟨hlt, by rw [e1]; exact hc, e2⟩
          · exact hst u (by omega)
  exact key size 0 (by omega) h0 (Nat.zero_le _) (fun u hu => by omega)
/-- what the waves have found: each once, closed, and nothing but what is led to -/
theorem Waves.found {fs0 : List Nat} {S : Nat → List Nat × Nat} {T : Nat} (h : Waves ld ws fs0 S T) (h0 : Good ws fs0) : Good ws (S T).1 ∧ (∀ p ∈ fs0, p ∈ (S T).1) ∧ (∀ p ∈ (S T).1, ∀ x ∈ ld p, isW x → isP ws x ∧ x ∈ (S T).1) ∧
    ∀ C : Nat → Prop, (∀ p ∈ fs0, C p) → (∀ p, C p → ∀ x ∈ ld p, isW x → C x) → ∀ p ∈ (S T).1, C p := by
  have key : ∀ t, t ≤ T → Good ws (S t).1 ∧ (∀ p ∈ fs0, p ∈ (S t).1) ∧ (∀ p ∈ (S t).1.take (S t).2, ∀ x ∈ ld p, isW x → isP ws x ∧ x ∈ (S t).1) ∧
      ∀ C : Nat → Prop, (∀ p ∈ fs0, C p) → (∀ p, C p → ∀ x ∈ ld p, isW x → C x) → ∀ p ∈ (S t).1, C p := by
    intro t
    induction t with
    | zero =>
      intro _
      rw [h.zero]
      exact ⟨h0, fun p hp => hp, fun p hp => by simp at hp, fun C hC _ => hC⟩
    | succ t ih =>
      intro ht
      obtain ⟨i1, i2, i3, i4⟩ := ih (by omega)
      obtain ⟨s1, s2, s3⟩ := h.step t (by omega)
      obtain ⟨a1, a2, a3, a4⟩ := askL_good s2 i1
      obtain ⟨r, hr⟩ := askL_pre s2
      refine ⟨a1, fun p hp => a3 p (i2 p hp), fun p hp x hx hw => ?_, fun C hC hCC p hp => ?_⟩
      · rw [s3, hr, List.take_left'  rfl] at hp
        rw [← List.take_append_drop (S t).2 (S t).1] at hp
        rcases List.mem_append.1 hp with hp | hp
        · have := i3 p hp x hx hw
          exact ⟨this.1, a3 x this.2⟩
        · exact a2 p hp x hx hw
      · rcases a4 p hp with h5 | ⟨q, hq, h6, hw⟩
        · exact i4 C hC hCC p h5
        · exact hCC q (i4 C hC hCC q (List.mem_of_mem_drop hq)) p h6 hw
  obtain ⟨k1, k2, k3, k4⟩ := key T (Nat.le_refl _)
  rw [h.stop, List.take_length] at k3
  exact ⟨k1, k2, k3, k4⟩
end
end Go.Proofs.YtahmljjjdoaahaaDoor.Fl
