/-
  Messages, and what they are sent to.
-/
import Derived.Test.YtfcceojfcmgmlaaGreatDoorTs6
namespace Go.Proofs.YtfcceojfcmgmlaaGreatDoor.Fl
open Go.RowKit Go.Shelf

/-- a node in a row -/
def K0 (w : World) (b o : Nat) (x : Nd) (Ak : Option Addr) (ck : Nat) (An : Option Addr) (cn : Nat) : Prop :=
  w.cell? ⟨b, o, none⟩ = some (.int .i64 x.kd) ∧ w.cell? ⟨b, o + 1, none⟩ = some (.string (mkB x.nm)) ∧ w.cell? ⟨b, o + 2, none⟩ = some (.int .i64 x.nu) ∧
  w.cell? ⟨b, o + 3, none⟩ = some (.slice Ak x.kids.length ck) ∧ w.cell? ⟨b, o + 4, none⟩ = some (.slice An x.ns.length cn) ∧ w.cell? ⟨b, o + 5, none⟩ = some (.int .i64 x.at_)
theorem K0.below {w w' : World} {B b o : Nat} {x : Nd} {Ak : Option Addr} {ck : Nat} {An : Option Addr} {cn : Nat} (h : K0 w b o x Ak ck An cn) (hb : Below B w w') (hlt : b < B) : K0 w' b o x Ak ck An cn := by
  obtain ⟨d0, d1, d2, d3, d4, d5⟩ := h
  have e := hb.block b hlt
  exact ⟨cell_keep d0 e, cell_keep d1 e, cell_keep d2 e, cell_keep d3 e, cell_keep d4 e, cell_keep d5 e⟩
theorem NdsAt.first {w : World} {P : Nat → Prop} {A : Option Addr} {l : List Nd} (h : NdsAt w P A l) (hl : 0 < l.length) :
    ∃ b o, A = some ⟨b, o, none⟩ ∧ P b ∧ NdsAt w P (some ⟨b, o + 6, none⟩) (l.drop 1) ∧ ∃ Ak ck An cn, K0 w b o l[0] Ak ck An cn ∧ NvAt w P (.agg #[.int .i64 l[0].kd, .string (mkB l[0].nm), .int .i64 l[0].nu, .slice Ak l[0].kids.length ck, .slice An l[0].ns.length cn, .int .i64 l[0].at_]) l[0] := by
  obtain ⟨b, o, hA, hb, hd⟩ := h.drop 0 hl
  have hd1 : NdsAt w P (some ⟨b, o + 6, none⟩) (l.drop 1) := by
    by_cases h1 : 1 < l.length
    · obtain ⟨b', o', hA', hb', hd'⟩ := h.drop 1 h1
      rw [hA] at hA'
      injection hA' with e
      injection e with e1 e2
      subst e1 e2
      exact hd'
    · exact .inl (by rw [List.drop_eq_nil_iff]; omega)
  obtain ⟨b', o', hA', hb', Ak, ck, An, cn, d0, d1, d2, d3, d4, d5, g1, g2, g3, g4, g5, g6, g7, g8⟩ := h.at_ hl
  rw [hA] at hA'
  injection hA' with e
  injection e with e1 e2
  subst e1 e2
  simp only [Nat.zero_mul, Nat.add_zero] at d0 d1 d2 d3 d4 d5
  exact ⟨b, o, hA, hb, hd1, Ak, ck, An, cn, ⟨d0, d1, d2, d3, d4, d5⟩, Ak, ck, An, cn, rfl, g1, g2, g3, g4, g5, g6, g7, g8⟩
theorem valL_first {l : List Nd} (h : 0 < l.length) : valL l = (valN l[0] && valL (l.drop 1)) := by
  cases l with
  | nil => cases h
  | cons x l => rw [valL]; rfl
theorem holL_first {l : List Nd} (h : 0 < l.length) : holL l = (bareB l[0] 11 && valL (l.drop 1)) := by
  cases l with
  | nil => cases h
  | cons x l => rw [holL]; rfl
theorem casL_first {l : List Nd} (h : 0 < l.length) : casL l = (sendN l[0] && furL (l.drop 1)) := by
  cases l with
  | nil => cases h
  | cons x l => rw [casL]; rfl
/-- what isValue says of nodes that are less than this -/
def ValOK (K : Nat) : Prop := ∀ (x : Nd) (v : Value) (B : Nat) (w : World), cntN x < K → NkN x → NkL x.kids → NvAt w (Lo B) v x → B ≤ w.heap.size →
  Calls Tryz.prog 73 #[v] w fun e w' => e = .returned (.bool (valN x)) ∧ Below w.heap.size w w'
theorem vals_any (K : Nat) (hV : ValOK K) (l : List Nd) (A : Option Addr) (c B : Nat) (w : World) (h : NdsAt w (Lo B) A l) (hB : B ≤ w.heap.size) (hc : l.length ≤ c) (hcc : c ≤ 9223372036854775807) (hk : cntL l < K) (hn : NkL l) :
    Calls Tryz.prog 72 #[.slice A l.length c, .func (.func 73) #[] #[]] w fun e w' => e = .returned (.bool (valL l)) ∧ Below w.heap.size w w' := by
  rw [valL_all]
  exact allV_val valN l A c B w h hB hc hcc (fun i hi v w' hb hv => hV l[i] v B w' (Nat.lt_of_le_of_lt (cnt_mem (List.getElem_mem hi)) hk) (hn.at_ (List.getElem_mem hi)).1 (hn.at_ (List.getElem_mem hi)).2 hv (Nat.le_trans hB hb.size))
set_option maxRecDepth 100000 in
theorem hole_any (x : Nd) (v : Value) (B : Nat) (w : World) (hv : NvAt w (Lo B) v x) :
    Calls Tryz.prog 139 #[v] w fun e w' => e = .returned (.bool (bareB x 11)) ∧ Below w.heap.size w w' := by
  obtain ⟨Ak, ck, An, cn, rfl, g1, g2, g3, g4, g5, g6, g7, g8⟩ := hv
  obtain ⟨W1, hW1⟩ : ∃ W, w.alloc (.cells #[.int .i64 x.kd, .string (mkB x.nm), .int .i64 x.nu, .slice Ak x.kids.length ck, .slice An x.ns.length cn, .int .i64 x.at_] 47) = W := ⟨_, rfl⟩
  obtain ⟨X, hX⟩ : ∃ X, w.heap.size = X := ⟨_, rfl⟩
  have hb1 : Below w.heap.size w W1 := by rw [← hW1]; exact (Below.refl _ _).alloc (Nat.le_refl _) _
  have hx1 : W1.heap[X]? = some (.cells #[.int .i64 x.kd, .string (mkB x.nm), .int .i64 x.nu, .slice Ak x.kids.length ck, .slice An x.ns.length cn, .int .i64 x.at_] 47 (0, 0)) := by
    rw [← hW1, ← hX]; exact heap_alloc_new w _
  have HB1 := Lib.hid hb1
  obtain ⟨r, hr⟩ : ∃ r, bareB x 11 = r := ⟨_, rfl⟩
  rw [hr]
  have HR := Lib.hid hr
  clear hr
  have HBr := Lib.hid (fun (k : Int) (w' : World) => bare_any x k Ak ck An cn w')
  go_enter Tryz.func139, Tryz.ntmps139
  go_upto_region 1 with fail
  try simp only [hW1, hX]
  clear hW1 hX hb1
  have f1 := cells6T hx1
  have l1 := lt_of_blk hx1
  go_wp2_with (go_at_call 97; refine (HBr.out _ _).mono ?_; rintro e w2 ⟨rfl, hb2⟩; replace HB1 := Lib.hid (HB1.out.trans (hb2.mono HB1.out.size)); replace hx1 := (hb2.block _ l1).trans hx1; replace f1 := cells6T hx1; replace l1 := lt_of_blk hx1; clear hb2)
  go_ret
  exact ⟨by rw [← HR.out]; rfl, HB1.out⟩

set_option maxRecDepth 100000 in
set_option maxHeartbeats 16000000 in
theorem send_any (K : Nat) (hV : ValOK K) (x : Nd) (v : Value) (B : Nat) (w : World) (hk : cntL x.kids < K) (hn : NkN x) (hn2 : NkL x.kids) (hv : NvAt w (Lo B) v x) (hB : B ≤ w.heap.size) :
    Calls Tryz.prog 99 #[v, .func (.func 73) #[] #[]] w fun e w' => e = .returned (.bool (sendN x)) ∧ Below w.heap.size w w' := by
  obtain ⟨Ak, ck, An, cn, rfl, g1, g2, g3, g4, g5, g6, g7, g8⟩ := hv
  obtain ⟨W1, hW1⟩ : ∃ W, w.alloc (.cells #[.int .i64 x.kd, .string (mkB x.nm), .int .i64 x.nu, .slice Ak x.kids.length ck, .slice An x.ns.length cn, .int .i64 x.at_] 47) = W := ⟨_, rfl⟩
  obtain ⟨X, hX⟩ : ∃ X, w.heap.size = X := ⟨_, rfl⟩
  have hb1 : Below w.heap.size w W1 := by rw [← hW1]; exact (Below.refl _ _).alloc (Nat.le_refl _) _
  have hx1 : W1.heap[X]? = some (.cells #[.int .i64 x.kd, .string (mkB x.nm), .int .i64 x.nu, .slice Ak x.kids.length ck, .slice An x.ns.length cn, .int .i64 x.at_] 47 (0, 0)) := by
    rw [← hW1, ← hX]; exact heap_alloc_new w _
  have HB1 := Lib.hid hb1
  obtain ⟨r, hr⟩ : ∃ r, sendN x = r := ⟨_, rfl⟩
  rw [hr]
  have HR := Lib.hid hr
  clear hr
  have HBr := Lib.hid (fun (k : Int) (w' : World) => bare_any x k Ak ck An cn w')
  have HAr := Lib.hid (fun (w' : World) => arity_any (mkB x.nm) w' (by show x.nm.toArray.size ≤ _; simpa using hn.1))
  have hab := arity_bd (mkB x.nm)
  rw [sendN_eq] at HR
  unfold sendB at HR
  generalize arityL (mkB x.nm) = ar at *
  go_enter Tryz.func99, Tryz.ntmps99
  go_upto_region 1 with fail
  try simp only [hW1, hX]
  clear hW1 hX hb1
  have f1 := cells6T hx1
  have l1 := lt_of_blk hx1
  cases b7 : bareB x 7
  · have HE := Lib.hid (show r = false from by rw [← HR.out]; simp [b7])
    go_wp2_with (first
      | (go_at_call 97; refine (HBr.out _ _).mono ?_; rintro e w2 ⟨rfl, hb2⟩; replace HB1 := Lib.hid (HB1.out.trans (hb2.mono HB1.out.size)); replace hx1 := (hb2.block _ l1).trans hx1; replace f1 := cells6T hx1; replace l1 := lt_of_blk hx1; clear hb2)
      | (go_at_call 49; refine (HAr.out _).mono ?_; rintro e w2 ⟨rfl, hb2⟩; replace HB1 := Lib.hid (HB1.out.trans (hb2.mono HB1.out.size)); replace hx1 := (hb2.block _ l1).trans hx1; replace f1 := cells6T hx1; replace l1 := lt_of_blk hx1; clear hb2)
      )
    all_goals go_ret
    all_goals exact ⟨by rw [HE.out]; rfl, HB1.out⟩
  by_cases q0 : 0 ≤ ar
  case neg =>
    have HE := Lib.hid (show r = false from by rw [← HR.out]; simp [b7, q0])
    go_wp2_with (first
      | (go_at_call 97; refine (HBr.out _ _).mono ?_; rintro e w2 ⟨rfl, hb2⟩; replace HB1 := Lib.hid (HB1.out.trans (hb2.mono HB1.out.size)); replace hx1 := (hb2.block _ l1).trans hx1; replace f1 := cells6T hx1; replace l1 := lt_of_blk hx1; clear hb2)
      | (go_at_call 49; refine (HAr.out _).mono ?_; rintro e w2 ⟨rfl, hb2⟩; replace HB1 := Lib.hid (HB1.out.trans (hb2.mono HB1.out.size)); replace hx1 := (hb2.block _ l1).trans hx1; replace f1 := cells6T hx1; replace l1 := lt_of_blk hx1; clear hb2)
      )
    all_goals go_ret
    all_goals exact ⟨by rw [HE.out]; rfl, HB1.out⟩
  by_cases q1 : (x.kids.length : Int) = ar + 1
  case neg =>
    have HE := Lib.hid (show r = false from by rw [← HR.out]; simp [b7, q0, q1])
    go_wp2_with (first
      | (go_at_call 97; refine (HBr.out _ _).mono ?_; rintro e w2 ⟨rfl, hb2⟩; replace HB1 := Lib.hid (HB1.out.trans (hb2.mono HB1.out.size)); replace hx1 := (hb2.block _ l1).trans hx1; replace f1 := cells6T hx1; replace l1 := lt_of_blk hx1; clear hb2)
      | (go_at_call 49; refine (HAr.out _).mono ?_; rintro e w2 ⟨rfl, hb2⟩; replace HB1 := Lib.hid (HB1.out.trans (hb2.mono HB1.out.size)); replace hx1 := (hb2.block _ l1).trans hx1; replace f1 := cells6T hx1; replace l1 := lt_of_blk hx1; clear hb2)
      )
    all_goals go_ret
    all_goals exact ⟨by rw [HE.out]; rfl, HB1.out⟩
  have hl : 0 < x.kids.length := by omega
  obtain ⟨b, o, rfl, hb, hd1, Ak0, ck0, An0, cn0, k0, n0⟩ := g6.first hl
  have hb : b < B := hb
  have HK0 := Lib.hid (fun (w' : World) (hbb : Below w.heap.size w w') => k0.below hbb (Nat.lt_of_lt_of_le hb hB))
  have hne : 1 ≤ x.kids.length := hl
  have hd2 : NdsAt w (Lo B) (if ck = 1 then some ⟨b, o, none⟩ else some ⟨b, o + 6, none⟩) (x.kids.drop 1) := by
    split
    · exact .inl (by rw [List.drop_eq_nil_iff]; omega)
    · exact hd1
  have hck : 1 ≤ ck := Nat.le_trans hl g1
  have hz0 : x.kids[0] ∈ x.kids := List.getElem_mem hl
  have HV0 := Lib.hid (fun (w' : World) (hbb : Below w.heap.size w w') => hV x.kids[0] _ B w' (Nat.lt_of_le_of_lt (cnt_mem hz0) hk) (hn2.at_ hz0).1 (hn2.at_ hz0).2 (n0.below (hbb.mono hB) (Nat.le_refl _)) (Nat.le_trans hB hbb.size))
  have HVL := Lib.hid (fun (w' : World) (hbb : Below w.heap.size w w') => vals_any K hV (x.kids.drop 1) (if ck = 1 then some ⟨b, o, none⟩ else some ⟨b, o + 6, none⟩) (ck - 1) B w' (hd2.below (hbb.mono hB) (Nat.le_refl _)) (Nat.le_trans hB hbb.size) (by rw [List.length_drop]; omega) (by omega) (Nat.lt_of_le_of_lt (cntL_drops _ _) hk) (hn2.drop 1))
  rw [List.length_drop] at HVL
  rw [valL_first hl] at HR
  have hbw : b < w.heap.size := Nat.lt_of_lt_of_le hb hB
  clear hd1 hd2 n0 k0 hV hk hn hn2 g5 g6 g8
  generalize x.kids[0] = y at *
  generalize x.kids.drop 1 = ys at *
  cases v0 : valN y
  · have HE := Lib.hid (show r = false from by rw [← HR.out]; simp [b7, q0, q1, v0])
    go_wp2_with (first
      | (go_at_call 97; refine (HBr.out _ _).mono ?_; rintro e w2 ⟨rfl, hb2⟩; replace HB1 := Lib.hid (HB1.out.trans (hb2.mono HB1.out.size)); replace hx1 := (hb2.block _ l1).trans hx1; replace f1 := cells6T hx1; replace l1 := lt_of_blk hx1; clear hb2; obtain ⟨d0, d1, d2, d3, d4, d5⟩ := HK0.out _ HB1.out)
      | (go_at_call 49; refine (HAr.out _).mono ?_; rintro e w2 ⟨rfl, hb2⟩; replace HB1 := Lib.hid (HB1.out.trans (hb2.mono HB1.out.size)); replace hx1 := (hb2.block _ l1).trans hx1; replace f1 := cells6T hx1; replace l1 := lt_of_blk hx1; clear hb2)
      | (go_at_call 73; refine (HV0.out _ HB1.out).mono ?_; rintro e w2 ⟨rfl, hb2⟩; replace HB1 := Lib.hid (HB1.out.trans (hb2.mono HB1.out.size)); replace hx1 := (hb2.block _ l1).trans hx1; replace f1 := cells6T hx1; replace l1 := lt_of_blk hx1; clear hb2)
      )
    all_goals go_ret
    all_goals exact ⟨by rw [HE.out]; rfl, HB1.out⟩
  · have HE := Lib.hid (show r = valL ys from by rw [← HR.out]; simp [b7, q0, q1, v0])
    go_wp2_with (first
      | (go_at_call 97; refine (HBr.out _ _).mono ?_; rintro e w2 ⟨rfl, hb2⟩; replace HB1 := Lib.hid (HB1.out.trans (hb2.mono HB1.out.size)); replace hx1 := (hb2.block _ l1).trans hx1; replace f1 := cells6T hx1; replace l1 := lt_of_blk hx1; clear hb2; obtain ⟨d0, d1, d2, d3, d4, d5⟩ := HK0.out _ HB1.out)
      | (go_at_call 49; refine (HAr.out _).mono ?_; rintro e w2 ⟨rfl, hb2⟩; replace HB1 := Lib.hid (HB1.out.trans (hb2.mono HB1.out.size)); replace hx1 := (hb2.block _ l1).trans hx1; replace f1 := cells6T hx1; replace l1 := lt_of_blk hx1; clear hb2)
      | (go_at_call 73; refine (HV0.out _ HB1.out).mono ?_; rintro e w2 ⟨rfl, hb2⟩; replace HB1 := Lib.hid (HB1.out.trans (hb2.mono HB1.out.size)); replace hx1 := (hb2.block _ l1).trans hx1; replace f1 := cells6T hx1; replace l1 := lt_of_blk hx1; clear hb2)
      | (go_at_call 72; refine (HVL.out _ HB1.out).mono ?_; rintro e w2 ⟨rfl, hb2⟩; replace HB1 := Lib.hid (HB1.out.trans (hb2.mono HB1.out.size)); replace hx1 := (hb2.block _ l1).trans hx1; replace f1 := cells6T hx1; replace l1 := lt_of_blk hx1; clear hb2)
      )
    all_goals go_ret
    all_goals exact ⟨by rw [HE.out]; rfl, HB1.out⟩
set_option maxRecDepth 100000 in
set_option maxHeartbeats 16000000 in
theorem sendH_any (K : Nat) (hV : ValOK K) (x : Nd) (v : Value) (B : Nat) (w : World) (hk : cntL x.kids < K) (hn : NkN x) (hn2 : NkL x.kids) (hv : NvAt w (Lo B) v x) (hB : B ≤ w.heap.size) :
    Calls Tryz.prog 99 #[v, .func (.func 139) #[] #[]] w fun e w' => e = .returned (.bool (furN x)) ∧ Below w.heap.size w w' := by
  obtain ⟨Ak, ck, An, cn, rfl, g1, g2, g3, g4, g5, g6, g7, g8⟩ := hv
  obtain ⟨W1, hW1⟩ : ∃ W, w.alloc (.cells #[.int .i64 x.kd, .string (mkB x.nm), .int .i64 x.nu, .slice Ak x.kids.length ck, .slice An x.ns.length cn, .int .i64 x.at_] 47) = W := ⟨_, rfl⟩
  obtain ⟨X, hX⟩ : ∃ X, w.heap.size = X := ⟨_, rfl⟩
  have hb1 : Below w.heap.size w W1 := by rw [← hW1]; exact (Below.refl _ _).alloc (Nat.le_refl _) _
  have hx1 : W1.heap[X]? = some (.cells #[.int .i64 x.kd, .string (mkB x.nm), .int .i64 x.nu, .slice Ak x.kids.length ck, .slice An x.ns.length cn, .int .i64 x.at_] 47 (0, 0)) := by
    rw [← hW1, ← hX]; exact heap_alloc_new w _
  have HB1 := Lib.hid hb1
  obtain ⟨r, hr⟩ : ∃ r, furN x = r := ⟨_, rfl⟩
  rw [hr]
  have HR := Lib.hid hr
  clear hr
  have HBr := Lib.hid (fun (k : Int) (w' : World) => bare_any x k Ak ck An cn w')
  have HAr := Lib.hid (fun (w' : World) => arity_any (mkB x.nm) w' (by show x.nm.toArray.size ≤ _; simpa using hn.1))
  have hab := arity_bd (mkB x.nm)
  rw [furN_eq] at HR
  unfold sendB at HR
  generalize arityL (mkB x.nm) = ar at *
  go_enter Tryz.func99, Tryz.ntmps99
  go_upto_region 1 with fail
  try simp only [hW1, hX]
  clear hW1 hX hb1
  have f1 := cells6T hx1
  have l1 := lt_of_blk hx1
  cases b7 : bareB x 7
  · have HE := Lib.hid (show r = false from by rw [← HR.out]; simp [b7])
    go_wp2_with (first
      | (go_at_call 97; refine (HBr.out _ _).mono ?_; rintro e w2 ⟨rfl, hb2⟩; replace HB1 := Lib.hid (HB1.out.trans (hb2.mono HB1.out.size)); replace hx1 := (hb2.block _ l1).trans hx1; replace f1 := cells6T hx1; replace l1 := lt_of_blk hx1; clear hb2)
      | (go_at_call 49; refine (HAr.out _).mono ?_; rintro e w2 ⟨rfl, hb2⟩; replace HB1 := Lib.hid (HB1.out.trans (hb2.mono HB1.out.size)); replace hx1 := (hb2.block _ l1).trans hx1; replace f1 := cells6T hx1; replace l1 := lt_of_blk hx1; clear hb2)
      )
    all_goals go_ret
    all_goals exact ⟨by rw [HE.out]; rfl, HB1.out⟩
  by_cases q0 : 0 ≤ ar
  case neg =>
    have HE := Lib.hid (show r = false from by rw [← HR.out]; simp [b7, q0])
    go_wp2_with (first
      | (go_at_call 97; refine (HBr.out _ _).mono ?_; rintro e w2 ⟨rfl, hb2⟩; replace HB1 := Lib.hid (HB1.out.trans (hb2.mono HB1.out.size)); replace hx1 := (hb2.block _ l1).trans hx1; replace f1 := cells6T hx1; replace l1 := lt_of_blk hx1; clear hb2)
      | (go_at_call 49; refine (HAr.out _).mono ?_; rintro e w2 ⟨rfl, hb2⟩; replace HB1 := Lib.hid (HB1.out.trans (hb2.mono HB1.out.size)); replace hx1 := (hb2.block _ l1).trans hx1; replace f1 := cells6T hx1; replace l1 := lt_of_blk hx1; clear hb2)
      )
    all_goals go_ret
    all_goals exact ⟨by rw [HE.out]; rfl, HB1.out⟩
  by_cases q1 : (x.kids.length : Int) = ar + 1
  case neg =>
    have HE := Lib.hid (show r = false from by rw [← HR.out]; simp [b7, q0, q1])
    go_wp2_with (first
      | (go_at_call 97; refine (HBr.out _ _).mono ?_; rintro e w2 ⟨rfl, hb2⟩; replace HB1 := Lib.hid (HB1.out.trans (hb2.mono HB1.out.size)); replace hx1 := (hb2.block _ l1).trans hx1; replace f1 := cells6T hx1; replace l1 := lt_of_blk hx1; clear hb2)
      | (go_at_call 49; refine (HAr.out _).mono ?_; rintro e w2 ⟨rfl, hb2⟩; replace HB1 := Lib.hid (HB1.out.trans (hb2.mono HB1.out.size)); replace hx1 := (hb2.block _ l1).trans hx1; replace f1 := cells6T hx1; replace l1 := lt_of_blk hx1; clear hb2)
      )
    all_goals go_ret
    all_goals exact ⟨by rw [HE.out]; rfl, HB1.out⟩
  have hl : 0 < x.kids.length := by omega
  obtain ⟨b, o, rfl, hb, hd1, Ak0, ck0, An0, cn0, k0, n0⟩ := g6.first hl
  have hb : b < B := hb
  have HK0 := Lib.hid (fun (w' : World) (hbb : Below w.heap.size w w') => k0.below hbb (Nat.lt_of_lt_of_le hb hB))
  have hne : 1 ≤ x.kids.length := hl
  have hd2 : NdsAt w (Lo B) (if ck = 1 then some ⟨b, o, none⟩ else some ⟨b, o + 6, none⟩) (x.kids.drop 1) := by
    split
    · exact .inl (by rw [List.drop_eq_nil_iff]; omega)
    · exact hd1
  have hck : 1 ≤ ck := Nat.le_trans hl g1
  have hz0 : x.kids[0] ∈ x.kids := List.getElem_mem hl
  have HV0 := Lib.hid (fun (w' : World) (hbb : Below w.heap.size w w') => hole_any x.kids[0] _ B w' (n0.below (hbb.mono hB) (Nat.le_refl _)))
  have HVL := Lib.hid (fun (w' : World) (hbb : Below w.heap.size w w') => vals_any K hV (x.kids.drop 1) (if ck = 1 then some ⟨b, o, none⟩ else some ⟨b, o + 6, none⟩) (ck - 1) B w' (hd2.below (hbb.mono hB) (Nat.le_refl _)) (Nat.le_trans hB hbb.size) (by rw [List.length_drop]; omega) (by omega) (Nat.lt_of_le_of_lt (cntL_drops _ _) hk) (hn2.drop 1))
  rw [List.length_drop] at HVL
  rw [holL_first hl] at HR
  have hbw : b < w.heap.size := Nat.lt_of_lt_of_le hb hB
  clear hd1 hd2 n0 k0 hV hk hn hn2 g5 g6 g8
  generalize x.kids[0] = y at *
  generalize x.kids.drop 1 = ys at *
  cases v0 : bareB y 11
  · have HE := Lib.hid (show r = false from by rw [← HR.out]; simp [b7, q0, q1, v0])
    go_wp2_with (first
      | (go_at_call 97; refine (HBr.out _ _).mono ?_; rintro e w2 ⟨rfl, hb2⟩; replace HB1 := Lib.hid (HB1.out.trans (hb2.mono HB1.out.size)); replace hx1 := (hb2.block _ l1).trans hx1; replace f1 := cells6T hx1; replace l1 := lt_of_blk hx1; clear hb2; obtain ⟨d0, d1, d2, d3, d4, d5⟩ := HK0.out _ HB1.out)
      | (go_at_call 49; refine (HAr.out _).mono ?_; rintro e w2 ⟨rfl, hb2⟩; replace HB1 := Lib.hid (HB1.out.trans (hb2.mono HB1.out.size)); replace hx1 := (hb2.block _ l1).trans hx1; replace f1 := cells6T hx1; replace l1 := lt_of_blk hx1; clear hb2)
      | (go_at_call 139; refine (HV0.out _ HB1.out).mono ?_; rintro e w2 ⟨rfl, hb2⟩; replace HB1 := Lib.hid (HB1.out.trans (hb2.mono HB1.out.size)); replace hx1 := (hb2.block _ l1).trans hx1; replace f1 := cells6T hx1; replace l1 := lt_of_blk hx1; clear hb2)
      )
    all_goals go_ret
    all_goals exact ⟨by rw [HE.out]; rfl, HB1.out⟩
  · have HE := Lib.hid (show r = valL ys from by rw [← HR.out]; simp [b7, q0, q1, v0])
    go_wp2_with (first
      | (go_at_call 97; refine (HBr.out _ _).mono ?_; rintro e w2 ⟨rfl, hb2⟩; replace HB1 := Lib.hid (HB1.out.trans (hb2.mono HB1.out.size)); replace hx1 := (hb2.block _ l1).trans hx1; replace f1 := cells6T hx1; replace l1 := lt_of_blk hx1; clear hb2; obtain ⟨d0, d1, d2, d3, d4, d5⟩ := HK0.out _ HB1.out)
      | (go_at_call 49; refine (HAr.out _).mono ?_; rintro e w2 ⟨rfl, hb2⟩; replace HB1 := Lib.hid (HB1.out.trans (hb2.mono HB1.out.size)); replace hx1 := (hb2.block _ l1).trans hx1; replace f1 := cells6T hx1; replace l1 := lt_of_blk hx1; clear hb2)
      | (go_at_call 139; refine (HV0.out _ HB1.out).mono ?_; rintro e w2 ⟨rfl, hb2⟩; replace HB1 := Lib.hid (HB1.out.trans (hb2.mono HB1.out.size)); replace hx1 := (hb2.block _ l1).trans hx1; replace f1 := cells6T hx1; replace l1 := lt_of_blk hx1; clear hb2)
      | (go_at_call 72; refine (HVL.out _ HB1.out).mono ?_; rintro e w2 ⟨rfl, hb2⟩; replace HB1 := Lib.hid (HB1.out.trans (hb2.mono HB1.out.size)); replace hx1 := (hb2.block _ l1).trans hx1; replace f1 := cells6T hx1; replace l1 := lt_of_blk hx1; clear hb2)
      )
    all_goals go_ret
    all_goals exact ⟨by rw [HE.out]; rfl, HB1.out⟩
end Go.Proofs.YtfcceojfcmgmlaaGreatDoor.Fl

/-
  What a message of a cascade, a block and its statements may be; what may stand where a value is asked.
-/
namespace Go.Proofs.YtfcceojfcmgmlaaGreatDoor.Fl
open Go.RowKit Go.Shelf

theorem valL_one {l : List Nd} (h : l.length = 1) : valL l = valN (l[0]'(by omega)) := by
  match l, h with
  | [x], _ => rw [valL, valL]; simp
set_option maxRecDepth 100000 in
set_option maxHeartbeats 16000000 in
theorem fur_any (K : Nat) (hV : ValOK K) (x : Nd) (v : Value) (B : Nat) (w : World) (hk : cntL x.kids < K) (hn : NkN x) (hn2 : NkL x.kids) (hv : NvAt w (Lo B) v x) (hB : B ≤ w.heap.size) :
    Calls Tryz.prog 121 #[v] w fun e w' => e = .returned (.bool (furN x)) ∧ Below w.heap.size w w' := by
  have HS := Lib.hid (fun (w' : World) (hb : Below w.heap.size w w') => sendH_any K hV x v B w' hk hn hn2 (hv.below (hb.mono hB) (Nat.le_refl _)) (Nat.le_trans hB hb.size))
  obtain ⟨Ak, ck, An, cn, rfl, g1, g2, g3, g4, g5, g6, g7, g8⟩ := hv
  clear g1 g2 g3 g4 g5 g6 g7 g8 hV hk hn hn2 hB
  obtain ⟨W1, hW1⟩ : ∃ W, w.alloc (.cells #[.int .i64 x.kd, .string (mkB x.nm), .int .i64 x.nu, .slice Ak x.kids.length ck, .slice An x.ns.length cn, .int .i64 x.at_] 47) = W := ⟨_, rfl⟩
  obtain ⟨X, hX⟩ : ∃ X, w.heap.size = X := ⟨_, rfl⟩
  have hb1 : Below w.heap.size w W1 := by rw [← hW1]; exact (Below.refl _ _).alloc (Nat.le_refl _) _
  have hx1 : W1.heap[X]? = some (.cells #[.int .i64 x.kd, .string (mkB x.nm), .int .i64 x.nu, .slice Ak x.kids.length ck, .slice An x.ns.length cn, .int .i64 x.at_] 47 (0, 0)) := by
    rw [← hW1, ← hX]; exact heap_alloc_new w _
  have HB1 := Lib.hid hb1
  obtain ⟨r, hr⟩ : ∃ r, furN x = r := ⟨_, rfl⟩
  rw [hr] at HS ⊢
  have HR := Lib.hid hr
  clear hr
  have HBr := Lib.hid (fun (k : Int) (w' : World) => bare_any x k Ak ck An cn w')
  go_enter Tryz.func121, Tryz.ntmps121
  go_upto_region 1 with fail
  try simp only [hW1, hX]
  clear hW1 hX hb1
  have f1 := cells6T hx1
  have l1 := lt_of_blk hx1
  go_wp2_with (go_at_call 99; refine (HS.out _ HB1.out).mono ?_; rintro e w2 ⟨rfl, hb2⟩; replace HB1 := Lib.hid (HB1.out.trans (hb2.mono HB1.out.size)); replace hx1 := (hb2.block _ l1).trans hx1; replace f1 := cells6T hx1; replace l1 := lt_of_blk hx1; clear hb2)
  go_ret
  exact ⟨rfl, HB1.out⟩
theorem furs_any (K : Nat) (hV : ValOK K) (l : List Nd) (A : Option Addr) (c B : Nat) (w : World) (h : NdsAt w (Lo B) A l) (hB : B ≤ w.heap.size) (hc : l.length ≤ c) (hcc : c ≤ 9223372036854775807) (hk : cntL l < K) (hn : NkL l) :
    Calls Tryz.prog 72 #[.slice A l.length c, .func (.func 121) #[] #[]] w fun e w' => e = .returned (.bool (furL l)) ∧ Below w.heap.size w w' := by
  rw [furL_all]
  refine allV_fur furN l A c B w h hB hc hcc (fun i hi v w' hb hv => fur_any K hV l[i] v B w' ?_ (hn.at_ (List.getElem_mem hi)).1 (hn.at_ (List.getElem_mem hi)).2 hv (Nat.le_trans hB hb.size))
  have := cnt_mem (List.getElem_mem hi)
  rw [cntN_eq] at this
  omega
set_option maxRecDepth 100000 in
set_option maxHeartbeats 16000000 in
theorem ret_any (K : Nat) (hV : ValOK K) (x : Nd) (v : Value) (B : Nat) (w : World) (hk : cntL x.kids < K) (hn : NkN x) (hn2 : NkL x.kids) (hv : NvAt w (Lo B) v x) (hB : B ≤ w.heap.size) :
    Calls Tryz.prog 74 #[v] w fun e w' => e = .returned (.bool (retN x)) ∧ Below w.heap.size w w' := by
  obtain ⟨Ak, ck, An, cn, rfl, g1, g2, g3, g4, g5, g6, g7, g8⟩ := hv
  obtain ⟨W1, hW1⟩ : ∃ W, w.alloc (.cells #[.int .i64 x.kd, .string (mkB x.nm), .int .i64 x.nu, .slice Ak x.kids.length ck, .slice An x.ns.length cn, .int .i64 x.at_] 47) = W := ⟨_, rfl⟩
  obtain ⟨X, hX⟩ : ∃ X, w.heap.size = X := ⟨_, rfl⟩
  have hb1 : Below w.heap.size w W1 := by rw [← hW1]; exact (Below.refl _ _).alloc (Nat.le_refl _) _
  have hx1 : W1.heap[X]? = some (.cells #[.int .i64 x.kd, .string (mkB x.nm), .int .i64 x.nu, .slice Ak x.kids.length ck, .slice An x.ns.length cn, .int .i64 x.at_] 47 (0, 0)) := by
    rw [← hW1, ← hX]; exact heap_alloc_new w _
  have HB1 := Lib.hid hb1
  obtain ⟨r, hr⟩ : ∃ r, retN x = r := ⟨_, rfl⟩
  rw [hr]
  have HR := Lib.hid hr
  clear hr
  have HBr := Lib.hid (fun (k : Int) (w' : World) => bare_any x k Ak ck An cn w')
  rw [retN_eq] at HR
  go_enter Tryz.func74, Tryz.ntmps74
  go_upto_region 1 with fail
  try simp only [hW1, hX]
  clear hW1 hX hb1
  have f1 := cells6T hx1
  have l1 := lt_of_blk hx1
  cases b7 : bareB x 10
  · have HE := Lib.hid (show r = false from by rw [← HR.out]; simp [b7])
    go_wp2_with (go_at_call 97; refine (HBr.out _ _).mono ?_; rintro e w2 ⟨rfl, hb2⟩; replace HB1 := Lib.hid (HB1.out.trans (hb2.mono HB1.out.size)); replace hx1 := (hb2.block _ l1).trans hx1; replace f1 := cells6T hx1; replace l1 := lt_of_blk hx1; clear hb2)
    all_goals go_ret
    all_goals exact ⟨by rw [HE.out]; rfl, HB1.out⟩
  by_cases q1 : x.kids.length = 1
  case neg =>
    have q2 : ¬ (x.kids.length : Int) = 1 := by omega
    have HE := Lib.hid (show r = false from by rw [← HR.out]; simp [b7, q1])
    go_wp2_with (go_at_call 97; refine (HBr.out _ _).mono ?_; rintro e w2 ⟨rfl, hb2⟩; replace HB1 := Lib.hid (HB1.out.trans (hb2.mono HB1.out.size)); replace hx1 := (hb2.block _ l1).trans hx1; replace f1 := cells6T hx1; replace l1 := lt_of_blk hx1; clear hb2)
    all_goals go_ret
    all_goals exact ⟨by rw [HE.out]; rfl, HB1.out⟩
  have q2 : (x.kids.length : Int) = 1 := by omega
  have hl : 0 < x.kids.length := by omega
  obtain ⟨b, o, rfl, hb, hd1, Ak0, ck0, An0, cn0, k0, n0⟩ := g6.first hl
  have hb : b < B := hb
  have HK0 := Lib.hid (fun (w' : World) (hbb : Below w.heap.size w w') => k0.below hbb (Nat.lt_of_lt_of_le hb hB))
  have hne : 1 ≤ x.kids.length := hl
  have hck : 1 ≤ ck := Nat.le_trans hl g1
  have hz0 : x.kids[0] ∈ x.kids := List.getElem_mem hl
  have hbw : b < w.heap.size := Nat.lt_of_lt_of_le hb hB
  have HV0 := Lib.hid (fun (w' : World) (hbb : Below w.heap.size w w') => hV x.kids[0] _ B w' (Nat.lt_of_le_of_lt (cnt_mem hz0) hk) (hn2.at_ hz0).1 (hn2.at_ hz0).2 (n0.below (hbb.mono hB) (Nat.le_refl _)) (Nat.le_trans hB hbb.size))
  rw [valL_one q1] at HR
  rw [q1] at HBr f1 hx1
  clear hd1 n0 k0 hV hk hn hn2 g5 g6 g8
  generalize x.kids[0] = y at *
  have HE := Lib.hid (show r = valN y from by rw [← HR.out]; simp [b7, q1])
  go_wp2_with (first
    | (go_at_call 97; refine (HBr.out _ _).mono ?_; rintro e w2 ⟨rfl, hb2⟩; replace HB1 := Lib.hid (HB1.out.trans (hb2.mono HB1.out.size)); replace hx1 := (hb2.block _ l1).trans hx1; replace f1 := cells6T hx1; replace l1 := lt_of_blk hx1; clear hb2; obtain ⟨d0, d1, d2, d3, d4, d5⟩ := HK0.out _ HB1.out)
    | (go_at_call 73; refine (HV0.out _ HB1.out).mono ?_; rintro e w2 ⟨rfl, hb2⟩; replace HB1 := Lib.hid (HB1.out.trans (hb2.mono HB1.out.size)); replace hx1 := (hb2.block _ l1).trans hx1; replace f1 := cells6T hx1; replace l1 := lt_of_blk hx1; clear hb2)
    )
  all_goals go_ret
  all_goals exact ⟨by rw [HE.out]; rfl, HB1.out⟩
set_option maxRecDepth 100000 in
set_option maxHeartbeats 16000000 in
theorem st_any (K : Nat) (hV : ValOK K) (l : List Nd) (A : Option Addr) (c B : Nat) (w : World) (h : NdsAt w (Lo B) A l) (hB : B ≤ w.heap.size) (hc : l.length ≤ c) (hcc : c ≤ 9223372036854775807) (hk : cntL l < K) (hn : NkL l) :
    Calls Tryz.prog 52 #[.slice A l.length c] w fun e w' => e = .returned (.bool (stL l)) ∧ Below w.heap.size w w' := by
  by_cases h0 : l.length = 0
  · have e : l = [] := List.eq_nil_of_length_eq_zero h0
    subst e
    go_enter Tryz.func52, Tryz.ntmps52
    go_wp2_with fail
    go_ret
    exact ⟨rfl, Below.refl _ _⟩
  obtain ⟨n, en⟩ : ∃ n, l.length = n + 1 := ⟨l.length - 1, by omega⟩
  have hlt : n < l.length := by omega
  have hst := stL_last (l := l) (by omega)
  simp only [en, Nat.add_sub_cancel] at hst
  rw [← valL_all] at hst
  have hm := List.getElem_mem hlt
  have HVL := Lib.hid (fun (w' : World) (hb : Below w.heap.size w w') => vals_any K hV (l.take n) A c B w' ((h.below (hb.mono hB) (Nat.le_refl _)).take n) (Nat.le_trans hB hb.size) (by rw [List.length_take]; omega) hcc (Nat.lt_of_le_of_lt (cntL_takes _ _) hk) (hn.take n))
  rw [List.length_take, Nat.min_eq_left (Nat.le_of_lt hlt)] at HVL
  obtain ⟨b, o, rfl, hb, Ak, ck, An, cn, d0, d1, d2, d3, d4, d5, g1, g2, g3, g4, g5, g6, g7, g8⟩ := h.at_ hlt
  have hb : b < B := hb
  have hbw : b < w.heap.size := Nat.lt_of_lt_of_le hb hB
  have hvl : NvAt w (Lo B) (.agg #[.int .i64 l[n].kd, .string (mkB l[n].nm), .int .i64 l[n].nu, .slice Ak l[n].kids.length ck, .slice An l[n].ns.length cn, .int .i64 l[n].at_]) l[n] := ⟨Ak, ck, An, cn, rfl, g1, g2, g3, g4, g5, g6, g7, g8⟩
  have hkl := cnt_mem hm
  have HV0 := Lib.hid (fun (w' : World) (hb : Below w.heap.size w w') => hV l[n] _ B w' (Nat.lt_of_le_of_lt hkl hk) (hn.at_ hm).1 (hn.at_ hm).2 (hvl.below (hb.mono hB) (Nat.le_refl _)) (Nat.le_trans hB hb.size))
  have HRt := Lib.hid (fun (w' : World) (hb : Below w.heap.size w w') => ret_any K hV l[n] _ B w' (by rw [cntN_eq] at hkl; omega) (hn.at_ hm).1 (hn.at_ hm).2 (hvl.below (hb.mono hB) (Nat.le_refl _)) (Nat.le_trans hB hb.size))
  clear hvl hkl hV hk hn hm g5 g6 g7 g8
  generalize l[n] = y at *
  generalize l.take n = ys at *
  obtain ⟨r, hr⟩ : ∃ r, stL l = r := ⟨_, rfl⟩
  rw [hr] at hst ⊢
  have HR := Lib.hid hst.symm
  clear hr hst
  obtain ⟨W1, hW1⟩ : ∃ W, w.alloc (.cells #[.int .i64 y.kd, .string (mkB y.nm), .int .i64 y.nu, .slice Ak y.kids.length ck, .slice An y.ns.length cn, .int .i64 y.at_] 47) = W := ⟨_, rfl⟩
  obtain ⟨X, hX⟩ : ∃ X, w.heap.size = X := ⟨_, rfl⟩
  have hb1 : Below w.heap.size w W1 := by rw [← hW1]; exact (Below.refl _ _).alloc (Nat.le_refl _) _
  have hx1 : W1.heap[X]? = some (.cells #[.int .i64 y.kd, .string (mkB y.nm), .int .i64 y.nu, .slice Ak y.kids.length ck, .slice An y.ns.length cn, .int .i64 y.at_] 47 (0, 0)) := by
    rw [← hW1, ← hX]; exact heap_alloc_new w _
  have HB1 := Lib.hid hb1
  have hcn : n + 1 ≤ c := by omega
  rw [en]
  clear h hlt h0
  go_enter Tryz.func52, Tryz.ntmps52
  go_upto_region 4 with fail
  try simp only [hW1, hX]
  clear hW1 hX hb1 d0 d1 d2 d3 d4 d5
  have f1 := cells6T hx1
  have l1 := lt_of_blk hx1
  cases v1 : valL ys
  · have HE := Lib.hid (show r = false from by rw [← HR.out]; simp [v1])
    go_wp2_with (go_at_call 72; refine (HVL.out _ HB1.out).mono ?_; rintro e w2 ⟨rfl, hb2⟩; replace HB1 := Lib.hid (HB1.out.trans (hb2.mono HB1.out.size)); replace hx1 := (hb2.block _ l1).trans hx1; replace f1 := cells6T hx1; replace l1 := lt_of_blk hx1; clear hb2)
    all_goals go_ret
    all_goals exact ⟨by rw [HE.out]; rfl, HB1.out⟩
  cases v2 : valN y
  · have HE := Lib.hid (show r = retN y from by rw [← HR.out]; simp [v1, v2])
    go_wp2_with (first
      | (go_at_call 72; refine (HVL.out _ HB1.out).mono ?_; rintro e w2 ⟨rfl, hb2⟩; replace HB1 := Lib.hid (HB1.out.trans (hb2.mono HB1.out.size)); replace hx1 := (hb2.block _ l1).trans hx1; replace f1 := cells6T hx1; replace l1 := lt_of_blk hx1; clear hb2)
      | (go_at_call 73; refine (HV0.out _ HB1.out).mono ?_; rintro e w2 ⟨rfl, hb2⟩; replace HB1 := Lib.hid (HB1.out.trans (hb2.mono HB1.out.size)); replace hx1 := (hb2.block _ l1).trans hx1; replace f1 := cells6T hx1; replace l1 := lt_of_blk hx1; clear hb2)
      | (go_at_call 74; refine (HRt.out _ HB1.out).mono ?_; rintro e w2 ⟨rfl, hb2⟩; replace HB1 := Lib.hid (HB1.out.trans (hb2.mono HB1.out.size)); replace hx1 := (hb2.block _ l1).trans hx1; replace f1 := cells6T hx1; replace l1 := lt_of_blk hx1; clear hb2)
      )
    all_goals go_ret
    all_goals exact ⟨by rw [HE.out]; rfl, HB1.out⟩
  · have HE := Lib.hid (show r = true from by rw [← HR.out]; simp [v1, v2])
    go_wp2_with (first
      | (go_at_call 72; refine (HVL.out _ HB1.out).mono ?_; rintro e w2 ⟨rfl, hb2⟩; replace HB1 := Lib.hid (HB1.out.trans (hb2.mono HB1.out.size)); replace hx1 := (hb2.block _ l1).trans hx1; replace f1 := cells6T hx1; replace l1 := lt_of_blk hx1; clear hb2)
      | (go_at_call 73; refine (HV0.out _ HB1.out).mono ?_; rintro e w2 ⟨rfl, hb2⟩; replace HB1 := Lib.hid (HB1.out.trans (hb2.mono HB1.out.size)); replace hx1 := (hb2.block _ l1).trans hx1; replace f1 := cells6T hx1; replace l1 := lt_of_blk hx1; clear hb2)
      | (go_at_call 74; refine (HRt.out _ HB1.out).mono ?_; rintro e w2 ⟨rfl, hb2⟩; replace HB1 := Lib.hid (HB1.out.trans (hb2.mono HB1.out.size)); replace hx1 := (hb2.block _ l1).trans hx1; replace f1 := cells6T hx1; replace l1 := lt_of_blk hx1; clear hb2)
      )
    all_goals go_ret
    all_goals exact ⟨by rw [HE.out]; rfl, HB1.out⟩
set_option maxRecDepth 100000 in
set_option maxHeartbeats 16000000 in
theorem cas_any (K : Nat) (hV : ValOK K) (x : Nd) (v : Value) (B : Nat) (w : World) (hk : cntL x.kids < K) (hn : NkN x) (hn2 : NkL x.kids) (hv : NvAt w (Lo B) v x) (hB : B ≤ w.heap.size) :
    Calls Tryz.prog 100 #[v] w fun e w' => e = .returned (.bool (bareB x 8 && (decide (1 < x.kids.length) && casL x.kids))) ∧ Below w.heap.size w w' := by
  obtain ⟨Ak, ck, An, cn, rfl, g1, g2, g3, g4, g5, g6, g7, g8⟩ := hv
  obtain ⟨W1, hW1⟩ : ∃ W, w.alloc (.cells #[.int .i64 x.kd, .string (mkB x.nm), .int .i64 x.nu, .slice Ak x.kids.length ck, .slice An x.ns.length cn, .int .i64 x.at_] 47) = W := ⟨_, rfl⟩
  obtain ⟨X, hX⟩ : ∃ X, w.heap.size = X := ⟨_, rfl⟩
  have hb1 : Below w.heap.size w W1 := by rw [← hW1]; exact (Below.refl _ _).alloc (Nat.le_refl _) _
  have hx1 : W1.heap[X]? = some (.cells #[.int .i64 x.kd, .string (mkB x.nm), .int .i64 x.nu, .slice Ak x.kids.length ck, .slice An x.ns.length cn, .int .i64 x.at_] 47 (0, 0)) := by
    rw [← hW1, ← hX]; exact heap_alloc_new w _
  have HB1 := Lib.hid hb1
  obtain ⟨r, hr⟩ : ∃ r, (bareB x 8 && (decide (1 < x.kids.length) && casL x.kids)) = r := ⟨_, rfl⟩
  rw [hr]
  have HR := Lib.hid hr
  clear hr
  have HBr := Lib.hid (fun (k : Int) (w' : World) => bare_any x k Ak ck An cn w')
  go_enter Tryz.func100, Tryz.ntmps100
  go_upto_region 1 with fail
  try simp only [hW1, hX]
  clear hW1 hX hb1
  have f1 := cells6T hx1
  have l1 := lt_of_blk hx1
  cases b7 : bareB x 8
  · have HE := Lib.hid (show r = false from by rw [← HR.out]; simp [b7])
    go_wp2_with (go_at_call 97; refine (HBr.out _ _).mono ?_; rintro e w2 ⟨rfl, hb2⟩; replace HB1 := Lib.hid (HB1.out.trans (hb2.mono HB1.out.size)); replace hx1 := (hb2.block _ l1).trans hx1; replace f1 := cells6T hx1; replace l1 := lt_of_blk hx1; clear hb2)
    all_goals go_ret
    all_goals exact ⟨by rw [HE.out]; rfl, HB1.out⟩
  by_cases q1 : 1 < x.kids.length
  case neg =>
    have q2 : ¬ (1 : Int) < (x.kids.length : Int) := by omega
    have HE := Lib.hid (show r = false from by rw [← HR.out]; simp [b7, q1])
    go_wp2_with (go_at_call 97; refine (HBr.out _ _).mono ?_; rintro e w2 ⟨rfl, hb2⟩; replace HB1 := Lib.hid (HB1.out.trans (hb2.mono HB1.out.size)); replace hx1 := (hb2.block _ l1).trans hx1; replace f1 := cells6T hx1; replace l1 := lt_of_blk hx1; clear hb2)
    all_goals go_ret
    all_goals exact ⟨by rw [HE.out]; rfl, HB1.out⟩
  have q2 : (1 : Int) < (x.kids.length : Int) := by omega
  have hl : 0 < x.kids.length := by omega
  obtain ⟨b, o, rfl, hb, hd1, Ak0, ck0, An0, cn0, k0, n0⟩ := g6.first hl
  have hb : b < B := hb
  have HK0 := Lib.hid (fun (w' : World) (hbb : Below w.heap.size w w') => k0.below hbb (Nat.lt_of_lt_of_le hb hB))
  have hne : 1 ≤ x.kids.length := hl
  have hck : 1 ≤ ck := Nat.le_trans hl g1
  have hz0 : x.kids[0] ∈ x.kids := List.getElem_mem hl
  have hbw : b < w.heap.size := Nat.lt_of_lt_of_le hb hB
  have hkl := cnt_mem hz0
  have HS0 := Lib.hid (fun (w' : World) (hbb : Below w.heap.size w w') => send_any K hV x.kids[0] _ B w' (by rw [cntN_eq] at hkl; omega) (hn2.at_ hz0).1 (hn2.at_ hz0).2 (n0.below (hbb.mono hB) (Nat.le_refl _)) (Nat.le_trans hB hbb.size))
  have hc1 : ¬ ck = 1 := by omega
  have HVL := Lib.hid (fun (w' : World) (hbb : Below w.heap.size w w') => furs_any K hV (x.kids.drop 1) (some ⟨b, o + 6, none⟩) (ck - 1) B w' (hd1.below (hbb.mono hB) (Nat.le_refl _)) (Nat.le_trans hB hbb.size) (by rw [List.length_drop]; omega) (by omega) (Nat.lt_of_le_of_lt (cntL_drops _ _) hk) (hn2.drop 1))
  rw [List.length_drop] at HVL
  rw [casL_first hl] at HR
  clear hd1 n0 k0 hV hk hn hn2 g5 g6 g8 hkl
  generalize x.kids[0] = y at *
  generalize x.kids.drop 1 = ys at *
  cases v0 : sendN y
  · have HE := Lib.hid (show r = false from by rw [← HR.out]; simp [b7, q1, v0])
    go_wp2_with (first
      | (go_at_call 97; refine (HBr.out _ _).mono ?_; rintro e w2 ⟨rfl, hb2⟩; replace HB1 := Lib.hid (HB1.out.trans (hb2.mono HB1.out.size)); replace hx1 := (hb2.block _ l1).trans hx1; replace f1 := cells6T hx1; replace l1 := lt_of_blk hx1; clear hb2; obtain ⟨d0, d1, d2, d3, d4, d5⟩ := HK0.out _ HB1.out)
      | (go_at_call 99; refine (HS0.out _ HB1.out).mono ?_; rintro e w2 ⟨rfl, hb2⟩; replace HB1 := Lib.hid (HB1.out.trans (hb2.mono HB1.out.size)); replace hx1 := (hb2.block _ l1).trans hx1; replace f1 := cells6T hx1; replace l1 := lt_of_blk hx1; clear hb2)
      )
    all_goals go_ret
    all_goals exact ⟨by rw [HE.out]; rfl, HB1.out⟩
  · have HE := Lib.hid (show r = furL ys from by rw [← HR.out]; simp [b7, q1, v0])
    go_wp2_with (first
      | (go_at_call 97; refine (HBr.out _ _).mono ?_; rintro e w2 ⟨rfl, hb2⟩; replace HB1 := Lib.hid (HB1.out.trans (hb2.mono HB1.out.size)); replace hx1 := (hb2.block _ l1).trans hx1; replace f1 := cells6T hx1; replace l1 := lt_of_blk hx1; clear hb2; obtain ⟨d0, d1, d2, d3, d4, d5⟩ := HK0.out _ HB1.out)
      | (go_at_call 99; refine (HS0.out _ HB1.out).mono ?_; rintro e w2 ⟨rfl, hb2⟩; replace HB1 := Lib.hid (HB1.out.trans (hb2.mono HB1.out.size)); replace hx1 := (hb2.block _ l1).trans hx1; replace f1 := cells6T hx1; replace l1 := lt_of_blk hx1; clear hb2)
      | (go_at_call 72; refine (HVL.out _ HB1.out).mono ?_; rintro e w2 ⟨rfl, hb2⟩; replace HB1 := Lib.hid (HB1.out.trans (hb2.mono HB1.out.size)); replace hx1 := (hb2.block _ l1).trans hx1; replace f1 := cells6T hx1; replace l1 := lt_of_blk hx1; clear hb2)
      )
    all_goals go_ret
    all_goals exact ⟨by rw [HE.out]; rfl, HB1.out⟩
set_option maxRecDepth 100000 in
set_option maxHeartbeats 16000000 in
theorem blk_any (K : Nat) (hV : ValOK K) (x : Nd) (v : Value) (B : Nat) (w : World) (hk : cntL x.kids < K) (hn : NkN x) (hn2 : NkL x.kids) (hv : NvAt w (Lo B) v x) (hB : B ≤ w.heap.size) :
    Calls Tryz.prog 101 #[v] w fun e w' => e = .returned (.bool (blockB x && stL x.kids)) ∧ Below w.heap.size w w' := by
  obtain ⟨Ak, ck, An, cn, rfl, g1, g2, g3, g4, g5, g6, g7, g8⟩ := hv
  obtain ⟨W1, hW1⟩ : ∃ W, w.alloc (.cells #[.int .i64 x.kd, .string (mkB x.nm), .int .i64 x.nu, .slice Ak x.kids.length ck, .slice An x.ns.length cn, .int .i64 x.at_] 47) = W := ⟨_, rfl⟩
  obtain ⟨X, hX⟩ : ∃ X, w.heap.size = X := ⟨_, rfl⟩
  have hb1 : Below w.heap.size w W1 := by rw [← hW1]; exact (Below.refl _ _).alloc (Nat.le_refl _) _
  have hx1 : W1.heap[X]? = some (.cells #[.int .i64 x.kd, .string (mkB x.nm), .int .i64 x.nu, .slice Ak x.kids.length ck, .slice An x.ns.length cn, .int .i64 x.at_] 47 (0, 0)) := by
    rw [← hW1, ← hX]; exact heap_alloc_new w _
  have HB1 := Lib.hid hb1
  obtain ⟨r, hr⟩ : ∃ r, (blockB x && stL x.kids) = r := ⟨_, rfl⟩
  rw [hr]
  have HR := Lib.hid hr
  clear hr
  have HBr := Lib.hid (fun (k : Int) (w' : World) => bare_any x k Ak ck An cn w')
  have HNL := Lib.hid (fun (w' : World) (hb : Below w.heap.size w w') => allT_any x.ns An cn B w' (g5.below (hb.mono hB) (Nat.le_refl _)) (Nat.le_trans hB hb.size) g2 g4 hn.2.2)
  have HST := Lib.hid (fun (w' : World) (hb : Below w.heap.size w w') => st_any K hV x.kids Ak ck B w' (g6.below (hb.mono hB) (Nat.le_refl _)) (Nat.le_trans hB hb.size) g1 g3 hk hn2)
  unfold blockB at HR
  clear hV hk hn hn2 g5 g6 g7 g8
  go_enter Tryz.func101, Tryz.ntmps101
  go_upto_region 1 with fail
  try simp only [hW1, hX]
  clear hW1 hX hb1
  have f1 := cells6T hx1
  have l1 := lt_of_blk hx1
  cases b7 : bareB x 9
  · have HE := Lib.hid (show r = false from by rw [← HR.out]; simp [b7])
    go_wp2_with (go_at_call 97; refine (HBr.out _ _).mono ?_; rintro e w2 ⟨rfl, hb2⟩; replace HB1 := Lib.hid (HB1.out.trans (hb2.mono HB1.out.size)); replace hx1 := (hb2.block _ l1).trans hx1; replace f1 := cells6T hx1; replace l1 := lt_of_blk hx1; clear hb2)
    all_goals go_ret
    all_goals exact ⟨by rw [HE.out]; rfl, HB1.out⟩
  by_cases q1 : 0 ≤ x.nu
  case neg =>
    have HE := Lib.hid (show r = false from by rw [← HR.out]; simp [b7, q1])
    go_wp2_with (go_at_call 97; refine (HBr.out _ _).mono ?_; rintro e w2 ⟨rfl, hb2⟩; replace HB1 := Lib.hid (HB1.out.trans (hb2.mono HB1.out.size)); replace hx1 := (hb2.block _ l1).trans hx1; replace f1 := cells6T hx1; replace l1 := lt_of_blk hx1; clear hb2)
    all_goals go_ret
    all_goals exact ⟨by rw [HE.out]; rfl, HB1.out⟩
  by_cases q2 : x.nu ≤ (x.ns.length : Int)
  case neg =>
    have HE := Lib.hid (show r = false from by rw [← HR.out]; simp [b7, q1, q2])
    go_wp2_with (go_at_call 97; refine (HBr.out _ _).mono ?_; rintro e w2 ⟨rfl, hb2⟩; replace HB1 := Lib.hid (HB1.out.trans (hb2.mono HB1.out.size)); replace hx1 := (hb2.block _ l1).trans hx1; replace f1 := cells6T hx1; replace l1 := lt_of_blk hx1; clear hb2)
    all_goals go_ret
    all_goals exact ⟨by rw [HE.out]; rfl, HB1.out⟩
  cases v0 : x.ns.all nameB
  · have HE := Lib.hid (show r = false from by rw [← HR.out]; simp [b7, q1, q2, v0])
    go_wp2_with (first
      | (go_at_call 97; refine (HBr.out _ _).mono ?_; rintro e w2 ⟨rfl, hb2⟩; replace HB1 := Lib.hid (HB1.out.trans (hb2.mono HB1.out.size)); replace hx1 := (hb2.block _ l1).trans hx1; replace f1 := cells6T hx1; replace l1 := lt_of_blk hx1; clear hb2)
      | (go_at_call 50; refine (HNL.out _ HB1.out).mono ?_; rintro e w2 ⟨rfl, hb2⟩; replace HB1 := Lib.hid (HB1.out.trans (hb2.mono HB1.out.size)); replace hx1 := (hb2.block _ l1).trans hx1; replace f1 := cells6T hx1; replace l1 := lt_of_blk hx1; clear hb2)
      )
    all_goals go_ret
    all_goals exact ⟨by rw [HE.out]; rfl, HB1.out⟩
  · have HE := Lib.hid (show r = stL x.kids from by rw [← HR.out]; simp [b7, q1, q2, v0])
    go_wp2_with (first
      | (go_at_call 97; refine (HBr.out _ _).mono ?_; rintro e w2 ⟨rfl, hb2⟩; replace HB1 := Lib.hid (HB1.out.trans (hb2.mono HB1.out.size)); replace hx1 := (hb2.block _ l1).trans hx1; replace f1 := cells6T hx1; replace l1 := lt_of_blk hx1; clear hb2)
      | (go_at_call 50; refine (HNL.out _ HB1.out).mono ?_; rintro e w2 ⟨rfl, hb2⟩; replace HB1 := Lib.hid (HB1.out.trans (hb2.mono HB1.out.size)); replace hx1 := (hb2.block _ l1).trans hx1; replace f1 := cells6T hx1; replace l1 := lt_of_blk hx1; clear hb2)
      | (go_at_call 52; refine (HST.out _ HB1.out).mono ?_; rintro e w2 ⟨rfl, hb2⟩; replace HB1 := Lib.hid (HB1.out.trans (hb2.mono HB1.out.size)); replace hx1 := (hb2.block _ l1).trans hx1; replace f1 := cells6T hx1; replace l1 := lt_of_blk hx1; clear hb2)
      )
    all_goals go_ret
    all_goals exact ⟨by rw [HE.out]; rfl, HB1.out⟩
end Go.Proofs.YtfcceojfcmgmlaaGreatDoor.Fl

/-
  What may stand where a value is asked.
-/
namespace Go.Proofs.YtfcceojfcmgmlaaGreatDoor.Fl
open Go.RowKit Go.Shelf

set_option maxRecDepth 100000 in
set_option maxHeartbeats 16000000 in
theorem val_step (K : Nat) (hV : ValOK K) (x : Nd) (v : Value) (B : Nat) (w : World) (hk : cntL x.kids < K) (hn : NkN x) (hn2 : NkL x.kids) (hv : NvAt w (Lo B) v x) (hB : B ≤ w.heap.size) :
    Calls Tryz.prog 73 #[v] w fun e w' => e = .returned (.bool (valN x)) ∧ Below w.heap.size w w' := by
  have HSd := Lib.hid (fun (w' : World) (hb : Below w.heap.size w w') => send_any K hV x v B w' hk hn hn2 (hv.below (hb.mono hB) (Nat.le_refl _)) (Nat.le_trans hB hb.size))
  have HCs := Lib.hid (fun (w' : World) (hb : Below w.heap.size w w') => cas_any K hV x v B w' hk hn hn2 (hv.below (hb.mono hB) (Nat.le_refl _)) (Nat.le_trans hB hb.size))
  have HBk := Lib.hid (fun (w' : World) (hb : Below w.heap.size w w') => blk_any K hV x v B w' hk hn hn2 (hv.below (hb.mono hB) (Nat.le_refl _)) (Nat.le_trans hB hb.size))
  obtain ⟨Ak, ck, An, cn, rfl, g1, g2, g3, g4, g5, g6, g7, g8⟩ := hv
  have HK := Lib.hid (fun w' (hb : Below w.heap.size w w') => allV_el elN x.kids Ak ck B w' (g6.below (hb.mono hB) (Nat.le_refl _)) (Nat.le_trans hB hb.size) g1 g3 (fun i hi v w2 hb2 hv2 => el_any (cntN x.kids[i]) x.kids[i] v B w2 (Nat.le_refl _) hv2 (Nat.le_trans (Nat.le_trans hB hb.size) hb2.size)))
  have HNm := Lib.hid (fun (w' : World) => isNameT_any x.nm w' hn.1)
  obtain ⟨sn, hsn⟩ : ∃ t, sendN x = t := ⟨_, rfl⟩
  obtain ⟨cs, hcs⟩ : ∃ t, (bareB x 8 && (decide (1 < x.kids.length) && casL x.kids)) = t := ⟨_, rfl⟩
  obtain ⟨bk, hbk⟩ : ∃ t, (blockB x && stL x.kids) = t := ⟨_, rfl⟩
  rw [hsn] at HSd
  rw [hcs] at HCs
  rw [hbk] at HBk
  obtain ⟨W1, hW1⟩ : ∃ W, w.alloc (.cells #[.int .i64 x.kd, .string (mkB x.nm), .int .i64 x.nu, .slice Ak x.kids.length ck, .slice An x.ns.length cn, .int .i64 x.at_] 47) = W := ⟨_, rfl⟩
  obtain ⟨X, hX⟩ : ∃ X, w.heap.size = X := ⟨_, rfl⟩
  have hb1 : Below w.heap.size w W1 := by rw [← hW1]; exact (Below.refl _ _).alloc (Nat.le_refl _) _
  have hx1 : W1.heap[X]? = some (.cells #[.int .i64 x.kd, .string (mkB x.nm), .int .i64 x.nu, .slice Ak x.kids.length ck, .slice An x.ns.length cn, .int .i64 x.at_] 47 (0, 0)) := by
    rw [← hW1, ← hX]; exact heap_alloc_new w _
  have HB1 := Lib.hid hb1
  obtain ⟨r, hr⟩ : ∃ r, valN x = r := ⟨_, rfl⟩
  rw [hr]
  have HR := Lib.hid hr
  clear hr
  have HBr := Lib.hid (fun (k : Int) (w' : World) => bare_any x k Ak ck An cn w')
  have HL := Lib.hid (fun (w' : World) => lit_any x Ak ck An cn w')
  go_enter Tryz.func73, Tryz.ntmps73
  go_upto_region 1 with fail
  try simp only [hW1, hX]
  clear hW1 hX hb1
  have f1 := cells6T hx1
  have l1 := lt_of_blk hx1
  by_cases h4 : x.kd = 4
  · rw [h4] at HBr f1 hx1
    cases b4 : bareB x 4
    · have HE := Lib.hid (show r = false from by rw [← HR.out, valN_eq, if_pos h4]; simp [b4])
      go_wp2_with (go_at_call 97; refine (HBr.out _ _).mono ?_; rintro e w2 ⟨rfl, hb2⟩; replace HB1 := Lib.hid (HB1.out.trans (hb2.mono HB1.out.size)); replace hx1 := (hb2.block _ l1).trans hx1; replace f1 := cells6T hx1; replace l1 := lt_of_blk hx1; clear hb2)
      all_goals go_ret
      all_goals exact ⟨by rw [HE.out]; rfl, HB1.out⟩
    · have HE := Lib.hid (show r = x.kids.all elN from by rw [← HR.out, valN_eq, if_pos h4]; simp [b4, elL_all])
      go_wp2_with (first
        | (go_at_call 97; refine (HBr.out _ _).mono ?_; rintro e w2 ⟨rfl, hb2⟩; replace HB1 := Lib.hid (HB1.out.trans (hb2.mono HB1.out.size)); replace hx1 := (hb2.block _ l1).trans hx1; replace f1 := cells6T hx1; replace l1 := lt_of_blk hx1; clear hb2)
        | (go_at_call 72; refine (HK.out _ HB1.out).mono ?_; rintro e w2 ⟨rfl, hb2⟩; replace HB1 := Lib.hid (HB1.out.trans (hb2.mono HB1.out.size)); replace hx1 := (hb2.block _ l1).trans hx1; replace f1 := cells6T hx1; replace l1 := lt_of_blk hx1; clear hb2)
        )
      all_goals go_ret
      all_goals exact ⟨by rw [HE.out]; rfl, HB1.out⟩
  by_cases h5 : x.kd = 5
  · rw [h5] at HBr f1 hx1
    cases b5 : bareB x 5
    · have HE := Lib.hid (show r = false from by rw [← HR.out, valN_eq, if_neg h4, if_pos h5]; simp [b5])
      go_wp2_with (go_at_call 97; refine (HBr.out _ _).mono ?_; rintro e w2 ⟨rfl, hb2⟩; replace HB1 := Lib.hid (HB1.out.trans (hb2.mono HB1.out.size)); replace hx1 := (hb2.block _ l1).trans hx1; replace f1 := cells6T hx1; replace l1 := lt_of_blk hx1; clear hb2)
      all_goals go_ret
      all_goals exact ⟨by rw [HE.out]; rfl, HB1.out⟩
    · have HE := Lib.hid (show r = nameB x.nm from by rw [← HR.out, valN_eq, if_neg h4, if_pos h5]; simp [b5])
      go_wp2_with (first
        | (go_at_call 97; refine (HBr.out _ _).mono ?_; rintro e w2 ⟨rfl, hb2⟩; replace HB1 := Lib.hid (HB1.out.trans (hb2.mono HB1.out.size)); replace hx1 := (hb2.block _ l1).trans hx1; replace f1 := cells6T hx1; replace l1 := lt_of_blk hx1; clear hb2)
        | (go_at_call 51; refine (HNm.out _).mono ?_; rintro e w2 ⟨rfl, hb2⟩; replace HB1 := Lib.hid (HB1.out.trans (hb2.mono HB1.out.size)); replace hx1 := (hb2.block _ l1).trans hx1; replace f1 := cells6T hx1; replace l1 := lt_of_blk hx1; clear hb2)
        )
      all_goals go_ret
      all_goals exact ⟨by rw [HE.out]; rfl, HB1.out⟩
  by_cases h6 : x.kd = 6
  · rw [h6] at HBr f1 hx1
    cases b6 : bareB x 6
    · have HE := Lib.hid (show r = false from by rw [← HR.out, valN_eq, if_neg h4, if_neg h5, if_pos h6]; simp [b6])
      go_wp2_with (go_at_call 97; refine (HBr.out _ _).mono ?_; rintro e w2 ⟨rfl, hb2⟩; replace HB1 := Lib.hid (HB1.out.trans (hb2.mono HB1.out.size)); replace hx1 := (hb2.block _ l1).trans hx1; replace f1 := cells6T hx1; replace l1 := lt_of_blk hx1; clear hb2)
      all_goals go_ret
      all_goals exact ⟨by rw [HE.out]; rfl, HB1.out⟩
    cases n6 : nameB x.nm
    · have HE := Lib.hid (show r = false from by rw [← HR.out, valN_eq, if_neg h4, if_neg h5, if_pos h6]; simp [b6, n6])
      go_wp2_with (first
        | (go_at_call 97; refine (HBr.out _ _).mono ?_; rintro e w2 ⟨rfl, hb2⟩; replace HB1 := Lib.hid (HB1.out.trans (hb2.mono HB1.out.size)); replace hx1 := (hb2.block _ l1).trans hx1; replace f1 := cells6T hx1; replace l1 := lt_of_blk hx1; clear hb2)
        | (go_at_call 51; refine (HNm.out _).mono ?_; rintro e w2 ⟨rfl, hb2⟩; replace HB1 := Lib.hid (HB1.out.trans (hb2.mono HB1.out.size)); replace hx1 := (hb2.block _ l1).trans hx1; replace f1 := cells6T hx1; replace l1 := lt_of_blk hx1; clear hb2)
        )
      all_goals go_ret
      all_goals exact ⟨by rw [HE.out]; rfl, HB1.out⟩
    by_cases q1 : x.kids.length = 1
    case neg =>
      have q2 : ¬ (x.kids.length : Int) = 1 := by omega
      have HE := Lib.hid (show r = false from by rw [← HR.out, valN_eq, if_neg h4, if_neg h5, if_pos h6]; simp [b6, n6, q1])
      go_wp2_with (first
        | (go_at_call 97; refine (HBr.out _ _).mono ?_; rintro e w2 ⟨rfl, hb2⟩; replace HB1 := Lib.hid (HB1.out.trans (hb2.mono HB1.out.size)); replace hx1 := (hb2.block _ l1).trans hx1; replace f1 := cells6T hx1; replace l1 := lt_of_blk hx1; clear hb2)
        | (go_at_call 51; refine (HNm.out _).mono ?_; rintro e w2 ⟨rfl, hb2⟩; replace HB1 := Lib.hid (HB1.out.trans (hb2.mono HB1.out.size)); replace hx1 := (hb2.block _ l1).trans hx1; replace f1 := cells6T hx1; replace l1 := lt_of_blk hx1; clear hb2)
        )
      all_goals go_ret
      all_goals exact ⟨by rw [HE.out]; rfl, HB1.out⟩
    have q2 : (x.kids.length : Int) = 1 := by omega
    have hl : 0 < x.kids.length := by omega
    obtain ⟨b, o, rfl, hb, hd1, Ak0, ck0, An0, cn0, k0, n0⟩ := g6.first hl
    have hb : b < B := hb
    have HK0 := Lib.hid (fun (w' : World) (hbb : Below w.heap.size w w') => k0.below hbb (Nat.lt_of_lt_of_le hb hB))
    have hz0 : x.kids[0] ∈ x.kids := List.getElem_mem hl
    have hbw : b < w.heap.size := Nat.lt_of_lt_of_le hb hB
    have HV0 := Lib.hid (fun (w' : World) (hbb : Below w.heap.size w w') => hV x.kids[0] _ B w' (Nat.lt_of_le_of_lt (cnt_mem hz0) hk) (hn2.at_ hz0).1 (hn2.at_ hz0).2 (n0.below (hbb.mono hB) (Nat.le_refl _)) (Nat.le_trans hB hbb.size))
    rw [valN_eq, if_neg h4, if_neg h5, if_pos h6, valL_one q1] at HR
    clear hd1 n0 k0 hV hk hn hn2 g5 g6 g8 HK HSd HCs HBk
    generalize x.kids[0] = y at *
    rw [q1] at HBr f1 hx1 HR
    have HE := Lib.hid (show r = valN y from by rw [← HR.out]; simp [b6, n6])
    go_wp2_with (first
      | (go_at_call 97; refine (HBr.out _ _).mono ?_; rintro e w2 ⟨rfl, hb2⟩; replace HB1 := Lib.hid (HB1.out.trans (hb2.mono HB1.out.size)); replace hx1 := (hb2.block _ l1).trans hx1; replace f1 := cells6T hx1; replace l1 := lt_of_blk hx1; clear hb2; obtain ⟨d0, d1, d2, d3, d4, d5⟩ := HK0.out _ HB1.out)
      | (go_at_call 51; refine (HNm.out _).mono ?_; rintro e w2 ⟨rfl, hb2⟩; replace HB1 := Lib.hid (HB1.out.trans (hb2.mono HB1.out.size)); replace hx1 := (hb2.block _ l1).trans hx1; replace f1 := cells6T hx1; replace l1 := lt_of_blk hx1; clear hb2; obtain ⟨d0, d1, d2, d3, d4, d5⟩ := HK0.out _ HB1.out)
      | (go_at_call 73; refine (HV0.out _ HB1.out).mono ?_; rintro e w2 ⟨rfl, hb2⟩; replace HB1 := Lib.hid (HB1.out.trans (hb2.mono HB1.out.size)); replace hx1 := (hb2.block _ l1).trans hx1; replace f1 := cells6T hx1; replace l1 := lt_of_blk hx1; clear hb2)
      )
    all_goals go_ret
    all_goals exact ⟨by rw [HE.out]; rfl, HB1.out⟩
  by_cases h7 : x.kd = 7
  · rw [h7] at HSd f1 hx1
    have HE := Lib.hid (show r = sn from by rw [← HR.out, valN_eq, if_neg h4, if_neg h5, if_neg h6, if_pos h7, ← hsn, sendN_eq])
    go_wp2_with (go_at_call 99; refine (HSd.out _ HB1.out).mono ?_; rintro e w2 ⟨rfl, hb2⟩; replace HB1 := Lib.hid (HB1.out.trans (hb2.mono HB1.out.size)); replace hx1 := (hb2.block _ l1).trans hx1; replace f1 := cells6T hx1; replace l1 := lt_of_blk hx1; clear hb2)
    go_ret
    exact ⟨by rw [HE.out]; rfl, HB1.out⟩
  by_cases h8 : x.kd = 8
  · rw [h8] at HCs f1 hx1
    have HE := Lib.hid (show r = cs from by rw [← HR.out, valN_eq, if_neg h4, if_neg h5, if_neg h6, if_neg h7, if_pos h8, ← hcs])
    go_wp2_with (go_at_call 100; refine (HCs.out _ HB1.out).mono ?_; rintro e w2 ⟨rfl, hb2⟩; replace HB1 := Lib.hid (HB1.out.trans (hb2.mono HB1.out.size)); replace hx1 := (hb2.block _ l1).trans hx1; replace f1 := cells6T hx1; replace l1 := lt_of_blk hx1; clear hb2)
    go_ret
    exact ⟨by rw [HE.out]; rfl, HB1.out⟩
  by_cases h9 : x.kd = 9
  · rw [h9] at HBk f1 hx1
    have HE := Lib.hid (show r = bk from by rw [← HR.out, valN_eq, if_neg h4, if_neg h5, if_neg h6, if_neg h7, if_neg h8, if_pos h9, ← hbk])
    go_wp2_with (go_at_call 101; refine (HBk.out _ HB1.out).mono ?_; rintro e w2 ⟨rfl, hb2⟩; replace HB1 := Lib.hid (HB1.out.trans (hb2.mono HB1.out.size)); replace hx1 := (hb2.block _ l1).trans hx1; replace f1 := cells6T hx1; replace l1 := lt_of_blk hx1; clear hb2)
    go_ret
    exact ⟨by rw [HE.out]; rfl, HB1.out⟩
  have HE := Lib.hid (show r = litB x from by rw [← HR.out, valN_eq, if_neg h4, if_neg h5, if_neg h6, if_neg h7, if_neg h8, if_neg h9])
  go_wp2_with (go_at_call 102; refine (HL.out _).mono ?_; rintro e w2 ⟨rfl, hb2⟩; replace HB1 := Lib.hid (HB1.out.trans (hb2.mono HB1.out.size)); replace hx1 := (hb2.block _ l1).trans hx1; replace f1 := cells6T hx1; replace l1 := lt_of_blk hx1; clear hb2)
  go_ret
  exact ⟨by rw [HE.out]; rfl, HB1.out⟩
theorem val_any : ∀ K, ValOK K
  | 0 => fun _ _ _ _ hk => absurd hk (Nat.not_lt_zero _)
  | K + 1 => fun x v B w hk hn hn2 hv hB => val_step K (val_any K) x v B w (by rw [cntN_eq] at hk; omega) hn hn2 hv hB
end Go.Proofs.YtfcceojfcmgmlaaGreatDoor.Fl

/-
  Nodes that are short and small; all nodes of a method are.
-/
namespace Go.Proofs.YtfcceojfcmgmlaaGreatDoor.Fl
open Go.RowKit Go.Shelf

def shrtN (x : Nd) : Bool := if x.kd = 2 then decide ((x.nm.length : Int) ≤ 4096) else if x.kd = 3 then decide ((x.nm.length : Int) ≤ 64) else true
def smalN (x : Nd) : Bool := if x.kd = 1 then decide (-4611686018427387904 < x.nu) && decide (x.nu ≤ 4611686018427387903) else true
theorem allL_take (f : Nd → Bool) {l : List Nd} {i : Nat} (h : i < l.length) : (allL (l.take (i + 1))).all f = ((allL (l.take i)).all f && (f l[i] && (allL l[i].kids).all f)) := by
  rw [List.take_succ_eq_append_getElem h, allL_app, List.all_append, allL, allL, List.append_nil, allN_eq, List.all_cons]
theorem allL_no (f : Nd → Bool) {l : List Nd} {i : Nat} (h : i < l.length) (hf : (f l[i] && (allL l[i].kids).all f) = false) : (allL l).all f = false := by
  have e : allL l = allL (l.take (i + 1)) ++ allL (l.drop (i + 1)) := by rw [← allL_app, List.take_append_drop]
  rw [e, List.all_append, allL_take f h, hf, Bool.and_false, Bool.false_and]
set_option maxRecDepth 100000 in
set_option maxHeartbeats 4000000 in
theorem short_any (x : Nd) (Ak : Option Addr) (ck : Nat) (An : Option Addr) (cn : Nat) (w : World) :
    Calls Tryz.prog 26 #[.agg #[.int .i64 x.kd, .string (mkB x.nm), .int .i64 x.nu, .slice Ak x.kids.length ck, .slice An x.ns.length cn, .int .i64 x.at_]] w fun e w' => e = .returned (.bool (shrtN x)) ∧ Below w.heap.size w w' := by
  obtain ⟨W1, hW1⟩ : ∃ W, w.alloc (.cells #[.int .i64 x.kd, .string (mkB x.nm), .int .i64 x.nu, .slice Ak x.kids.length ck, .slice An x.ns.length cn, .int .i64 x.at_] 47) = W := ⟨_, rfl⟩
  obtain ⟨X, hX⟩ : ∃ X, w.heap.size = X := ⟨_, rfl⟩
  have hb1 : Below w.heap.size w W1 := by rw [← hW1]; exact (Below.refl _ _).alloc (Nat.le_refl _) _
  have hx1 : W1.heap[X]? = some (.cells #[.int .i64 x.kd, .string (mkB x.nm), .int .i64 x.nu, .slice Ak x.kids.length ck, .slice An x.ns.length cn, .int .i64 x.at_] 47 (0, 0)) := by
    rw [← hW1, ← hX]; exact heap_alloc_new w _
  have HB1 := Lib.hid hb1
  obtain ⟨r, hr⟩ : ∃ r, shrtN x = r := ⟨_, rfl⟩
  rw [hr]
  have HR := Lib.hid hr
  clear hr
  have HBr := Lib.hid (fun (k : Int) (w' : World) => bare_any x k Ak ck An cn w')
  unfold shrtN at HR
  go_enter Tryz.func26, Tryz.ntmps26
  go_upto_region 1 with fail
  try simp only [hW1, hX]
  clear hW1 hX hb1
  have f1 := cells6T hx1
  have l1 := lt_of_blk hx1
  have hsz : (mkB x.nm).size = x.nm.length := by simp [ByteArray.size]
  by_cases h2 : x.kd = 2
  · have HE := Lib.hid (show r = decide ((x.nm.length : Int) ≤ 4096) from by rw [← HR.out]; simp [h2])
    go_wp2_with fail
    all_goals go_ret
    all_goals exact ⟨by rw [HE.out]; rfl, HB1.out⟩
  by_cases h3 : x.kd = 3
  · have HE := Lib.hid (show r = decide ((x.nm.length : Int) ≤ 64) from by rw [← HR.out]; simp [h3])
    go_wp2_with fail
    all_goals go_ret
    all_goals exact ⟨by rw [HE.out]; rfl, HB1.out⟩
  have HE := Lib.hid (show r = true from by rw [← HR.out]; simp [h2, h3])
  go_wp2_with fail
  all_goals go_ret
  all_goals exact ⟨by rw [HE.out]; rfl, HB1.out⟩
set_option maxRecDepth 100000 in
set_option maxHeartbeats 4000000 in
theorem small_any (x : Nd) (Ak : Option Addr) (ck : Nat) (An : Option Addr) (cn : Nat) (w : World) :
    Calls Tryz.prog 27 #[.agg #[.int .i64 x.kd, .string (mkB x.nm), .int .i64 x.nu, .slice Ak x.kids.length ck, .slice An x.ns.length cn, .int .i64 x.at_]] w fun e w' => e = .returned (.bool (smalN x)) ∧ Below w.heap.size w w' := by
  obtain ⟨W1, hW1⟩ : ∃ W, w.alloc (.cells #[.int .i64 x.kd, .string (mkB x.nm), .int .i64 x.nu, .slice Ak x.kids.length ck, .slice An x.ns.length cn, .int .i64 x.at_] 47) = W := ⟨_, rfl⟩
  obtain ⟨X, hX⟩ : ∃ X, w.heap.size = X := ⟨_, rfl⟩
  have hb1 : Below w.heap.size w W1 := by rw [← hW1]; exact (Below.refl _ _).alloc (Nat.le_refl _) _
  have hx1 : W1.heap[X]? = some (.cells #[.int .i64 x.kd, .string (mkB x.nm), .int .i64 x.nu, .slice Ak x.kids.length ck, .slice An x.ns.length cn, .int .i64 x.at_] 47 (0, 0)) := by
    rw [← hW1, ← hX]; exact heap_alloc_new w _
  have HB1 := Lib.hid hb1
  obtain ⟨r, hr⟩ : ∃ r, smalN x = r := ⟨_, rfl⟩
  rw [hr]
  have HR := Lib.hid hr
  clear hr
  have HBr := Lib.hid (fun (k : Int) (w' : World) => bare_any x k Ak ck An cn w')
  unfold smalN at HR
  go_enter Tryz.func27, Tryz.ntmps27
  go_upto_region 1 with fail
  try simp only [hW1, hX]
  clear hW1 hX hb1
  have f1 := cells6T hx1
  have l1 := lt_of_blk hx1
  by_cases h1 : x.kd = 1
  case neg =>
    have h1' : (x.kd != 1) = true := by rw [bne_iff_ne]; exact h1
    have HE := Lib.hid (show r = true from by rw [← HR.out]; simp [h1])
    go_wp2_with fail
    all_goals go_ret
    all_goals exact ⟨by rw [HE.out]; rfl, HB1.out⟩
  by_cases h2 : -4611686018427387904 < x.nu
  case neg =>
    have HE := Lib.hid (show r = false from by rw [← HR.out]; simp [h1, h2])
    go_wp2_with fail
    all_goals go_ret
    all_goals exact ⟨by rw [HE.out]; rfl, HB1.out⟩
  have HE := Lib.hid (show r = decide (x.nu ≤ 4611686018427387903) from by rw [← HR.out]; simp [h1, h2])
  go_wp2_with fail
  all_goals go_ret
  all_goals exact ⟨by rw [HE.out]; rfl, HB1.out⟩
set_option maxRecDepth 100000 in
set_option maxHeartbeats 8000000 in
theorem wsh_any (k : Nat) : ∀ (xs : List Nd) (A : Option Addr) (c B : Nat) (w : World), cntL xs ≤ k → NdsAt w (Lo B) A xs → B ≤ w.heap.size → xs.length ≤ c → c ≤ 9223372036854775807 →
    Calls Tryz.prog 48 #[.slice A xs.length c, .func (.func 26) #[] #[]] w fun e w' => e = .returned (.bool ((allL xs).all shrtN)) ∧ Below w.heap.size w w' := by
  induction k using Nat.strongRecOn with
  | _ k ih =>
    intro xs A c B w hk h hB hc hcc
    have H1 := Lib.hid h
    clear h
    go_enter Tryz.func48, Tryz.ntmps48
    go_wp2_with fail
    go_loopw [9] (fun v wr => ∃ i : Nat, i ≤ xs.length ∧ v = .int .i64 (i : Int) ∧ Hid ((allL (xs.take i)).all shrtN = true) ∧ Hid (Below w.heap.size w wr)) (fun v _ => xs.length - (intOf v).toNat)
    case atStart => exact ⟨0, Nat.zero_le _, rfl, Lib.hid rfl, Lib.hid (Below.refl _ _)⟩
    case round =>
      obtain ⟨i, hi, rfl, HT, HB⟩ := hrel
      by_cases hlt : i < xs.length
      case neg =>
        have e : i = xs.length := by omega
        have hq : ¬ ((i : Int) < (xs.length : Int)) := by omega
        have HE := Lib.hid (show (allL xs).all shrtN = true by have := HT.out; rwa [e, List.take_length] at this)
        clear e HT
        go_wp2_with fail
        go_ret
        exact ⟨by rw [HE.out]; rfl, HB.out⟩
      have hq : (i : Int) < (xs.length : Int) := by omega
      have hN1 := (H1.out.below (HB.out.mono hB) (Nat.le_refl _)).at_ hlt
      obtain ⟨b, o, rfl, hb, Ak, ck, An, cn, d0, d1, d2, d3, d4, d5, g1, g2, g3, g4, g5, g6, _, _⟩ := hN1
      have hb : b < B := hb
      have hbw : b < wr.heap.size := Nat.lt_of_lt_of_le hb (Nat.le_trans hB HB.out.size)
      have hck := cnt_kid hlt
      have HM := Lib.hid (allL_take shrtN hlt)
      have HNo := Lib.hid (fun hf => allL_no shrtN (l := xs) hlt hf)
      have HRC := Lib.hid (fun (w' : World) (hbb : Below w.heap.size w w') (hg6 : NdsAt w' (Lo B) Ak xs[i].kids) => ih (cntL xs[i].kids) (by omega) xs[i].kids Ak ck B w' (Nat.le_refl _) hg6 (Nat.le_trans hB hbb.size) g1 g3)
      have HG6 := Lib.hid (fun (w' : World) (hbb : Below wr.heap.size wr w') => g6.below (hbb.mono (Nat.le_trans hB HB.out.size)) (Nat.le_refl _))
      clear ih g5 g6 hck
      generalize xs[i] = x at *
      obtain ⟨W1, hW1⟩ : ∃ W1, wr.alloc (.cells #[.int .i64 x.kd, .string (mkB x.nm), .int .i64 x.nu, .slice Ak x.kids.length ck, .slice An x.ns.length cn, .int .i64 x.at_] 47) = W1 := ⟨_, rfl⟩
      have hb1 : Below wr.heap.size wr W1 := by rw [← hW1]; exact (Below.refl _ _).alloc (Nat.le_refl _) _
      obtain ⟨X, hX⟩ : ∃ X, wr.heap.size = X := ⟨_, rfl⟩
      have hx1 : W1.heap[X]? = some (.cells #[.int .i64 x.kd, .string (mkB x.nm), .int .i64 x.nu, .slice Ak x.kids.length ck, .slice An x.ns.length cn, .int .i64 x.at_] 47 (0, 0)) := by
        rw [← hW1, ← hX]; exact heap_alloc_new wr _
      have HBr1 := Lib.hid hb1
      have HB1 := Lib.hid (HB.out.trans (hb1.mono HB.out.size))
      have hsee := short_any x Ak ck An cn W1
      go_upto_region 4 with fail
      try simp only [hW1, hX]
      clear hW1 hX hb1 d0 d1 d2 d3 d4 d5 hbw
      have f1 := cells6T hx1
      have l1 := lt_of_blk hx1
      cases t1 : shrtN x
      · have HE := Lib.hid (HNo.out (by rw [t1]; rfl))
        go_wp2_with (go_at_call 26; refine hsee.mono ?_; rintro e w2 ⟨rfl, hb2⟩; replace HB1 := Lib.hid (HB1.out.trans (hb2.mono HB1.out.size)); clear hsee)
        all_goals go_ret
        all_goals exact ⟨by rw [HE.out]; rfl, HB1.out⟩
      cases t2 : (allL x.kids).all shrtN
      · have HE := Lib.hid (HNo.out (by rw [t1, t2]; rfl))
        go_wp2_with (first
          | (go_at_call 26; refine hsee.mono ?_; rintro e w2 ⟨rfl, hb2⟩; have hx2 := (hb2.block _ l1).trans hx1; have f2 := cells6T hx2; have l2 := lt_of_blk hx2; replace HB1 := Lib.hid (HB1.out.trans (hb2.mono HB1.out.size)); have HG := HG6.out w2 (HBr1.out.trans (hb2.mono HBr1.out.size)); have hwk := HRC.out w2 HB1.out HG; clear hsee f1 l1 hx2 HG)
          | (go_at_call 48; refine hwk.mono ?_; rintro e w3 ⟨rfl, hb3⟩; replace HB1 := Lib.hid (HB1.out.trans (hb3.mono HB1.out.size)); clear hwk))
        all_goals go_ret
        all_goals exact ⟨by rw [HE.out]; rfl, HB1.out⟩
      · have HT2 := Lib.hid (show (allL (xs.take (i + 1))).all shrtN = true by rw [HM.out, HT.out, t1, t2]; rfl)
        go_wp2_with (first
          | (go_at_call 26; refine hsee.mono ?_; rintro e w2 ⟨rfl, hb2⟩; have hx2 := (hb2.block _ l1).trans hx1; have f2 := cells6T hx2; have l2 := lt_of_blk hx2; replace HB1 := Lib.hid (HB1.out.trans (hb2.mono HB1.out.size)); have HG := HG6.out w2 (HBr1.out.trans (hb2.mono HBr1.out.size)); have hwk := HRC.out w2 HB1.out HG; clear hsee f1 l1 hx2 HG)
          | (go_at_call 48; refine hwk.mono ?_; rintro e w3 ⟨rfl, hb3⟩; replace HB1 := Lib.hid (HB1.out.trans (hb3.mono HB1.out.size)); clear hwk))
        go_roundw
        case rel => exact ⟨i + 1, by omega, by simp, HT2, HB1⟩
        case measure => simp [intOf]; omega
set_option maxRecDepth 100000 in
set_option maxHeartbeats 8000000 in
theorem wshM_any (m : Me) (v : Value) (B : Nat) (w : World) (h : MeAt w (Lo B) v m) (hB : B ≤ w.heap.size) :
    Calls Tryz.prog 21 #[v, .func (.func 26) #[] #[]] w fun e w' => e = .returned (.bool ((allL m.bd).all shrtN)) ∧ Below w.heap.size w w' := by
  obtain ⟨Ap, cp, At, ct, Ab, cb, rfl, h1, h2, h3, h4, h5, h6, s1, s2, s3, n1, n2, n3⟩ := h.ex
  clear h s1 s2 n1 n2 n3
  obtain ⟨W1, hW1⟩ : ∃ W, w.alloc (.cells #[.string (mkB m.nm), .slice Ap m.ps.length cp, .slice At m.ts.length ct, .int .i64 m.pr, .slice Ab m.bd.length cb, .int .i64 m.at_] 30) = W := ⟨_, rfl⟩
  obtain ⟨X, hX⟩ : ∃ X, w.heap.size = X := ⟨_, rfl⟩
  have hb1 : Below w.heap.size w W1 := by rw [← hW1]; exact (Below.refl _ _).alloc (Nat.le_refl _) _
  have hx1 : W1.heap[X]? = some (.cells #[.string (mkB m.nm), .slice Ap m.ps.length cp, .slice At m.ts.length ct, .int .i64 m.pr, .slice Ab m.bd.length cb, .int .i64 m.at_] 30 (0, 0)) := by
    rw [← hW1, ← hX]; exact heap_alloc_new w _
  have hwk := wsh_any (cntL m.bd) m.bd Ab cb B W1 (Nat.le_refl _) (s3.below (hb1.mono hB) (Nat.le_refl _)) (Nat.le_trans hB hb1.size) h5 h6
  have HB1 := Lib.hid hb1
  go_enter Tryz.func21, Tryz.ntmps21
  go_upto_region 1 with fail
  try simp only [hW1, hX]
  clear hW1 hX hb1 s3
  have f1 := cells6T hx1
  have l1 := lt_of_blk hx1
  have hn : ∀ (w' : World), (binOp .eql 50 (.func (.func 26) #[] #[]) .nilFunc).run Tryz.prog w' = .ok (.bool false) w' := by
    intro w'
    obtain ⟨d, hd⟩ : ∃ d, Op.maxDepth = d + 1 := ⟨_, rfl⟩
    simp only [binOp, Op.equal, hd]
    unfold Op.equalIn
    simp [go_sem]
  go_wp2_with (go_at_call 48; refine hwk.mono ?_; rintro e w3 ⟨rfl, hb3⟩; clear hwk; have HB3 := Lib.hid hb3; clear hb3)
  go_ret
  exact ⟨rfl, HB1.out.trans (HB3.out.mono HB1.out.size)⟩
set_option maxRecDepth 100000 in
set_option maxHeartbeats 8000000 in
theorem wsm_any (k : Nat) : ∀ (xs : List Nd) (A : Option Addr) (c B : Nat) (w : World), cntL xs ≤ k → NdsAt w (Lo B) A xs → B ≤ w.heap.size → xs.length ≤ c → c ≤ 9223372036854775807 →
    Calls Tryz.prog 48 #[.slice A xs.length c, .func (.func 27) #[] #[]] w fun e w' => e = .returned (.bool ((allL xs).all smalN)) ∧ Below w.heap.size w w' := by
  induction k using Nat.strongRecOn with
  | _ k ih =>
    intro xs A c B w hk h hB hc hcc
    have H1 := Lib.hid h
    clear h
    go_enter Tryz.func48, Tryz.ntmps48
    go_wp2_with fail
    go_loopw [9] (fun v wr => ∃ i : Nat, i ≤ xs.length ∧ v = .int .i64 (i : Int) ∧ Hid ((allL (xs.take i)).all smalN = true) ∧ Hid (Below w.heap.size w wr)) (fun v _ => xs.length - (intOf v).toNat)
    case atStart => exact ⟨0, Nat.zero_le _, rfl, Lib.hid rfl, Lib.hid (Below.refl _ _)⟩
    case round =>
      obtain ⟨i, hi, rfl, HT, HB⟩ := hrel
      by_cases hlt : i < xs.length
      case neg =>
        have e : i = xs.length := by omega
        have hq : ¬ ((i : Int) < (xs.length : Int)) := by omega
        have HE := Lib.hid (show (allL xs).all smalN = true by have := HT.out; rwa [e, List.take_length] at this)
        clear e HT
        go_wp2_with fail
        go_ret
        exact ⟨by rw [HE.out]; rfl, HB.out⟩
      have hq : (i : Int) < (xs.length : Int) := by omega
      have hN1 := (H1.out.below (HB.out.mono hB) (Nat.le_refl _)).at_ hlt
      obtain ⟨b, o, rfl, hb, Ak, ck, An, cn, d0, d1, d2, d3, d4, d5, g1, g2, g3, g4, g5, g6, _, _⟩ := hN1
      have hb : b < B := hb
      have hbw : b < wr.heap.size := Nat.lt_of_lt_of_le hb (Nat.le_trans hB HB.out.size)
      have hck := cnt_kid hlt
      have HM := Lib.hid (allL_take smalN hlt)
      have HNo := Lib.hid (fun hf => allL_no smalN (l := xs) hlt hf)
      have HRC := Lib.hid (fun (w' : World) (hbb : Below w.heap.size w w') (hg6 : NdsAt w' (Lo B) Ak xs[i].kids) => ih (cntL xs[i].kids) (by omega) xs[i].kids Ak ck B w' (Nat.le_refl _) hg6 (Nat.le_trans hB hbb.size) g1 g3)
      have HG6 := Lib.hid (fun (w' : World) (hbb : Below wr.heap.size wr w') => g6.below (hbb.mono (Nat.le_trans hB HB.out.size)) (Nat.le_refl _))
      clear ih g5 g6 hck
      generalize xs[i] = x at *
      obtain ⟨W1, hW1⟩ : ∃ W1, wr.alloc (.cells #[.int .i64 x.kd, .string (mkB x.nm), .int .i64 x.nu, .slice Ak x.kids.length ck, .slice An x.ns.length cn, .int .i64 x.at_] 47) = W1 := ⟨_, rfl⟩
      have hb1 : Below wr.heap.size wr W1 := by rw [← hW1]; exact (Below.refl _ _).alloc (Nat.le_refl _) _
      obtain ⟨X, hX⟩ : ∃ X, wr.heap.size = X := ⟨_, rfl⟩
      have hx1 : W1.heap[X]? = some (.cells #[.int .i64 x.kd, .string (mkB x.nm), .int .i64 x.nu, .slice Ak x.kids.length ck, .slice An x.ns.length cn, .int .i64 x.at_] 47 (0, 0)) := by
        rw [← hW1, ← hX]; exact heap_alloc_new wr _
      have HBr1 := Lib.hid hb1
      have HB1 := Lib.hid (HB.out.trans (hb1.mono HB.out.size))
      have hsee := small_any x Ak ck An cn W1
      go_upto_region 4 with fail
      try simp only [hW1, hX]
      clear hW1 hX hb1 d0 d1 d2 d3 d4 d5 hbw
      have f1 := cells6T hx1
      have l1 := lt_of_blk hx1
      cases t1 : smalN x
      · have HE := Lib.hid (HNo.out (by rw [t1]; rfl))
        go_wp2_with (go_at_call 27; refine hsee.mono ?_; rintro e w2 ⟨rfl, hb2⟩; replace HB1 := Lib.hid (HB1.out.trans (hb2.mono HB1.out.size)); clear hsee)
        all_goals go_ret
        all_goals exact ⟨by rw [HE.out]; rfl, HB1.out⟩
      cases t2 : (allL x.kids).all smalN
      · have HE := Lib.hid (HNo.out (by rw [t1, t2]; rfl))
        go_wp2_with (first
          | (go_at_call 27; refine hsee.mono ?_; rintro e w2 ⟨rfl, hb2⟩; have hx2 := (hb2.block _ l1).trans hx1; have f2 := cells6T hx2; have l2 := lt_of_blk hx2; replace HB1 := Lib.hid (HB1.out.trans (hb2.mono HB1.out.size)); have HG := HG6.out w2 (HBr1.out.trans (hb2.mono HBr1.out.size)); have hwk := HRC.out w2 HB1.out HG; clear hsee f1 l1 hx2 HG)
          | (go_at_call 48; refine hwk.mono ?_; rintro e w3 ⟨rfl, hb3⟩; replace HB1 := Lib.hid (HB1.out.trans (hb3.mono HB1.out.size)); clear hwk))
        all_goals go_ret
        all_goals exact ⟨by rw [HE.out]; rfl, HB1.out⟩
      · have HT2 := Lib.hid (show (allL (xs.take (i + 1))).all smalN = true by rw [HM.out, HT.out, t1, t2]; rfl)
        go_wp2_with (first
          | (go_at_call 27; refine hsee.mono ?_; rintro e w2 ⟨rfl, hb2⟩; have hx2 := (hb2.block _ l1).trans hx1; have f2 := cells6T hx2; have l2 := lt_of_blk hx2; replace HB1 := Lib.hid (HB1.out.trans (hb2.mono HB1.out.size)); have HG := HG6.out w2 (HBr1.out.trans (hb2.mono HBr1.out.size)); have hwk := HRC.out w2 HB1.out HG; clear hsee f1 l1 hx2 HG)
          | (go_at_call 48; refine hwk.mono ?_; rintro e w3 ⟨rfl, hb3⟩; replace HB1 := Lib.hid (HB1.out.trans (hb3.mono HB1.out.size)); clear hwk))
        go_roundw
        case rel => exact ⟨i + 1, by omega, by simp, HT2, HB1⟩
        case measure => simp [intOf]; omega
set_option maxRecDepth 100000 in
set_option maxHeartbeats 8000000 in
theorem wsmM_any (m : Me) (v : Value) (B : Nat) (w : World) (h : MeAt w (Lo B) v m) (hB : B ≤ w.heap.size) :
    Calls Tryz.prog 21 #[v, .func (.func 27) #[] #[]] w fun e w' => e = .returned (.bool ((allL m.bd).all smalN)) ∧ Below w.heap.size w w' := by
  obtain ⟨Ap, cp, At, ct, Ab, cb, rfl, h1, h2, h3, h4, h5, h6, s1, s2, s3, n1, n2, n3⟩ := h.ex
  clear h s1 s2 n1 n2 n3
  obtain ⟨W1, hW1⟩ : ∃ W, w.alloc (.cells #[.string (mkB m.nm), .slice Ap m.ps.length cp, .slice At m.ts.length ct, .int .i64 m.pr, .slice Ab m.bd.length cb, .int .i64 m.at_] 30) = W := ⟨_, rfl⟩
  obtain ⟨X, hX⟩ : ∃ X, w.heap.size = X := ⟨_, rfl⟩
  have hb1 : Below w.heap.size w W1 := by rw [← hW1]; exact (Below.refl _ _).alloc (Nat.le_refl _) _
  have hx1 : W1.heap[X]? = some (.cells #[.string (mkB m.nm), .slice Ap m.ps.length cp, .slice At m.ts.length ct, .int .i64 m.pr, .slice Ab m.bd.length cb, .int .i64 m.at_] 30 (0, 0)) := by
    rw [← hW1, ← hX]; exact heap_alloc_new w _
  have hwk := wsm_any (cntL m.bd) m.bd Ab cb B W1 (Nat.le_refl _) (s3.below (hb1.mono hB) (Nat.le_refl _)) (Nat.le_trans hB hb1.size) h5 h6
  have HB1 := Lib.hid hb1
  go_enter Tryz.func21, Tryz.ntmps21
  go_upto_region 1 with fail
  try simp only [hW1, hX]
  clear hW1 hX hb1 s3
  have f1 := cells6T hx1
  have l1 := lt_of_blk hx1
  have hn : ∀ (w' : World), (binOp .eql 50 (.func (.func 27) #[] #[]) .nilFunc).run Tryz.prog w' = .ok (.bool false) w' := by
    intro w'
    obtain ⟨d, hd⟩ : ∃ d, Op.maxDepth = d + 1 := ⟨_, rfl⟩
    simp only [binOp, Op.equal, hd]
    unfold Op.equalIn
    simp [go_sem]
  go_wp2_with (go_at_call 48; refine hwk.mono ?_; rintro e w3 ⟨rfl, hb3⟩; clear hwk; have HB3 := Lib.hid hb3; clear hb3)
  go_ret
  exact ⟨rfl, HB1.out.trans (HB3.out.mono HB1.out.size)⟩
end Go.Proofs.YtfcceojfcmgmlaaGreatDoor.Fl
