/-
  Nodes that are short and small; all nodes of a method are.
-/
import Derived.Test.YtfcceojfcmgmlaaGreatDoorTs3
import Derived.Deep.RegionHeld3
import Derived.Shelf.Strings.OnBuilder
import Derived.Deep.DeepCutAuto
namespace Go.Proofs.YtfcceojfcmgmlaaGreatDoor.Fl
open Go.RowKit Go.Shelf

def shrtN (x : Nd) : Bool := if x.kd = 2 then decide ((x.nm.length : Int) ≤ 4096) else if x.kd = 3 then decide ((x.nm.length : Int) ≤ 64) else true
def smalN (x : Nd) : Bool := if x.kd = 1 then decide (-4611686018427387904 < x.nu) && decide (x.nu ≤ 4611686018427387903) else true
theorem allL_take (f : Nd → Bool) {l : List Nd} {i : Nat} (h : i < l.length) : (allL (l.take (i + 1))).all f = ((allL (l.take i)).all f && (f l[i] && (allL l[i].kids).all f)) := by
  rw [List.take_succ_eq_append_getElem h, allL_app, List.all_append, allL, allL, List.append_nil, allN_eq, List.all_cons]
theorem allL_no (f : Nd → Bool) {l : List Nd} {i : Nat} (h : i < l.length) (hf : (f l[i] && (allL l[i].kids).all f) = false) : (allL l).all f = false := by
  have e : allL l = allL (l.take (i + 1)) ++ allL (l.drop (i + 1)) := by rw [← allL_app, List.take_append_drop]
  rw [e, List.all_append, allL_take f h, hf, Bool.and_false, Bool.false_and]
set_option maxRecDepth 100000 in
set_option maxHeartbeats 4000000 in
theorem short_any (x : Nd) (Ak : Option Addr) (ck : Nat) (An : Option Addr) (cn : Nat) (w : World) :
    Calls Tryz.prog 26 #[.agg #[.int .i64 x.kd, .string (mkB x.nm), .int .i64 x.nu, .slice Ak x.kids.length ck, .slice An x.ns.length cn, .int .i64 x.at_]] w fun e w' => e = .returned (.bool (shrtN x)) ∧ Below w.heap.size w w' := by
  obtain ⟨W1, hW1⟩ : ∃ W, w.alloc (.cells #[.int .i64 x.kd, .string (mkB x.nm), .int .i64 x.nu, .slice Ak x.kids.length ck, .slice An x.ns.length cn, .int .i64 x.at_] 47) = W := ⟨_, rfl⟩
  obtain ⟨X, hX⟩ : ∃ X, w.heap.size = X := ⟨_, rfl⟩
  have hb1 : Below w.heap.size w W1 := by rw [← hW1]; exact (Below.refl _ _).alloc (Nat.le_refl _) _
  have hx1 : W1.heap[X]? = some (.cells #[.int .i64 x.kd, .string (mkB x.nm), .int .i64 x.nu, .slice Ak x.kids.length ck, .slice An x.ns.length cn, .int .i64 x.at_] 47 (0, 0)) := by
    rw [← hW1, ← hX]; exact heap_alloc_new w _
  have HB1 := Lib.hid hb1
  obtain ⟨r, hr⟩ : ∃ r, shrtN x = r := ⟨_, rfl⟩
  rw [hr]
  have HR := Lib.hid hr
  clear hr
  have HBr := Lib.hid (fun (k : Int) (w' : World) => bare_any x k Ak ck An cn w')
  unfold shrtN at HR
  go_enter Tryz.func26, Tryz.ntmps26
  go_upto_region 1 with fail
  try simp only [hW1, hX]
  clear hW1 hX hb1
  have f1 := cells6T hx1
  have l1 := lt_of_blk hx1
  have hsz : (mkB x.nm).size = x.nm.length := by simp [mkB, ByteArray.size]
  by_cases h2 : x.kd = 2
  · have HE := Lib.hid (show r = decide ((x.nm.length : Int) ≤ 4096) from by rw [← HR.out]; simp [h2])
    go_wp2_with fail
    all_goals go_ret
    all_goals exact ⟨by rw [HE.out]; rfl, HB1.out⟩
  by_cases h3 : x.kd = 3
  · have HE := Lib.hid (show r = decide ((x.nm.length : Int) ≤ 64) from by rw [← HR.out]; simp [h3])
    go_wp2_with fail
    all_goals go_ret
    all_goals exact ⟨by rw [HE.out]; rfl, HB1.out⟩
  have HE := Lib.hid (show r = true from by rw [← HR.out]; simp [h2, h3])
  go_wp2_with fail
  all_goals go_ret
  all_goals exact ⟨by rw [HE.out]; rfl, HB1.out⟩
set_option maxRecDepth 100000 in
set_option maxHeartbeats 4000000 in
theorem small_any (x : Nd) (Ak : Option Addr) (ck : Nat) (An : Option Addr) (cn : Nat) (w : World) :
    Calls Tryz.prog 27 #[.agg #[.int .i64 x.kd, .string (mkB x.nm), .int .i64 x.nu, .slice Ak x.kids.length ck, .slice An x.ns.length cn, .int .i64 x.at_]] w fun e w' => e = .returned (.bool (smalN x)) ∧ Below w.heap.size w w' := by
  obtain ⟨W1, hW1⟩ : ∃ W, w.alloc (.cells #[.int .i64 x.kd, .string (mkB x.nm), .int .i64 x.nu, .slice Ak x.kids.length ck, .slice An x.ns.length cn, .int .i64 x.at_] 47) = W := ⟨_, rfl⟩
  obtain ⟨X, hX⟩ : ∃ X, w.heap.size = X := ⟨_, rfl⟩
  have hb1 : Below w.heap.size w W1 := by rw [← hW1]; exact (Below.refl _ _).alloc (Nat.le_refl _) _
  have hx1 : W1.heap[X]? = some (.cells #[.int .i64 x.kd, .string (mkB x.nm), .int .i64 x.nu, .slice Ak x.kids.length ck, .slice An x.ns.length cn, .int .i64 x.at_] 47 (0, 0)) := by
    rw [← hW1, ← hX]; exact heap_alloc_new w _
  have HB1 := Lib.hid hb1
  obtain ⟨r, hr⟩ : ∃ r, smalN x = r := ⟨_, rfl⟩
  rw [hr]
  have HR := Lib.hid hr
  clear hr
  have HBr := Lib.hid (fun (k : Int) (w' : World) => bare_any x k Ak ck An cn w')
  unfold smalN at HR
  go_enter Tryz.func27, Tryz.ntmps27
  go_upto_region 1 with fail
  try simp only [hW1, hX]
  clear hW1 hX hb1
  have f1 := cells6T hx1
  have l1 := lt_of_blk hx1
  by_cases h1 : x.kd = 1
  case neg =>
    have h1' : (x.kd != 1) = true := by rw [bne_iff_ne]; exact h1
    have HE := Lib.hid (show r = true from by rw [← HR.out]; simp [h1])
    go_wp2_with fail
    all_goals go_ret
    all_goals exact ⟨by rw [HE.out]; rfl, HB1.out⟩
  by_cases h2 : -4611686018427387904 < x.nu
  case neg =>
    have HE := Lib.hid (show r = false from by rw [← HR.out]; simp [h1, h2])
    go_wp2_with fail
    all_goals go_ret
    all_goals exact ⟨by rw [HE.out]; rfl, HB1.out⟩
  have HE := Lib.hid (show r = decide (x.nu ≤ 4611686018427387903) from by rw [← HR.out]; simp [h1, h2])
  go_wp2_with fail
  all_goals go_ret
  all_goals exact ⟨by rw [HE.out]; rfl, HB1.out⟩
set_option maxRecDepth 100000 in
set_option maxHeartbeats 8000000 in
theorem wsh_any (k : Nat) : ∀ (xs : List Nd) (A : Option Addr) (c B : Nat) (w : World), cntL xs ≤ k → NdsAt w (Lo B) A xs → B ≤ w.heap.size → xs.length ≤ c → c ≤ 9223372036854775807 →
    Calls Tryz.prog 48 #[.slice A xs.length c, .func (.func 26) #[] #[]] w fun e w' => e = .returned (.bool ((allL xs).all shrtN)) ∧ Below w.heap.size w w' := by
  induction k using Nat.strongRecOn with
  | _ k ih =>
    intro xs A c B w hk h hB hc hcc
    have H1 := Lib.hid h
    clear h
    go_enter Tryz.func48, Tryz.ntmps48
    go_wp2_with fail
    go_loopw [9] (fun v wr => ∃ i : Nat, i ≤ xs.length ∧ v = .int .i64 (i : Int) ∧ Hid ((allL (xs.take i)).all shrtN = true) ∧ Hid (Below w.heap.size w wr)) (fun v _ => xs.length - (intOf v).toNat)
    case atStart => exact ⟨0, Nat.zero_le _, rfl, Lib.hid rfl, Lib.hid (Below.refl _ _)⟩
    case round =>
      obtain ⟨i, hi, rfl, HT, HB⟩ := hrel
      by_cases hlt : i < xs.length
      case neg =>
        have e : i = xs.length := by omega
        have hq : ¬ ((i : Int) < (xs.length : Int)) := by omega
        have HE := Lib.hid (show (allL xs).all shrtN = true by have := HT.out; rwa [e, List.take_length] at this)
        clear e HT
        go_wp2_with fail
        go_ret
        exact ⟨by rw [HE.out]; rfl, HB.out⟩
      have hq : (i : Int) < (xs.length : Int) := by omega
      have hN1 := (H1.out.below (HB.out.mono hB) (Nat.le_refl _)).at_ hlt
      obtain ⟨b, o, rfl, hb, Ak, ck, An, cn, d0, d1, d2, d3, d4, d5, g1, g2, g3, g4, g5, g6, _, _⟩ := hN1
      have hb : b < B := hb
      have hbw : b < wr.heap.size := Nat.lt_of_lt_of_le hb (Nat.le_trans hB HB.out.size)
      have hck := cnt_kid hlt
      have HM := Lib.hid (allL_take shrtN hlt)
      have HNo := Lib.hid (fun hf => allL_no shrtN (l := xs) hlt hf)
      have HRC := Lib.hid (fun (w' : World) (hbb : Below w.heap.size w w') (hg6 : NdsAt w' (Lo B) Ak xs[i].kids) => ih (cntL xs[i].kids) (by omega) xs[i].kids Ak ck B w' (Nat.le_refl _) hg6 (Nat.le_trans hB hbb.size) g1 g3)
      have HG6 := Lib.hid (fun (w' : World) (hbb : Below wr.heap.size wr w') => g6.below (hbb.mono (Nat.le_trans hB HB.out.size)) (Nat.le_refl _))
      clear ih g5 g6 hck
      generalize xs[i] = x at *
      obtain ⟨W1, hW1⟩ : ∃ W1, wr.alloc (.cells #[.int .i64 x.kd, .string (mkB x.nm), .int .i64 x.nu, .slice Ak x.kids.length ck, .slice An x.ns.length cn, .int .i64 x.at_] 47) = W1 := ⟨_, rfl⟩
      have hb1 : Below wr.heap.size wr W1 := by rw [← hW1]; exact (Below.refl _ _).alloc (Nat.le_refl _) _
      obtain ⟨X, hX⟩ : ∃ X, wr.heap.size = X := ⟨_, rfl⟩
      have hx1 : W1.heap[X]? = some (.cells #[.int .i64 x.kd, .string (mkB x.nm), .int .i64 x.nu, .slice Ak x.kids.length ck, .slice An x.ns.length cn, .int .i64 x.at_] 47 (0, 0)) := by
        rw [← hW1, ← hX]; exact heap_alloc_new wr _
      have HBr1 := Lib.hid hb1
      have HB1 := Lib.hid (HB.out.trans (hb1.mono HB.out.size))
      have hsee := short_any x Ak ck An cn W1
      go_upto_region 4 with fail
      try simp only [hW1, hX]
      clear hW1 hX hb1 d0 d1 d2 d3 d4 d5 hbw
      have f1 := cells6T hx1
      have l1 := lt_of_blk hx1
      cases t1 : shrtN x
      · have HE := Lib.hid (HNo.out (by rw [t1]; rfl))
        go_wp2_with (go_at_call 26; refine hsee.mono ?_; rintro e w2 ⟨rfl, hb2⟩; replace HB1 := Lib.hid (HB1.out.trans (hb2.mono HB1.out.size)); clear hsee)
        all_goals go_ret
        all_goals exact ⟨by rw [HE.out]; rfl, HB1.out⟩
      cases t2 : (allL x.kids).all shrtN
      · have HE := Lib.hid (HNo.out (by rw [t1, t2]; rfl))
        go_wp2_with (first
          | (go_at_call 26; refine hsee.mono ?_; rintro e w2 ⟨rfl, hb2⟩; have hx2 := (hb2.block _ l1).trans hx1; have f2 := cells6T hx2; have l2 := lt_of_blk hx2; replace HB1 := Lib.hid (HB1.out.trans (hb2.mono HB1.out.size)); have HG := HG6.out w2 (HBr1.out.trans (hb2.mono HBr1.out.size)); have hwk := HRC.out w2 HB1.out HG; clear hsee f1 l1 hx2 HG)
          | (go_at_call 48; refine hwk.mono ?_; rintro e w3 ⟨rfl, hb3⟩; replace HB1 := Lib.hid (HB1.out.trans (hb3.mono HB1.out.size)); clear hwk))
        all_goals go_ret
        all_goals exact ⟨by rw [HE.out]; rfl, HB1.out⟩
      · have HT2 := Lib.hid (show (allL (xs.take (i + 1))).all shrtN = true by rw [HM.out, HT.out, t1, t2]; rfl)
        go_wp2_with (first
          | (go_at_call 26; refine hsee.mono ?_; rintro e w2 ⟨rfl, hb2⟩; have hx2 := (hb2.block _ l1).trans hx1; have f2 := cells6T hx2; have l2 := lt_of_blk hx2; replace HB1 := Lib.hid (HB1.out.trans (hb2.mono HB1.out.size)); have HG := HG6.out w2 (HBr1.out.trans (hb2.mono HBr1.out.size)); have hwk := HRC.out w2 HB1.out HG; clear hsee f1 l1 hx2 HG)
          | (go_at_call 48; refine hwk.mono ?_; rintro e w3 ⟨rfl, hb3⟩; replace HB1 := Lib.hid (HB1.out.trans (hb3.mono HB1.out.size)); clear hwk))
        go_roundw
        case rel => exact ⟨i + 1, by omega, by simp, HT2, HB1⟩
        case measure => simp [intOf]; omega
set_option maxRecDepth 100000 in
set_option maxHeartbeats 8000000 in
theorem wshM_any (m : Me) (v : Value) (B : Nat) (w : World) (h : MeAt w (Lo B) v m) (hB : B ≤ w.heap.size) :
    Calls Tryz.prog 21 #[v, .func (.func 26) #[] #[]] w fun e w' => e = .returned (.bool ((allL m.bd).all shrtN)) ∧ Below w.heap.size w w' := by
  obtain ⟨Ap, cp, At, ct, Ab, cb, rfl, h1, h2, h3, h4, h5, h6, s1, s2, s3, n1, n2, n3⟩ := h.ex
  clear h s1 s2 n1 n2 n3
  obtain ⟨W1, hW1⟩ : ∃ W, w.alloc (.cells #[.string (mkB m.nm), .slice Ap m.ps.length cp, .slice At m.ts.length ct, .int .i64 m.pr, .slice Ab m.bd.length cb, .int .i64 m.at_] 30) = W := ⟨_, rfl⟩
  obtain ⟨X, hX⟩ : ∃ X, w.heap.size = X := ⟨_, rfl⟩
  have hb1 : Below w.heap.size w W1 := by rw [← hW1]; exact (Below.refl _ _).alloc (Nat.le_refl _) _
  have hx1 : W1.heap[X]? = some (.cells #[.string (mkB m.nm), .slice Ap m.ps.length cp, .slice At m.ts.length ct, .int .i64 m.pr, .slice Ab m.bd.length cb, .int .i64 m.at_] 30 (0, 0)) := by
    rw [← hW1, ← hX]; exact heap_alloc_new w _
  have hwk := wsh_any (cntL m.bd) m.bd Ab cb B W1 (Nat.le_refl _) (s3.below (hb1.mono hB) (Nat.le_refl _)) (Nat.le_trans hB hb1.size) h5 h6
  have HB1 := Lib.hid hb1
  go_enter Tryz.func21, Tryz.ntmps21
  go_upto_region 1 with fail
  try simp only [hW1, hX]
  clear hW1 hX hb1 s3
  have f1 := cells6T hx1
  have l1 := lt_of_blk hx1
  have hn : ∀ (w' : World), (binOp .eql 50 (.func (.func 26) #[] #[]) .nilFunc).run Tryz.prog w' = .ok (.bool false) w' := by
    intro w'
    obtain ⟨d, hd⟩ : ∃ d, Op.maxDepth = d + 1 := ⟨_, rfl⟩
    simp only [binOp, Op.equal, hd]
    unfold Op.equalIn
    simp [go_sem, Tryz.underlying50]
  go_wp2_with (go_at_call 48; refine hwk.mono ?_; rintro e w3 ⟨rfl, hb3⟩; clear hwk; have HB3 := Lib.hid hb3; clear hb3)
  go_ret
  exact ⟨rfl, HB1.out.trans (HB3.out.mono HB1.out.size)⟩
set_option maxRecDepth 100000 in
set_option maxHeartbeats 8000000 in
theorem wsm_any (k : Nat) : ∀ (xs : List Nd) (A : Option Addr) (c B : Nat) (w : World), cntL xs ≤ k → NdsAt w (Lo B) A xs → B ≤ w.heap.size → xs.length ≤ c → c ≤ 9223372036854775807 →
    Calls Tryz.prog 48 #[.slice A xs.length c, .func (.func 27) #[] #[]] w fun e w' => e = .returned (.bool ((allL xs).all smalN)) ∧ Below w.heap.size w w' := by
  induction k using Nat.strongRecOn with
  | _ k ih =>
    intro xs A c B w hk h hB hc hcc
    have H1 := Lib.hid h
    clear h
    go_enter Tryz.func48, Tryz.ntmps48
    go_wp2_with fail
    go_loopw [9] (fun v wr => ∃ i : Nat, i ≤ xs.length ∧ v = .int .i64 (i : Int) ∧ Hid ((allL (xs.take i)).all smalN = true) ∧ Hid (Below w.heap.size w wr)) (fun v _ => xs.length - (intOf v).toNat)
    case atStart => exact ⟨0, Nat.zero_le _, rfl, Lib.hid rfl, Lib.hid (Below.refl _ _)⟩
    case round =>
      obtain ⟨i, hi, rfl, HT, HB⟩ := hrel
      by_cases hlt : i < xs.length
      case neg =>
        have e : i = xs.length := by omega
        have hq : ¬ ((i : Int) < (xs.length : Int)) := by omega
        have HE := Lib.hid (show (allL xs).all smalN = true by have := HT.out; rwa [e, List.take_length] at this)
        clear e HT
        go_wp2_with fail
        go_ret
        exact ⟨by rw [HE.out]; rfl, HB.out⟩
      have hq : (i : Int) < (xs.length : Int) := by omega
      have hN1 := (H1.out.below (HB.out.mono hB) (Nat.le_refl _)).at_ hlt
      obtain ⟨b, o, rfl, hb, Ak, ck, An, cn, d0, d1, d2, d3, d4, d5, g1, g2, g3, g4, g5, g6, _, _⟩ := hN1
      have hb : b < B := hb
      have hbw : b < wr.heap.size := Nat.lt_of_lt_of_le hb (Nat.le_trans hB HB.out.size)
      have hck := cnt_kid hlt
      have HM := Lib.hid (allL_take smalN hlt)
      have HNo := Lib.hid (fun hf => allL_no smalN (l := xs) hlt hf)
      have HRC := Lib.hid (fun (w' : World) (hbb : Below w.heap.size w w') (hg6 : NdsAt w' (Lo B) Ak xs[i].kids) => ih (cntL xs[i].kids) (by omega) xs[i].kids Ak ck B w' (Nat.le_refl _) hg6 (Nat.le_trans hB hbb.size) g1 g3)
      have HG6 := Lib.hid (fun (w' : World) (hbb : Below wr.heap.size wr w') => g6.below (hbb.mono (Nat.le_trans hB HB.out.size)) (Nat.le_refl _))
      clear ih g5 g6 hck
      generalize xs[i] = x at *
      obtain ⟨W1, hW1⟩ : ∃ W1, wr.alloc (.cells #[.int .i64 x.kd, .string (mkB x.nm), .int .i64 x.nu, .slice Ak x.kids.length ck, .slice An x.ns.length cn, .int .i64 x.at_] 47) = W1 := ⟨_, rfl⟩
      have hb1 : Below wr.heap.size wr W1 := by rw [← hW1]; exact (Below.refl _ _).alloc (Nat.le_refl _) _
      obtain ⟨X, hX⟩ : ∃ X, wr.heap.size = X := ⟨_, rfl⟩
      have hx1 : W1.heap[X]? = some (.cells #[.int .i64 x.kd, .string (mkB x.nm), .int .i64 x.nu, .slice Ak x.kids.length ck, .slice An x.ns.length cn, .int .i64 x.at_] 47 (0, 0)) := by
        rw [← hW1, ← hX]; exact heap_alloc_new wr _
      have HBr1 := Lib.hid hb1
      have HB1 := Lib.hid (HB.out.trans (hb1.mono HB.out.size))
      have hsee := small_any x Ak ck An cn W1
      go_upto_region 4 with fail
      try simp only [hW1, hX]
      clear hW1 hX hb1 d0 d1 d2 d3 d4 d5 hbw
      have f1 := cells6T hx1
      have l1 := lt_of_blk hx1
      cases t1 : smalN x
      · have HE := Lib.hid (HNo.out (by rw [t1]; rfl))
        go_wp2_with (go_at_call 27; refine hsee.mono ?_; rintro e w2 ⟨rfl, hb2⟩; replace HB1 := Lib.hid (HB1.out.trans (hb2.mono HB1.out.size)); clear hsee)
        all_goals go_ret
        all_goals exact ⟨by rw [HE.out]; rfl, HB1.out⟩
      cases t2 : (allL x.kids).all smalN
      · have HE := Lib.hid (HNo.out (by rw [t1, t2]; rfl))
        go_wp2_with (first
          | (go_at_call 27; refine hsee.mono ?_; rintro e w2 ⟨rfl, hb2⟩; have hx2 := (hb2.block _ l1).trans hx1; have f2 := cells6T hx2; have l2 := lt_of_blk hx2; replace HB1 := Lib.hid (HB1.out.trans (hb2.mono HB1.out.size)); have HG := HG6.out w2 (HBr1.out.trans (hb2.mono HBr1.out.size)); have hwk := HRC.out w2 HB1.out HG; clear hsee f1 l1 hx2 HG)
          | (go_at_call 48; refine hwk.mono ?_; rintro e w3 ⟨rfl, hb3⟩; replace HB1 := Lib.hid (HB1.out.trans (hb3.mono HB1.out.size)); clear hwk))
        all_goals go_ret
        all_goals exact ⟨by rw [HE.out]; rfl, HB1.out⟩
      · have HT2 := Lib.hid (show (allL (xs.take (i + 1))).all smalN = true by rw [HM.out, HT.out, t1, t2]; rfl)
        go_wp2_with (first
          | (go_at_call 27; refine hsee.mono ?_; rintro e w2 ⟨rfl, hb2⟩; have hx2 := (hb2.block _ l1).trans hx1; have f2 := cells6T hx2; have l2 := lt_of_blk hx2; replace HB1 := Lib.hid (HB1.out.trans (hb2.mono HB1.out.size)); have HG := HG6.out w2 (HBr1.out.trans (hb2.mono HBr1.out.size)); have hwk := HRC.out w2 HB1.out HG; clear hsee f1 l1 hx2 HG)
          | (go_at_call 48; refine hwk.mono ?_; rintro e w3 ⟨rfl, hb3⟩; replace HB1 := Lib.hid (HB1.out.trans (hb3.mono HB1.out.size)); clear hwk))
        go_roundw
        case rel => exact ⟨i + 1, by omega, by simp, HT2, HB1⟩
        case measure => simp [intOf]; omega
set_option maxRecDepth 100000 in
set_option maxHeartbeats 8000000 in
theorem wsmM_any (m : Me) (v : Value) (B : Nat) (w : World) (h : MeAt w (Lo B) v m) (hB : B ≤ w.heap.size) :
    Calls Tryz.prog 21 #[v, .func (.func 27) #[] #[]] w fun e w' => e = .returned (.bool ((allL m.bd).all smalN)) ∧ Below w.heap.size w w' := by
  obtain ⟨Ap, cp, At, ct, Ab, cb, rfl, h1, h2, h3, h4, h5, h6, s1, s2, s3, n1, n2, n3⟩ := h.ex
  clear h s1 s2 n1 n2 n3
  obtain ⟨W1, hW1⟩ : ∃ W, w.alloc (.cells #[.string (mkB m.nm), .slice Ap m.ps.length cp, .slice At m.ts.length ct, .int .i64 m.pr, .slice Ab m.bd.length cb, .int .i64 m.at_] 30) = W := ⟨_, rfl⟩
  obtain ⟨X, hX⟩ : ∃ X, w.heap.size = X := ⟨_, rfl⟩
  have hb1 : Below w.heap.size w W1 := by rw [← hW1]; exact (Below.refl _ _).alloc (Nat.le_refl _) _
  have hx1 : W1.heap[X]? = some (.cells #[.string (mkB m.nm), .slice Ap m.ps.length cp, .slice At m.ts.length ct, .int .i64 m.pr, .slice Ab m.bd.length cb, .int .i64 m.at_] 30 (0, 0)) := by
    rw [← hW1, ← hX]; exact heap_alloc_new w _
  have hwk := wsm_any (cntL m.bd) m.bd Ab cb B W1 (Nat.le_refl _) (s3.below (hb1.mono hB) (Nat.le_refl _)) (Nat.le_trans hB hb1.size) h5 h6
  have HB1 := Lib.hid hb1
  go_enter Tryz.func21, Tryz.ntmps21
  go_upto_region 1 with fail
  try simp only [hW1, hX]
  clear hW1 hX hb1 s3
  have f1 := cells6T hx1
  have l1 := lt_of_blk hx1
  have hn : ∀ (w' : World), (binOp .eql 50 (.func (.func 27) #[] #[]) .nilFunc).run Tryz.prog w' = .ok (.bool false) w' := by
    intro w'
    obtain ⟨d, hd⟩ : ∃ d, Op.maxDepth = d + 1 := ⟨_, rfl⟩
    simp only [binOp, Op.equal, hd]
    unfold Op.equalIn
    simp [go_sem, Tryz.underlying50]
  go_wp2_with (go_at_call 48; refine hwk.mono ?_; rintro e w3 ⟨rfl, hb3⟩; clear hwk; have HB3 := Lib.hid hb3; clear hb3)
  go_ret
  exact ⟨rfl, HB1.out.trans (HB3.out.mono HB1.out.size)⟩
end Go.Proofs.YtfcceojfcmgmlaaGreatDoor.Fl

/-
  What a method may be: the program's Check of any method.
-/
namespace Go.Proofs.YtfcceojfcmgmlaaGreatDoor.Fl
open Go.RowKit Go.Shelf

def methB (m : Me) : Bool := (arityL (mkB m.nm) == (m.ps.length : Int)) && (m.ps.all nameB && (m.ts.all nameB && (decide (0 ≤ m.pr) && (decide (m.pr ≤ 999) && stL m.bd))))
/-- what Check tells -/
def checkM (m : Me) : Int :=
  if methB m = false then 3 else if (allL m.bd).all shrtN = false then 2 else if (allL m.bd).all smalN = false then 9 else if 40 < depL m.bd then 10 else 0
/-- names that can be asked for -/
def NkM (m : Me) : Prop := m.nm.length ≤ 16777216 ∧ (∀ s ∈ m.ps, s.length ≤ 16777216) ∧ (∀ s ∈ m.ts, s.length ≤ 16777216) ∧ NkL m.bd
set_option maxRecDepth 100000 in
set_option maxHeartbeats 16000000 in
theorem meth_any (m : Me) (v : Value) (B : Nat) (w : World) (h : MeAt w (Lo B) v m) (hB : B ≤ w.heap.size) (hn : NkM m) :
    Calls Tryz.prog 25 #[v] w fun e w' => e = .returned (.bool (methB m)) ∧ Below w.heap.size w w' := by
  obtain ⟨Ap, cp, At, ct, Ab, cb, rfl, h1, h2, h3, h4, h5, h6, s1, s2, s3, n1, n2, n3⟩ := h.ex
  have HAr := Lib.hid (fun (w' : World) => arity_any (mkB m.nm) w' (by show m.nm.toArray.size ≤ _; simpa using hn.1))
  have HPs := Lib.hid (fun (w' : World) (hb : Below w.heap.size w w') => allT_any m.ps Ap cp B w' (s1.below (hb.mono hB) (Nat.le_refl _)) (Nat.le_trans hB hb.size) h1 h2 hn.2.1)
  have HTs := Lib.hid (fun (w' : World) (hb : Below w.heap.size w w') => allT_any m.ts At ct B w' (s2.below (hb.mono hB) (Nat.le_refl _)) (Nat.le_trans hB hb.size) h3 h4 hn.2.2.1)
  have HST := Lib.hid (fun (w' : World) (hb : Below w.heap.size w w') => st_any (cntL m.bd + 1) (val_any _) m.bd Ab cb B w' (s3.below (hb.mono hB) (Nat.le_refl _)) (Nat.le_trans hB hb.size) h5 h6 (Nat.lt_succ_self _) hn.2.2.2)
  clear h s1 s2 s3 n1 n2 n3 hn
  obtain ⟨W1, hW1⟩ : ∃ W, w.alloc (.cells #[.string (mkB m.nm), .slice Ap m.ps.length cp, .slice At m.ts.length ct, .int .i64 m.pr, .slice Ab m.bd.length cb, .int .i64 m.at_] 30) = W := ⟨_, rfl⟩
  obtain ⟨X, hX⟩ : ∃ X, w.heap.size = X := ⟨_, rfl⟩
  have hb1 : Below w.heap.size w W1 := by rw [← hW1]; exact (Below.refl _ _).alloc (Nat.le_refl _) _
  have hx1 : W1.heap[X]? = some (.cells #[.string (mkB m.nm), .slice Ap m.ps.length cp, .slice At m.ts.length ct, .int .i64 m.pr, .slice Ab m.bd.length cb, .int .i64 m.at_] 30 (0, 0)) := by
    rw [← hW1, ← hX]; exact heap_alloc_new w _
  obtain ⟨r, hr⟩ : ∃ r, methB m = r := ⟨_, rfl⟩
  rw [hr]
  have HR := Lib.hid hr
  unfold methB at HR
  clear hr
  have HSx : Hid (∀ w' : World, Below W1.heap.size W1 w' → w'.cell? ⟨X, 0, none⟩ = some (.string (mkB m.nm)) ∧ w'.cell? ⟨X, 1, none⟩ = some (.slice Ap m.ps.length cp) ∧ w'.cell? ⟨X, 2, none⟩ = some (.slice At m.ts.length ct) ∧ w'.cell? ⟨X, 3, none⟩ = some (.int .i64 m.pr) ∧ w'.cell? ⟨X, 4, none⟩ = some (.slice Ab m.bd.length cb)) := Lib.hid (fun w' hb => by
    obtain ⟨e0, e1, e2, e3, e4, _, _⟩ := cells6T ((hb.block X (lt_of_blk hx1)).trans hx1)
    exact ⟨e0, e1, e2, e3, e4⟩)
  have HB1 := Lib.hid hb1.drew
  have HK1 := Lib.hid (Below.refl W1.heap.size W1).drew
  have hab := arity_bd (mkB m.nm)
  generalize arityL (mkB m.nm) = ar at *
  go_enter Tryz.func25, Tryz.ntmps25
  go_upto_region 1 with fail
  try simp only [hW1, hX]
  clear hW1 hX hb1 hx1
  rename_i KK hKK
  have HKK := Lib.hid hKK
  clear hKK
  refine wp_region_noPanic ?_
  refine wp_region_held_drew (S := (fun w' : World => w'.cell? ⟨X, 0, none⟩ = some (.string (mkB m.nm)) ∧ w'.cell? ⟨X, 1, none⟩ = some (.slice Ap m.ps.length cp) ∧ w'.cell? ⟨X, 2, none⟩ = some (.slice At m.ts.length ct) ∧ w'.cell? ⟨X, 3, none⟩ = some (.int .i64 m.pr) ∧ w'.cell? ⟨X, 4, none⟩ = some (.slice Ab m.bd.length cb))) (by kernel_rfl) (HSx.out _ HK1.out) (fun hHeld => ?_)
  cases c1 : (ar == (m.ps.length : Int))
  · have HE := Lib.hid (show r = false from by rw [← HR.out]; simp [c1])
    refine wpAnyH_take (i := 0) (v := ?_) (by first | (simp only [List.getElem?_toArray, List.getElem?_cons_succ, List.getElem?_cons_zero]; rfl) | rfl) (by kernel_rfl) (by kernel_rfl) (by kernel_rfl) (fun _ _ _ h => h) (Or.inl ⟨by rfl, ?_⟩) (by assumption) ?_
    rotate_left 1
    · (intro w' hSw; (try dsimp only at hSw); go_simp; (try with_reducible rfl))
    try simp only [Act.put, List.setIfInBounds_toArray, List.set_cons_zero, List.set_cons_succ]
    refine wpAnyH_take (i := 1) (v := ?_) (by first | (simp only [List.getElem?_toArray, List.getElem?_cons_succ, List.getElem?_cons_zero]; rfl) | rfl) (by kernel_rfl) (by kernel_rfl) (by kernel_rfl) (fun _ _ _ h => h) (Or.inl ⟨by rfl, ?_⟩) (by assumption) ?_
    rotate_left 1
    · (intro w' hSw; (try dsimp only at hSw); go_simp; (try with_reducible rfl))
    try simp only [Act.put, List.setIfInBounds_toArray, List.set_cons_zero, List.set_cons_succ]
    refine wpAnyH_take (i := 3) (v := ?_) (by first | (simp only [List.getElem?_toArray, List.getElem?_cons_succ, List.getElem?_cons_zero]; rfl) | rfl) (by kernel_rfl) (by kernel_rfl) (by kernel_rfl) (fun _ _ _ h => h) (Or.inl ⟨by rfl, ?_⟩) (by assumption) ?_
    rotate_left 1
    · (intro w' hSw; (try dsimp only at hSw); go_simp; (try with_reducible rfl))
    try simp only [Act.put, List.setIfInBounds_toArray, List.set_cons_zero, List.set_cons_succ]
    refine wpAnyH_take (i := 4) (v := ?_) (by first | (simp only [List.getElem?_toArray, List.getElem?_cons_succ, List.getElem?_cons_zero]; rfl) | rfl) (by kernel_rfl) (by kernel_rfl) (by kernel_rfl) (fun _ _ _ h => h) (Or.inl ⟨by rfl, ?_⟩) (by assumption) ?_
    rotate_left 1
    · (intro w' hSw; (try dsimp only at hSw); go_simp; (try with_reducible rfl))
    try simp only [Act.put, List.setIfInBounds_toArray, List.set_cons_zero, List.set_cons_succ]
    refine wpAnyH_take (i := 5) (v := ?_) (by first | (simp only [List.getElem?_toArray, List.getElem?_cons_succ, List.getElem?_cons_zero]; rfl) | rfl) (by kernel_rfl) (by kernel_rfl) (by kernel_rfl) (fun _ _ _ h => h) (Or.inl ⟨by rfl, ?_⟩) (by assumption) ?_
    rotate_left 1
    · (intro w' hSw; (try dsimp only at hSw); go_simp; (try with_reducible rfl))
    try simp only [Act.put, List.setIfInBounds_toArray, List.set_cons_zero, List.set_cons_succ]
    refine wpAnyH_ready (rs := [2]) (by kernel_rfl) (by simp) ?_
    refine AllReadyH.cons (by first | (simp only [List.getElem?_toArray, List.getElem?_cons_succ, List.getElem?_cons_zero]; rfl) | rfl) (fun K hK => ?_) AllReadyH.nil
    go_simp
    refine (HAr.out _).mono ?_
    rintro e w2 ⟨rfl, hb2⟩
    dsimp only
    replace HB1 := Lib.hid (HB1.out.trans (hb2.mono HB1.out.size))
    replace HK1 := Lib.hid (HK1.out.trans (hb2.mono HK1.out.size))
    clear hb2
    refine hK.out _ _ (HSx.out _ HK1.out) (fun hHeld => ?_)
    clear hK K
    try simp only [Act.put, List.setIfInBounds_toArray, List.set_cons_zero, List.set_cons_succ]
    refine wpAnyH_take (i := 6) (v := ?_) (by first | (simp only [List.getElem?_toArray, List.getElem?_cons_succ, List.getElem?_cons_zero]; rfl) | rfl) (by kernel_rfl) (by kernel_rfl) (by kernel_rfl) (fun _ _ _ h => h) (Or.inl ⟨by rfl, ?_⟩) (by assumption) ?_
    rotate_left 1
    · (intro w' hSw; (try dsimp only at hSw); go_simp; (try with_reducible rfl))
    try simp only [Act.put, List.setIfInBounds_toArray, List.set_cons_zero, List.set_cons_succ]
    refine wpAnyH_take (i := 7) (v := ?_) (by first | (simp only [List.getElem?_toArray, List.getElem?_cons_succ, List.getElem?_cons_zero]; rfl) | rfl) (by kernel_rfl) (by kernel_rfl) (by kernel_rfl) (fun _ _ _ h => h) (Or.inl ⟨by rfl, ?_⟩) (by assumption) ?_
    rotate_left 1
    · (intro w' hSw; (try dsimp only at hSw); go_simp; (try with_reducible rfl))
    try simp only [Act.put, List.setIfInBounds_toArray, List.set_cons_zero, List.set_cons_succ]
    refine wpAnyH_take (i := 8) (v := undef) (by first | (simp only [List.getElem?_toArray, List.getElem?_cons_succ, List.getElem?_cons_zero]; rfl) | rfl) (by kernel_rfl) (by kernel_rfl) (by kernel_rfl) (fun _ _ _ h => h) (Or.inr ⟨by rfl, rfl⟩) (by assumption) ?_
    try simp only [Act.put, List.setIfInBounds_toArray, List.set_cons_zero, List.set_cons_succ]
    refine wpAnyH_take (i := 9) (v := undef) (by first | (simp only [List.getElem?_toArray, List.getElem?_cons_succ, List.getElem?_cons_zero]; rfl) | rfl) (by kernel_rfl) (by kernel_rfl) (by kernel_rfl) (fun _ _ _ h => h) (Or.inr ⟨by rfl, rfl⟩) (by assumption) ?_
    try simp only [Act.put, List.setIfInBounds_toArray, List.set_cons_zero, List.set_cons_succ]
    refine wpAnyH_take (i := 10) (v := undef) (by first | (simp only [List.getElem?_toArray, List.getElem?_cons_succ, List.getElem?_cons_zero]; rfl) | rfl) (by kernel_rfl) (by kernel_rfl) (by kernel_rfl) (fun _ _ _ h => h) (Or.inr ⟨by rfl, rfl⟩) (by assumption) ?_
    try simp only [Act.put, List.setIfInBounds_toArray, List.set_cons_zero, List.set_cons_succ]
    refine wpAnyH_take (i := 11) (v := ?_) (by first | (simp only [List.getElem?_toArray, List.getElem?_cons_succ, List.getElem?_cons_zero]; rfl) | rfl) (by kernel_rfl) (by kernel_rfl) (by kernel_rfl) (fun _ _ _ h => h) (Or.inl ⟨by rfl, ?_⟩) (by assumption) ?_
    rotate_left 1
    · (intro w' hSw; (try dsimp only at hSw); go_simp; (try with_reducible rfl))
    try simp only [Act.put, List.setIfInBounds_toArray, List.set_cons_zero, List.set_cons_succ]
    refine wpAnyH_take (i := 12) (v := ?_) (by first | (simp only [List.getElem?_toArray, List.getElem?_cons_succ, List.getElem?_cons_zero]; rfl) | rfl) (by kernel_rfl) (by kernel_rfl) (by kernel_rfl) (fun _ _ _ h => h) (Or.inl ⟨by rfl, ?_⟩) (by assumption) ?_
    rotate_left 1
    · (intro w' hSw; (try dsimp only at hSw); go_simp; (try with_reducible rfl))
    try simp only [Act.put, List.setIfInBounds_toArray, List.set_cons_zero, List.set_cons_succ]
    refine wpAnyH_take (i := 13) (v := undef) (by first | (simp only [List.getElem?_toArray, List.getElem?_cons_succ, List.getElem?_cons_zero]; rfl) | rfl) (by kernel_rfl) (by kernel_rfl) (by kernel_rfl) (fun _ _ _ h => h) (Or.inr ⟨by rfl, rfl⟩) (by assumption) ?_
    try simp only [Act.put, List.setIfInBounds_toArray, List.set_cons_zero, List.set_cons_succ]
    refine wpAnyH_take (i := 14) (v := undef) (by first | (simp only [List.getElem?_toArray, List.getElem?_cons_succ, List.getElem?_cons_zero]; rfl) | rfl) (by kernel_rfl) (by kernel_rfl) (by kernel_rfl) (fun _ _ _ h => h) (Or.inr ⟨by rfl, rfl⟩) (by assumption) ?_
    try simp only [Act.put, List.setIfInBounds_toArray, List.set_cons_zero, List.set_cons_succ]
    refine wpAnyH_take (i := 15) (v := undef) (by first | (simp only [List.getElem?_toArray, List.getElem?_cons_succ, List.getElem?_cons_zero]; rfl) | rfl) (by kernel_rfl) (by kernel_rfl) (by kernel_rfl) (fun _ _ _ h => h) (Or.inr ⟨by rfl, rfl⟩) (by assumption) ?_
    try simp only [Act.put, List.setIfInBounds_toArray, List.set_cons_zero, List.set_cons_succ]
    refine wpAnyH_take (i := 16) (v := ?_) (by first | (simp only [List.getElem?_toArray, List.getElem?_cons_succ, List.getElem?_cons_zero]; rfl) | rfl) (by kernel_rfl) (by kernel_rfl) (by kernel_rfl) (fun _ _ _ h => h) (Or.inl ⟨by rfl, ?_⟩) (by assumption) ?_
    rotate_left 1
    · (intro w' hSw; (try dsimp only at hSw); go_simp; (try with_reducible rfl))
    try simp only [Act.put, List.setIfInBounds_toArray, List.set_cons_zero, List.set_cons_succ]
    refine wpAnyH_take (i := 17) (v := ?_) (by first | (simp only [List.getElem?_toArray, List.getElem?_cons_succ, List.getElem?_cons_zero]; rfl) | rfl) (by kernel_rfl) (by kernel_rfl) (by kernel_rfl) (fun _ _ _ h => h) (Or.inl ⟨by rfl, ?_⟩) (by assumption) ?_
    rotate_left 1
    · (intro w' hSw; (try dsimp only at hSw); go_simp; (try with_reducible rfl))
    try simp only [Act.put, List.setIfInBounds_toArray, List.set_cons_zero, List.set_cons_succ]
    refine wpAnyH_take (i := 18) (v := undef) (by first | (simp only [List.getElem?_toArray, List.getElem?_cons_succ, List.getElem?_cons_zero]; rfl) | rfl) (by kernel_rfl) (by kernel_rfl) (by kernel_rfl) (fun _ _ _ h => h) (Or.inr ⟨by rfl, rfl⟩) (by assumption) ?_
    try simp only [Act.put, List.setIfInBounds_toArray, List.set_cons_zero, List.set_cons_succ]
    refine wpAnyH_take (i := 19) (v := undef) (by first | (simp only [List.getElem?_toArray, List.getElem?_cons_succ, List.getElem?_cons_zero]; rfl) | rfl) (by kernel_rfl) (by kernel_rfl) (by kernel_rfl) (fun _ _ _ h => h) (Or.inr ⟨by rfl, rfl⟩) (by assumption) ?_
    try simp only [Act.put, List.setIfInBounds_toArray, List.set_cons_zero, List.set_cons_succ]
    refine wpAnyH_take (i := 20) (v := undef) (by first | (simp only [List.getElem?_toArray, List.getElem?_cons_succ, List.getElem?_cons_zero]; rfl) | rfl) (by kernel_rfl) (by kernel_rfl) (by kernel_rfl) (fun _ _ _ h => h) (Or.inr ⟨by rfl, rfl⟩) (by assumption) ?_
    try simp only [Act.put, List.setIfInBounds_toArray, List.set_cons_zero, List.set_cons_succ]
    refine wpAnyH_take (i := 21) (v := ?_) (by first | (simp only [List.getElem?_toArray, List.getElem?_cons_succ, List.getElem?_cons_zero]; rfl) | rfl) (by kernel_rfl) (by kernel_rfl) (by kernel_rfl) (fun _ _ _ h => h) (Or.inl ⟨by rfl, ?_⟩) (by assumption) ?_
    rotate_left 1
    · (intro w' hSw; (try dsimp only at hSw); go_simp; (try with_reducible rfl))
    try simp only [Act.put, List.setIfInBounds_toArray, List.set_cons_zero, List.set_cons_succ]
    refine wpAnyH_take (i := 22) (v := ?_) (by first | (simp only [List.getElem?_toArray, List.getElem?_cons_succ, List.getElem?_cons_zero]; rfl) | rfl) (by kernel_rfl) (by kernel_rfl) (by kernel_rfl) (fun _ _ _ h => h) (Or.inl ⟨by rfl, ?_⟩) (by assumption) ?_
    rotate_left 1
    · (intro w' hSw; (try dsimp only at hSw); go_simp; (try with_reducible rfl))
    try simp only [Act.put, List.setIfInBounds_toArray, List.set_cons_zero, List.set_cons_succ]
    refine wpAnyH_take (i := 23) (v := undef) (by first | (simp only [List.getElem?_toArray, List.getElem?_cons_succ, List.getElem?_cons_zero]; rfl) | rfl) (by kernel_rfl) (by kernel_rfl) (by kernel_rfl) (fun _ _ _ h => h) (Or.inr ⟨by rfl, rfl⟩) (by assumption) ?_
    try simp only [Act.put, List.setIfInBounds_toArray, List.set_cons_zero, List.set_cons_succ]
    refine wpAnyH_take (i := 24) (v := undef) (by first | (simp only [List.getElem?_toArray, List.getElem?_cons_succ, List.getElem?_cons_zero]; rfl) | rfl) (by kernel_rfl) (by kernel_rfl) (by kernel_rfl) (fun _ _ _ h => h) (Or.inr ⟨by rfl, rfl⟩) (by assumption) ?_
    try simp only [Act.put, List.setIfInBounds_toArray, List.set_cons_zero, List.set_cons_succ]
    refine wpAnyH_take (i := 25) (v := undef) (by first | (simp only [List.getElem?_toArray, List.getElem?_cons_succ, List.getElem?_cons_zero]; rfl) | rfl) (by kernel_rfl) (by kernel_rfl) (by kernel_rfl) (fun _ _ _ h => h) (Or.inr ⟨by rfl, rfl⟩) (by assumption) ?_
    try simp only [Act.put, List.setIfInBounds_toArray, List.set_cons_zero, List.set_cons_succ]
    refine wpAnyH_take (i := 26) (v := ?_) (by first | (simp only [List.getElem?_toArray, List.getElem?_cons_succ, List.getElem?_cons_zero]; rfl) | rfl) (by kernel_rfl) (by kernel_rfl) (by kernel_rfl) (fun _ _ _ h => h) (Or.inl ⟨by rfl, ?_⟩) (by assumption) ?_
    rotate_left 1
    · (intro w' hSw; (try dsimp only at hSw); go_simp; (try with_reducible rfl))
    try simp only [Act.put, List.setIfInBounds_toArray, List.set_cons_zero, List.set_cons_succ]
    refine wpAnyH_take (i := 27) (v := ?_) (by first | (simp only [List.getElem?_toArray, List.getElem?_cons_succ, List.getElem?_cons_zero]; rfl) | rfl) (by kernel_rfl) (by kernel_rfl) (by kernel_rfl) (fun _ _ _ h => h) (Or.inl ⟨by rfl, ?_⟩) (by assumption) ?_
    rotate_left 1
    · (intro w' hSw; (try dsimp only at hSw); go_simp; (try with_reducible rfl))
    try simp only [Act.put, List.setIfInBounds_toArray, List.set_cons_zero, List.set_cons_succ]
    refine wpAnyH_take (i := 28) (v := undef) (by first | (simp only [List.getElem?_toArray, List.getElem?_cons_succ, List.getElem?_cons_zero]; rfl) | rfl) (by kernel_rfl) (by kernel_rfl) (by kernel_rfl) (fun _ _ _ h => h) (Or.inr ⟨by rfl, rfl⟩) (by assumption) ?_
    try simp only [Act.put, List.setIfInBounds_toArray, List.set_cons_zero, List.set_cons_succ]
    refine wpAnyH_take (i := 29) (v := undef) (by first | (simp only [List.getElem?_toArray, List.getElem?_cons_succ, List.getElem?_cons_zero]; rfl) | rfl) (by kernel_rfl) (by kernel_rfl) (by kernel_rfl) (fun _ _ _ h => h) (Or.inr ⟨by rfl, rfl⟩) (by assumption) ?_
    try simp only [Act.put, List.setIfInBounds_toArray, List.set_cons_zero, List.set_cons_succ]
    refine wpAnyH_take (i := 30) (v := undef) (by first | (simp only [List.getElem?_toArray, List.getElem?_cons_succ, List.getElem?_cons_zero]; rfl) | rfl) (by kernel_rfl) (by kernel_rfl) (by kernel_rfl) (fun _ _ _ h => h) (Or.inr ⟨by rfl, rfl⟩) (by assumption) ?_
    try simp only [Act.put, List.setIfInBounds_toArray, List.set_cons_zero, List.set_cons_succ]
    refine wpAnyH_take (i := 31) (v := ?_) (by first | (simp only [List.getElem?_toArray, List.getElem?_cons_succ, List.getElem?_cons_zero]; rfl) | rfl) (by kernel_rfl) (by kernel_rfl) (by kernel_rfl) (fun _ _ _ h => h) (Or.inl ⟨by rfl, ?_⟩) (by assumption) ?_
    rotate_left 1
    · (intro w' hSw; (try dsimp only at hSw); go_simp; (try with_reducible rfl))
    try simp only [Act.put, List.setIfInBounds_toArray, List.set_cons_zero, List.set_cons_succ]
    refine wpAnyH_take (i := 32) (v := ?_) (by first | (simp only [List.getElem?_toArray, List.getElem?_cons_succ, List.getElem?_cons_zero]; rfl) | rfl) (by kernel_rfl) (by kernel_rfl) (by kernel_rfl) (fun _ _ _ h => h) (Or.inl ⟨by rfl, ?_⟩) (by assumption) ?_
    rotate_left 1
    · (intro w' hSw; (try dsimp only at hSw); go_simp; (try with_reducible rfl))
    try simp only [Act.put, List.setIfInBounds_toArray, List.set_cons_zero, List.set_cons_succ]
    refine wpAnyH_done (by kernel_rfl) ?_ _
    refine HKK.out _ _ ?_
    go_wp2_with fail
    go_ret
    exact ⟨by rw [HE.out]; rfl, HB1.out⟩
  cases c2 : m.ps.all nameB
  · have HE := Lib.hid (show r = false from by rw [← HR.out]; simp [c1, c2])
    refine wpAnyH_take (i := 0) (v := ?_) (by first | (simp only [List.getElem?_toArray, List.getElem?_cons_succ, List.getElem?_cons_zero]; rfl) | rfl) (by kernel_rfl) (by kernel_rfl) (by kernel_rfl) (fun _ _ _ h => h) (Or.inl ⟨by rfl, ?_⟩) (by assumption) ?_
    rotate_left 1
    · (intro w' hSw; (try dsimp only at hSw); go_simp; (try with_reducible rfl))
    try simp only [Act.put, List.setIfInBounds_toArray, List.set_cons_zero, List.set_cons_succ]
    refine wpAnyH_take (i := 1) (v := ?_) (by first | (simp only [List.getElem?_toArray, List.getElem?_cons_succ, List.getElem?_cons_zero]; rfl) | rfl) (by kernel_rfl) (by kernel_rfl) (by kernel_rfl) (fun _ _ _ h => h) (Or.inl ⟨by rfl, ?_⟩) (by assumption) ?_
    rotate_left 1
    · (intro w' hSw; (try dsimp only at hSw); go_simp; (try with_reducible rfl))
    try simp only [Act.put, List.setIfInBounds_toArray, List.set_cons_zero, List.set_cons_succ]
    refine wpAnyH_take (i := 3) (v := ?_) (by first | (simp only [List.getElem?_toArray, List.getElem?_cons_succ, List.getElem?_cons_zero]; rfl) | rfl) (by kernel_rfl) (by kernel_rfl) (by kernel_rfl) (fun _ _ _ h => h) (Or.inl ⟨by rfl, ?_⟩) (by assumption) ?_
    rotate_left 1
    · (intro w' hSw; (try dsimp only at hSw); go_simp; (try with_reducible rfl))
    try simp only [Act.put, List.setIfInBounds_toArray, List.set_cons_zero, List.set_cons_succ]
    refine wpAnyH_take (i := 4) (v := ?_) (by first | (simp only [List.getElem?_toArray, List.getElem?_cons_succ, List.getElem?_cons_zero]; rfl) | rfl) (by kernel_rfl) (by kernel_rfl) (by kernel_rfl) (fun _ _ _ h => h) (Or.inl ⟨by rfl, ?_⟩) (by assumption) ?_
    rotate_left 1
    · (intro w' hSw; (try dsimp only at hSw); go_simp; (try with_reducible rfl))
    try simp only [Act.put, List.setIfInBounds_toArray, List.set_cons_zero, List.set_cons_succ]
    refine wpAnyH_take (i := 5) (v := ?_) (by first | (simp only [List.getElem?_toArray, List.getElem?_cons_succ, List.getElem?_cons_zero]; rfl) | rfl) (by kernel_rfl) (by kernel_rfl) (by kernel_rfl) (fun _ _ _ h => h) (Or.inl ⟨by rfl, ?_⟩) (by assumption) ?_
    rotate_left 1
    · (intro w' hSw; (try dsimp only at hSw); go_simp; (try with_reducible rfl))
    try simp only [Act.put, List.setIfInBounds_toArray, List.set_cons_zero, List.set_cons_succ]
    refine wpAnyH_ready (rs := [2]) (by kernel_rfl) (by simp) ?_
    refine AllReadyH.cons (by first | (simp only [List.getElem?_toArray, List.getElem?_cons_succ, List.getElem?_cons_zero]; rfl) | rfl) (fun K hK => ?_) AllReadyH.nil
    go_simp
    refine (HAr.out _).mono ?_
    rintro e w2 ⟨rfl, hb2⟩
    dsimp only
    replace HB1 := Lib.hid (HB1.out.trans (hb2.mono HB1.out.size))
    replace HK1 := Lib.hid (HK1.out.trans (hb2.mono HK1.out.size))
    clear hb2
    refine hK.out _ _ (HSx.out _ HK1.out) (fun hHeld => ?_)
    clear hK K
    try simp only [Act.put, List.setIfInBounds_toArray, List.set_cons_zero, List.set_cons_succ]
    refine wpAnyH_take (i := 6) (v := ?_) (by first | (simp only [List.getElem?_toArray, List.getElem?_cons_succ, List.getElem?_cons_zero]; rfl) | rfl) (by kernel_rfl) (by kernel_rfl) (by kernel_rfl) (fun _ _ _ h => h) (Or.inl ⟨by rfl, ?_⟩) (by assumption) ?_
    rotate_left 1
    · (intro w' hSw; (try dsimp only at hSw); go_simp; (try with_reducible rfl))
    try simp only [Act.put, List.setIfInBounds_toArray, List.set_cons_zero, List.set_cons_succ]
    refine wpAnyH_take (i := 7) (v := ?_) (by first | (simp only [List.getElem?_toArray, List.getElem?_cons_succ, List.getElem?_cons_zero]; rfl) | rfl) (by kernel_rfl) (by kernel_rfl) (by kernel_rfl) (fun _ _ _ h => h) (Or.inl ⟨by rfl, ?_⟩) (by assumption) ?_
    rotate_left 1
    · (intro w' hSw; (try dsimp only at hSw); go_simp; (try with_reducible rfl))
    try simp only [Act.put, List.setIfInBounds_toArray, List.set_cons_zero, List.set_cons_succ]
    refine wpAnyH_take (i := 8) (v := ?_) (by first | (simp only [List.getElem?_toArray, List.getElem?_cons_succ, List.getElem?_cons_zero]; rfl) | rfl) (by kernel_rfl) (by kernel_rfl) (by kernel_rfl) (fun _ _ _ h => h) (Or.inl ⟨by rfl, ?_⟩) (by assumption) ?_
    rotate_left 1
    · (intro w' hSw; (try dsimp only at hSw); go_simp; (try with_reducible rfl))
    try simp only [Act.put, List.setIfInBounds_toArray, List.set_cons_zero, List.set_cons_succ]
    refine wpAnyH_take (i := 9) (v := ?_) (by first | (simp only [List.getElem?_toArray, List.getElem?_cons_succ, List.getElem?_cons_zero]; rfl) | rfl) (by kernel_rfl) (by kernel_rfl) (by kernel_rfl) (fun _ _ _ h => h) (Or.inl ⟨by rfl, ?_⟩) (by assumption) ?_
    rotate_left 1
    · (intro w' hSw; (try dsimp only at hSw); go_simp; (try with_reducible rfl))
    try simp only [Act.put, List.setIfInBounds_toArray, List.set_cons_zero, List.set_cons_succ]
    refine wpAnyH_ready (rs := [10]) (by kernel_rfl) (by simp) ?_
    refine AllReadyH.cons (by first | (simp only [List.getElem?_toArray, List.getElem?_cons_succ, List.getElem?_cons_zero]; rfl) | rfl) (fun K hK => ?_) AllReadyH.nil
    go_simp
    refine (HPs.out _ HB1.out).mono ?_
    rintro e w2 ⟨rfl, hb2⟩
    dsimp only
    replace HB1 := Lib.hid (HB1.out.trans (hb2.mono HB1.out.size))
    replace HK1 := Lib.hid (HK1.out.trans (hb2.mono HK1.out.size))
    clear hb2
    refine hK.out _ _ (HSx.out _ HK1.out) (fun hHeld => ?_)
    clear hK K
    try simp only [Act.put, List.setIfInBounds_toArray, List.set_cons_zero, List.set_cons_succ]
    refine wpAnyH_take (i := 11) (v := ?_) (by first | (simp only [List.getElem?_toArray, List.getElem?_cons_succ, List.getElem?_cons_zero]; rfl) | rfl) (by kernel_rfl) (by kernel_rfl) (by kernel_rfl) (fun _ _ _ h => h) (Or.inl ⟨by rfl, ?_⟩) (by assumption) ?_
    rotate_left 1
    · (intro w' hSw; (try dsimp only at hSw); go_simp; (try with_reducible rfl))
    try simp only [Act.put, List.setIfInBounds_toArray, List.set_cons_zero, List.set_cons_succ]
    refine wpAnyH_take (i := 12) (v := ?_) (by first | (simp only [List.getElem?_toArray, List.getElem?_cons_succ, List.getElem?_cons_zero]; rfl) | rfl) (by kernel_rfl) (by kernel_rfl) (by kernel_rfl) (fun _ _ _ h => h) (Or.inl ⟨by rfl, ?_⟩) (by assumption) ?_
    rotate_left 1
    · (intro w' hSw; (try dsimp only at hSw); go_simp; (try with_reducible rfl))
    try simp only [Act.put, List.setIfInBounds_toArray, List.set_cons_zero, List.set_cons_succ]
    refine wpAnyH_take (i := 13) (v := undef) (by first | (simp only [List.getElem?_toArray, List.getElem?_cons_succ, List.getElem?_cons_zero]; rfl) | rfl) (by kernel_rfl) (by kernel_rfl) (by kernel_rfl) (fun _ _ _ h => h) (Or.inr ⟨by rfl, rfl⟩) (by assumption) ?_
    try simp only [Act.put, List.setIfInBounds_toArray, List.set_cons_zero, List.set_cons_succ]
    refine wpAnyH_take (i := 14) (v := undef) (by first | (simp only [List.getElem?_toArray, List.getElem?_cons_succ, List.getElem?_cons_zero]; rfl) | rfl) (by kernel_rfl) (by kernel_rfl) (by kernel_rfl) (fun _ _ _ h => h) (Or.inr ⟨by rfl, rfl⟩) (by assumption) ?_
    try simp only [Act.put, List.setIfInBounds_toArray, List.set_cons_zero, List.set_cons_succ]
    refine wpAnyH_take (i := 15) (v := undef) (by first | (simp only [List.getElem?_toArray, List.getElem?_cons_succ, List.getElem?_cons_zero]; rfl) | rfl) (by kernel_rfl) (by kernel_rfl) (by kernel_rfl) (fun _ _ _ h => h) (Or.inr ⟨by rfl, rfl⟩) (by assumption) ?_
    try simp only [Act.put, List.setIfInBounds_toArray, List.set_cons_zero, List.set_cons_succ]
    refine wpAnyH_take (i := 16) (v := ?_) (by first | (simp only [List.getElem?_toArray, List.getElem?_cons_succ, List.getElem?_cons_zero]; rfl) | rfl) (by kernel_rfl) (by kernel_rfl) (by kernel_rfl) (fun _ _ _ h => h) (Or.inl ⟨by rfl, ?_⟩) (by assumption) ?_
    rotate_left 1
    · (intro w' hSw; (try dsimp only at hSw); go_simp; (try with_reducible rfl))
    try simp only [Act.put, List.setIfInBounds_toArray, List.set_cons_zero, List.set_cons_succ]
    refine wpAnyH_take (i := 17) (v := ?_) (by first | (simp only [List.getElem?_toArray, List.getElem?_cons_succ, List.getElem?_cons_zero]; rfl) | rfl) (by kernel_rfl) (by kernel_rfl) (by kernel_rfl) (fun _ _ _ h => h) (Or.inl ⟨by rfl, ?_⟩) (by assumption) ?_
    rotate_left 1
    · (intro w' hSw; (try dsimp only at hSw); go_simp; (try with_reducible rfl))
    try simp only [Act.put, List.setIfInBounds_toArray, List.set_cons_zero, List.set_cons_succ]
    refine wpAnyH_take (i := 18) (v := undef) (by first | (simp only [List.getElem?_toArray, List.getElem?_cons_succ, List.getElem?_cons_zero]; rfl) | rfl) (by kernel_rfl) (by kernel_rfl) (by kernel_rfl) (fun _ _ _ h => h) (Or.inr ⟨by rfl, rfl⟩) (by assumption) ?_
    try simp only [Act.put, List.setIfInBounds_toArray, List.set_cons_zero, List.set_cons_succ]
    refine wpAnyH_take (i := 19) (v := undef) (by first | (simp only [List.getElem?_toArray, List.getElem?_cons_succ, List.getElem?_cons_zero]; rfl) | rfl) (by kernel_rfl) (by kernel_rfl) (by kernel_rfl) (fun _ _ _ h => h) (Or.inr ⟨by rfl, rfl⟩) (by assumption) ?_
    try simp only [Act.put, List.setIfInBounds_toArray, List.set_cons_zero, List.set_cons_succ]
    refine wpAnyH_take (i := 20) (v := undef) (by first | (simp only [List.getElem?_toArray, List.getElem?_cons_succ, List.getElem?_cons_zero]; rfl) | rfl) (by kernel_rfl) (by kernel_rfl) (by kernel_rfl) (fun _ _ _ h => h) (Or.inr ⟨by rfl, rfl⟩) (by assumption) ?_
    try simp only [Act.put, List.setIfInBounds_toArray, List.set_cons_zero, List.set_cons_succ]
    refine wpAnyH_take (i := 21) (v := ?_) (by first | (simp only [List.getElem?_toArray, List.getElem?_cons_succ, List.getElem?_cons_zero]; rfl) | rfl) (by kernel_rfl) (by kernel_rfl) (by kernel_rfl) (fun _ _ _ h => h) (Or.inl ⟨by rfl, ?_⟩) (by assumption) ?_
    rotate_left 1
    · (intro w' hSw; (try dsimp only at hSw); go_simp; (try with_reducible rfl))
    try simp only [Act.put, List.setIfInBounds_toArray, List.set_cons_zero, List.set_cons_succ]
    refine wpAnyH_take (i := 22) (v := ?_) (by first | (simp only [List.getElem?_toArray, List.getElem?_cons_succ, List.getElem?_cons_zero]; rfl) | rfl) (by kernel_rfl) (by kernel_rfl) (by kernel_rfl) (fun _ _ _ h => h) (Or.inl ⟨by rfl, ?_⟩) (by assumption) ?_
    rotate_left 1
    · (intro w' hSw; (try dsimp only at hSw); go_simp; (try with_reducible rfl))
    try simp only [Act.put, List.setIfInBounds_toArray, List.set_cons_zero, List.set_cons_succ]
    refine wpAnyH_take (i := 23) (v := undef) (by first | (simp only [List.getElem?_toArray, List.getElem?_cons_succ, List.getElem?_cons_zero]; rfl) | rfl) (by kernel_rfl) (by kernel_rfl) (by kernel_rfl) (fun _ _ _ h => h) (Or.inr ⟨by rfl, rfl⟩) (by assumption) ?_
    try simp only [Act.put, List.setIfInBounds_toArray, List.set_cons_zero, List.set_cons_succ]
    refine wpAnyH_take (i := 24) (v := undef) (by first | (simp only [List.getElem?_toArray, List.getElem?_cons_succ, List.getElem?_cons_zero]; rfl) | rfl) (by kernel_rfl) (by kernel_rfl) (by kernel_rfl) (fun _ _ _ h => h) (Or.inr ⟨by rfl, rfl⟩) (by assumption) ?_
    try simp only [Act.put, List.setIfInBounds_toArray, List.set_cons_zero, List.set_cons_succ]
    refine wpAnyH_take (i := 25) (v := undef) (by first | (simp only [List.getElem?_toArray, List.getElem?_cons_succ, List.getElem?_cons_zero]; rfl) | rfl) (by kernel_rfl) (by kernel_rfl) (by kernel_rfl) (fun _ _ _ h => h) (Or.inr ⟨by rfl, rfl⟩) (by assumption) ?_
    try simp only [Act.put, List.setIfInBounds_toArray, List.set_cons_zero, List.set_cons_succ]
    refine wpAnyH_take (i := 26) (v := ?_) (by first | (simp only [List.getElem?_toArray, List.getElem?_cons_succ, List.getElem?_cons_zero]; rfl) | rfl) (by kernel_rfl) (by kernel_rfl) (by kernel_rfl) (fun _ _ _ h => h) (Or.inl ⟨by rfl, ?_⟩) (by assumption) ?_
    rotate_left 1
    · (intro w' hSw; (try dsimp only at hSw); go_simp; (try with_reducible rfl))
    try simp only [Act.put, List.setIfInBounds_toArray, List.set_cons_zero, List.set_cons_succ]
    refine wpAnyH_take (i := 27) (v := ?_) (by first | (simp only [List.getElem?_toArray, List.getElem?_cons_succ, List.getElem?_cons_zero]; rfl) | rfl) (by kernel_rfl) (by kernel_rfl) (by kernel_rfl) (fun _ _ _ h => h) (Or.inl ⟨by rfl, ?_⟩) (by assumption) ?_
    rotate_left 1
    · (intro w' hSw; (try dsimp only at hSw); go_simp; (try with_reducible rfl))
    try simp only [Act.put, List.setIfInBounds_toArray, List.set_cons_zero, List.set_cons_succ]
    refine wpAnyH_take (i := 28) (v := undef) (by first | (simp only [List.getElem?_toArray, List.getElem?_cons_succ, List.getElem?_cons_zero]; rfl) | rfl) (by kernel_rfl) (by kernel_rfl) (by kernel_rfl) (fun _ _ _ h => h) (Or.inr ⟨by rfl, rfl⟩) (by assumption) ?_
    try simp only [Act.put, List.setIfInBounds_toArray, List.set_cons_zero, List.set_cons_succ]
    refine wpAnyH_take (i := 29) (v := undef) (by first | (simp only [List.getElem?_toArray, List.getElem?_cons_succ, List.getElem?_cons_zero]; rfl) | rfl) (by kernel_rfl) (by kernel_rfl) (by kernel_rfl) (fun _ _ _ h => h) (Or.inr ⟨by rfl, rfl⟩) (by assumption) ?_
    try simp only [Act.put, List.setIfInBounds_toArray, List.set_cons_zero, List.set_cons_succ]
    refine wpAnyH_take (i := 30) (v := undef) (by first | (simp only [List.getElem?_toArray, List.getElem?_cons_succ, List.getElem?_cons_zero]; rfl) | rfl) (by kernel_rfl) (by kernel_rfl) (by kernel_rfl) (fun _ _ _ h => h) (Or.inr ⟨by rfl, rfl⟩) (by assumption) ?_
    try simp only [Act.put, List.setIfInBounds_toArray, List.set_cons_zero, List.set_cons_succ]
    refine wpAnyH_take (i := 31) (v := ?_) (by first | (simp only [List.getElem?_toArray, List.getElem?_cons_succ, List.getElem?_cons_zero]; rfl) | rfl) (by kernel_rfl) (by kernel_rfl) (by kernel_rfl) (fun _ _ _ h => h) (Or.inl ⟨by rfl, ?_⟩) (by assumption) ?_
    rotate_left 1
    · (intro w' hSw; (try dsimp only at hSw); go_simp; (try with_reducible rfl))
    try simp only [Act.put, List.setIfInBounds_toArray, List.set_cons_zero, List.set_cons_succ]
    refine wpAnyH_take (i := 32) (v := ?_) (by first | (simp only [List.getElem?_toArray, List.getElem?_cons_succ, List.getElem?_cons_zero]; rfl) | rfl) (by kernel_rfl) (by kernel_rfl) (by kernel_rfl) (fun _ _ _ h => h) (Or.inl ⟨by rfl, ?_⟩) (by assumption) ?_
    rotate_left 1
    · (intro w' hSw; (try dsimp only at hSw); go_simp; (try with_reducible rfl))
    try simp only [Act.put, List.setIfInBounds_toArray, List.set_cons_zero, List.set_cons_succ]
    refine wpAnyH_done (by kernel_rfl) ?_ _
    refine HKK.out _ _ ?_
    go_wp2_with fail
    go_ret
    exact ⟨by rw [HE.out]; rfl, HB1.out⟩
  cases c3 : m.ts.all nameB
  · have HE := Lib.hid (show r = false from by rw [← HR.out]; simp [c1, c2, c3])
    refine wpAnyH_take (i := 0) (v := ?_) (by first | (simp only [List.getElem?_toArray, List.getElem?_cons_succ, List.getElem?_cons_zero]; rfl) | rfl) (by kernel_rfl) (by kernel_rfl) (by kernel_rfl) (fun _ _ _ h => h) (Or.inl ⟨by rfl, ?_⟩) (by assumption) ?_
    rotate_left 1
    · (intro w' hSw; (try dsimp only at hSw); go_simp; (try with_reducible rfl))
    try simp only [Act.put, List.setIfInBounds_toArray, List.set_cons_zero, List.set_cons_succ]
    refine wpAnyH_take (i := 1) (v := ?_) (by first | (simp only [List.getElem?_toArray, List.getElem?_cons_succ, List.getElem?_cons_zero]; rfl) | rfl) (by kernel_rfl) (by kernel_rfl) (by kernel_rfl) (fun _ _ _ h => h) (Or.inl ⟨by rfl, ?_⟩) (by assumption) ?_
    rotate_left 1
    · (intro w' hSw; (try dsimp only at hSw); go_simp; (try with_reducible rfl))
    try simp only [Act.put, List.setIfInBounds_toArray, List.set_cons_zero, List.set_cons_succ]
    refine wpAnyH_take (i := 3) (v := ?_) (by first | (simp only [List.getElem?_toArray, List.getElem?_cons_succ, List.getElem?_cons_zero]; rfl) | rfl) (by kernel_rfl) (by kernel_rfl) (by kernel_rfl) (fun _ _ _ h => h) (Or.inl ⟨by rfl, ?_⟩) (by assumption) ?_
    rotate_left 1
    · (intro w' hSw; (try dsimp only at hSw); go_simp; (try with_reducible rfl))
    try simp only [Act.put, List.setIfInBounds_toArray, List.set_cons_zero, List.set_cons_succ]
    refine wpAnyH_take (i := 4) (v := ?_) (by first | (simp only [List.getElem?_toArray, List.getElem?_cons_succ, List.getElem?_cons_zero]; rfl) | rfl) (by kernel_rfl) (by kernel_rfl) (by kernel_rfl) (fun _ _ _ h => h) (Or.inl ⟨by rfl, ?_⟩) (by assumption) ?_
    rotate_left 1
    · (intro w' hSw; (try dsimp only at hSw); go_simp; (try with_reducible rfl))
    try simp only [Act.put, List.setIfInBounds_toArray, List.set_cons_zero, List.set_cons_succ]
    refine wpAnyH_take (i := 5) (v := ?_) (by first | (simp only [List.getElem?_toArray, List.getElem?_cons_succ, List.getElem?_cons_zero]; rfl) | rfl) (by kernel_rfl) (by kernel_rfl) (by kernel_rfl) (fun _ _ _ h => h) (Or.inl ⟨by rfl, ?_⟩) (by assumption) ?_
    rotate_left 1
    · (intro w' hSw; (try dsimp only at hSw); go_simp; (try with_reducible rfl))
    try simp only [Act.put, List.setIfInBounds_toArray, List.set_cons_zero, List.set_cons_succ]
    refine wpAnyH_ready (rs := [2]) (by kernel_rfl) (by simp) ?_
    refine AllReadyH.cons (by first | (simp only [List.getElem?_toArray, List.getElem?_cons_succ, List.getElem?_cons_zero]; rfl) | rfl) (fun K hK => ?_) AllReadyH.nil
    go_simp
    refine (HAr.out _).mono ?_
    rintro e w2 ⟨rfl, hb2⟩
    dsimp only
    replace HB1 := Lib.hid (HB1.out.trans (hb2.mono HB1.out.size))
    replace HK1 := Lib.hid (HK1.out.trans (hb2.mono HK1.out.size))
    clear hb2
    refine hK.out _ _ (HSx.out _ HK1.out) (fun hHeld => ?_)
    clear hK K
    try simp only [Act.put, List.setIfInBounds_toArray, List.set_cons_zero, List.set_cons_succ]
    refine wpAnyH_take (i := 6) (v := ?_) (by first | (simp only [List.getElem?_toArray, List.getElem?_cons_succ, List.getElem?_cons_zero]; rfl) | rfl) (by kernel_rfl) (by kernel_rfl) (by kernel_rfl) (fun _ _ _ h => h) (Or.inl ⟨by rfl, ?_⟩) (by assumption) ?_
    rotate_left 1
    · (intro w' hSw; (try dsimp only at hSw); go_simp; (try with_reducible rfl))
    try simp only [Act.put, List.setIfInBounds_toArray, List.set_cons_zero, List.set_cons_succ]
    refine wpAnyH_take (i := 7) (v := ?_) (by first | (simp only [List.getElem?_toArray, List.getElem?_cons_succ, List.getElem?_cons_zero]; rfl) | rfl) (by kernel_rfl) (by kernel_rfl) (by kernel_rfl) (fun _ _ _ h => h) (Or.inl ⟨by rfl, ?_⟩) (by assumption) ?_
    rotate_left 1
    · (intro w' hSw; (try dsimp only at hSw); go_simp; (try with_reducible rfl))
    try simp only [Act.put, List.setIfInBounds_toArray, List.set_cons_zero, List.set_cons_succ]
    refine wpAnyH_take (i := 8) (v := ?_) (by first | (simp only [List.getElem?_toArray, List.getElem?_cons_succ, List.getElem?_cons_zero]; rfl) | rfl) (by kernel_rfl) (by kernel_rfl) (by kernel_rfl) (fun _ _ _ h => h) (Or.inl ⟨by rfl, ?_⟩) (by assumption) ?_
    rotate_left 1
    · (intro w' hSw; (try dsimp only at hSw); go_simp; (try with_reducible rfl))
    try simp only [Act.put, List.setIfInBounds_toArray, List.set_cons_zero, List.set_cons_succ]
    refine wpAnyH_take (i := 9) (v := ?_) (by first | (simp only [List.getElem?_toArray, List.getElem?_cons_succ, List.getElem?_cons_zero]; rfl) | rfl) (by kernel_rfl) (by kernel_rfl) (by kernel_rfl) (fun _ _ _ h => h) (Or.inl ⟨by rfl, ?_⟩) (by assumption) ?_
    rotate_left 1
    · (intro w' hSw; (try dsimp only at hSw); go_simp; (try with_reducible rfl))
    try simp only [Act.put, List.setIfInBounds_toArray, List.set_cons_zero, List.set_cons_succ]
    refine wpAnyH_ready (rs := [10]) (by kernel_rfl) (by simp) ?_
    refine AllReadyH.cons (by first | (simp only [List.getElem?_toArray, List.getElem?_cons_succ, List.getElem?_cons_zero]; rfl) | rfl) (fun K hK => ?_) AllReadyH.nil
    go_simp
    refine (HPs.out _ HB1.out).mono ?_
    rintro e w2 ⟨rfl, hb2⟩
    dsimp only
    replace HB1 := Lib.hid (HB1.out.trans (hb2.mono HB1.out.size))
    replace HK1 := Lib.hid (HK1.out.trans (hb2.mono HK1.out.size))
    clear hb2
    refine hK.out _ _ (HSx.out _ HK1.out) (fun hHeld => ?_)
    clear hK K
    try simp only [Act.put, List.setIfInBounds_toArray, List.set_cons_zero, List.set_cons_succ]
    refine wpAnyH_take (i := 11) (v := ?_) (by first | (simp only [List.getElem?_toArray, List.getElem?_cons_succ, List.getElem?_cons_zero]; rfl) | rfl) (by kernel_rfl) (by kernel_rfl) (by kernel_rfl) (fun _ _ _ h => h) (Or.inl ⟨by rfl, ?_⟩) (by assumption) ?_
    rotate_left 1
    · (intro w' hSw; (try dsimp only at hSw); go_simp; (try with_reducible rfl))
    try simp only [Act.put, List.setIfInBounds_toArray, List.set_cons_zero, List.set_cons_succ]
    refine wpAnyH_take (i := 12) (v := ?_) (by first | (simp only [List.getElem?_toArray, List.getElem?_cons_succ, List.getElem?_cons_zero]; rfl) | rfl) (by kernel_rfl) (by kernel_rfl) (by kernel_rfl) (fun _ _ _ h => h) (Or.inl ⟨by rfl, ?_⟩) (by assumption) ?_
    rotate_left 1
    · (intro w' hSw; (try dsimp only at hSw); go_simp; (try with_reducible rfl))
    try simp only [Act.put, List.setIfInBounds_toArray, List.set_cons_zero, List.set_cons_succ]
    refine wpAnyH_take (i := 13) (v := ?_) (by first | (simp only [List.getElem?_toArray, List.getElem?_cons_succ, List.getElem?_cons_zero]; rfl) | rfl) (by kernel_rfl) (by kernel_rfl) (by kernel_rfl) (fun _ _ _ h => h) (Or.inl ⟨by rfl, ?_⟩) (by assumption) ?_
    rotate_left 1
    · (intro w' hSw; (try dsimp only at hSw); go_simp; (try with_reducible rfl))
    try simp only [Act.put, List.setIfInBounds_toArray, List.set_cons_zero, List.set_cons_succ]
    refine wpAnyH_take (i := 14) (v := ?_) (by first | (simp only [List.getElem?_toArray, List.getElem?_cons_succ, List.getElem?_cons_zero]; rfl) | rfl) (by kernel_rfl) (by kernel_rfl) (by kernel_rfl) (fun _ _ _ h => h) (Or.inl ⟨by rfl, ?_⟩) (by assumption) ?_
    rotate_left 1
    · (intro w' hSw; (try dsimp only at hSw); go_simp; (try with_reducible rfl))
    try simp only [Act.put, List.setIfInBounds_toArray, List.set_cons_zero, List.set_cons_succ]
    refine wpAnyH_ready (rs := [15]) (by kernel_rfl) (by simp) ?_
    refine AllReadyH.cons (by first | (simp only [List.getElem?_toArray, List.getElem?_cons_succ, List.getElem?_cons_zero]; rfl) | rfl) (fun K hK => ?_) AllReadyH.nil
    go_simp
    refine (HTs.out _ HB1.out).mono ?_
    rintro e w2 ⟨rfl, hb2⟩
    dsimp only
    replace HB1 := Lib.hid (HB1.out.trans (hb2.mono HB1.out.size))
    replace HK1 := Lib.hid (HK1.out.trans (hb2.mono HK1.out.size))
    clear hb2
    refine hK.out _ _ (HSx.out _ HK1.out) (fun hHeld => ?_)
    clear hK K
    try simp only [Act.put, List.setIfInBounds_toArray, List.set_cons_zero, List.set_cons_succ]
    refine wpAnyH_take (i := 16) (v := ?_) (by first | (simp only [List.getElem?_toArray, List.getElem?_cons_succ, List.getElem?_cons_zero]; rfl) | rfl) (by kernel_rfl) (by kernel_rfl) (by kernel_rfl) (fun _ _ _ h => h) (Or.inl ⟨by rfl, ?_⟩) (by assumption) ?_
    rotate_left 1
    · (intro w' hSw; (try dsimp only at hSw); go_simp; (try with_reducible rfl))
    try simp only [Act.put, List.setIfInBounds_toArray, List.set_cons_zero, List.set_cons_succ]
    refine wpAnyH_take (i := 17) (v := ?_) (by first | (simp only [List.getElem?_toArray, List.getElem?_cons_succ, List.getElem?_cons_zero]; rfl) | rfl) (by kernel_rfl) (by kernel_rfl) (by kernel_rfl) (fun _ _ _ h => h) (Or.inl ⟨by rfl, ?_⟩) (by assumption) ?_
    rotate_left 1
    · (intro w' hSw; (try dsimp only at hSw); go_simp; (try with_reducible rfl))
    try simp only [Act.put, List.setIfInBounds_toArray, List.set_cons_zero, List.set_cons_succ]
    refine wpAnyH_take (i := 18) (v := undef) (by first | (simp only [List.getElem?_toArray, List.getElem?_cons_succ, List.getElem?_cons_zero]; rfl) | rfl) (by kernel_rfl) (by kernel_rfl) (by kernel_rfl) (fun _ _ _ h => h) (Or.inr ⟨by rfl, rfl⟩) (by assumption) ?_
    try simp only [Act.put, List.setIfInBounds_toArray, List.set_cons_zero, List.set_cons_succ]
    refine wpAnyH_take (i := 19) (v := undef) (by first | (simp only [List.getElem?_toArray, List.getElem?_cons_succ, List.getElem?_cons_zero]; rfl) | rfl) (by kernel_rfl) (by kernel_rfl) (by kernel_rfl) (fun _ _ _ h => h) (Or.inr ⟨by rfl, rfl⟩) (by assumption) ?_
    try simp only [Act.put, List.setIfInBounds_toArray, List.set_cons_zero, List.set_cons_succ]
    refine wpAnyH_take (i := 20) (v := undef) (by first | (simp only [List.getElem?_toArray, List.getElem?_cons_succ, List.getElem?_cons_zero]; rfl) | rfl) (by kernel_rfl) (by kernel_rfl) (by kernel_rfl) (fun _ _ _ h => h) (Or.inr ⟨by rfl, rfl⟩) (by assumption) ?_
    try simp only [Act.put, List.setIfInBounds_toArray, List.set_cons_zero, List.set_cons_succ]
    refine wpAnyH_take (i := 21) (v := ?_) (by first | (simp only [List.getElem?_toArray, List.getElem?_cons_succ, List.getElem?_cons_zero]; rfl) | rfl) (by kernel_rfl) (by kernel_rfl) (by kernel_rfl) (fun _ _ _ h => h) (Or.inl ⟨by rfl, ?_⟩) (by assumption) ?_
    rotate_left 1
    · (intro w' hSw; (try dsimp only at hSw); go_simp; (try with_reducible rfl))
    try simp only [Act.put, List.setIfInBounds_toArray, List.set_cons_zero, List.set_cons_succ]
    refine wpAnyH_take (i := 22) (v := ?_) (by first | (simp only [List.getElem?_toArray, List.getElem?_cons_succ, List.getElem?_cons_zero]; rfl) | rfl) (by kernel_rfl) (by kernel_rfl) (by kernel_rfl) (fun _ _ _ h => h) (Or.inl ⟨by rfl, ?_⟩) (by assumption) ?_
    rotate_left 1
    · (intro w' hSw; (try dsimp only at hSw); go_simp; (try with_reducible rfl))
    try simp only [Act.put, List.setIfInBounds_toArray, List.set_cons_zero, List.set_cons_succ]
    refine wpAnyH_take (i := 23) (v := undef) (by first | (simp only [List.getElem?_toArray, List.getElem?_cons_succ, List.getElem?_cons_zero]; rfl) | rfl) (by kernel_rfl) (by kernel_rfl) (by kernel_rfl) (fun _ _ _ h => h) (Or.inr ⟨by rfl, rfl⟩) (by assumption) ?_
    try simp only [Act.put, List.setIfInBounds_toArray, List.set_cons_zero, List.set_cons_succ]
    refine wpAnyH_take (i := 24) (v := undef) (by first | (simp only [List.getElem?_toArray, List.getElem?_cons_succ, List.getElem?_cons_zero]; rfl) | rfl) (by kernel_rfl) (by kernel_rfl) (by kernel_rfl) (fun _ _ _ h => h) (Or.inr ⟨by rfl, rfl⟩) (by assumption) ?_
    try simp only [Act.put, List.setIfInBounds_toArray, List.set_cons_zero, List.set_cons_succ]
    refine wpAnyH_take (i := 25) (v := undef) (by first | (simp only [List.getElem?_toArray, List.getElem?_cons_succ, List.getElem?_cons_zero]; rfl) | rfl) (by kernel_rfl) (by kernel_rfl) (by kernel_rfl) (fun _ _ _ h => h) (Or.inr ⟨by rfl, rfl⟩) (by assumption) ?_
    try simp only [Act.put, List.setIfInBounds_toArray, List.set_cons_zero, List.set_cons_succ]
    refine wpAnyH_take (i := 26) (v := ?_) (by first | (simp only [List.getElem?_toArray, List.getElem?_cons_succ, List.getElem?_cons_zero]; rfl) | rfl) (by kernel_rfl) (by kernel_rfl) (by kernel_rfl) (fun _ _ _ h => h) (Or.inl ⟨by rfl, ?_⟩) (by assumption) ?_
    rotate_left 1
    · (intro w' hSw; (try dsimp only at hSw); go_simp; (try with_reducible rfl))
    try simp only [Act.put, List.setIfInBounds_toArray, List.set_cons_zero, List.set_cons_succ]
    refine wpAnyH_take (i := 27) (v := ?_) (by first | (simp only [List.getElem?_toArray, List.getElem?_cons_succ, List.getElem?_cons_zero]; rfl) | rfl) (by kernel_rfl) (by kernel_rfl) (by kernel_rfl) (fun _ _ _ h => h) (Or.inl ⟨by rfl, ?_⟩) (by assumption) ?_
    rotate_left 1
    · (intro w' hSw; (try dsimp only at hSw); go_simp; (try with_reducible rfl))
    try simp only [Act.put, List.setIfInBounds_toArray, List.set_cons_zero, List.set_cons_succ]
    refine wpAnyH_take (i := 28) (v := undef) (by first | (simp only [List.getElem?_toArray, List.getElem?_cons_succ, List.getElem?_cons_zero]; rfl) | rfl) (by kernel_rfl) (by kernel_rfl) (by kernel_rfl) (fun _ _ _ h => h) (Or.inr ⟨by rfl, rfl⟩) (by assumption) ?_
    try simp only [Act.put, List.setIfInBounds_toArray, List.set_cons_zero, List.set_cons_succ]
    refine wpAnyH_take (i := 29) (v := undef) (by first | (simp only [List.getElem?_toArray, List.getElem?_cons_succ, List.getElem?_cons_zero]; rfl) | rfl) (by kernel_rfl) (by kernel_rfl) (by kernel_rfl) (fun _ _ _ h => h) (Or.inr ⟨by rfl, rfl⟩) (by assumption) ?_
    try simp only [Act.put, List.setIfInBounds_toArray, List.set_cons_zero, List.set_cons_succ]
    refine wpAnyH_take (i := 30) (v := undef) (by first | (simp only [List.getElem?_toArray, List.getElem?_cons_succ, List.getElem?_cons_zero]; rfl) | rfl) (by kernel_rfl) (by kernel_rfl) (by kernel_rfl) (fun _ _ _ h => h) (Or.inr ⟨by rfl, rfl⟩) (by assumption) ?_
    try simp only [Act.put, List.setIfInBounds_toArray, List.set_cons_zero, List.set_cons_succ]
    refine wpAnyH_take (i := 31) (v := ?_) (by first | (simp only [List.getElem?_toArray, List.getElem?_cons_succ, List.getElem?_cons_zero]; rfl) | rfl) (by kernel_rfl) (by kernel_rfl) (by kernel_rfl) (fun _ _ _ h => h) (Or.inl ⟨by rfl, ?_⟩) (by assumption) ?_
    rotate_left 1
    · (intro w' hSw; (try dsimp only at hSw); go_simp; (try with_reducible rfl))
    try simp only [Act.put, List.setIfInBounds_toArray, List.set_cons_zero, List.set_cons_succ]
    refine wpAnyH_take (i := 32) (v := ?_) (by first | (simp only [List.getElem?_toArray, List.getElem?_cons_succ, List.getElem?_cons_zero]; rfl) | rfl) (by kernel_rfl) (by kernel_rfl) (by kernel_rfl) (fun _ _ _ h => h) (Or.inl ⟨by rfl, ?_⟩) (by assumption) ?_
    rotate_left 1
    · (intro w' hSw; (try dsimp only at hSw); go_simp; (try with_reducible rfl))
    try simp only [Act.put, List.setIfInBounds_toArray, List.set_cons_zero, List.set_cons_succ]
    refine wpAnyH_done (by kernel_rfl) ?_ _
    refine HKK.out _ _ ?_
    go_wp2_with fail
    go_ret
    exact ⟨by rw [HE.out]; rfl, HB1.out⟩
  cases c4 : decide (0 ≤ m.pr)
  · have HE := Lib.hid (show r = false from by rw [← HR.out]; simp [c1, c2, c3, c4])
    refine wpAnyH_take (i := 0) (v := ?_) (by first | (simp only [List.getElem?_toArray, List.getElem?_cons_succ, List.getElem?_cons_zero]; rfl) | rfl) (by kernel_rfl) (by kernel_rfl) (by kernel_rfl) (fun _ _ _ h => h) (Or.inl ⟨by rfl, ?_⟩) (by assumption) ?_
    rotate_left 1
    · (intro w' hSw; (try dsimp only at hSw); go_simp; (try with_reducible rfl))
    try simp only [Act.put, List.setIfInBounds_toArray, List.set_cons_zero, List.set_cons_succ]
    refine wpAnyH_take (i := 1) (v := ?_) (by first | (simp only [List.getElem?_toArray, List.getElem?_cons_succ, List.getElem?_cons_zero]; rfl) | rfl) (by kernel_rfl) (by kernel_rfl) (by kernel_rfl) (fun _ _ _ h => h) (Or.inl ⟨by rfl, ?_⟩) (by assumption) ?_
    rotate_left 1
    · (intro w' hSw; (try dsimp only at hSw); go_simp; (try with_reducible rfl))
    try simp only [Act.put, List.setIfInBounds_toArray, List.set_cons_zero, List.set_cons_succ]
    refine wpAnyH_take (i := 3) (v := ?_) (by first | (simp only [List.getElem?_toArray, List.getElem?_cons_succ, List.getElem?_cons_zero]; rfl) | rfl) (by kernel_rfl) (by kernel_rfl) (by kernel_rfl) (fun _ _ _ h => h) (Or.inl ⟨by rfl, ?_⟩) (by assumption) ?_
    rotate_left 1
    · (intro w' hSw; (try dsimp only at hSw); go_simp; (try with_reducible rfl))
    try simp only [Act.put, List.setIfInBounds_toArray, List.set_cons_zero, List.set_cons_succ]
    refine wpAnyH_take (i := 4) (v := ?_) (by first | (simp only [List.getElem?_toArray, List.getElem?_cons_succ, List.getElem?_cons_zero]; rfl) | rfl) (by kernel_rfl) (by kernel_rfl) (by kernel_rfl) (fun _ _ _ h => h) (Or.inl ⟨by rfl, ?_⟩) (by assumption) ?_
    rotate_left 1
    · (intro w' hSw; (try dsimp only at hSw); go_simp; (try with_reducible rfl))
    try simp only [Act.put, List.setIfInBounds_toArray, List.set_cons_zero, List.set_cons_succ]
    refine wpAnyH_take (i := 5) (v := ?_) (by first | (simp only [List.getElem?_toArray, List.getElem?_cons_succ, List.getElem?_cons_zero]; rfl) | rfl) (by kernel_rfl) (by kernel_rfl) (by kernel_rfl) (fun _ _ _ h => h) (Or.inl ⟨by rfl, ?_⟩) (by assumption) ?_
    rotate_left 1
    · (intro w' hSw; (try dsimp only at hSw); go_simp; (try with_reducible rfl))
    try simp only [Act.put, List.setIfInBounds_toArray, List.set_cons_zero, List.set_cons_succ]
    refine wpAnyH_ready (rs := [2]) (by kernel_rfl) (by simp) ?_
    refine AllReadyH.cons (by first | (simp only [List.getElem?_toArray, List.getElem?_cons_succ, List.getElem?_cons_zero]; rfl) | rfl) (fun K hK => ?_) AllReadyH.nil
    go_simp
    refine (HAr.out _).mono ?_
    rintro e w2 ⟨rfl, hb2⟩
    dsimp only
    replace HB1 := Lib.hid (HB1.out.trans (hb2.mono HB1.out.size))
    replace HK1 := Lib.hid (HK1.out.trans (hb2.mono HK1.out.size))
    clear hb2
    refine hK.out _ _ (HSx.out _ HK1.out) (fun hHeld => ?_)
    clear hK K
    try simp only [Act.put, List.setIfInBounds_toArray, List.set_cons_zero, List.set_cons_succ]
    refine wpAnyH_take (i := 6) (v := ?_) (by first | (simp only [List.getElem?_toArray, List.getElem?_cons_succ, List.getElem?_cons_zero]; rfl) | rfl) (by kernel_rfl) (by kernel_rfl) (by kernel_rfl) (fun _ _ _ h => h) (Or.inl ⟨by rfl, ?_⟩) (by assumption) ?_
    rotate_left 1
    · (intro w' hSw; (try dsimp only at hSw); go_simp; (try with_reducible rfl))
    try simp only [Act.put, List.setIfInBounds_toArray, List.set_cons_zero, List.set_cons_succ]
    refine wpAnyH_take (i := 7) (v := ?_) (by first | (simp only [List.getElem?_toArray, List.getElem?_cons_succ, List.getElem?_cons_zero]; rfl) | rfl) (by kernel_rfl) (by kernel_rfl) (by kernel_rfl) (fun _ _ _ h => h) (Or.inl ⟨by rfl, ?_⟩) (by assumption) ?_
    rotate_left 1
    · (intro w' hSw; (try dsimp only at hSw); go_simp; (try with_reducible rfl))
    try simp only [Act.put, List.setIfInBounds_toArray, List.set_cons_zero, List.set_cons_succ]
    refine wpAnyH_take (i := 8) (v := ?_) (by first | (simp only [List.getElem?_toArray, List.getElem?_cons_succ, List.getElem?_cons_zero]; rfl) | rfl) (by kernel_rfl) (by kernel_rfl) (by kernel_rfl) (fun _ _ _ h => h) (Or.inl ⟨by rfl, ?_⟩) (by assumption) ?_
    rotate_left 1
    · (intro w' hSw; (try dsimp only at hSw); go_simp; (try with_reducible rfl))
    try simp only [Act.put, List.setIfInBounds_toArray, List.set_cons_zero, List.set_cons_succ]
    refine wpAnyH_take (i := 9) (v := ?_) (by first | (simp only [List.getElem?_toArray, List.getElem?_cons_succ, List.getElem?_cons_zero]; rfl) | rfl) (by kernel_rfl) (by kernel_rfl) (by kernel_rfl) (fun _ _ _ h => h) (Or.inl ⟨by rfl, ?_⟩) (by assumption) ?_
    rotate_left 1
    · (intro w' hSw; (try dsimp only at hSw); go_simp; (try with_reducible rfl))
    try simp only [Act.put, List.setIfInBounds_toArray, List.set_cons_zero, List.set_cons_succ]
    refine wpAnyH_ready (rs := [10]) (by kernel_rfl) (by simp) ?_
    refine AllReadyH.cons (by first | (simp only [List.getElem?_toArray, List.getElem?_cons_succ, List.getElem?_cons_zero]; rfl) | rfl) (fun K hK => ?_) AllReadyH.nil
    go_simp
    refine (HPs.out _ HB1.out).mono ?_
    rintro e w2 ⟨rfl, hb2⟩
    dsimp only
    replace HB1 := Lib.hid (HB1.out.trans (hb2.mono HB1.out.size))
    replace HK1 := Lib.hid (HK1.out.trans (hb2.mono HK1.out.size))
    clear hb2
    refine hK.out _ _ (HSx.out _ HK1.out) (fun hHeld => ?_)
    clear hK K
    try simp only [Act.put, List.setIfInBounds_toArray, List.set_cons_zero, List.set_cons_succ]
    refine wpAnyH_take (i := 11) (v := ?_) (by first | (simp only [List.getElem?_toArray, List.getElem?_cons_succ, List.getElem?_cons_zero]; rfl) | rfl) (by kernel_rfl) (by kernel_rfl) (by kernel_rfl) (fun _ _ _ h => h) (Or.inl ⟨by rfl, ?_⟩) (by assumption) ?_
    rotate_left 1
    · (intro w' hSw; (try dsimp only at hSw); go_simp; (try with_reducible rfl))
    try simp only [Act.put, List.setIfInBounds_toArray, List.set_cons_zero, List.set_cons_succ]
    refine wpAnyH_take (i := 12) (v := ?_) (by first | (simp only [List.getElem?_toArray, List.getElem?_cons_succ, List.getElem?_cons_zero]; rfl) | rfl) (by kernel_rfl) (by kernel_rfl) (by kernel_rfl) (fun _ _ _ h => h) (Or.inl ⟨by rfl, ?_⟩) (by assumption) ?_
    rotate_left 1
    · (intro w' hSw; (try dsimp only at hSw); go_simp; (try with_reducible rfl))
    try simp only [Act.put, List.setIfInBounds_toArray, List.set_cons_zero, List.set_cons_succ]
    refine wpAnyH_take (i := 13) (v := ?_) (by first | (simp only [List.getElem?_toArray, List.getElem?_cons_succ, List.getElem?_cons_zero]; rfl) | rfl) (by kernel_rfl) (by kernel_rfl) (by kernel_rfl) (fun _ _ _ h => h) (Or.inl ⟨by rfl, ?_⟩) (by assumption) ?_
    rotate_left 1
    · (intro w' hSw; (try dsimp only at hSw); go_simp; (try with_reducible rfl))
    try simp only [Act.put, List.setIfInBounds_toArray, List.set_cons_zero, List.set_cons_succ]
    refine wpAnyH_take (i := 14) (v := ?_) (by first | (simp only [List.getElem?_toArray, List.getElem?_cons_succ, List.getElem?_cons_zero]; rfl) | rfl) (by kernel_rfl) (by kernel_rfl) (by kernel_rfl) (fun _ _ _ h => h) (Or.inl ⟨by rfl, ?_⟩) (by assumption) ?_
    rotate_left 1
    · (intro w' hSw; (try dsimp only at hSw); go_simp; (try with_reducible rfl))
    try simp only [Act.put, List.setIfInBounds_toArray, List.set_cons_zero, List.set_cons_succ]
    refine wpAnyH_ready (rs := [15]) (by kernel_rfl) (by simp) ?_
    refine AllReadyH.cons (by first | (simp only [List.getElem?_toArray, List.getElem?_cons_succ, List.getElem?_cons_zero]; rfl) | rfl) (fun K hK => ?_) AllReadyH.nil
    go_simp
    refine (HTs.out _ HB1.out).mono ?_
    rintro e w2 ⟨rfl, hb2⟩
    dsimp only
    replace HB1 := Lib.hid (HB1.out.trans (hb2.mono HB1.out.size))
    replace HK1 := Lib.hid (HK1.out.trans (hb2.mono HK1.out.size))
    clear hb2
    refine hK.out _ _ (HSx.out _ HK1.out) (fun hHeld => ?_)
    clear hK K
    try simp only [Act.put, List.setIfInBounds_toArray, List.set_cons_zero, List.set_cons_succ]
    refine wpAnyH_take (i := 16) (v := ?_) (by first | (simp only [List.getElem?_toArray, List.getElem?_cons_succ, List.getElem?_cons_zero]; rfl) | rfl) (by kernel_rfl) (by kernel_rfl) (by kernel_rfl) (fun _ _ _ h => h) (Or.inl ⟨by rfl, ?_⟩) (by assumption) ?_
    rotate_left 1
    · (intro w' hSw; (try dsimp only at hSw); go_simp; (try with_reducible rfl))
    try simp only [Act.put, List.setIfInBounds_toArray, List.set_cons_zero, List.set_cons_succ]
    refine wpAnyH_take (i := 17) (v := ?_) (by first | (simp only [List.getElem?_toArray, List.getElem?_cons_succ, List.getElem?_cons_zero]; rfl) | rfl) (by kernel_rfl) (by kernel_rfl) (by kernel_rfl) (fun _ _ _ h => h) (Or.inl ⟨by rfl, ?_⟩) (by assumption) ?_
    rotate_left 1
    · (intro w' hSw; (try dsimp only at hSw); go_simp; (try with_reducible rfl))
    try simp only [Act.put, List.setIfInBounds_toArray, List.set_cons_zero, List.set_cons_succ]
    refine wpAnyH_take (i := 18) (v := ?_) (by first | (simp only [List.getElem?_toArray, List.getElem?_cons_succ, List.getElem?_cons_zero]; rfl) | rfl) (by kernel_rfl) (by kernel_rfl) (by kernel_rfl) (fun _ _ _ h => h) (Or.inl ⟨by rfl, ?_⟩) (by assumption) ?_
    rotate_left 1
    · (intro w' hSw; (try dsimp only at hSw); go_simp; (try with_reducible rfl))
    try simp only [Act.put, List.setIfInBounds_toArray, List.set_cons_zero, List.set_cons_succ]
    refine wpAnyH_take (i := 19) (v := ?_) (by first | (simp only [List.getElem?_toArray, List.getElem?_cons_succ, List.getElem?_cons_zero]; rfl) | rfl) (by kernel_rfl) (by kernel_rfl) (by kernel_rfl) (fun _ _ _ h => h) (Or.inl ⟨by rfl, ?_⟩) (by assumption) ?_
    rotate_left 1
    · (intro w' hSw; (try dsimp only at hSw); go_simp; (try with_reducible rfl))
    try simp only [Act.put, List.setIfInBounds_toArray, List.set_cons_zero, List.set_cons_succ]
    refine wpAnyH_take (i := 20) (v := ?_) (by first | (simp only [List.getElem?_toArray, List.getElem?_cons_succ, List.getElem?_cons_zero]; rfl) | rfl) (by kernel_rfl) (by kernel_rfl) (by kernel_rfl) (fun _ _ _ h => h) (Or.inl ⟨by rfl, ?_⟩) (by assumption) ?_
    rotate_left 1
    · (intro w' hSw; (try dsimp only at hSw); go_simp; (try with_reducible rfl))
    try simp only [Act.put, List.setIfInBounds_toArray, List.set_cons_zero, List.set_cons_succ]
    refine wpAnyH_take (i := 21) (v := ?_) (by first | (simp only [List.getElem?_toArray, List.getElem?_cons_succ, List.getElem?_cons_zero]; rfl) | rfl) (by kernel_rfl) (by kernel_rfl) (by kernel_rfl) (fun _ _ _ h => h) (Or.inl ⟨by rfl, ?_⟩) (by assumption) ?_
    rotate_left 1
    · (intro w' hSw; (try dsimp only at hSw); go_simp; (try with_reducible rfl))
    try simp only [Act.put, List.setIfInBounds_toArray, List.set_cons_zero, List.set_cons_succ]
    refine wpAnyH_take (i := 22) (v := ?_) (by first | (simp only [List.getElem?_toArray, List.getElem?_cons_succ, List.getElem?_cons_zero]; rfl) | rfl) (by kernel_rfl) (by kernel_rfl) (by kernel_rfl) (fun _ _ _ h => h) (Or.inl ⟨by rfl, ?_⟩) (by assumption) ?_
    rotate_left 1
    · (intro w' hSw; (try dsimp only at hSw); go_simp; (try with_reducible rfl))
    try simp only [Act.put, List.setIfInBounds_toArray, List.set_cons_zero, List.set_cons_succ]
    refine wpAnyH_take (i := 23) (v := undef) (by first | (simp only [List.getElem?_toArray, List.getElem?_cons_succ, List.getElem?_cons_zero]; rfl) | rfl) (by kernel_rfl) (by kernel_rfl) (by kernel_rfl) (fun _ _ _ h => h) (Or.inr ⟨by rfl, rfl⟩) (by assumption) ?_
    try simp only [Act.put, List.setIfInBounds_toArray, List.set_cons_zero, List.set_cons_succ]
    refine wpAnyH_take (i := 24) (v := undef) (by first | (simp only [List.getElem?_toArray, List.getElem?_cons_succ, List.getElem?_cons_zero]; rfl) | rfl) (by kernel_rfl) (by kernel_rfl) (by kernel_rfl) (fun _ _ _ h => h) (Or.inr ⟨by rfl, rfl⟩) (by assumption) ?_
    try simp only [Act.put, List.setIfInBounds_toArray, List.set_cons_zero, List.set_cons_succ]
    refine wpAnyH_take (i := 25) (v := undef) (by first | (simp only [List.getElem?_toArray, List.getElem?_cons_succ, List.getElem?_cons_zero]; rfl) | rfl) (by kernel_rfl) (by kernel_rfl) (by kernel_rfl) (fun _ _ _ h => h) (Or.inr ⟨by rfl, rfl⟩) (by assumption) ?_
    try simp only [Act.put, List.setIfInBounds_toArray, List.set_cons_zero, List.set_cons_succ]
    refine wpAnyH_take (i := 26) (v := ?_) (by first | (simp only [List.getElem?_toArray, List.getElem?_cons_succ, List.getElem?_cons_zero]; rfl) | rfl) (by kernel_rfl) (by kernel_rfl) (by kernel_rfl) (fun _ _ _ h => h) (Or.inl ⟨by rfl, ?_⟩) (by assumption) ?_
    rotate_left 1
    · (intro w' hSw; (try dsimp only at hSw); go_simp; (try with_reducible rfl))
    try simp only [Act.put, List.setIfInBounds_toArray, List.set_cons_zero, List.set_cons_succ]
    refine wpAnyH_take (i := 27) (v := ?_) (by first | (simp only [List.getElem?_toArray, List.getElem?_cons_succ, List.getElem?_cons_zero]; rfl) | rfl) (by kernel_rfl) (by kernel_rfl) (by kernel_rfl) (fun _ _ _ h => h) (Or.inl ⟨by rfl, ?_⟩) (by assumption) ?_
    rotate_left 1
    · (intro w' hSw; (try dsimp only at hSw); go_simp; (try with_reducible rfl))
    try simp only [Act.put, List.setIfInBounds_toArray, List.set_cons_zero, List.set_cons_succ]
    refine wpAnyH_take (i := 28) (v := undef) (by first | (simp only [List.getElem?_toArray, List.getElem?_cons_succ, List.getElem?_cons_zero]; rfl) | rfl) (by kernel_rfl) (by kernel_rfl) (by kernel_rfl) (fun _ _ _ h => h) (Or.inr ⟨by rfl, rfl⟩) (by assumption) ?_
    try simp only [Act.put, List.setIfInBounds_toArray, List.set_cons_zero, List.set_cons_succ]
    refine wpAnyH_take (i := 29) (v := undef) (by first | (simp only [List.getElem?_toArray, List.getElem?_cons_succ, List.getElem?_cons_zero]; rfl) | rfl) (by kernel_rfl) (by kernel_rfl) (by kernel_rfl) (fun _ _ _ h => h) (Or.inr ⟨by rfl, rfl⟩) (by assumption) ?_
    try simp only [Act.put, List.setIfInBounds_toArray, List.set_cons_zero, List.set_cons_succ]
    refine wpAnyH_take (i := 30) (v := undef) (by first | (simp only [List.getElem?_toArray, List.getElem?_cons_succ, List.getElem?_cons_zero]; rfl) | rfl) (by kernel_rfl) (by kernel_rfl) (by kernel_rfl) (fun _ _ _ h => h) (Or.inr ⟨by rfl, rfl⟩) (by assumption) ?_
    try simp only [Act.put, List.setIfInBounds_toArray, List.set_cons_zero, List.set_cons_succ]
    refine wpAnyH_take (i := 31) (v := ?_) (by first | (simp only [List.getElem?_toArray, List.getElem?_cons_succ, List.getElem?_cons_zero]; rfl) | rfl) (by kernel_rfl) (by kernel_rfl) (by kernel_rfl) (fun _ _ _ h => h) (Or.inl ⟨by rfl, ?_⟩) (by assumption) ?_
    rotate_left 1
    · (intro w' hSw; (try dsimp only at hSw); go_simp; (try with_reducible rfl))
    try simp only [Act.put, List.setIfInBounds_toArray, List.set_cons_zero, List.set_cons_succ]
    refine wpAnyH_take (i := 32) (v := ?_) (by first | (simp only [List.getElem?_toArray, List.getElem?_cons_succ, List.getElem?_cons_zero]; rfl) | rfl) (by kernel_rfl) (by kernel_rfl) (by kernel_rfl) (fun _ _ _ h => h) (Or.inl ⟨by rfl, ?_⟩) (by assumption) ?_
    rotate_left 1
    · (intro w' hSw; (try dsimp only at hSw); go_simp; (try with_reducible rfl))
    try simp only [Act.put, List.setIfInBounds_toArray, List.set_cons_zero, List.set_cons_succ]
    refine wpAnyH_done (by kernel_rfl) ?_ _
    refine HKK.out _ _ ?_
    go_wp2_with fail
    go_ret
    exact ⟨by rw [HE.out]; rfl, HB1.out⟩
  cases c5 : decide (m.pr ≤ 999)
  · have HE := Lib.hid (show r = false from by rw [← HR.out]; simp [c1, c2, c3, c4, c5])
    refine wpAnyH_take (i := 0) (v := ?_) (by first | (simp only [List.getElem?_toArray, List.getElem?_cons_succ, List.getElem?_cons_zero]; rfl) | rfl) (by kernel_rfl) (by kernel_rfl) (by kernel_rfl) (fun _ _ _ h => h) (Or.inl ⟨by rfl, ?_⟩) (by assumption) ?_
    rotate_left 1
    · (intro w' hSw; (try dsimp only at hSw); go_simp; (try with_reducible rfl))
    try simp only [Act.put, List.setIfInBounds_toArray, List.set_cons_zero, List.set_cons_succ]
    refine wpAnyH_take (i := 1) (v := ?_) (by first | (simp only [List.getElem?_toArray, List.getElem?_cons_succ, List.getElem?_cons_zero]; rfl) | rfl) (by kernel_rfl) (by kernel_rfl) (by kernel_rfl) (fun _ _ _ h => h) (Or.inl ⟨by rfl, ?_⟩) (by assumption) ?_
    rotate_left 1
    · (intro w' hSw; (try dsimp only at hSw); go_simp; (try with_reducible rfl))
    try simp only [Act.put, List.setIfInBounds_toArray, List.set_cons_zero, List.set_cons_succ]
    refine wpAnyH_take (i := 3) (v := ?_) (by first | (simp only [List.getElem?_toArray, List.getElem?_cons_succ, List.getElem?_cons_zero]; rfl) | rfl) (by kernel_rfl) (by kernel_rfl) (by kernel_rfl) (fun _ _ _ h => h) (Or.inl ⟨by rfl, ?_⟩) (by assumption) ?_
    rotate_left 1
    · (intro w' hSw; (try dsimp only at hSw); go_simp; (try with_reducible rfl))
    try simp only [Act.put, List.setIfInBounds_toArray, List.set_cons_zero, List.set_cons_succ]
    refine wpAnyH_take (i := 4) (v := ?_) (by first | (simp only [List.getElem?_toArray, List.getElem?_cons_succ, List.getElem?_cons_zero]; rfl) | rfl) (by kernel_rfl) (by kernel_rfl) (by kernel_rfl) (fun _ _ _ h => h) (Or.inl ⟨by rfl, ?_⟩) (by assumption) ?_
    rotate_left 1
    · (intro w' hSw; (try dsimp only at hSw); go_simp; (try with_reducible rfl))
    try simp only [Act.put, List.setIfInBounds_toArray, List.set_cons_zero, List.set_cons_succ]
    refine wpAnyH_take (i := 5) (v := ?_) (by first | (simp only [List.getElem?_toArray, List.getElem?_cons_succ, List.getElem?_cons_zero]; rfl) | rfl) (by kernel_rfl) (by kernel_rfl) (by kernel_rfl) (fun _ _ _ h => h) (Or.inl ⟨by rfl, ?_⟩) (by assumption) ?_
    rotate_left 1
    · (intro w' hSw; (try dsimp only at hSw); go_simp; (try with_reducible rfl))
    try simp only [Act.put, List.setIfInBounds_toArray, List.set_cons_zero, List.set_cons_succ]
    refine wpAnyH_ready (rs := [2]) (by kernel_rfl) (by simp) ?_
    refine AllReadyH.cons (by first | (simp only [List.getElem?_toArray, List.getElem?_cons_succ, List.getElem?_cons_zero]; rfl) | rfl) (fun K hK => ?_) AllReadyH.nil
    go_simp
    refine (HAr.out _).mono ?_
    rintro e w2 ⟨rfl, hb2⟩
    dsimp only
    replace HB1 := Lib.hid (HB1.out.trans (hb2.mono HB1.out.size))
    replace HK1 := Lib.hid (HK1.out.trans (hb2.mono HK1.out.size))
    clear hb2
    refine hK.out _ _ (HSx.out _ HK1.out) (fun hHeld => ?_)
    clear hK K
    try simp only [Act.put, List.setIfInBounds_toArray, List.set_cons_zero, List.set_cons_succ]
    refine wpAnyH_take (i := 6) (v := ?_) (by first | (simp only [List.getElem?_toArray, List.getElem?_cons_succ, List.getElem?_cons_zero]; rfl) | rfl) (by kernel_rfl) (by kernel_rfl) (by kernel_rfl) (fun _ _ _ h => h) (Or.inl ⟨by rfl, ?_⟩) (by assumption) ?_
    rotate_left 1
    · (intro w' hSw; (try dsimp only at hSw); go_simp; (try with_reducible rfl))
    try simp only [Act.put, List.setIfInBounds_toArray, List.set_cons_zero, List.set_cons_succ]
    refine wpAnyH_take (i := 7) (v := ?_) (by first | (simp only [List.getElem?_toArray, List.getElem?_cons_succ, List.getElem?_cons_zero]; rfl) | rfl) (by kernel_rfl) (by kernel_rfl) (by kernel_rfl) (fun _ _ _ h => h) (Or.inl ⟨by rfl, ?_⟩) (by assumption) ?_
    rotate_left 1
    · (intro w' hSw; (try dsimp only at hSw); go_simp; (try with_reducible rfl))
    try simp only [Act.put, List.setIfInBounds_toArray, List.set_cons_zero, List.set_cons_succ]
    refine wpAnyH_take (i := 8) (v := ?_) (by first | (simp only [List.getElem?_toArray, List.getElem?_cons_succ, List.getElem?_cons_zero]; rfl) | rfl) (by kernel_rfl) (by kernel_rfl) (by kernel_rfl) (fun _ _ _ h => h) (Or.inl ⟨by rfl, ?_⟩) (by assumption) ?_
    rotate_left 1
    · (intro w' hSw; (try dsimp only at hSw); go_simp; (try with_reducible rfl))
    try simp only [Act.put, List.setIfInBounds_toArray, List.set_cons_zero, List.set_cons_succ]
    refine wpAnyH_take (i := 9) (v := ?_) (by first | (simp only [List.getElem?_toArray, List.getElem?_cons_succ, List.getElem?_cons_zero]; rfl) | rfl) (by kernel_rfl) (by kernel_rfl) (by kernel_rfl) (fun _ _ _ h => h) (Or.inl ⟨by rfl, ?_⟩) (by assumption) ?_
    rotate_left 1
    · (intro w' hSw; (try dsimp only at hSw); go_simp; (try with_reducible rfl))
    try simp only [Act.put, List.setIfInBounds_toArray, List.set_cons_zero, List.set_cons_succ]
    refine wpAnyH_ready (rs := [10]) (by kernel_rfl) (by simp) ?_
    refine AllReadyH.cons (by first | (simp only [List.getElem?_toArray, List.getElem?_cons_succ, List.getElem?_cons_zero]; rfl) | rfl) (fun K hK => ?_) AllReadyH.nil
    go_simp
    refine (HPs.out _ HB1.out).mono ?_
    rintro e w2 ⟨rfl, hb2⟩
    dsimp only
    replace HB1 := Lib.hid (HB1.out.trans (hb2.mono HB1.out.size))
    replace HK1 := Lib.hid (HK1.out.trans (hb2.mono HK1.out.size))
    clear hb2
    refine hK.out _ _ (HSx.out _ HK1.out) (fun hHeld => ?_)
    clear hK K
    try simp only [Act.put, List.setIfInBounds_toArray, List.set_cons_zero, List.set_cons_succ]
    refine wpAnyH_take (i := 11) (v := ?_) (by first | (simp only [List.getElem?_toArray, List.getElem?_cons_succ, List.getElem?_cons_zero]; rfl) | rfl) (by kernel_rfl) (by kernel_rfl) (by kernel_rfl) (fun _ _ _ h => h) (Or.inl ⟨by rfl, ?_⟩) (by assumption) ?_
    rotate_left 1
    · (intro w' hSw; (try dsimp only at hSw); go_simp; (try with_reducible rfl))
    try simp only [Act.put, List.setIfInBounds_toArray, List.set_cons_zero, List.set_cons_succ]
    refine wpAnyH_take (i := 12) (v := ?_) (by first | (simp only [List.getElem?_toArray, List.getElem?_cons_succ, List.getElem?_cons_zero]; rfl) | rfl) (by kernel_rfl) (by kernel_rfl) (by kernel_rfl) (fun _ _ _ h => h) (Or.inl ⟨by rfl, ?_⟩) (by assumption) ?_
    rotate_left 1
    · (intro w' hSw; (try dsimp only at hSw); go_simp; (try with_reducible rfl))
    try simp only [Act.put, List.setIfInBounds_toArray, List.set_cons_zero, List.set_cons_succ]
    refine wpAnyH_take (i := 13) (v := ?_) (by first | (simp only [List.getElem?_toArray, List.getElem?_cons_succ, List.getElem?_cons_zero]; rfl) | rfl) (by kernel_rfl) (by kernel_rfl) (by kernel_rfl) (fun _ _ _ h => h) (Or.inl ⟨by rfl, ?_⟩) (by assumption) ?_
    rotate_left 1
    · (intro w' hSw; (try dsimp only at hSw); go_simp; (try with_reducible rfl))
    try simp only [Act.put, List.setIfInBounds_toArray, List.set_cons_zero, List.set_cons_succ]
    refine wpAnyH_take (i := 14) (v := ?_) (by first | (simp only [List.getElem?_toArray, List.getElem?_cons_succ, List.getElem?_cons_zero]; rfl) | rfl) (by kernel_rfl) (by kernel_rfl) (by kernel_rfl) (fun _ _ _ h => h) (Or.inl ⟨by rfl, ?_⟩) (by assumption) ?_
    rotate_left 1
    · (intro w' hSw; (try dsimp only at hSw); go_simp; (try with_reducible rfl))
    try simp only [Act.put, List.setIfInBounds_toArray, List.set_cons_zero, List.set_cons_succ]
    refine wpAnyH_ready (rs := [15]) (by kernel_rfl) (by simp) ?_
    refine AllReadyH.cons (by first | (simp only [List.getElem?_toArray, List.getElem?_cons_succ, List.getElem?_cons_zero]; rfl) | rfl) (fun K hK => ?_) AllReadyH.nil
    go_simp
    refine (HTs.out _ HB1.out).mono ?_
    rintro e w2 ⟨rfl, hb2⟩
    dsimp only
    replace HB1 := Lib.hid (HB1.out.trans (hb2.mono HB1.out.size))
    replace HK1 := Lib.hid (HK1.out.trans (hb2.mono HK1.out.size))
    clear hb2
    refine hK.out _ _ (HSx.out _ HK1.out) (fun hHeld => ?_)
    clear hK K
    try simp only [Act.put, List.setIfInBounds_toArray, List.set_cons_zero, List.set_cons_succ]
    refine wpAnyH_take (i := 16) (v := ?_) (by first | (simp only [List.getElem?_toArray, List.getElem?_cons_succ, List.getElem?_cons_zero]; rfl) | rfl) (by kernel_rfl) (by kernel_rfl) (by kernel_rfl) (fun _ _ _ h => h) (Or.inl ⟨by rfl, ?_⟩) (by assumption) ?_
    rotate_left 1
    · (intro w' hSw; (try dsimp only at hSw); go_simp; (try with_reducible rfl))
    try simp only [Act.put, List.setIfInBounds_toArray, List.set_cons_zero, List.set_cons_succ]
    refine wpAnyH_take (i := 17) (v := ?_) (by first | (simp only [List.getElem?_toArray, List.getElem?_cons_succ, List.getElem?_cons_zero]; rfl) | rfl) (by kernel_rfl) (by kernel_rfl) (by kernel_rfl) (fun _ _ _ h => h) (Or.inl ⟨by rfl, ?_⟩) (by assumption) ?_
    rotate_left 1
    · (intro w' hSw; (try dsimp only at hSw); go_simp; (try with_reducible rfl))
    try simp only [Act.put, List.setIfInBounds_toArray, List.set_cons_zero, List.set_cons_succ]
    refine wpAnyH_take (i := 18) (v := ?_) (by first | (simp only [List.getElem?_toArray, List.getElem?_cons_succ, List.getElem?_cons_zero]; rfl) | rfl) (by kernel_rfl) (by kernel_rfl) (by kernel_rfl) (fun _ _ _ h => h) (Or.inl ⟨by rfl, ?_⟩) (by assumption) ?_
    rotate_left 1
    · (intro w' hSw; (try dsimp only at hSw); go_simp; (try with_reducible rfl))
    try simp only [Act.put, List.setIfInBounds_toArray, List.set_cons_zero, List.set_cons_succ]
    refine wpAnyH_take (i := 19) (v := ?_) (by first | (simp only [List.getElem?_toArray, List.getElem?_cons_succ, List.getElem?_cons_zero]; rfl) | rfl) (by kernel_rfl) (by kernel_rfl) (by kernel_rfl) (fun _ _ _ h => h) (Or.inl ⟨by rfl, ?_⟩) (by assumption) ?_
    rotate_left 1
    · (intro w' hSw; (try dsimp only at hSw); go_simp; (try with_reducible rfl))
    try simp only [Act.put, List.setIfInBounds_toArray, List.set_cons_zero, List.set_cons_succ]
    refine wpAnyH_take (i := 20) (v := ?_) (by first | (simp only [List.getElem?_toArray, List.getElem?_cons_succ, List.getElem?_cons_zero]; rfl) | rfl) (by kernel_rfl) (by kernel_rfl) (by kernel_rfl) (fun _ _ _ h => h) (Or.inl ⟨by rfl, ?_⟩) (by assumption) ?_
    rotate_left 1
    · (intro w' hSw; (try dsimp only at hSw); go_simp; (try with_reducible rfl))
    try simp only [Act.put, List.setIfInBounds_toArray, List.set_cons_zero, List.set_cons_succ]
    refine wpAnyH_take (i := 21) (v := ?_) (by first | (simp only [List.getElem?_toArray, List.getElem?_cons_succ, List.getElem?_cons_zero]; rfl) | rfl) (by kernel_rfl) (by kernel_rfl) (by kernel_rfl) (fun _ _ _ h => h) (Or.inl ⟨by rfl, ?_⟩) (by assumption) ?_
    rotate_left 1
    · (intro w' hSw; (try dsimp only at hSw); go_simp; (try with_reducible rfl))
    try simp only [Act.put, List.setIfInBounds_toArray, List.set_cons_zero, List.set_cons_succ]
    refine wpAnyH_take (i := 22) (v := ?_) (by first | (simp only [List.getElem?_toArray, List.getElem?_cons_succ, List.getElem?_cons_zero]; rfl) | rfl) (by kernel_rfl) (by kernel_rfl) (by kernel_rfl) (fun _ _ _ h => h) (Or.inl ⟨by rfl, ?_⟩) (by assumption) ?_
    rotate_left 1
    · (intro w' hSw; (try dsimp only at hSw); go_simp; (try with_reducible rfl))
    try simp only [Act.put, List.setIfInBounds_toArray, List.set_cons_zero, List.set_cons_succ]
    refine wpAnyH_take (i := 23) (v := ?_) (by first | (simp only [List.getElem?_toArray, List.getElem?_cons_succ, List.getElem?_cons_zero]; rfl) | rfl) (by kernel_rfl) (by kernel_rfl) (by kernel_rfl) (fun _ _ _ h => h) (Or.inl ⟨by rfl, ?_⟩) (by assumption) ?_
    rotate_left 1
    · (intro w' hSw; (try dsimp only at hSw); go_simp; (try with_reducible rfl))
    try simp only [Act.put, List.setIfInBounds_toArray, List.set_cons_zero, List.set_cons_succ]
    refine wpAnyH_take (i := 24) (v := ?_) (by first | (simp only [List.getElem?_toArray, List.getElem?_cons_succ, List.getElem?_cons_zero]; rfl) | rfl) (by kernel_rfl) (by kernel_rfl) (by kernel_rfl) (fun _ _ _ h => h) (Or.inl ⟨by rfl, ?_⟩) (by assumption) ?_
    rotate_left 1
    · (intro w' hSw; (try dsimp only at hSw); go_simp; (try with_reducible rfl))
    try simp only [Act.put, List.setIfInBounds_toArray, List.set_cons_zero, List.set_cons_succ]
    refine wpAnyH_take (i := 25) (v := ?_) (by first | (simp only [List.getElem?_toArray, List.getElem?_cons_succ, List.getElem?_cons_zero]; rfl) | rfl) (by kernel_rfl) (by kernel_rfl) (by kernel_rfl) (fun _ _ _ h => h) (Or.inl ⟨by rfl, ?_⟩) (by assumption) ?_
    rotate_left 1
    · (intro w' hSw; (try dsimp only at hSw); go_simp; (try with_reducible rfl))
    try simp only [Act.put, List.setIfInBounds_toArray, List.set_cons_zero, List.set_cons_succ]
    refine wpAnyH_take (i := 26) (v := ?_) (by first | (simp only [List.getElem?_toArray, List.getElem?_cons_succ, List.getElem?_cons_zero]; rfl) | rfl) (by kernel_rfl) (by kernel_rfl) (by kernel_rfl) (fun _ _ _ h => h) (Or.inl ⟨by rfl, ?_⟩) (by assumption) ?_
    rotate_left 1
    · (intro w' hSw; (try dsimp only at hSw); go_simp; (try with_reducible rfl))
    try simp only [Act.put, List.setIfInBounds_toArray, List.set_cons_zero, List.set_cons_succ]
    refine wpAnyH_take (i := 27) (v := ?_) (by first | (simp only [List.getElem?_toArray, List.getElem?_cons_succ, List.getElem?_cons_zero]; rfl) | rfl) (by kernel_rfl) (by kernel_rfl) (by kernel_rfl) (fun _ _ _ h => h) (Or.inl ⟨by rfl, ?_⟩) (by assumption) ?_
    rotate_left 1
    · (intro w' hSw; (try dsimp only at hSw); go_simp; (try with_reducible rfl))
    try simp only [Act.put, List.setIfInBounds_toArray, List.set_cons_zero, List.set_cons_succ]
    refine wpAnyH_take (i := 28) (v := undef) (by first | (simp only [List.getElem?_toArray, List.getElem?_cons_succ, List.getElem?_cons_zero]; rfl) | rfl) (by kernel_rfl) (by kernel_rfl) (by kernel_rfl) (fun _ _ _ h => h) (Or.inr ⟨by rfl, rfl⟩) (by assumption) ?_
    try simp only [Act.put, List.setIfInBounds_toArray, List.set_cons_zero, List.set_cons_succ]
    refine wpAnyH_take (i := 29) (v := undef) (by first | (simp only [List.getElem?_toArray, List.getElem?_cons_succ, List.getElem?_cons_zero]; rfl) | rfl) (by kernel_rfl) (by kernel_rfl) (by kernel_rfl) (fun _ _ _ h => h) (Or.inr ⟨by rfl, rfl⟩) (by assumption) ?_
    try simp only [Act.put, List.setIfInBounds_toArray, List.set_cons_zero, List.set_cons_succ]
    refine wpAnyH_take (i := 30) (v := undef) (by first | (simp only [List.getElem?_toArray, List.getElem?_cons_succ, List.getElem?_cons_zero]; rfl) | rfl) (by kernel_rfl) (by kernel_rfl) (by kernel_rfl) (fun _ _ _ h => h) (Or.inr ⟨by rfl, rfl⟩) (by assumption) ?_
    try simp only [Act.put, List.setIfInBounds_toArray, List.set_cons_zero, List.set_cons_succ]
    refine wpAnyH_take (i := 31) (v := ?_) (by first | (simp only [List.getElem?_toArray, List.getElem?_cons_succ, List.getElem?_cons_zero]; rfl) | rfl) (by kernel_rfl) (by kernel_rfl) (by kernel_rfl) (fun _ _ _ h => h) (Or.inl ⟨by rfl, ?_⟩) (by assumption) ?_
    rotate_left 1
    · (intro w' hSw; (try dsimp only at hSw); go_simp; (try with_reducible rfl))
    try simp only [Act.put, List.setIfInBounds_toArray, List.set_cons_zero, List.set_cons_succ]
    refine wpAnyH_take (i := 32) (v := ?_) (by first | (simp only [List.getElem?_toArray, List.getElem?_cons_succ, List.getElem?_cons_zero]; rfl) | rfl) (by kernel_rfl) (by kernel_rfl) (by kernel_rfl) (fun _ _ _ h => h) (Or.inl ⟨by rfl, ?_⟩) (by assumption) ?_
    rotate_left 1
    · (intro w' hSw; (try dsimp only at hSw); go_simp; (try with_reducible rfl))
    try simp only [Act.put, List.setIfInBounds_toArray, List.set_cons_zero, List.set_cons_succ]
    refine wpAnyH_done (by kernel_rfl) ?_ _
    refine HKK.out _ _ ?_
    go_wp2_with fail
    go_ret
    exact ⟨by rw [HE.out]; rfl, HB1.out⟩
  · have HE := Lib.hid (show r = stL m.bd from by rw [← HR.out]; simp [c1, c2, c3, c4, c5])
    refine wpAnyH_take (i := 0) (v := ?_) (by first | (simp only [List.getElem?_toArray, List.getElem?_cons_succ, List.getElem?_cons_zero]; rfl) | rfl) (by kernel_rfl) (by kernel_rfl) (by kernel_rfl) (fun _ _ _ h => h) (Or.inl ⟨by rfl, ?_⟩) (by assumption) ?_
    rotate_left 1
    · (intro w' hSw; (try dsimp only at hSw); go_simp; (try with_reducible rfl))
    try simp only [Act.put, List.setIfInBounds_toArray, List.set_cons_zero, List.set_cons_succ]
    refine wpAnyH_take (i := 1) (v := ?_) (by first | (simp only [List.getElem?_toArray, List.getElem?_cons_succ, List.getElem?_cons_zero]; rfl) | rfl) (by kernel_rfl) (by kernel_rfl) (by kernel_rfl) (fun _ _ _ h => h) (Or.inl ⟨by rfl, ?_⟩) (by assumption) ?_
    rotate_left 1
    · (intro w' hSw; (try dsimp only at hSw); go_simp; (try with_reducible rfl))
    try simp only [Act.put, List.setIfInBounds_toArray, List.set_cons_zero, List.set_cons_succ]
    refine wpAnyH_take (i := 3) (v := ?_) (by first | (simp only [List.getElem?_toArray, List.getElem?_cons_succ, List.getElem?_cons_zero]; rfl) | rfl) (by kernel_rfl) (by kernel_rfl) (by kernel_rfl) (fun _ _ _ h => h) (Or.inl ⟨by rfl, ?_⟩) (by assumption) ?_
    rotate_left 1
    · (intro w' hSw; (try dsimp only at hSw); go_simp; (try with_reducible rfl))
    try simp only [Act.put, List.setIfInBounds_toArray, List.set_cons_zero, List.set_cons_succ]
    refine wpAnyH_take (i := 4) (v := ?_) (by first | (simp only [List.getElem?_toArray, List.getElem?_cons_succ, List.getElem?_cons_zero]; rfl) | rfl) (by kernel_rfl) (by kernel_rfl) (by kernel_rfl) (fun _ _ _ h => h) (Or.inl ⟨by rfl, ?_⟩) (by assumption) ?_
    rotate_left 1
    · (intro w' hSw; (try dsimp only at hSw); go_simp; (try with_reducible rfl))
    try simp only [Act.put, List.setIfInBounds_toArray, List.set_cons_zero, List.set_cons_succ]
    refine wpAnyH_take (i := 5) (v := ?_) (by first | (simp only [List.getElem?_toArray, List.getElem?_cons_succ, List.getElem?_cons_zero]; rfl) | rfl) (by kernel_rfl) (by kernel_rfl) (by kernel_rfl) (fun _ _ _ h => h) (Or.inl ⟨by rfl, ?_⟩) (by assumption) ?_
    rotate_left 1
    · (intro w' hSw; (try dsimp only at hSw); go_simp; (try with_reducible rfl))
    try simp only [Act.put, List.setIfInBounds_toArray, List.set_cons_zero, List.set_cons_succ]
    refine wpAnyH_ready (rs := [2]) (by kernel_rfl) (by simp) ?_
    refine AllReadyH.cons (by first | (simp only [List.getElem?_toArray, List.getElem?_cons_succ, List.getElem?_cons_zero]; rfl) | rfl) (fun K hK => ?_) AllReadyH.nil
    go_simp
    refine (HAr.out _).mono ?_
    rintro e w2 ⟨rfl, hb2⟩
    dsimp only
    replace HB1 := Lib.hid (HB1.out.trans (hb2.mono HB1.out.size))
    replace HK1 := Lib.hid (HK1.out.trans (hb2.mono HK1.out.size))
    clear hb2
    refine hK.out _ _ (HSx.out _ HK1.out) (fun hHeld => ?_)
    clear hK K
    try simp only [Act.put, List.setIfInBounds_toArray, List.set_cons_zero, List.set_cons_succ]
    refine wpAnyH_take (i := 6) (v := ?_) (by first | (simp only [List.getElem?_toArray, List.getElem?_cons_succ, List.getElem?_cons_zero]; rfl) | rfl) (by kernel_rfl) (by kernel_rfl) (by kernel_rfl) (fun _ _ _ h => h) (Or.inl ⟨by rfl, ?_⟩) (by assumption) ?_
    rotate_left 1
    · (intro w' hSw; (try dsimp only at hSw); go_simp; (try with_reducible rfl))
    try simp only [Act.put, List.setIfInBounds_toArray, List.set_cons_zero, List.set_cons_succ]
    refine wpAnyH_take (i := 7) (v := ?_) (by first | (simp only [List.getElem?_toArray, List.getElem?_cons_succ, List.getElem?_cons_zero]; rfl) | rfl) (by kernel_rfl) (by kernel_rfl) (by kernel_rfl) (fun _ _ _ h => h) (Or.inl ⟨by rfl, ?_⟩) (by assumption) ?_
    rotate_left 1
    · (intro w' hSw; (try dsimp only at hSw); go_simp; (try with_reducible rfl))
    try simp only [Act.put, List.setIfInBounds_toArray, List.set_cons_zero, List.set_cons_succ]
    refine wpAnyH_take (i := 8) (v := ?_) (by first | (simp only [List.getElem?_toArray, List.getElem?_cons_succ, List.getElem?_cons_zero]; rfl) | rfl) (by kernel_rfl) (by kernel_rfl) (by kernel_rfl) (fun _ _ _ h => h) (Or.inl ⟨by rfl, ?_⟩) (by assumption) ?_
    rotate_left 1
    · (intro w' hSw; (try dsimp only at hSw); go_simp; (try with_reducible rfl))
    try simp only [Act.put, List.setIfInBounds_toArray, List.set_cons_zero, List.set_cons_succ]
    refine wpAnyH_take (i := 9) (v := ?_) (by first | (simp only [List.getElem?_toArray, List.getElem?_cons_succ, List.getElem?_cons_zero]; rfl) | rfl) (by kernel_rfl) (by kernel_rfl) (by kernel_rfl) (fun _ _ _ h => h) (Or.inl ⟨by rfl, ?_⟩) (by assumption) ?_
    rotate_left 1
    · (intro w' hSw; (try dsimp only at hSw); go_simp; (try with_reducible rfl))
    try simp only [Act.put, List.setIfInBounds_toArray, List.set_cons_zero, List.set_cons_succ]
    refine wpAnyH_ready (rs := [10]) (by kernel_rfl) (by simp) ?_
    refine AllReadyH.cons (by first | (simp only [List.getElem?_toArray, List.getElem?_cons_succ, List.getElem?_cons_zero]; rfl) | rfl) (fun K hK => ?_) AllReadyH.nil
    go_simp
    refine (HPs.out _ HB1.out).mono ?_
    rintro e w2 ⟨rfl, hb2⟩
    dsimp only
    replace HB1 := Lib.hid (HB1.out.trans (hb2.mono HB1.out.size))
    replace HK1 := Lib.hid (HK1.out.trans (hb2.mono HK1.out.size))
    clear hb2
    refine hK.out _ _ (HSx.out _ HK1.out) (fun hHeld => ?_)
    clear hK K
    try simp only [Act.put, List.setIfInBounds_toArray, List.set_cons_zero, List.set_cons_succ]
    refine wpAnyH_take (i := 11) (v := ?_) (by first | (simp only [List.getElem?_toArray, List.getElem?_cons_succ, List.getElem?_cons_zero]; rfl) | rfl) (by kernel_rfl) (by kernel_rfl) (by kernel_rfl) (fun _ _ _ h => h) (Or.inl ⟨by rfl, ?_⟩) (by assumption) ?_
    rotate_left 1
    · (intro w' hSw; (try dsimp only at hSw); go_simp; (try with_reducible rfl))
    try simp only [Act.put, List.setIfInBounds_toArray, List.set_cons_zero, List.set_cons_succ]
    refine wpAnyH_take (i := 12) (v := ?_) (by first | (simp only [List.getElem?_toArray, List.getElem?_cons_succ, List.getElem?_cons_zero]; rfl) | rfl) (by kernel_rfl) (by kernel_rfl) (by kernel_rfl) (fun _ _ _ h => h) (Or.inl ⟨by rfl, ?_⟩) (by assumption) ?_
    rotate_left 1
    · (intro w' hSw; (try dsimp only at hSw); go_simp; (try with_reducible rfl))
    try simp only [Act.put, List.setIfInBounds_toArray, List.set_cons_zero, List.set_cons_succ]
    refine wpAnyH_take (i := 13) (v := ?_) (by first | (simp only [List.getElem?_toArray, List.getElem?_cons_succ, List.getElem?_cons_zero]; rfl) | rfl) (by kernel_rfl) (by kernel_rfl) (by kernel_rfl) (fun _ _ _ h => h) (Or.inl ⟨by rfl, ?_⟩) (by assumption) ?_
    rotate_left 1
    · (intro w' hSw; (try dsimp only at hSw); go_simp; (try with_reducible rfl))
    try simp only [Act.put, List.setIfInBounds_toArray, List.set_cons_zero, List.set_cons_succ]
    refine wpAnyH_take (i := 14) (v := ?_) (by first | (simp only [List.getElem?_toArray, List.getElem?_cons_succ, List.getElem?_cons_zero]; rfl) | rfl) (by kernel_rfl) (by kernel_rfl) (by kernel_rfl) (fun _ _ _ h => h) (Or.inl ⟨by rfl, ?_⟩) (by assumption) ?_
    rotate_left 1
    · (intro w' hSw; (try dsimp only at hSw); go_simp; (try with_reducible rfl))
    try simp only [Act.put, List.setIfInBounds_toArray, List.set_cons_zero, List.set_cons_succ]
    refine wpAnyH_ready (rs := [15]) (by kernel_rfl) (by simp) ?_
    refine AllReadyH.cons (by first | (simp only [List.getElem?_toArray, List.getElem?_cons_succ, List.getElem?_cons_zero]; rfl) | rfl) (fun K hK => ?_) AllReadyH.nil
    go_simp
    refine (HTs.out _ HB1.out).mono ?_
    rintro e w2 ⟨rfl, hb2⟩
    dsimp only
    replace HB1 := Lib.hid (HB1.out.trans (hb2.mono HB1.out.size))
    replace HK1 := Lib.hid (HK1.out.trans (hb2.mono HK1.out.size))
    clear hb2
    refine hK.out _ _ (HSx.out _ HK1.out) (fun hHeld => ?_)
    clear hK K
    try simp only [Act.put, List.setIfInBounds_toArray, List.set_cons_zero, List.set_cons_succ]
    refine wpAnyH_take (i := 16) (v := ?_) (by first | (simp only [List.getElem?_toArray, List.getElem?_cons_succ, List.getElem?_cons_zero]; rfl) | rfl) (by kernel_rfl) (by kernel_rfl) (by kernel_rfl) (fun _ _ _ h => h) (Or.inl ⟨by rfl, ?_⟩) (by assumption) ?_
    rotate_left 1
    · (intro w' hSw; (try dsimp only at hSw); go_simp; (try with_reducible rfl))
    try simp only [Act.put, List.setIfInBounds_toArray, List.set_cons_zero, List.set_cons_succ]
    refine wpAnyH_take (i := 17) (v := ?_) (by first | (simp only [List.getElem?_toArray, List.getElem?_cons_succ, List.getElem?_cons_zero]; rfl) | rfl) (by kernel_rfl) (by kernel_rfl) (by kernel_rfl) (fun _ _ _ h => h) (Or.inl ⟨by rfl, ?_⟩) (by assumption) ?_
    rotate_left 1
    · (intro w' hSw; (try dsimp only at hSw); go_simp; (try with_reducible rfl))
    try simp only [Act.put, List.setIfInBounds_toArray, List.set_cons_zero, List.set_cons_succ]
    refine wpAnyH_take (i := 18) (v := ?_) (by first | (simp only [List.getElem?_toArray, List.getElem?_cons_succ, List.getElem?_cons_zero]; rfl) | rfl) (by kernel_rfl) (by kernel_rfl) (by kernel_rfl) (fun _ _ _ h => h) (Or.inl ⟨by rfl, ?_⟩) (by assumption) ?_
    rotate_left 1
    · (intro w' hSw; (try dsimp only at hSw); go_simp; (try with_reducible rfl))
    try simp only [Act.put, List.setIfInBounds_toArray, List.set_cons_zero, List.set_cons_succ]
    refine wpAnyH_take (i := 19) (v := ?_) (by first | (simp only [List.getElem?_toArray, List.getElem?_cons_succ, List.getElem?_cons_zero]; rfl) | rfl) (by kernel_rfl) (by kernel_rfl) (by kernel_rfl) (fun _ _ _ h => h) (Or.inl ⟨by rfl, ?_⟩) (by assumption) ?_
    rotate_left 1
    · (intro w' hSw; (try dsimp only at hSw); go_simp; (try with_reducible rfl))
    try simp only [Act.put, List.setIfInBounds_toArray, List.set_cons_zero, List.set_cons_succ]
    refine wpAnyH_take (i := 20) (v := ?_) (by first | (simp only [List.getElem?_toArray, List.getElem?_cons_succ, List.getElem?_cons_zero]; rfl) | rfl) (by kernel_rfl) (by kernel_rfl) (by kernel_rfl) (fun _ _ _ h => h) (Or.inl ⟨by rfl, ?_⟩) (by assumption) ?_
    rotate_left 1
    · (intro w' hSw; (try dsimp only at hSw); go_simp; (try with_reducible rfl))
    try simp only [Act.put, List.setIfInBounds_toArray, List.set_cons_zero, List.set_cons_succ]
    refine wpAnyH_take (i := 21) (v := ?_) (by first | (simp only [List.getElem?_toArray, List.getElem?_cons_succ, List.getElem?_cons_zero]; rfl) | rfl) (by kernel_rfl) (by kernel_rfl) (by kernel_rfl) (fun _ _ _ h => h) (Or.inl ⟨by rfl, ?_⟩) (by assumption) ?_
    rotate_left 1
    · (intro w' hSw; (try dsimp only at hSw); go_simp; (try with_reducible rfl))
    try simp only [Act.put, List.setIfInBounds_toArray, List.set_cons_zero, List.set_cons_succ]
    refine wpAnyH_take (i := 22) (v := ?_) (by first | (simp only [List.getElem?_toArray, List.getElem?_cons_succ, List.getElem?_cons_zero]; rfl) | rfl) (by kernel_rfl) (by kernel_rfl) (by kernel_rfl) (fun _ _ _ h => h) (Or.inl ⟨by rfl, ?_⟩) (by assumption) ?_
    rotate_left 1
    · (intro w' hSw; (try dsimp only at hSw); go_simp; (try with_reducible rfl))
    try simp only [Act.put, List.setIfInBounds_toArray, List.set_cons_zero, List.set_cons_succ]
    refine wpAnyH_take (i := 23) (v := ?_) (by first | (simp only [List.getElem?_toArray, List.getElem?_cons_succ, List.getElem?_cons_zero]; rfl) | rfl) (by kernel_rfl) (by kernel_rfl) (by kernel_rfl) (fun _ _ _ h => h) (Or.inl ⟨by rfl, ?_⟩) (by assumption) ?_
    rotate_left 1
    · (intro w' hSw; (try dsimp only at hSw); go_simp; (try with_reducible rfl))
    try simp only [Act.put, List.setIfInBounds_toArray, List.set_cons_zero, List.set_cons_succ]
    refine wpAnyH_take (i := 24) (v := ?_) (by first | (simp only [List.getElem?_toArray, List.getElem?_cons_succ, List.getElem?_cons_zero]; rfl) | rfl) (by kernel_rfl) (by kernel_rfl) (by kernel_rfl) (fun _ _ _ h => h) (Or.inl ⟨by rfl, ?_⟩) (by assumption) ?_
    rotate_left 1
    · (intro w' hSw; (try dsimp only at hSw); go_simp; (try with_reducible rfl))
    try simp only [Act.put, List.setIfInBounds_toArray, List.set_cons_zero, List.set_cons_succ]
    refine wpAnyH_take (i := 25) (v := ?_) (by first | (simp only [List.getElem?_toArray, List.getElem?_cons_succ, List.getElem?_cons_zero]; rfl) | rfl) (by kernel_rfl) (by kernel_rfl) (by kernel_rfl) (fun _ _ _ h => h) (Or.inl ⟨by rfl, ?_⟩) (by assumption) ?_
    rotate_left 1
    · (intro w' hSw; (try dsimp only at hSw); go_simp; (try with_reducible rfl))
    try simp only [Act.put, List.setIfInBounds_toArray, List.set_cons_zero, List.set_cons_succ]
    refine wpAnyH_take (i := 26) (v := ?_) (by first | (simp only [List.getElem?_toArray, List.getElem?_cons_succ, List.getElem?_cons_zero]; rfl) | rfl) (by kernel_rfl) (by kernel_rfl) (by kernel_rfl) (fun _ _ _ h => h) (Or.inl ⟨by rfl, ?_⟩) (by assumption) ?_
    rotate_left 1
    · (intro w' hSw; (try dsimp only at hSw); go_simp; (try with_reducible rfl))
    try simp only [Act.put, List.setIfInBounds_toArray, List.set_cons_zero, List.set_cons_succ]
    refine wpAnyH_take (i := 27) (v := ?_) (by first | (simp only [List.getElem?_toArray, List.getElem?_cons_succ, List.getElem?_cons_zero]; rfl) | rfl) (by kernel_rfl) (by kernel_rfl) (by kernel_rfl) (fun _ _ _ h => h) (Or.inl ⟨by rfl, ?_⟩) (by assumption) ?_
    rotate_left 1
    · (intro w' hSw; (try dsimp only at hSw); go_simp; (try with_reducible rfl))
    try simp only [Act.put, List.setIfInBounds_toArray, List.set_cons_zero, List.set_cons_succ]
    refine wpAnyH_take (i := 28) (v := ?_) (by first | (simp only [List.getElem?_toArray, List.getElem?_cons_succ, List.getElem?_cons_zero]; rfl) | rfl) (by kernel_rfl) (by kernel_rfl) (by kernel_rfl) (fun _ _ _ h => h) (Or.inl ⟨by rfl, ?_⟩) (by assumption) ?_
    rotate_left 1
    · (intro w' hSw; (try dsimp only at hSw); go_simp; (try with_reducible rfl))
    try simp only [Act.put, List.setIfInBounds_toArray, List.set_cons_zero, List.set_cons_succ]
    refine wpAnyH_take (i := 29) (v := ?_) (by first | (simp only [List.getElem?_toArray, List.getElem?_cons_succ, List.getElem?_cons_zero]; rfl) | rfl) (by kernel_rfl) (by kernel_rfl) (by kernel_rfl) (fun _ _ _ h => h) (Or.inl ⟨by rfl, ?_⟩) (by assumption) ?_
    rotate_left 1
    · (intro w' hSw; (try dsimp only at hSw); go_simp; (try with_reducible rfl))
    try simp only [Act.put, List.setIfInBounds_toArray, List.set_cons_zero, List.set_cons_succ]
    refine wpAnyH_ready (rs := [30]) (by kernel_rfl) (by simp) ?_
    refine AllReadyH.cons (by first | (simp only [List.getElem?_toArray, List.getElem?_cons_succ, List.getElem?_cons_zero]; rfl) | rfl) (fun K hK => ?_) AllReadyH.nil
    go_simp
    refine (HST.out _ HB1.out).mono ?_
    rintro e w2 ⟨rfl, hb2⟩
    dsimp only
    replace HB1 := Lib.hid (HB1.out.trans (hb2.mono HB1.out.size))
    replace HK1 := Lib.hid (HK1.out.trans (hb2.mono HK1.out.size))
    clear hb2
    refine hK.out _ _ (HSx.out _ HK1.out) (fun hHeld => ?_)
    clear hK K
    try simp only [Act.put, List.setIfInBounds_toArray, List.set_cons_zero, List.set_cons_succ]
    refine wpAnyH_take (i := 31) (v := ?_) (by first | (simp only [List.getElem?_toArray, List.getElem?_cons_succ, List.getElem?_cons_zero]; rfl) | rfl) (by kernel_rfl) (by kernel_rfl) (by kernel_rfl) (fun _ _ _ h => h) (Or.inl ⟨by rfl, ?_⟩) (by assumption) ?_
    rotate_left 1
    · (intro w' hSw; (try dsimp only at hSw); go_simp; (try with_reducible rfl))
    try simp only [Act.put, List.setIfInBounds_toArray, List.set_cons_zero, List.set_cons_succ]
    refine wpAnyH_take (i := 32) (v := ?_) (by first | (simp only [List.getElem?_toArray, List.getElem?_cons_succ, List.getElem?_cons_zero]; rfl) | rfl) (by kernel_rfl) (by kernel_rfl) (by kernel_rfl) (fun _ _ _ h => h) (Or.inl ⟨by rfl, ?_⟩) (by assumption) ?_
    rotate_left 1
    · (intro w' hSw; (try dsimp only at hSw); go_simp; (try with_reducible rfl))
    try simp only [Act.put, List.setIfInBounds_toArray, List.set_cons_zero, List.set_cons_succ]
    refine wpAnyH_done (by kernel_rfl) ?_ _
    refine HKK.out _ _ ?_
    go_wp2_with fail
    go_ret
    exact ⟨by rw [HE.out]; rfl, HB1.out⟩
end Go.Proofs.YtfcceojfcmgmlaaGreatDoor.Fl

/-
  The program's Check of any method.
-/
namespace Go.Proofs.YtfcceojfcmgmlaaGreatDoor.Fl
open Go.RowKit Go.Shelf

set_option maxRecDepth 100000 in
set_option maxHeartbeats 8000000 in
theorem check10_any (m : Me) (v : Value) (B : Nat) (w : World) (h : MeAt w (Lo B) v m) (hB : B ≤ w.heap.size) (hn : NkM m) (hs : cntL m.bd ≤ 10000000) :
    Calls Tryz.prog 10 #[v] w fun e w' => e = .returned (.int .i64 (checkM m)) ∧ Below w.heap.size w w' := by
  have HM := Lib.hid (fun (w' : World) (hb : Below w.heap.size w w') => meth_any m v B w' (h.below (hb.mono hB) (Nat.le_refl _)) (Nat.le_trans hB hb.size) hn)
  have HW1 := Lib.hid (fun (w' : World) (hb : Below w.heap.size w w') => wshM_any m v B w' (h.below (hb.mono hB) (Nat.le_refl _)) (Nat.le_trans hB hb.size))
  have HW2 := Lib.hid (fun (w' : World) (hb : Below w.heap.size w w') => wsmM_any m v B w' (h.below (hb.mono hB) (Nat.le_refl _)) (Nat.le_trans hB hb.size))
  have HD := Lib.hid (fun (w' : World) (hb : Below w.heap.size w w') => depthM_any m v B w' (h.below (hb.mono hB) (Nat.le_refl _)) (Nat.le_trans hB hb.size) hs)
  obtain ⟨Ap, cp, At, ct, Ab, cb, rfl, -⟩ := h.ex
  have hdd := depL_cnt m.bd
  clear h hn hB
  obtain ⟨W1, hW1⟩ : ∃ W, w.alloc (.cells #[.string (mkB m.nm), .slice Ap m.ps.length cp, .slice At m.ts.length ct, .int .i64 m.pr, .slice Ab m.bd.length cb, .int .i64 m.at_] 30) = W := ⟨_, rfl⟩
  obtain ⟨X, hX⟩ : ∃ X, w.heap.size = X := ⟨_, rfl⟩
  have hb1 : Below w.heap.size w W1 := by rw [← hW1]; exact (Below.refl _ _).alloc (Nat.le_refl _) _
  have hx1 : W1.heap[X]? = some (.cells #[.string (mkB m.nm), .slice Ap m.ps.length cp, .slice At m.ts.length ct, .int .i64 m.pr, .slice Ab m.bd.length cb, .int .i64 m.at_] 30 (0, 0)) := by
    rw [← hW1, ← hX]; exact heap_alloc_new w _
  obtain ⟨r, hr⟩ : ∃ r, checkM m = r := ⟨_, rfl⟩
  rw [hr]
  have HR := Lib.hid hr
  unfold checkM at HR
  have HB1 := Lib.hid hb1
  obtain ⟨t1, ht1⟩ : ∃ t, methB m = t := ⟨_, rfl⟩
  obtain ⟨t2, ht2⟩ : ∃ t, (allL m.bd).all shrtN = t := ⟨_, rfl⟩
  obtain ⟨t3, ht3⟩ : ∃ t, (allL m.bd).all smalN = t := ⟨_, rfl⟩
  rw [ht1] at HM HR
  rw [ht2] at HW1 HR
  rw [ht3] at HW2 HR
  clear ht1 ht2 ht3 hr
  generalize depL m.bd = d at *
  go_enter Tryz.func10, Tryz.ntmps10
  go_upto_region 1 with fail
  try simp only [hW1, hX]
  clear hW1 hX hb1
  have f1 := cells6T hx1
  have l1 := lt_of_blk hx1
  cases t1
  · have HE := Lib.hid (show r = 3 from by rw [← HR.out]; simp [])
    go_wp2_with (go_at_call 25; refine (HM.out _ HB1.out).mono ?_; rintro e w2 ⟨rfl, hb2⟩; replace HB1 := Lib.hid (HB1.out.trans (hb2.mono HB1.out.size)); replace hx1 := (hb2.block _ l1).trans hx1; replace f1 := cells6T hx1; replace l1 := lt_of_blk hx1; clear hb2)
    all_goals go_ret
    all_goals exact ⟨by rw [HE.out]; rfl, HB1.out⟩
  cases t2
  · have HE := Lib.hid (show r = 2 from by rw [← HR.out]; simp [])
    go_wp2_with (first
      | (go_at_call 25; refine (HM.out _ HB1.out).mono ?_; rintro e w2 ⟨rfl, hb2⟩; replace HB1 := Lib.hid (HB1.out.trans (hb2.mono HB1.out.size)); replace hx1 := (hb2.block _ l1).trans hx1; replace f1 := cells6T hx1; replace l1 := lt_of_blk hx1; clear hb2)
      | (go_at_call 21; refine (HW1.out _ HB1.out).mono ?_; rintro e w2 ⟨rfl, hb2⟩; replace HB1 := Lib.hid (HB1.out.trans (hb2.mono HB1.out.size)); replace hx1 := (hb2.block _ l1).trans hx1; replace f1 := cells6T hx1; replace l1 := lt_of_blk hx1; clear hb2; clear HW1)
      )
    all_goals go_ret
    all_goals exact ⟨by rw [HE.out]; rfl, HB1.out⟩
  cases t3
  · have HE := Lib.hid (show r = 9 from by rw [← HR.out]; simp [])
    go_wp2_with (first
      | (go_at_call 25; refine (HM.out _ HB1.out).mono ?_; rintro e w2 ⟨rfl, hb2⟩; replace HB1 := Lib.hid (HB1.out.trans (hb2.mono HB1.out.size)); replace hx1 := (hb2.block _ l1).trans hx1; replace f1 := cells6T hx1; replace l1 := lt_of_blk hx1; clear hb2)
      | (go_at_call 21; refine (HW1.out _ HB1.out).mono ?_; rintro e w2 ⟨rfl, hb2⟩; replace HB1 := Lib.hid (HB1.out.trans (hb2.mono HB1.out.size)); replace hx1 := (hb2.block _ l1).trans hx1; replace f1 := cells6T hx1; replace l1 := lt_of_blk hx1; clear hb2; clear HW1)
      | (go_at_call 21; refine (HW2.out _ HB1.out).mono ?_; rintro e w2 ⟨rfl, hb2⟩; replace HB1 := Lib.hid (HB1.out.trans (hb2.mono HB1.out.size)); replace hx1 := (hb2.block _ l1).trans hx1; replace f1 := cells6T hx1; replace l1 := lt_of_blk hx1; clear hb2)
      )
    all_goals go_ret
    all_goals exact ⟨by rw [HE.out]; rfl, HB1.out⟩
  by_cases hd : (40 : Int) < (d : Int)
  · have HE := Lib.hid (show r = 10 from by rw [← HR.out]; simp; omega)
    go_wp2_with (first
      | (go_at_call 25; refine (HM.out _ HB1.out).mono ?_; rintro e w2 ⟨rfl, hb2⟩; replace HB1 := Lib.hid (HB1.out.trans (hb2.mono HB1.out.size)); replace hx1 := (hb2.block _ l1).trans hx1; replace f1 := cells6T hx1; replace l1 := lt_of_blk hx1; clear hb2)
      | (go_at_call 21; refine (HW1.out _ HB1.out).mono ?_; rintro e w2 ⟨rfl, hb2⟩; replace HB1 := Lib.hid (HB1.out.trans (hb2.mono HB1.out.size)); replace hx1 := (hb2.block _ l1).trans hx1; replace f1 := cells6T hx1; replace l1 := lt_of_blk hx1; clear hb2; clear HW1)
      | (go_at_call 21; refine (HW2.out _ HB1.out).mono ?_; rintro e w2 ⟨rfl, hb2⟩; replace HB1 := Lib.hid (HB1.out.trans (hb2.mono HB1.out.size)); replace hx1 := (hb2.block _ l1).trans hx1; replace f1 := cells6T hx1; replace l1 := lt_of_blk hx1; clear hb2)
      | (go_at_call 12; refine (HD.out _ HB1.out).mono ?_; rintro e w2 ⟨rfl, hb2⟩; replace HB1 := Lib.hid (HB1.out.trans (hb2.mono HB1.out.size)); replace hx1 := (hb2.block _ l1).trans hx1; replace f1 := cells6T hx1; replace l1 := lt_of_blk hx1; clear hb2)
      )
    all_goals go_ret
    all_goals exact ⟨by rw [HE.out]; rfl, HB1.out⟩
  · have HE := Lib.hid (show r = 0 from by rw [← HR.out]; simp; omega)
    go_wp2_with (first
      | (go_at_call 25; refine (HM.out _ HB1.out).mono ?_; rintro e w2 ⟨rfl, hb2⟩; replace HB1 := Lib.hid (HB1.out.trans (hb2.mono HB1.out.size)); replace hx1 := (hb2.block _ l1).trans hx1; replace f1 := cells6T hx1; replace l1 := lt_of_blk hx1; clear hb2)
      | (go_at_call 21; refine (HW1.out _ HB1.out).mono ?_; rintro e w2 ⟨rfl, hb2⟩; replace HB1 := Lib.hid (HB1.out.trans (hb2.mono HB1.out.size)); replace hx1 := (hb2.block _ l1).trans hx1; replace f1 := cells6T hx1; replace l1 := lt_of_blk hx1; clear hb2; clear HW1)
      | (go_at_call 21; refine (HW2.out _ HB1.out).mono ?_; rintro e w2 ⟨rfl, hb2⟩; replace HB1 := Lib.hid (HB1.out.trans (hb2.mono HB1.out.size)); replace hx1 := (hb2.block _ l1).trans hx1; replace f1 := cells6T hx1; replace l1 := lt_of_blk hx1; clear hb2)
      | (go_at_call 12; refine (HD.out _ HB1.out).mono ?_; rintro e w2 ⟨rfl, hb2⟩; replace HB1 := Lib.hid (HB1.out.trans (hb2.mono HB1.out.size)); replace hx1 := (hb2.block _ l1).trans hx1; replace f1 := cells6T hx1; replace l1 := lt_of_blk hx1; clear hb2)
      )
    all_goals go_ret
    all_goals exact ⟨by rw [HE.out]; rfl, HB1.out⟩
end Go.Proofs.YtfcceojfcmgmlaaGreatDoor.Fl

/-
  The program's printer: a builder within a struct; what is put into it.
-/
namespace Go.Proofs.YtfcceojfcmgmlaaGreatDoor.Fl
open Go.RowKit Go.Shelf

/-- a printer of a block of the call's own that holds these bytes -/
abbrev PrAt (w : World) (B b : Nat) (p : Value) (l : List UInt8) : Prop := Lib.BuilderAt 69 5 B b p (Lib.byteCells l) w
def PrIs (w : World) (B b : Nat) (l : List UInt8) : Prop := Lib.IsBuilder 69 5 B b (Lib.byteCells l) w
theorem PrIs.at_ {w : World} {B b : Nat} {l : List UInt8} (h : PrIs w B b l) : ∃ p, PrAt w B b p l := by
  rcases h with h | h
  · exact ⟨_, h⟩
  · exact ⟨_, h⟩
theorem PrAt.below {w w' : World} {B b : Nat} {p : Value} {l : List UInt8} (h : PrAt w B b p l) (hb : Below w.heap.size w w') : PrAt w' B b p l := by
  obtain ⟨hB, v, hbk, hown, hne⟩ := h
  exact ⟨hB, v, (hb.block b (lt_of_blk hbk)).trans hbk, ⟨hown.1, hown.2.elim .inl fun ⟨g, cap, cur, hv, hbg, hg, r⟩ => .inr ⟨g, cap, cur, hv, hbg, (hb.block g (lt_of_blk hg)).trans hg, r⟩⟩, hne⟩
theorem PrIs.below {w w' : World} {B b : Nat} {l : List UInt8} (h : PrIs w B b l) (hb : Below w.heap.size w w') : PrIs w' B b l := by
  rcases h with h | h
  · exact .inl (PrAt.below h hb)
  · exact .inr (PrAt.below h hb)
/-- what is neither a printer nor a row of bytes is as it was -/
def KpP (w w' : World) : Prop := w.heap.size ≤ w'.heap.size ∧ ∀ (k : Nat) (cs : Array Value) (T : TypeId) (fr : Nat × Nat), w.heap[k]? = some (Obj.cells cs T fr) → T ≠ 69 → T ≠ 5 → w'.heap[k]? = some (Obj.cells cs T fr)
theorem KpP.refl (w : World) : KpP w w := ⟨Nat.le_refl _, fun _ _ _ _ h _ _ => h⟩
theorem KpP.trans {w1 w2 w3 : World} (h : KpP w1 w2) (h' : KpP w2 w3) : KpP w1 w3 := ⟨Nat.le_trans h.1 h'.1, fun k cs T fr hk h1 h2 => h'.2 k cs T fr (h.2 k cs T fr hk h1 h2) h1 h2⟩
theorem KpP.cell {w : World} {b : Nat} {cs : Array Value} {fr : Nat × Nat} (hb : w.heap[b]? = some (.cells cs 69 fr)) (k : Nat) (x : Value) : KpP w (w.setCell ⟨b, k, none⟩ x) := by
  refine ⟨((Below.refl b w).setCell (p := ⟨b, k, none⟩) (Nat.le_refl _) x).size, fun j cs' T fr' hj h1 _ => ?_⟩
  have hne : j ≠ b := fun e => by
    subst e
    rw [hb] at hj
    injection hj with hj
    injection hj with _ hj _
    exact h1 hj.symm
  exact (Below.heap_setCell w ⟨b, k, none⟩ x j hne).trans hj
theorem KpP.of {w w' : World} (h : Below w.heap.size w w') : KpP w w' := ⟨h.size, fun k cs T fr hk _ _ => (h.block k (lt_of_blk hk)).trans hk⟩
set_option maxRecDepth 100000 in
set_option maxHeartbeats 1000000 in
theorem checkP_fresh (b : Nat) (w : World) (h0 : w.cell? ⟨b, 0, none⟩ = some (.pointer none)) (hsh : w.shape? b = some (69, 2)) (hfz : w.frozen? ⟨b, 0, none⟩ = false) :
    Calls Tryz.prog 82 #[.pointer (some ⟨b, 0, none⟩)] w fun e w' => e = .returned (.tuple #[]) ∧ w' = w.setCell ⟨b, 0, none⟩ (.pointer (some ⟨b, 0, none⟩)) := by
  obtain ⟨j, hj, hjs⟩ := Option.map_eq_some_iff.1 (show (Tryz.prog.info? 67).map (·.size) = some 2 by kernel_rfl)
  have hl : liesAt Tryz.prog Tryz.prog.depth 69 (2 / Tryz.prog.cellsOf 69) 0 67 1 = true := by kernel_rfl
  go_enter Tryz.func82, Tryz.ntmps82
  go_wp2_with fail
  rw [Lib.run_to_unsafe w ⟨b, 0, none⟩ Tryz.underlying64 Tryz.underlying115 hj (by rw [hjs]; decide) hsh (Nat.zero_lt_succ 1)]
  simp only [Result.andThen]
  rw [Oper.upon_value]
  go_wp2_with fail
  rw [run_callFunc_extern Tryz.func104 (by kernel_rfl) (by kernel_rfl) (by kernel_rfl) (e := Extern.AbiNoEscape.same) (by kernel_rfl)]
  rw [Lib.run_noEscape]
  simp only [Result.andThen]
  rw [Oper.upon_value]
  go_wp2_with fail
  rw [Lib.run_from_unsafe w ⟨b, 0, none⟩ Tryz.underlying115 Tryz.underlying64 hj hsh hl]
  simp only [Result.andThen]
  rw [Oper.upon_value]
  go_wp2_with fail
  try (rw [Lib.run_neq_ptr_same _ _ Tryz.underlying64 hj]; go_wp2_with fail)
  go_end0
  exact ⟨rfl, rfl⟩
theorem checkP_any (B b : Nat) (l : List UInt8) (w : World) (h : PrIs w B b l) :
    Calls Tryz.prog 82 #[.pointer (some ⟨b, 0, none⟩)] w fun e w' => e = .returned (.tuple #[]) ∧ PrAt w' B b (.pointer (some ⟨b, 0, none⟩)) l ∧ Below B w w' ∧ KpP w w' := by
  rcases h with h | h
  · refine (checkP_fresh b w h.cell0 h.shape h.frozen0).mono ?_
    rintro e w' ⟨rfl, rfl⟩
    refine ⟨rfl, h.used _, (Below.refl B w).setCell (p := ⟨b, 0, none⟩) h.1 _, ?_⟩
    obtain ⟨_, v, hbk, _⟩ := h
    exact KpP.cell hbk 0 _
  · refine (copyCheck_used b w h.cell0).mono ?_
    rintro e w' ⟨rfl, rfl⟩
    exact ⟨rfl, h, Below.refl B _, KpP.refl _⟩
set_option maxRecDepth 100000 in
set_option maxHeartbeats 1000000 in
theorem writeP_any (B b : Nat) (l : List UInt8) (s : ByteArray) (w : World) (h : PrIs w B b l) (hlen : l.length + s.size ≤ 140737488355328) (hBw : B ≤ w.heap.size) :
    Calls Tryz.prog 61 #[.pointer (some ⟨b, 0, none⟩), .string s] w fun e w' => e = .returned (.tuple #[.int .i64 s.size, .nilIface]) ∧ PrIs w' B b (l ++ sb s) ∧ Below B w w' ∧ KpP w w' := by
  obtain ⟨i0, hi, hz0, hz1, hz2⟩ := info_parts u8infoL
  have hcc := checkP_any B b l w h
  clear h
  go_enter Tryz.func61, Tryz.ntmps61
  go_wp2_with fail
  refine hcc.mono ?_
  rintro e w1 ⟨rfl, h, hb1, hk1⟩
  clear hcc
  have HB1 := Lib.hid hb1
  have HK1 := Lib.hid hk1
  have hBw1 : B ≤ w1.heap.size := Nat.le_trans hBw hb1.size
  obtain ⟨hB, v, hbk, hown, hne⟩ := h
  have c1 : w1.cell? ⟨b, 1, none⟩ = some v := by rw [Lib.cell_of_heap hbk]; rfl
  have hlb : (Lib.byteCells l).length = l.length := Lib.byteCells_length l
  rw [hlb] at hown
  have HOw := Lib.hid hown
  have HBk := Lib.hid hbk
  have HNe := Lib.hid hne
  clear hown hbk hne hlb hb1 hk1
  go_wp2_with (at_builtin; refine Lib.wpList_append_own_string _ rfl _ _ 65 9 rfl B 5 i0 Tryz.underlying65 Tryz.underlying9 hi hz0 hz1 hz2 _ _ _ rfl HOw.out s rfl ?c3 ?c4 ?c5 ?_)
  case c3 => unfold maxLen; omega
  case c4 => omega
  case c5 => exact hBw1
  intro v' w2 hown' hgrow _
  have hlt := lt_of_blk HBk.out
  have hb2 : w2.heap[b]? = some (.cells #[.pointer (some ⟨b, 0, none⟩), v] 69 (0, 0)) := (hgrow.block b hlt (fun e => HNe.out e.symm)).trans HBk.out
  have d0 : w2.cell? ⟨b, 0, none⟩ = some (.pointer (some ⟨b, 0, none⟩)) := by rw [Lib.cell_of_heap hb2]; rfl
  have d1 : w2.cell? ⟨b, 1, none⟩ = some v := by rw [Lib.cell_of_heap hb2]; rfl
  have f1 : w2.frozen? ⟨b, 1, none⟩ = false := Lib.frozen_of_heap hb2 1
  have hlt2 := lt_of_blk hb2
  obtain ⟨ao, n', cap, rfl⟩ : ∃ ao n' cap, v' = .slice ao n' cap := by
    rcases hown'.2 with ⟨hv, _⟩ | ⟨g, cap, cur, hv, _⟩
    · exact ⟨_, _, _, hv⟩
    · exact ⟨_, _, _, hv⟩
  have HO2 := Lib.hid hown'
  have HG2 := Lib.hid hgrow
  have HB2 := Lib.hid hb2
  clear hown' hgrow hb2
  go_wp2_with fail
  go_ret2
  refine ⟨rfl, .inr ?_, ?_, HK1.out.trans ?_⟩
  · have h9 := Lib.BuilderAt.put (T := 69) (e := 5) hB HB2.out (bs' := Lib.byteCells l ++ Lib.strCells s) (by have := HO2.out; simpa [Lib.strCells_length, Lib.byteCells_length] using this) (by decide)
    rw [strCells_sb, ← Lib.byteCells_append] at h9
    exact h9
  · exact HB1.out.trans (((Below.refl B w1).grown HG2.out hBw1 (fun k hk => (HOw.out.lt k hk).1)).setCell (p := ⟨b, 1, none⟩) hB _)
  · refine KpP.trans (w2 := w2) ⟨((Below.refl B w1).grown HG2.out hBw1 (fun k hk => (HOw.out.lt k hk).1)).size, fun k cs T fr hk h1 h2 => (HG2.out.block k (lt_of_blk hk) (own_ne HOw.out hk h2).symm).trans hk⟩ (KpP.cell HB2.out 1 _)
end Go.Proofs.YtfcceojfcmgmlaaGreatDoor.Fl

/-
  So many parts, with a text between: the program's each.
-/
namespace Go.Proofs.YtfcceojfcmgmlaaGreatDoor.Fl
open Go.RowKit Go.Shelf

/-- texts with one between -/
def joinT (bt : List UInt8) (t : Nat → List UInt8) : Nat → List UInt8
  | 0 => []
  | n + 1 => joinT bt t n ++ ((if n = 0 then [] else bt) ++ t n)
theorem joinT_le (bt : List UInt8) (t : Nat → List UInt8) {i : Nat} : ∀ {n : Nat}, i ≤ n → (joinT bt t i).length ≤ (joinT bt t n).length
  | 0, h => by rw [Nat.le_zero.1 h]; exact Nat.le_refl _
  | n + 1, h => by
    rcases Nat.lt_or_ge n i with h1 | h1
    · rw [show i = n + 1 by omega]; exact Nat.le_refl _
    · have := joinT_le bt t h1
      rw [joinT, List.length_append]; omega
/-- what a part of the printer does: it writes this -/
def PrPost (B b : Nat) (w : World) (l : List UInt8) (e : Ending) (w' : World) : Prop := e = .returned (.tuple #[]) ∧ PrIs w' B b l ∧ Below B w w' ∧ KpP w w'
theorem mk_sz (l : List UInt8) : (mkB l).size = l.length := by simp [mkB, ByteArray.size]
theorem sb_mkB (l : List UInt8) : sb (mkB l) = l := by simp [sb, mkB]
set_option maxRecDepth 100000 in
set_option maxHeartbeats 8000000 in
theorem each_msg (q0 q1 q2 : Nat) (B b n : Nat) (bt : List UInt8) (t : Nat → List UInt8) (acc : List UInt8) (w : World) (h : PrIs w B b acc) (hB : B ≤ w.heap.size) (hn : n ≤ 100000000) (hl : (acc ++ joinT bt t n).length ≤ 1000000000)
    (HF : ∀ (i : Nat) (w' : World) (l : List UInt8), i < n → Below B w w' → KpP w w' → PrIs w' B b l → l.length + (t i).length ≤ 1000000000 → Calls Tryz.prog 81 #[.int .i64 (i : Int), .pointer (some ⟨q0, 0, none⟩), .pointer (some ⟨q1, 0, none⟩), .pointer (some ⟨q2, 0, none⟩)] w' (PrPost B b w' (l ++ t i))) :
    Calls Tryz.prog 80 #[.pointer (some ⟨b, 0, none⟩), .int .i64 (n : Int), .string (mkB bt), .func (.func 81) #[] #[.pointer (some ⟨q0, 0, none⟩), .pointer (some ⟨q1, 0, none⟩), .pointer (some ⟨q2, 0, none⟩)]] w (PrPost B b w (acc ++ joinT bt t n)) := by
  have HF := Lib.hid HF
  have HW := Lib.hid h
  clear h
  go_enter Tryz.func80, Tryz.ntmps80
  go_wp2_with fail
  go_loopw [10] (fun v wr => ∃ i : Nat, i ≤ n ∧ v = .int .i64 (i : Int) ∧ Hid (PrIs wr B b (acc ++ joinT bt t i)) ∧ Hid (Below B w wr ∧ KpP w wr)) (fun v _ => n - (intOf v).toNat)
  case atStart => exact ⟨0, Nat.zero_le _, rfl, Lib.hid (by rw [joinT, List.append_nil]; exact HW.out), Lib.hid ⟨Below.refl _ _, KpP.refl _⟩⟩
  case round =>
    obtain ⟨i, hi, rfl, HT, HB⟩ := hrel
    by_cases hlt : i < n
    case neg =>
      have e : i = n := by omega
      have hq : ¬ ((i : Int) < (n : Int)) := by omega
      rw [e] at HT
      go_wp2_with fail
      go_end0
      exact ⟨rfl, HT.out, HB.out.1, HB.out.2⟩
    have hq : (i : Int) < (n : Int) := by omega
    have hBr : B ≤ wr.heap.size := Nat.le_trans hB HB.out.2.1
    have hle := joinT_le bt t (show i + 1 ≤ n from hlt)
    have hj : joinT bt t (i + 1) = joinT bt t i ++ ((if i = 0 then [] else bt) ++ t i) := rfl
    rw [hj, List.length_append, List.length_append] at hle
    rw [List.length_append] at hl
    have HJ := Lib.hid hj
    clear hj
    by_cases h0 : i = 0
    · subst h0
      have hcl := HF.out 0 wr (acc ++ joinT bt t 0) hlt HB.out.1 HB.out.2 HT.out (by rw [List.length_append]; simp at hle; omega)
      have hq0 : ¬ (0 : Int) < 0 := by omega
      go_wp2_with (go_at_call 81; refine hcl.mono ?_; rintro e w2 ⟨rfl, hp, hb2, hk2⟩; have HP := Lib.hid hp; have HB2 := Lib.hid (And.intro (HB.out.1.trans hb2) (HB.out.2.trans hk2)); clear hcl hp hb2 hk2)
      go_roundw
      case rel => exact ⟨1, by omega, by simp, Lib.hid (by rw [show (1 : Nat) = 0 + 1 from rfl, HJ.out]; simpa [joinT] using HP.out), HB2⟩
      case measure => simp [intOf]; omega
    · have hq0 : (0 : Int) < (i : Int) := by omega
      rw [if_neg h0] at hle HJ
      have hwr := writeP_any B b (acc ++ joinT bt t i) (mkB bt) wr HT.out (by rw [mk_sz, List.length_append]; omega) hBr
      have hlen2 : (acc ++ joinT bt t i ++ bt).length + (t i).length ≤ 1000000000 := by rw [List.length_append, List.length_append]; omega
      go_wp2_with (first
        | (go_at_call 61; refine hwr.mono ?_; rintro e w2 ⟨rfl, hp, hb2, hk2⟩; rw [sb_mkB] at hp; have hcl := HF.out i w2 (acc ++ joinT bt t i ++ bt) hlt (HB.out.1.trans hb2) (HB.out.2.trans hk2) hp hlen2; have HB2 := Lib.hid (And.intro (HB.out.1.trans hb2) (HB.out.2.trans hk2)); clear hwr hp hb2 hk2)
        | (go_at_call 81; refine hcl.mono ?_; rintro e w3 ⟨rfl, hp, hb3, hk3⟩; have HP := Lib.hid hp; have HB3 := Lib.hid (And.intro (HB2.out.1.trans hb3) (HB2.out.2.trans hk3)); clear hcl hp hb3 hk3))
      go_roundw
      case rel => exact ⟨i + 1, by omega, by simp, Lib.hid (by rw [HJ.out]; simpa [List.append_assoc] using HP.out), HB3⟩
      case measure => simp [intOf]; omega
set_option maxRecDepth 100000 in
set_option maxHeartbeats 8000000 in
theorem each_st (q0 q1 : Nat) (B b n : Nat) (bt : List UInt8) (t : Nat → List UInt8) (acc : List UInt8) (w : World) (h : PrIs w B b acc) (hB : B ≤ w.heap.size) (hn : n ≤ 100000000) (hl : (acc ++ joinT bt t n).length ≤ 1000000000)
    (HF : ∀ (i : Nat) (w' : World) (l : List UInt8), i < n → Below B w w' → KpP w w' → PrIs w' B b l → l.length + (t i).length ≤ 1000000000 → Calls Tryz.prog 85 #[.int .i64 (i : Int), .pointer (some ⟨q0, 0, none⟩), .pointer (some ⟨q1, 0, none⟩)] w' (PrPost B b w' (l ++ t i))) :
    Calls Tryz.prog 80 #[.pointer (some ⟨b, 0, none⟩), .int .i64 (n : Int), .string (mkB bt), .func (.func 85) #[] #[.pointer (some ⟨q0, 0, none⟩), .pointer (some ⟨q1, 0, none⟩)]] w (PrPost B b w (acc ++ joinT bt t n)) := by
  have HF := Lib.hid HF
  have HW := Lib.hid h
  clear h
  go_enter Tryz.func80, Tryz.ntmps80
  go_wp2_with fail
  go_loopw [10] (fun v wr => ∃ i : Nat, i ≤ n ∧ v = .int .i64 (i : Int) ∧ Hid (PrIs wr B b (acc ++ joinT bt t i)) ∧ Hid (Below B w wr ∧ KpP w wr)) (fun v _ => n - (intOf v).toNat)
  case atStart => exact ⟨0, Nat.zero_le _, rfl, Lib.hid (by rw [joinT, List.append_nil]; exact HW.out), Lib.hid ⟨Below.refl _ _, KpP.refl _⟩⟩
  case round =>
    obtain ⟨i, hi, rfl, HT, HB⟩ := hrel
    by_cases hlt : i < n
    case neg =>
      have e : i = n := by omega
      have hq : ¬ ((i : Int) < (n : Int)) := by omega
      rw [e] at HT
      go_wp2_with fail
      go_end0
      exact ⟨rfl, HT.out, HB.out.1, HB.out.2⟩
    have hq : (i : Int) < (n : Int) := by omega
    have hBr : B ≤ wr.heap.size := Nat.le_trans hB HB.out.2.1
    have hle := joinT_le bt t (show i + 1 ≤ n from hlt)
    have hj : joinT bt t (i + 1) = joinT bt t i ++ ((if i = 0 then [] else bt) ++ t i) := rfl
    rw [hj, List.length_append, List.length_append] at hle
    rw [List.length_append] at hl
    have HJ := Lib.hid hj
    clear hj
    by_cases h0 : i = 0
    · subst h0
      have hcl := HF.out 0 wr (acc ++ joinT bt t 0) hlt HB.out.1 HB.out.2 HT.out (by rw [List.length_append]; simp at hle; omega)
      have hq0 : ¬ (0 : Int) < 0 := by omega
      go_wp2_with (go_at_call 85; refine hcl.mono ?_; rintro e w2 ⟨rfl, hp, hb2, hk2⟩; have HP := Lib.hid hp; have HB2 := Lib.hid (And.intro (HB.out.1.trans hb2) (HB.out.2.trans hk2)); clear hcl hp hb2 hk2)
      go_roundw
      case rel => exact ⟨1, by omega, by simp, Lib.hid (by rw [show (1 : Nat) = 0 + 1 from rfl, HJ.out]; simpa [joinT] using HP.out), HB2⟩
      case measure => simp [intOf]; omega
    · have hq0 : (0 : Int) < (i : Int) := by omega
      rw [if_neg h0] at hle HJ
      have hwr := writeP_any B b (acc ++ joinT bt t i) (mkB bt) wr HT.out (by rw [mk_sz, List.length_append]; omega) hBr
      have hlen2 : (acc ++ joinT bt t i ++ bt).length + (t i).length ≤ 1000000000 := by rw [List.length_append, List.length_append]; omega
      go_wp2_with (first
        | (go_at_call 61; refine hwr.mono ?_; rintro e w2 ⟨rfl, hp, hb2, hk2⟩; rw [sb_mkB] at hp; have hcl := HF.out i w2 (acc ++ joinT bt t i ++ bt) hlt (HB.out.1.trans hb2) (HB.out.2.trans hk2) hp hlen2; have HB2 := Lib.hid (And.intro (HB.out.1.trans hb2) (HB.out.2.trans hk2)); clear hwr hp hb2 hk2)
        | (go_at_call 85; refine hcl.mono ?_; rintro e w3 ⟨rfl, hp, hb3, hk3⟩; have HP := Lib.hid hp; have HB3 := Lib.hid (And.intro (HB2.out.1.trans hb3) (HB2.out.2.trans hk3)); clear hcl hp hb3 hk3))
      go_roundw
      case rel => exact ⟨i + 1, by omega, by simp, Lib.hid (by rw [HJ.out]; simpa [List.append_assoc] using HP.out), HB3⟩
      case measure => simp [intOf]; omega
end Go.Proofs.YtfcceojfcmgmlaaGreatDoor.Fl

/-
  Where brackets must be.
-/
namespace Go.Proofs.YtfcceojfcmgmlaaGreatDoor.Fl
open Go.RowKit Go.Shelf

def keyB (l : List UInt8) : Bool := Lib.hasSuffix l [58]
def opB (l : List UInt8) : Bool := arityL (mkB l) == 1 && !keyB l
/-- does such a node stand in brackets? -/
def braB (x : Nd) (tight : Bool) : Bool := if x.kd = 6 then true else if x.kd = 8 then true else if x.kd = 7 then keyB x.nm || (tight && opB x.nm) else false
theorem isKey_any (l : List UInt8) (w : World) (hs : l.length ≤ 16777216) :
    Calls Tryz.prog 165 #[.string (mkB l)] w fun e w' => e = .returned (.bool (keyB l)) ∧ Below w.heap.size w w' := by
  have h := Tryz.strings_HasSuffix (mkB l) ⟨#[58]⟩ w (by rw [mk_sz]; omega)
  have e1 : Lib.hasSuffix (mkB l).data.toList (⟨#[58]⟩ : ByteArray).data.toList = keyB l := by simp [keyB, mkB]
  rw [e1] at h
  go_enter Tryz.func165, Tryz.ntmps165
  go_wp2_with (go_at_call 177; refine h.mono ?_; rintro e w' ⟨rfl, rfl⟩)
  go_ret
  exact ⟨rfl, Below.refl _ _⟩
theorem isOp_any (l : List UInt8) (w : World) (hs : l.length ≤ 16777216) :
    Calls Tryz.prog 151 #[.string (mkB l)] w fun e w' => e = .returned (.bool (opB l)) ∧ Below w.heap.size w w' := by
  have ha := arity_any (mkB l) w (by rw [mk_sz]; exact hs)
  have HKw := Lib.hid (fun (w' : World) => isKey_any l w' hs)
  obtain ⟨r, hr⟩ : ∃ r, opB l = r := ⟨_, rfl⟩
  rw [hr]
  have HR := Lib.hid hr
  unfold opB at HR
  clear hr
  generalize arityL (mkB l) = ar at *
  go_enter Tryz.func151, Tryz.ntmps151
  cases c1 : (ar == 1)
  · have HE := Lib.hid (show r = false from by rw [← HR.out]; simp [c1])
    go_wp2_with (go_at_call 49; refine ha.mono ?_; rintro e w2 ⟨rfl, hb2⟩; have HB2 := Lib.hid hb2; clear ha hb2)
    go_ret
    exact ⟨by rw [HE.out]; rfl, HB2.out⟩
  · have HE := Lib.hid (show r = !keyB l from by rw [← HR.out]; simp [c1])
    go_wp2_with (first
      | (go_at_call 49; refine ha.mono ?_; rintro e w2 ⟨rfl, hb2⟩; have HB2 := Lib.hid hb2; clear ha hb2)
      | (go_at_call 165; refine (HKw.out _).mono ?_; rintro e w3 ⟨rfl, hb3⟩; have HB3 := Lib.hid (HB2.out.trans (hb3.mono HB2.out.size)); clear hb3))
    go_ret
    exact ⟨by rw [HE.out]; rfl, HB3.out⟩
set_option maxRecDepth 100000 in
set_option maxHeartbeats 4000000 in
theorem bra_any (x : Nd) (tight : Bool) (Ak : Option Addr) (ck : Nat) (An : Option Addr) (cn : Nat) (w : World) (hs : x.nm.length ≤ 16777216) :
    Calls Tryz.prog 150 #[.agg #[.int .i64 x.kd, .string (mkB x.nm), .int .i64 x.nu, .slice Ak x.kids.length ck, .slice An x.ns.length cn, .int .i64 x.at_], .bool tight] w fun e w' => e = .returned (.bool (braB x tight)) ∧ Below w.heap.size w w' := by
  obtain ⟨W1, hW1⟩ : ∃ W, w.alloc (.cells #[.int .i64 x.kd, .string (mkB x.nm), .int .i64 x.nu, .slice Ak x.kids.length ck, .slice An x.ns.length cn, .int .i64 x.at_] 47) = W := ⟨_, rfl⟩
  obtain ⟨X, hX⟩ : ∃ X, w.heap.size = X := ⟨_, rfl⟩
  have hb1 : Below w.heap.size w W1 := by rw [← hW1]; exact (Below.refl _ _).alloc (Nat.le_refl _) _
  have hx1 : W1.heap[X]? = some (.cells #[.int .i64 x.kd, .string (mkB x.nm), .int .i64 x.nu, .slice Ak x.kids.length ck, .slice An x.ns.length cn, .int .i64 x.at_] 47 (0, 0)) := by
    rw [← hW1, ← hX]; exact heap_alloc_new w _
  have HB1 := Lib.hid hb1
  obtain ⟨r, hr⟩ : ∃ r, braB x tight = r := ⟨_, rfl⟩
  rw [hr]
  have HR := Lib.hid hr
  clear hr
  have HKw := Lib.hid (fun (w' : World) => isKey_any x.nm w' hs)
  have HOp := Lib.hid (fun (w' : World) => isOp_any x.nm w' hs)
  unfold braB at HR
  go_enter Tryz.func150, Tryz.ntmps150
  go_upto_region 1 with fail
  try simp only [hW1, hX]
  clear hW1 hX hb1
  have f1 := cells6T hx1
  have l1 := lt_of_blk hx1
  by_cases h6 : x.kd = 6
  · have HE := Lib.hid (show r = true from by rw [← HR.out]; simp [h6])
    go_wp2_with fail
    all_goals go_ret
    all_goals exact ⟨by rw [HE.out]; rfl, HB1.out⟩
  by_cases h8 : x.kd = 8
  · have HE := Lib.hid (show r = true from by rw [← HR.out]; simp [h6, h8])
    go_wp2_with fail
    all_goals go_ret
    all_goals exact ⟨by rw [HE.out]; rfl, HB1.out⟩
  by_cases h7 : x.kd = 7
  · cases k1 : keyB x.nm
    · cases tight
      · have HE := Lib.hid (show r = false from by rw [← HR.out]; simp [h7, k1])
        go_wp2_with (go_at_call 165; refine (HKw.out _).mono ?_; rintro e w2 ⟨rfl, hb2⟩; replace HB1 := Lib.hid (HB1.out.trans (hb2.mono HB1.out.size)); replace hx1 := (hb2.block _ l1).trans hx1; replace f1 := cells6T hx1; replace l1 := lt_of_blk hx1; clear hb2)
        all_goals go_ret
        all_goals exact ⟨by rw [HE.out]; rfl, HB1.out⟩
      · have HE := Lib.hid (show r = opB x.nm from by rw [← HR.out]; simp [h7, k1])
        go_wp2_with (first
          | (go_at_call 165; refine (HKw.out _).mono ?_; rintro e w2 ⟨rfl, hb2⟩; replace HB1 := Lib.hid (HB1.out.trans (hb2.mono HB1.out.size)); replace hx1 := (hb2.block _ l1).trans hx1; replace f1 := cells6T hx1; replace l1 := lt_of_blk hx1; clear hb2)
          | (go_at_call 151; refine (HOp.out _).mono ?_; rintro e w2 ⟨rfl, hb2⟩; replace HB1 := Lib.hid (HB1.out.trans (hb2.mono HB1.out.size)); replace hx1 := (hb2.block _ l1).trans hx1; replace f1 := cells6T hx1; replace l1 := lt_of_blk hx1; clear hb2)
          )
        all_goals go_ret
        all_goals exact ⟨by rw [HE.out]; rfl, HB1.out⟩
    · have HE := Lib.hid (show r = true from by rw [← HR.out]; simp [h7, k1])
      go_wp2_with (go_at_call 165; refine (HKw.out _).mono ?_; rintro e w2 ⟨rfl, hb2⟩; replace HB1 := Lib.hid (HB1.out.trans (hb2.mono HB1.out.size)); replace hx1 := (hb2.block _ l1).trans hx1; replace f1 := cells6T hx1; replace l1 := lt_of_blk hx1; clear hb2)
      all_goals go_ret
      all_goals exact ⟨by rw [HE.out]; rfl, HB1.out⟩
  have HE := Lib.hid (show r = false from by rw [← HR.out]; simp [h6, h8, h7])
  go_wp2_with fail
  all_goals go_ret
  all_goals exact ⟨by rw [HE.out]; rfl, HB1.out⟩
end Go.Proofs.YtfcceojfcmgmlaaGreatDoor.Fl
