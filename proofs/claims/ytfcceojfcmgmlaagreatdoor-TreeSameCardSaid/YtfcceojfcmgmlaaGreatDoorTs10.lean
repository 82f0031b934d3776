/-
  What stands in brackets, and what is with a message.
-/
import Derived.Test.YtfcceojfcmgmlaaGreatDoorTs9
import Derived.Deep.RegionWith
namespace Go.Proofs.YtfcceojfcmgmlaaGreatDoor.Fl
open Go.RowKit Go.Shelf

/-- a receiver's, or an argument's text -/
def opT (x : Nd) (tight : Bool) (t : List UInt8) : List UInt8 := if braB x tight then 40 :: (t ++ [41]) else t
set_option maxRecDepth 100000 in
set_option maxHeartbeats 8000000 in
theorem operand_any (x : Nd) (tight : Bool) (t : List UInt8) (hy : Prints x t) (hs : x.nm.length ≤ 16777216) (B b : Nat) (acc : List UInt8) (v : Value) (w : World) (hv : NvAt w (Lo B) v x) (hp : PrIs w B b acc) (hB : B ≤ w.heap.size) (hE : ∀ w', Below B w w' → EnvL w') (hl : acc.length + (opT x tight t).length ≤ 1000000000) :
    Calls Tryz.prog 132 #[.pointer (some ⟨b, 0, none⟩), v, .bool tight] w (PrPost B b w (acc ++ opT x tight t)) := by
  have hy := Lib.hid hy
  have HV := Lib.hid (fun (w' : World) (hbb : Below B w w') => hv.below hbb (Nat.le_refl _))
  obtain ⟨Ak, ck, An, cn, rfl, g1, g2, g3, g4, g5, g6, g7, g8⟩ := hv
  clear g1 g2 g3 g4 g5 g6 g7 g8
  have HBa := Lib.hid (fun (w' : World) => bra_any x tight Ak ck An cn w' hs)
  obtain ⟨W1, hW1⟩ : ∃ W, w.alloc (.cells #[.int .i64 x.kd, .string (mkB x.nm), .int .i64 x.nu, .slice Ak x.kids.length ck, .slice An x.ns.length cn, .int .i64 x.at_] 47) = W := ⟨_, rfl⟩
  obtain ⟨X, hX⟩ : ∃ X, w.heap.size = X := ⟨_, rfl⟩
  have hb1 : Below w.heap.size w W1 := by rw [← hW1]; exact (Below.refl _ _).alloc (Nat.le_refl _) _
  have hx1 : W1.heap[X]? = some (.cells #[.int .i64 x.kd, .string (mkB x.nm), .int .i64 x.nu, .slice Ak x.kids.length ck, .slice An x.ns.length cn, .int .i64 x.at_] 47 (0, 0)) := by
    rw [← hW1, ← hX]; exact heap_alloc_new w _
  have hp1 := PrIs.below hp hb1
  have hB1 : B ≤ W1.heap.size := Nat.le_trans hB hb1.size
  have HK1 := Lib.hid (And.intro (hb1.mono hB) (KpP.of hb1))
  have HB1 := Lib.hid hb1
  go_enter Tryz.func132, Tryz.ntmps132
  go_upto_region 1 with fail
  try simp only [hW1, hX]
  clear hW1 hX hb1
  have f1 := cells6T hx1
  have l1 := lt_of_blk hx1
  have HE := Lib.hid hE
  have HI := Lib.hid hp1
  clear hE hp hp1
  cases hb : braB x tight
  · have hl2 : acc.length + t.length ≤ 1000000000 := by rw [show opT x tight t = t by unfold opT; rw [hb]; rfl] at hl; exact hl
    clear hl
    go_wp2_with (first
      | (go_at_call 150; refine (HBa.out _).mono ?_; rintro e w2 ⟨rfl, hb2⟩
         have hx2 := (hb2.block X l1).trans hx1
         have f2 := cells6T hx2
         have l2 := lt_of_blk hx2
         have HB2 := Lib.hid (And.intro (HK1.out.1.trans (hb2.mono hB1)) (HK1.out.2.trans (KpP.of hb2)))
         have hcl := hy.out B b acc _ w2 (HV.out _ HB2.out.1) (PrIs.below HI.out hb2) (Nat.le_trans hB HB2.out.1.size) (fun w' hb => HE.out w' (HB2.out.1.trans hb)) (by omega)
         clear hb2 f1 l1)
      | (go_at_call 86; refine hcl.mono ?_; rintro e w3 ⟨rfl, hp3, hb3, hk3⟩; have HP3 := Lib.hid hp3; have HB3 := Lib.hid (And.intro (HB2.out.1.trans hb3) (HB2.out.2.trans hk3)); clear hcl hp3 hb3 hk3))
    all_goals go_end0
    all_goals exact ⟨rfl, by rw [show opT x tight t = t by unfold opT; rw [hb]; rfl]; exact HP3.out, HB3.out.1, HB3.out.2⟩
  · have hl2 : acc.length + (t.length + 2) ≤ 1000000000 := by rw [show opT x tight t = 40 :: (t ++ [41]) by unfold opT; rw [hb]; rfl] at hl; simpa using hl
    clear hl
    go_wp2_with (first
      | (go_at_call 150; refine (HBa.out _).mono ?_; rintro e w2 ⟨rfl, hb2⟩
         have hx2 := (hb2.block X l1).trans hx1
         have HB2 := Lib.hid (And.intro (HK1.out.1.trans (hb2.mono hB1)) (HK1.out.2.trans (KpP.of hb2)))
         have hwr := writeP_any B b acc (mkB [40]) w2 (PrIs.below HI.out hb2) (by rw [mk_sz]; simp; omega) (Nat.le_trans hB HB2.out.1.size)
         rw [sb_mkB] at hwr
         clear hb2 f1 l1)
      | (go_at_call 61; refine hwr.mono ?_; rintro e w3 ⟨rfl, hp3, hb3, hk3⟩
         have hx3 := hk3.2 X _ _ _ hx2 (by decide) (by decide)
         have f3 := cells6T hx3
         have l3 := lt_of_blk hx3
         have HB3 := Lib.hid (And.intro (HB2.out.1.trans hb3) (HB2.out.2.trans hk3))
         have hcl := hy.out B b (acc ++ [40]) _ w3 (HV.out _ HB3.out.1) hp3 (Nat.le_trans hB HB3.out.1.size) (fun w' hb => HE.out w' (HB3.out.1.trans hb)) (by rw [List.length_append]; simp; omega)
         clear hwr hp3 hb3 hk3)
      | (go_at_call 86; refine hcl.mono ?_; rintro e w4 ⟨rfl, hp4, hb4, hk4⟩
         have HB4 := Lib.hid (And.intro (HB3.out.1.trans hb4) (HB3.out.2.trans hk4))
         have hwq := writeP_any B b (acc ++ [40] ++ t) (mkB [41]) w4 hp4 (by rw [mk_sz, List.length_append, List.length_append]; simp; omega) (Nat.le_trans hB HB4.out.1.size)
         rw [sb_mkB] at hwq
         clear hcl hp4 hb4 hk4)
      | (go_at_call 61; refine hwq.mono ?_; rintro e w5 ⟨rfl, hp5, hb5, hk5⟩; have HP5 := Lib.hid hp5; have HB5 := Lib.hid (And.intro (HB4.out.1.trans hb5) (HB4.out.2.trans hk5)); clear hwq hp5 hb5 hk5))
    all_goals go_end0
    all_goals exact ⟨rfl, by rw [show opT x tight t = 40 :: (t ++ [41]) by unfold opT; rw [hb]; rfl]; simpa using HP5.out, HB5.out.1, HB5.out.2⟩
set_option maxRecDepth 100000 in
set_option maxHeartbeats 8000000 in
theorem sent1_any (x : Nd) (Ak : Option Addr) (ck : Nat) (An : Option Addr) (cn : Nat) (P X T b B i j : Nat) (tight : Bool) (tx acc : List UInt8) (w : World) (hp : PrIs w B b acc) (hB : B ≤ w.heap.size) (hj : j = i + 1) (hi : j < x.kids.length)
    (hP : w.heap[P]? = some (.cells #[.pointer (some ⟨b, 0, none⟩)] 63 (0, 0))) (hX : w.heap[X]? = some (.cells #[.int .i64 x.kd, .string (mkB x.nm), .int .i64 x.nu, .slice Ak x.kids.length ck, .slice An x.ns.length cn, .int .i64 x.at_] 47 (0, 0))) (hT : w.heap[T]? = some (.cells #[.bool tight] 4 (0, 0)))
    (hN : NdsAt w (Lo B) Ak x.kids) (hck : x.kids.length ≤ ck) (hcc : ck ≤ 9223372036854775807) (hy : Prints x.kids[j] tx) (hs : x.kids[j].nm.length ≤ 16777216) (hE : ∀ w', Below B w w' → EnvL w') (hl : acc.length + (opT x.kids[j] tight tx).length ≤ 1000000000) :
    Calls Tryz.prog 152 #[.int .i64 (i : Int), .pointer (some ⟨P, 0, none⟩), .pointer (some ⟨X, 0, none⟩), .pointer (some ⟨T, 0, none⟩)] w (PrPost B b w (acc ++ opT x.kids[j] tight tx)) := by
  obtain ⟨b0, o, rfl, hb0, Ak0, ck0, An0, cn0, d0, d1, d2, d3, d4, d5, g1, g2, g3, g4, g5, g6, g7, g8⟩ := hN.at_ hi
  have hb0 : b0 < B := hb0
  have hb0w : b0 < w.heap.size := Nat.lt_of_lt_of_le hb0 hB
  have hk0 : K0 w b0 (o + j * 6) x.kids[j] Ak0 ck0 An0 cn0 := ⟨d0, d1, d2, d3, d4, d5⟩
  have hcl := operand_any x.kids[j] tight tx hy hs B b acc (.agg #[.int .i64 x.kids[j].kd, .string (mkB x.kids[j].nm), .int .i64 x.kids[j].nu, .slice Ak0 x.kids[j].kids.length ck0, .slice An0 x.kids[j].ns.length cn0, .int .i64 x.kids[j].at_]) w.drew ⟨Ak0, ck0, An0, cn0, rfl, g1, g2, g3, g4, g5.below (Below.refl _ _).drew (Nat.le_refl _), g6.below (Below.refl _ _).drew (Nat.le_refl _), g7, g8⟩ (PrIs.below hp (Below.refl _ _).drew) hB (fun w' hb => hE w' ((Below.refl B w).drew.trans hb)) hl
  have hii : (j : Int) < (x.kids.length : Int) := by omega
  have hw : IntKind.i64.wrap ((i : Int) + 1) = (j : Int) := by rw [IntKind.wrap_i64]; omega
  clear hj
  have HS : Hid (∀ w' : World, Below B w w' → KpP w w' → (w'.cell? ⟨P, 0, none⟩ = some (.pointer (some ⟨b, 0, none⟩)) ∧ w'.cell? ⟨X, 3, none⟩ = some (.slice (some ⟨b0, o, none⟩) x.kids.length ck) ∧ w'.cell? ⟨T, 0, none⟩ = some (.bool tight) ∧ K0 w' b0 (o + j * 6) x.kids[j] Ak0 ck0 An0 cn0)) := Lib.hid (fun w' hb hk =>
    ⟨(cells1T (hk.2 P _ _ _ hP (by decide) (by decide))).1, (cells6T (hk.2 X _ _ _ hX (by decide) (by decide))).2.2.2.1, (cells1T (hk.2 T _ _ _ hT (by decide) (by decide))).1, hk0.below hb hb0⟩)
  clear d0 d1 d2 d3 d4 d5 g1 g2 g3 g4 g5 g6 g7 g8 hk0 hN hy hs hE hp hP hX hT
  generalize x.kids[j] = y at *
  unfold K0 at HS
  have HD := Lib.hid (show Below B w w.drew ∧ KpP w w.drew from ⟨(Below.refl _ _).drew, Nat.le_refl _, fun k cs T fr hk _ _ => hk⟩)
  go_enter Tryz.func152, Tryz.ntmps152
  go_upto_region 0 with fail
  go_region_held3 (fun w' : World => w'.cell? ⟨P, 0, none⟩ = some (.pointer (some ⟨b, 0, none⟩)) ∧ w'.cell? ⟨X, 3, none⟩ = some (.slice (some ⟨b0, o, none⟩) x.kids.length ck) ∧ w'.cell? ⟨T, 0, none⟩ = some (.bool tight) ∧
      w'.cell? ⟨b0, o + j * 6, none⟩ = some (.int .i64 y.kd) ∧ w'.cell? ⟨b0, o + j * 6 + 1, none⟩ = some (.string (mkB y.nm)) ∧ w'.cell? ⟨b0, o + j * 6 + 2, none⟩ = some (.int .i64 y.nu) ∧ w'.cell? ⟨b0, o + j * 6 + 3, none⟩ = some (.slice Ak0 y.kids.length ck0) ∧ w'.cell? ⟨b0, o + j * 6 + 4, none⟩ = some (.slice An0 y.ns.length cn0) ∧ w'.cell? ⟨b0, o + j * 6 + 5, none⟩ = some (.int .i64 y.at_))
    (first
      | exact HS.out _ HD.out.1 HD.out.2
      | exact HS.out _ HB2.out.1 HB2.out.2)
    (first
      | (go_at_call 132; refine hcl.mono ?_; rintro e w2 ⟨rfl, hp2, hb2, hk2⟩; have HP2 := Lib.hid hp2; have HB2 := Lib.hid (And.intro (HD.out.1.trans hb2) (HD.out.2.trans hk2)); clear hcl hp2 hb2 hk2))
  all_goals go_end0
  all_goals exact ⟨rfl, HP2.out, HB2.out.1, HB2.out.2⟩
end Go.Proofs.YtfcceojfcmgmlaaGreatDoor.Fl

/-
  What is sent: a message with its arguments.
-/
namespace Go.Proofs.YtfcceojfcmgmlaaGreatDoor.Fl
open Go.RowKit Go.Shelf

/-- an argument's text -/
def argT (x : Nd) (t : Nat → List UInt8) (i : Nat) : List UInt8 := if h : i + 1 < x.kids.length then opT x.kids[i + 1] (opB x.nm) (t i) else []
set_option maxRecDepth 100000 in
set_option maxHeartbeats 8000000 in
theorem sent_any (x : Nd) (n : Nat) (t : Nat → List UInt8) (har : arityL (mkB x.nm) = (n : Int)) (hn0 : 0 < n) (hlen : x.kids.length = n + 1) (hpl : n ≤ (spA x.nm).length)
    (hys : ∀ (i : Nat) (h : i + 1 < x.kids.length), Prints x.kids[i + 1] (t i) ∧ x.kids[i + 1].nm.length ≤ 16777216) (hnm : x.nm.length ≤ 16777216) (B b : Nat) (acc : List UInt8) (v : Value) (w : World) (hv : NvAt w (Lo B) v x) (hp : PrIs w B b acc) (hB : B ≤ w.heap.size)
    (hE : ∀ w', Below B w w' → EnvL w') (hl : (acc ++ joinT [32] (prtT x.nm (argT x t)) n).length ≤ 1000000000) :
    Calls Tryz.prog 133 #[.pointer (some ⟨b, 0, none⟩), v] w (PrPost B b w (acc ++ joinT [32] (prtT x.nm (argT x t)) n)) := by
  obtain ⟨Ak, ck, An, cn, rfl, g1, g2, g3, g4, g5, g6, g7, g8⟩ := hv
  clear g5 g7 g8
  obtain ⟨P, hP⟩ : ∃ P, w.heap.size = P := ⟨_, rfl⟩
  obtain ⟨W1, hW1⟩ : ∃ W, (w.alloc (.cells #[.pointer (some ⟨b, 0, none⟩)] 63)).alloc (.cells #[.int .i64 x.kd, .string (mkB x.nm), .int .i64 x.nu, .slice Ak x.kids.length ck, .slice An x.ns.length cn, .int .i64 x.at_] 47) = W := ⟨_, rfl⟩
  obtain ⟨qp, qx, hb1⟩ := boxes2T w _ _ W1 hW1
  rw [hP] at qp qx
  have HOp := Lib.hid (fun (w' : World) => isOp_any x.nm w' hnm)
  have HB1 := Lib.hid hb1
  have HX := Lib.hid hP
  have HW := Lib.hid hW1
  have HI := Lib.hid hp
  have HN := Lib.hid g6
  have HY := Lib.hid hys
  have HE := Lib.hid hE
  have HA := Lib.hid har
  have HL := Lib.hid hl
  have HLn := Lib.hid hlen
  clear hlen hb1 hP hW1 hp g6 hys hE har hl
  go_enter Tryz.func133, Tryz.ntmps133
  go_upto_region 1 with fail
  have hP := HX.out
  have hW1 := HW.out
  try simp only [hW1]
  try simp only [hP]
  clear hW1 hP
  have f0 := (cells1T qp).1
  have f1 := cells6T qx
  have l0 := lt_of_blk qp
  have l1 := lt_of_blk qx
  go_upto_region 2 with (go_at_call 151; refine (HOp.out _).mono ?_; rintro e w2 ⟨rfl, hb2⟩; have HB2 := Lib.hid (HB1.out.trans (hb2.mono HB1.out.size)); have qp2 := (hb2.block P (lt_of_blk qp)).trans qp; have qx2 := (hb2.block (P + 1) (lt_of_blk qx)).trans qx; clear hb2)
  obtain ⟨T, hT⟩ : ∃ T, w2.heap.size = T := ⟨_, rfl⟩
  obtain ⟨W4, hW4⟩ : ∃ W, w2.alloc (.cells #[.bool (opB x.nm)] 4) = W := ⟨_, rfl⟩
  have hb4 : Below w2.heap.size w2 W4 := by rw [← hW4]; exact (Below.refl _ _).alloc (Nat.le_refl _) _
  have qt : W4.heap[T]? = some (.cells #[.bool (opB x.nm)] 4 (0, 0)) := by rw [← hW4, ← hT]; exact heap_alloc_new w2 _
  have qp4 := (hb4.block P (lt_of_blk qp2)).trans qp2
  have qx4 := (hb4.block (P + 1) (lt_of_blk qx2)).trans qx2
  have HB4 := Lib.hid (HB2.out.trans (hb4.mono HB2.out.size))
  have hB4 : B ≤ W4.heap.size := Nat.le_trans hB HB4.out.size
  have hcall := message_sent P (P + 1) T B b n x.nm (argT x t) acc W4 (PrIs.below HI.out HB4.out) hB4 hnm HA.out hn0 hpl HL.out
    (fun i w' l hi hb hk hp hln => by
      have hi2 : i + 1 < x.kids.length := by have := HLn.out; omega
      have e1 : argT x t i = opT x.kids[i + 1] (opB x.nm) (t i) := by unfold argT; rw [dif_pos hi2]
      rw [e1] at hln ⊢
      exact sent1_any x Ak ck An cn P (P + 1) T b B i (i + 1) (opB x.nm) (t i) l w' hp (Nat.le_trans hB4 hb.size) rfl hi2 (hk.2 P _ _ _ qp4 (by decide) (by decide)) (hk.2 (P + 1) _ _ _ qx4 (by decide) (by decide)) (hk.2 T _ _ _ qt (by decide) (by decide))
        (HN.out.below ((HB4.out.mono hB).trans hb) (Nat.le_refl _)) g1 g3 (HY.out i hi2).1 (HY.out i hi2).2 (fun w2 hb2 => HE.out w2 (((HB4.out.mono hB).trans hb).trans hb2)) hln)
  have f4 := (cells1T qp4).1
  have f5 := cells6T qx4
  have l4 := lt_of_blk qp4
  have l5 := lt_of_blk qx4
  try simp only [hW4]
  try simp only [hT]
  clear f0 f1 l0 l1 qp qx qp2 qx2
  go_wp2_with (go_at_call 59; refine hcall.mono ?_; rintro e w5 ⟨rfl, hp5, hb5, hk5⟩; have HP5 := Lib.hid hp5; have HB5 := Lib.hid (And.intro ((HB4.out.mono hB).trans hb5) ((KpP.of HB4.out).trans hk5)); clear hcall hp5 hb5 hk5)
  go_end0
  exact ⟨rfl, HP5.out, HB5.out.1, HB5.out.2⟩
end Go.Proofs.YtfcceojfcmgmlaaGreatDoor.Fl

/-
  A message's receiver, and the message: the program's send.
-/
namespace Go.Proofs.YtfcceojfcmgmlaaGreatDoor.Fl
open Go.RowKit Go.Shelf

theorem KpP.drew_ (w : World) : KpP w w.drew := ⟨Nat.le_refl _, fun _ _ _ _ hk _ _ => hk⟩
set_option maxRecDepth 100000 in
set_option maxHeartbeats 8000000 in
theorem send_txt (x : Nd) (n : Nat) (t0 : List UInt8) (t : Nat → List UInt8) (har : arityL (mkB x.nm) = (n : Int)) (hn0 : 0 < n) (hlen : x.kids.length = n + 1) (hpl : n ≤ (spA x.nm).length) (hl0 : 0 < x.kids.length)
    (hy0 : Prints x.kids[0] t0) (hs0 : x.kids[0].nm.length ≤ 16777216) (hys : ∀ (i : Nat) (h : i + 1 < x.kids.length), Prints x.kids[i + 1] (t i) ∧ x.kids[i + 1].nm.length ≤ 16777216) (hnm : x.nm.length ≤ 16777216) (B b : Nat) (acc : List UInt8) (v : Value) (w : World) (hv : NvAt w (Lo B) v x) (hp : PrIs w B b acc) (hB : B ≤ w.heap.size)
    (hE : ∀ w', Below B w w' → EnvL w') (hl : (acc ++ opT x.kids[0] false t0 ++ [32] ++ joinT [32] (prtT x.nm (argT x t)) n).length ≤ 1000000000) :
    Calls Tryz.prog 109 #[.pointer (some ⟨b, 0, none⟩), v] w (PrPost B b w (acc ++ opT x.kids[0] false t0 ++ [32] ++ joinT [32] (prtT x.nm (argT x t)) n)) := by
  have HSn := Lib.hid (fun (w' : World) (l : List UInt8) (hb : Below B w w') (hp : PrIs w' B b l) (hl : (l ++ joinT [32] (prtT x.nm (argT x t)) n).length ≤ 1000000000) => sent_any x n t har hn0 hlen hpl hys hnm B b l v w' (hv.below hb (Nat.le_refl _)) hp (Nat.le_trans hB hb.size) (fun w2 hb2 => hE w2 (hb.trans hb2)) hl)
  have HAr := Lib.hid (fun (w' : World) => arity_any (mkB x.nm) w' (by rw [mk_sz]; exact hnm))
  rw [har] at HAr
  obtain ⟨Ak, ck, An, cn, rfl, g1, g2, g3, g4, g5, g6, g7, g8⟩ := hv
  obtain ⟨b0, o, rfl, hb0, -, Ak0, ck0, An0, cn0, k0, n0⟩ := g6.first hl0
  have hb0 : b0 < B := hb0
  have hb0w : b0 < w.heap.size := Nat.lt_of_lt_of_le hb0 hB
  have HK0 := Lib.hid (fun (w' : World) (hbb : Below B w w') => k0.below hbb hb0)
  have HOp := Lib.hid (fun (w' : World) (hb : Below B w w') (hp : PrIs w' B b acc) => operand_any x.kids[0] false t0 hy0 hs0 B b acc _ w' (n0.below hb (Nat.le_refl _)) hp (Nat.le_trans hB hb.size) (fun w2 hb2 => hE w2 (hb.trans hb2)) (by simp only [List.length_append] at hl; omega))
  have HL := Lib.hid hl
  generalize x.kids[0] = y at *
  have hne : 0 < x.kids.length := hl0
  have hq0 : ((n : Int) == 0) = false := by rw [beq_eq_false_iff_ne]; omega
  have hq1 : ¬ (n : Int) = 0 := by omega
  clear g1 g2 g3 g4 g5 g6 g7 g8 k0 n0 har hlen hpl hys hy0 hE hl hl0
  obtain ⟨W1, hW1⟩ : ∃ W, w.alloc (.cells #[.int .i64 x.kd, .string (mkB x.nm), .int .i64 x.nu, .slice (some ⟨b0, o, none⟩) x.kids.length ck, .slice An x.ns.length cn, .int .i64 x.at_] 47) = W := ⟨_, rfl⟩
  obtain ⟨X, hX⟩ : ∃ X, w.heap.size = X := ⟨_, rfl⟩
  have hb1 : Below w.heap.size w W1 := by rw [← hW1]; exact (Below.refl _ _).alloc (Nat.le_refl _) _
  have hx1 : W1.heap[X]? = some (.cells #[.int .i64 x.kd, .string (mkB x.nm), .int .i64 x.nu, .slice (some ⟨b0, o, none⟩) x.kids.length ck, .slice An x.ns.length cn, .int .i64 x.at_] 47 (0, 0)) := by
    rw [← hW1, ← hX]; exact heap_alloc_new w _
  have hp1 := PrIs.below hp hb1
  have hB1 : B ≤ W1.heap.size := Nat.le_trans hB hb1.size
  have HK1 := Lib.hid (And.intro (hb1.mono hB) (KpP.of hb1))
  have HB1 := Lib.hid hb1
  go_enter Tryz.func109, Tryz.ntmps109
  go_upto_region 1 with fail
  try simp only [hW1, hX]
  clear hW1 hX hb1
  have f1 := cells6T hx1
  have l1 := lt_of_blk hx1
  have HI := Lib.hid hp1
  have HX1 := Lib.hid hx1
  clear hp hp1 hx1 f1
  have HS : Hid (∀ w' : World, Below B w w' → w'.heap[X]? = W1.heap[X]? → (w'.cell? ⟨X, 1, none⟩ = some (.string (mkB x.nm)) ∧ w'.cell? ⟨X, 3, none⟩ = some (.slice (some ⟨b0, o, none⟩) x.kids.length ck) ∧ w'.cell? ⟨b0, o, none⟩ = some (.int .i64 y.kd) ∧ w'.cell? ⟨b0, o + 1, none⟩ = some (.string (mkB y.nm)) ∧ w'.cell? ⟨b0, o + 2, none⟩ = some (.int .i64 y.nu) ∧ w'.cell? ⟨b0, o + 3, none⟩ = some (.slice Ak0 y.kids.length ck0) ∧ w'.cell? ⟨b0, o + 4, none⟩ = some (.slice An0 y.ns.length cn0) ∧ w'.cell? ⟨b0, o + 5, none⟩ = some (.int .i64 y.at_))) := Lib.hid (fun w' hb hx => by
    obtain ⟨e0, e1, e2, e3, _⟩ := cells6T (hx.trans HX1.out)
    obtain ⟨d0, d1, d2, d3, d4, d5⟩ := HK0.out w' hb
    exact ⟨e1, e3, d0, d1, d2, d3, d4, d5⟩)
  have HD := Lib.hid (show Below B w W1.drew from HK1.out.1.trans (Below.refl _ _).drew)
  rename_i KK hKK
  have HKK := Lib.hid hKK
  clear hKK
  go_region_held3 (fun w' : World => w'.cell? ⟨X, 1, none⟩ = some (.string (mkB x.nm)) ∧ w'.cell? ⟨X, 3, none⟩ = some (.slice (some ⟨b0, o, none⟩) x.kids.length ck) ∧ w'.cell? ⟨b0, o, none⟩ = some (.int .i64 y.kd) ∧ w'.cell? ⟨b0, o + 1, none⟩ = some (.string (mkB y.nm)) ∧ w'.cell? ⟨b0, o + 2, none⟩ = some (.int .i64 y.nu) ∧ w'.cell? ⟨b0, o + 3, none⟩ = some (.slice Ak0 y.kids.length ck0) ∧ w'.cell? ⟨b0, o + 4, none⟩ = some (.slice An0 y.ns.length cn0) ∧ w'.cell? ⟨b0, o + 5, none⟩ = some (.int .i64 y.at_))
    (first
      | exact HS.out _ HD.out rfl
      | exact HS.out _ HB2.out HQ2.out
      | exact HS.out _ HB3.out.1 HQ3.out)
    (first
      | (go_at_call 49; refine (HAr.out _).mono ?_; rintro e w2 ⟨rfl, hb2⟩; have HB2 := Lib.hid (HD.out.trans (hb2.mono hB1)); have HQ2 := Lib.hid (show w2.heap[X]? = W1.heap[X]? from hb2.block X l1); have HI2 := Lib.hid (PrIs.below (PrIs.below HI.out (Below.refl _ _).drew) hb2); have HK2 := Lib.hid (show KpP w w2 from HK1.out.2.trans ((KpP.drew_ W1).trans (KpP.of hb2))); clear hb2)
      | (go_at_call 132; refine (HOp.out _ HB2.out HI2.out).mono ?_; rintro e w3 ⟨rfl, hp3, hb3, hk3⟩; have HP3 := Lib.hid hp3; have HB3 := Lib.hid (And.intro (HB2.out.trans hb3) (HK2.out.trans hk3)); have HQ3 := Lib.hid (show w3.heap[X]? = W1.heap[X]? from (hk3.2 X _ _ _ (HQ2.out.trans HX1.out) (by decide) (by decide)).trans HX1.out.symm); clear hp3 hb3 hk3))
  all_goals (refine HKK.out _ _ ?_)
  all_goals (have hx3 := HQ3.out.trans HX1.out)
  all_goals (have hwr := writeP_any B b _ (mkB [32]) w3 HP3.out (by have := HL.out; rw [mk_sz]; simp only [List.length_append] at this ⊢; simp at this ⊢; omega) (Nat.le_trans hB HB3.out.1.size))
  all_goals (rw [sb_mkB] at hwr)
  all_goals (go_wp2_with (first
    | (go_at_call 61; refine hwr.mono ?_; rintro e w4 ⟨rfl, hp4, hb4, hk4⟩
       have f4 := cells6T (hk4.2 X _ _ _ hx3 (by decide) (by decide))
       have l4 := lt_of_blk (hk4.2 X _ _ _ hx3 (by decide) (by decide))
       have HB4 := Lib.hid (And.intro (HB3.out.1.trans hb4) (HB3.out.2.trans hk4))
       have hcl := HSn.out w4 _ HB4.out.1 hp4 HL.out
       clear hwr hp4 hb4 hk4)
    | (go_at_call 133; refine hcl.mono ?_; rintro e w5 ⟨rfl, hp5, hb5, hk5⟩; have HP5 := Lib.hid hp5; have HB5 := Lib.hid (And.intro (HB4.out.1.trans hb5) (HB4.out.2.trans hk5)); clear hcl hp5 hb5 hk5)))
  all_goals go_end0
  all_goals exact ⟨rfl, HP5.out, HB5.out.1, HB5.out.2⟩
end Go.Proofs.YtfcceojfcmgmlaaGreatDoor.Fl

/-
  A message's text as a node's; statements; a parameter.
-/
namespace Go.Proofs.YtfcceojfcmgmlaaGreatDoor.Fl
open Go.RowKit Go.Shelf

set_option maxRecDepth 100000 in
set_option maxHeartbeats 8000000 in
theorem prints_send (x : Nd) (hkd : x.kd = 7) (n : Nat) (t0 : List UInt8) (t : Nat → List UInt8) (har : arityL (mkB x.nm) = (n : Int)) (hn0 : 0 < n) (hlen : x.kids.length = n + 1) (hpl : n ≤ (spA x.nm).length) (hl0 : 0 < x.kids.length)
    (hy0 : Prints x.kids[0] t0) (hs0 : x.kids[0].nm.length ≤ 16777216) (hys : ∀ (i : Nat) (h : i + 1 < x.kids.length), Prints x.kids[i + 1] (t i) ∧ x.kids[i + 1].nm.length ≤ 16777216) (hnm : x.nm.length ≤ 16777216) :
    Prints x (opT x.kids[0] false t0 ++ [32] ++ joinT [32] (prtT x.nm (argT x t)) n) := by
  intro B b acc v w hv hp hB hE hl
  have Hk := Lib.hid hkd
  clear hkd
  have HSn := Lib.hid (fun (w' : World) (hb : Below B w w') (hp : PrIs w' B b acc) => send_txt x n t0 t har hn0 hlen hpl hl0 hy0 hs0 hys hnm B b acc v w' (hv.below hb (Nat.le_refl _)) hp (Nat.le_trans hB hb.size) (fun w2 hb2 => hE w2 (hb.trans hb2)) (by simp only [List.length_append] at hl ⊢; omega))
  obtain ⟨Ak, ck, An, cn, rfl, g1, g2, g3, g4, g5, g6, g7, g8⟩ := hv
  obtain ⟨tt, htt⟩ : ∃ tt, opT x.kids[0] false t0 ++ [32] ++ joinT [32] (prtT x.nm (argT x t)) n = tt := ⟨_, rfl⟩
  have ha : acc ++ opT x.kids[0] false t0 ++ [32] ++ joinT [32] (prtT x.nm (argT x t)) n = acc ++ tt := by rw [← htt]; simp only [List.append_assoc]
  rw [ha] at HSn
  rw [htt]
  clear ha htt hl har hn0 hlen hpl hy0 hs0 hys hE g1 g2 g3 g4 g5 g6 g7 g8
  obtain ⟨W1, hW1⟩ : ∃ W, w.alloc (.cells #[.int .i64 x.kd, .string (mkB x.nm), .int .i64 x.nu, .slice Ak x.kids.length ck, .slice An x.ns.length cn, .int .i64 x.at_] 47) = W := ⟨_, rfl⟩
  obtain ⟨X, hX⟩ : ∃ X, w.heap.size = X := ⟨_, rfl⟩
  have hb1 : Below w.heap.size w W1 := by rw [← hW1]; exact (Below.refl _ _).alloc (Nat.le_refl _) _
  have hx1 : W1.heap[X]? = some (.cells #[.int .i64 x.kd, .string (mkB x.nm), .int .i64 x.nu, .slice Ak x.kids.length ck, .slice An x.ns.length cn, .int .i64 x.at_] 47 (0, 0)) := by
    rw [← hW1, ← hX]; exact heap_alloc_new w _
  have hp1 := PrIs.below hp hb1
  have hB1 : B ≤ W1.heap.size := Nat.le_trans hB hb1.size
  have HK1 := Lib.hid (And.intro (hb1.mono hB) (KpP.of hb1))
  have HB1 := Lib.hid hb1
  go_enter Tryz.func86, Tryz.ntmps86
  go_upto_region 1 with fail
  try simp only [hW1, hX]
  clear hW1 hX hb1
  have f1 := cells6T hx1
  have l1 := lt_of_blk hx1
  have hk := Hk.out
  have hcl := HSn.out W1 HK1.out.1 hp1
  rw [hk] at f1 hx1 hcl
  clear hp hp1
  go_wp2_with (go_at_call 109; refine hcl.mono ?_; rintro e w3 ⟨rfl, hp3, hb3, hk3⟩; have HP3 := Lib.hid hp3; have HB3 := Lib.hid (And.intro (HK1.out.1.trans hb3) (HK1.out.2.trans hk3)); clear hcl hp3 hb3 hk3)
  all_goals go_end0
  all_goals exact ⟨rfl, HP3.out, HB3.out.1, HB3.out.2⟩
set_option maxRecDepth 100000 in
set_option maxHeartbeats 8000000 in
theorem st1_any (l : List Nd) (A : Option Addr) (c P L b B i : Nat) (tx acc : List UInt8) (w : World) (hp : PrIs w B b acc) (hB : B ≤ w.heap.size) (hi : i < l.length)
    (hP : w.heap[P]? = some (.cells #[.pointer (some ⟨b, 0, none⟩)] 63 (0, 0))) (hL : w.heap[L]? = some (.cells #[.slice A l.length c] 28 (0, 0)))
    (hN : NdsAt w (Lo B) A l) (_hck : l.length ≤ c) (_hcc : c ≤ 9223372036854775807) (hy : Prints l[i] tx) (hE : ∀ w', Below B w w' → EnvL w') (hl : acc.length + tx.length ≤ 1000000000) :
    Calls Tryz.prog 85 #[.int .i64 (i : Int), .pointer (some ⟨P, 0, none⟩), .pointer (some ⟨L, 0, none⟩)] w (PrPost B b w (acc ++ tx)) := by
  obtain ⟨b0, o, rfl, hb0, Ak0, ck0, An0, cn0, d0, d1, d2, d3, d4, d5, g1, g2, g3, g4, g5, g6, g7, g8⟩ := hN.at_ hi
  have hb0 : b0 < B := hb0
  have hb0w : b0 < w.heap.size := Nat.lt_of_lt_of_le hb0 hB
  have hk0 : K0 w b0 (o + i * 6) l[i] Ak0 ck0 An0 cn0 := ⟨d0, d1, d2, d3, d4, d5⟩
  have hcl := hy B b acc (.agg #[.int .i64 l[i].kd, .string (mkB l[i].nm), .int .i64 l[i].nu, .slice Ak0 l[i].kids.length ck0, .slice An0 l[i].ns.length cn0, .int .i64 l[i].at_]) w.drew ⟨Ak0, ck0, An0, cn0, rfl, g1, g2, g3, g4, g5.below (Below.refl _ _).drew (Nat.le_refl _), g6.below (Below.refl _ _).drew (Nat.le_refl _), g7, g8⟩ (PrIs.below hp (Below.refl _ _).drew) hB (fun w' hb => hE w' ((Below.refl B w).drew.trans hb)) hl
  have hii : (i : Int) < (l.length : Int) := by omega
  have HS : Hid (∀ w' : World, Below B w w' → KpP w w' → (w'.cell? ⟨P, 0, none⟩ = some (.pointer (some ⟨b, 0, none⟩)) ∧ w'.cell? ⟨L, 0, none⟩ = some (.slice (some ⟨b0, o, none⟩) l.length c) ∧ K0 w' b0 (o + i * 6) l[i] Ak0 ck0 An0 cn0)) := Lib.hid (fun w' hb hk =>
    ⟨(cells1T (hk.2 P _ _ _ hP (by decide) (by decide))).1, (cells1T (hk.2 L _ _ _ hL (by decide) (by decide))).1, hk0.below hb hb0⟩)
  clear d0 d1 d2 d3 d4 d5 g1 g2 g3 g4 g5 g6 g7 g8 hk0 hN hy hE hp hP hL
  generalize l[i] = y at *
  unfold K0 at HS
  have HD := Lib.hid (show Below B w w.drew ∧ KpP w w.drew from ⟨(Below.refl _ _).drew, KpP.drew_ w⟩)
  go_enter Tryz.func85, Tryz.ntmps85
  go_upto_region 0 with fail
  go_region_held3 (fun w' : World => w'.cell? ⟨P, 0, none⟩ = some (.pointer (some ⟨b, 0, none⟩)) ∧ w'.cell? ⟨L, 0, none⟩ = some (.slice (some ⟨b0, o, none⟩) l.length c) ∧ w'.cell? ⟨b0, o + i * 6, none⟩ = some (.int .i64 y.kd) ∧ w'.cell? ⟨b0, o + i * 6 + 1, none⟩ = some (.string (mkB y.nm)) ∧ w'.cell? ⟨b0, o + i * 6 + 2, none⟩ = some (.int .i64 y.nu) ∧ w'.cell? ⟨b0, o + i * 6 + 3, none⟩ = some (.slice Ak0 y.kids.length ck0) ∧ w'.cell? ⟨b0, o + i * 6 + 4, none⟩ = some (.slice An0 y.ns.length cn0) ∧ w'.cell? ⟨b0, o + i * 6 + 5, none⟩ = some (.int .i64 y.at_))
    (first
      | exact HS.out _ HD.out.1 HD.out.2
      | exact HS.out _ HB2.out.1 HB2.out.2)
    (first
      | (go_at_call 86; refine hcl.mono ?_; rintro e w2 ⟨rfl, hp2, hb2, hk2⟩; have HP2 := Lib.hid hp2; have HB2 := Lib.hid (And.intro (HD.out.1.trans hb2) (HD.out.2.trans hk2)); clear hcl hp2 hb2 hk2))
  all_goals go_end0
  all_goals exact ⟨rfl, HP2.out, HB2.out.1, HB2.out.2⟩
set_option maxRecDepth 100000 in
set_option maxHeartbeats 8000000 in
theorem sts_any (l : List Nd) (A : Option Addr) (c b B : Nat) (t : Nat → List UInt8) (acc : List UInt8) (w : World) (hp : PrIs w B b acc) (hB : B ≤ w.heap.size) (hN : NdsAt w (Lo B) A l) (hck : l.length ≤ c) (hcc : c ≤ 9223372036854775807) (hll : l.length ≤ 100000000)
    (hys : ∀ (i : Nat) (h : i < l.length), Prints l[i] (t i)) (hE : ∀ w', Below B w w' → EnvL w') (hl : (acc ++ joinT [46, 32] t l.length).length ≤ 1000000000) :
    Calls Tryz.prog 64 #[.pointer (some ⟨b, 0, none⟩), .slice A l.length c] w (PrPost B b w (acc ++ joinT [46, 32] t l.length)) := by
  obtain ⟨P, hP⟩ : ∃ P, w.heap.size = P := ⟨_, rfl⟩
  obtain ⟨W1, hW1⟩ : ∃ W, (w.alloc (.cells #[.pointer (some ⟨b, 0, none⟩)] 63)).alloc (.cells #[.slice A l.length c] 28) = W := ⟨_, rfl⟩
  obtain ⟨qp, qx, hb1⟩ := boxes2T w _ _ W1 hW1
  rw [hP] at qp qx
  have hB1 := Nat.le_trans hB hb1.size
  have hcall := each_st P (P + 1) B b l.length [46, 32] t acc W1 (PrIs.below hp hb1) hB1 hll hl (fun i w' ac hi hb hk hp hln =>
    st1_any l A c P (P + 1) b B i (t i) ac w' hp (Nat.le_trans hB1 hb.size) hi (hk.2 P _ _ _ qp (by decide) (by decide)) (hk.2 (P + 1) _ _ _ qx (by decide) (by decide)) (hN.below ((hb1.mono hB).trans hb) (Nat.le_refl _)) hck hcc (hys i hi) (fun w2 hb2 => hE w2 (((hb1.mono hB).trans hb).trans hb2)) hln)
  have HK1 := Lib.hid (And.intro (hb1.mono hB) (KpP.of hb1))
  have HX := Lib.hid hP
  have HW := Lib.hid hW1
  clear hP hW1 hb1 hE hys hN hp
  go_enter Tryz.func64, Tryz.ntmps64
  go_upto_region 1 with fail
  have hP := HX.out
  have hW1 := HW.out
  try simp only [hW1]
  try simp only [hP]
  clear hW1 hP
  have f0 := (cells1T qp).1
  have f1 := (cells1T qx).1
  go_wp2_with (go_at_call 80; refine hcall.mono ?_; rintro e w5 ⟨rfl, hp5, hb5, hk5⟩; have HP5 := Lib.hid hp5; have HB5 := Lib.hid (And.intro (HK1.out.1.trans hb5) (HK1.out.2.trans hk5)); clear hcall hp5 hb5 hk5)
  go_end0
  exact ⟨rfl, HP5.out, HB5.out.1, HB5.out.2⟩
set_option maxRecDepth 100000 in
set_option maxHeartbeats 8000000 in
theorem meth1_any (m : Me) (Ap : Option Addr) (cp : Nat) (At : Option Addr) (ct : Nat) (Ab : Option Addr) (cb : Nat) (P M b B i : Nat) (acc : List UInt8) (w : World) (hp : PrIs w B b acc) (hB : B ≤ w.heap.size) (hi : i < m.ps.length)
    (hP : w.heap[P]? = some (.cells #[.pointer (some ⟨b, 0, none⟩)] 63 (0, 0))) (hM : w.heap[M]? = some (.cells #[.string (mkB m.nm), .slice Ap m.ps.length cp, .slice At m.ts.length ct, .int .i64 m.pr, .slice Ab m.bd.length cb, .int .i64 m.at_] 30 (0, 0)))
    (hN : SrAt w (Lo B) Ap m.ps) (_hck : m.ps.length ≤ cp) (_hcc : cp ≤ 9223372036854775807) (hl : acc.length + m.ps[i].length ≤ 1000000000) :
    Calls Tryz.prog 60 #[.int .i64 (i : Int), .pointer (some ⟨P, 0, none⟩), .pointer (some ⟨M, 0, none⟩)] w (PrPost B b w (acc ++ m.ps[i])) := by
  obtain ⟨b0, o, rfl, hb0, d0⟩ := hN.get hi
  have hb0 : b0 < B := hb0
  have hb0w : b0 < w.heap.size := Nat.lt_of_lt_of_le hb0 hB
  have hwr := writeP_any B b acc (mkB m.ps[i]) w.drew (PrIs.below hp (Below.refl _ _).drew) (by rw [mk_sz]; omega) hB
  rw [sb_mkB] at hwr
  have hii : (i : Int) < (m.ps.length : Int) := by omega
  have HS : Hid (∀ w' : World, Below B w w' → KpP w w' → (w'.cell? ⟨P, 0, none⟩ = some (.pointer (some ⟨b, 0, none⟩)) ∧ w'.cell? ⟨M, 1, none⟩ = some (.slice (some ⟨b0, o, none⟩) m.ps.length cp) ∧ w'.cell? ⟨b0, o + i, none⟩ = some (.string (mkB m.ps[i])))) := Lib.hid (fun w' hb hk =>
    ⟨(cells1T (hk.2 P _ _ _ hP (by decide) (by decide))).1, (cells6T (hk.2 M _ _ _ hM (by decide) (by decide))).2.1, cell_keep d0 (hb.block b0 hb0)⟩)
  clear d0 hN hp hP hM
  generalize m.ps[i] = y at *
  have HD := Lib.hid (show Below B w w.drew ∧ KpP w w.drew from ⟨(Below.refl _ _).drew, KpP.drew_ w⟩)
  go_enter Tryz.func60, Tryz.ntmps60
  go_upto_region 0 with fail
  go_region_held3 (fun w' : World => w'.cell? ⟨P, 0, none⟩ = some (.pointer (some ⟨b, 0, none⟩)) ∧ w'.cell? ⟨M, 1, none⟩ = some (.slice (some ⟨b0, o, none⟩) m.ps.length cp) ∧ w'.cell? ⟨b0, o + i, none⟩ = some (.string (mkB y)))
    (first
      | exact HS.out _ HD.out.1 HD.out.2
      | exact HS.out _ HB2.out.1 HB2.out.2)
    (first
      | (go_at_call 61; refine hwr.mono ?_; rintro e w2 ⟨rfl, hp2, hb2, hk2⟩; have HP2 := Lib.hid hp2; have HB2 := Lib.hid (And.intro (HD.out.1.trans hb2) (HD.out.2.trans hk2)); clear hwr hp2 hb2 hk2))
  all_goals go_end0
  all_goals exact ⟨rfl, HP2.out, HB2.out.1, HB2.out.2⟩
end Go.Proofs.YtfcceojfcmgmlaaGreatDoor.Fl

/-
  A method's text, where it has neither a primitive nor variables.
-/
namespace Go.Proofs.YtfcceojfcmgmlaaGreatDoor.Fl
open Go.RowKit Go.Shelf

set_option maxRecDepth 100000 in
set_option maxHeartbeats 2000000 in
theorem stringP_any (B b : Nat) (l : List UInt8) (w : World) (h : PrIs w B b l) (h0 : l ≠ []) :
    Calls Tryz.prog 36 #[.pointer (some ⟨b, 0, none⟩)] w fun e w' => e = .returned (.string (mkB l)) ∧ Below B w w' := by
  obtain ⟨p, hB, v, hbk, hown, hne⟩ := h.at_
  have hl0 : l.length ≠ 0 := by simpa using h0
  rw [Lib.byteCells_length] at hown
  obtain ⟨g, cap, cur, rfl, hbg, hg, hnc, hcm, hcs, htake⟩ : ∃ g cap cur, v = .slice (some ⟨g, 0, none⟩) l.length cap ∧ B ≤ g ∧ w.heap[g]? = some (.cells cur 5 (0, 0)) ∧ l.length ≤ cap ∧ cap ≤ maxLen ∧ cur.size = cap * 1 ∧ cur.toList.take (l.length * 1) = Lib.byteCells l := by
    rcases hown.2 with ⟨_, hz⟩ | ⟨g, cap, cur, hv, r⟩
    · exact absurd hz hl0
    · exact ⟨g, cap, cur, hv, r⟩
  have c1 : w.drew.cell? ⟨b, 1, none⟩ = some (.slice (some ⟨g, 0, none⟩) l.length cap) := by
    have : w.drew.heap[b]? = some (.cells #[p, .slice (some ⟨g, 0, none⟩) l.length cap] 69 (0, 0)) := hbk
    rw [Lib.cell_of_heap this]; rfl
  have hSD : (Builtin.unsafeSliceData_ #[65] 95 #[.slice (some ⟨g, 0, none⟩) l.length cap]).run Tryz.prog w.drew = .ok (.pointer (some ⟨g, 0, none⟩)) w.drew :=
    Lib.run_unsafeSliceData_row _ _ _ _ _ _ (by omega)
  have hUS : (Builtin.unsafeString_ #[95, 3] 9 #[.pointer (some ⟨g, 0, none⟩), .int .i64 l.length]).run Tryz.prog w.drew = .ok (.string ⟨l.toArray⟩) (w.drew.freeze ⟨g, 0, none⟩ l.length) := by
    refine Lib.run_unsafeString_row w.drew _ _ _ 5 Tryz.underlying95 (by kernel_rfl) g cur.size (by have hg' : w.drew.heap[g]? = some (.cells cur 5 (0, 0)) := hg; simp [World.shape?, hg']) l h0 (by omega) (by unfold maxLen at hcm; omega) ?_
    intro j x hx
    exact hown.cells (g := g) rfl j (.int .u8 x.toNat) (by simp [Lib.byteCells, hx])
  have mixed : Tryz.prog.follows .mixedOrders = true := by kernel_rfl
  clear hown hne hbk
  go_enter Tryz.func36, Tryz.ntmps36
  go_wp2_with fail
  go_region_o
  all_goals (go_wp2_with fail; go_ret; exact ⟨rfl, Lib.below_freeze (Below.drew (Below.refl B w)) (p := ⟨g, 0, none⟩) hbg _⟩)
set_option maxRecDepth 100000 in
set_option maxHeartbeats 8000000 in
theorem method_any (m : Me) (n : Nat) (t : Nat → List UInt8) (har : arityL (mkB m.nm) = (n : Int)) (hn0 : 0 < n) (hps : m.ps.length = n) (hpl : n ≤ (spA m.nm).length) (hpr : m.pr = 0) (hts : m.ts.length = 0) (hbd : 0 < m.bd.length) (hbl : m.bd.length ≤ 100000000)
    (hys : ∀ (i : Nat) (h : i < m.bd.length), Prints m.bd[i] (t i)) (hnm : m.nm.length ≤ 16777216) (B b : Nat) (acc : List UInt8) (v : Value) (w : World) (hv : MeAt w (Lo B) v m) (hp : PrIs w B b acc) (hB : B ≤ w.heap.size)
    (hE : ∀ w', Below B w w' → EnvL w') (hl : (acc ++ joinT [32] (prtT m.nm (fun i => m.ps.getD i [])) n ++ [32] ++ joinT [46, 32] t m.bd.length).length ≤ 1000000000) :
    Calls Tryz.prog 35 #[.pointer (some ⟨b, 0, none⟩), v] w (PrPost B b w (acc ++ joinT [32] (prtT m.nm (fun i => m.ps.getD i [])) n ++ [32] ++ joinT [46, 32] t m.bd.length)) := by
  obtain ⟨Ap, cp, At, ct, Ab, cb, rfl, h1, h2, h3, h4, h5, h6, s1, s2, s3, n1, n2, n3⟩ := hv.ex
  clear hv s2 n1 n2 n3
  obtain ⟨P, hP⟩ : ∃ P, w.heap.size = P := ⟨_, rfl⟩
  obtain ⟨W1, hW1⟩ : ∃ W, (w.alloc (.cells #[.pointer (some ⟨b, 0, none⟩)] 63)).alloc (.cells #[.string (mkB m.nm), .slice Ap m.ps.length cp, .slice At m.ts.length ct, .int .i64 m.pr, .slice Ab m.bd.length cb, .int .i64 m.at_] 30) = W := ⟨_, rfl⟩
  obtain ⟨qp, qx, hb1⟩ := boxes2T w _ _ W1 hW1
  rw [hP] at qp qx
  have hB1 := Nat.le_trans hB hb1.size
  obtain ⟨j1, hj1⟩ : ∃ j, joinT [32] (prtT m.nm (fun i => m.ps.getD i [])) n = j := ⟨_, rfl⟩
  obtain ⟨j2, hj2⟩ : ∃ j, joinT [46, 32] t m.bd.length = j := ⟨_, rfl⟩
  have hcm := message_meth P (P + 1) B b n m.nm (fun i => m.ps.getD i []) acc W1 (PrIs.below hp hb1) hB1 hnm har hn0 hpl (by simp only [List.length_append] at hl ⊢; omega) (fun i w' ac hi hb hk hp hln => by
      have hi2 : i < m.ps.length := by omega
      have e1 : m.ps.getD i [] = m.ps[i] := by rw [List.getD_eq_getElem?_getD, List.getElem?_eq_getElem hi2]; rfl
      simp only [e1] at hln ⊢
      exact meth1_any m Ap cp At ct Ab cb P (P + 1) b B i ac w' hp (Nat.le_trans hB1 hb.size) hi2 (hk.2 P _ _ _ qp (by decide) (by decide)) (hk.2 (P + 1) _ _ _ qx (by decide) (by decide)) (s1.below ((hb1.mono hB).trans hb) (Nat.le_refl _)) h1 h2 hln)
  have HSt := Lib.hid (fun (w' : World) (ac : List UInt8) (hb : Below B w w') (hp : PrIs w' B b ac) (hl : (ac ++ joinT [46, 32] t m.bd.length).length ≤ 1000000000) => sts_any m.bd Ab cb b B t ac w' hp (Nat.le_trans hB hb.size) (s3.below hb (Nat.le_refl _)) h5 h6 hbl hys (fun w2 hb2 => hE w2 (hb.trans hb2)) hl)
  rw [hj1] at hcm hl
  rw [hj2] at HSt hl
  rw [hj1, hj2]
  have HK1 := Lib.hid (And.intro (hb1.mono hB) (KpP.of hb1))
  have HX := Lib.hid hP
  have HW := Lib.hid hW1
  have HPr := Lib.hid hpr
  have HTs := Lib.hid hts
  have HL := Lib.hid hl
  have hbp : (0 : Int) < (m.bd.length : Int) := by omega
  clear hP hW1 hb1 hE hys hp hpr hts hl hps har s1 s3 hj1 hj2
  go_enter Tryz.func35, Tryz.ntmps35
  go_upto_region 1 with fail
  have hP := HX.out
  have hW1 := HW.out
  try simp only [hW1]
  try simp only [hP]
  clear hW1 hP
  have f0 := (cells1T qp).1
  have f1 := cells6T qx
  have l0 := lt_of_blk qp
  have l1 := lt_of_blk qx
  have hpr := HPr.out
  have hts := HTs.out
  go_wp2_with (first
    | (go_at_call 59; refine hcm.mono ?_; rintro e w2 ⟨rfl, hp2, hb2, hk2⟩
       have qp2 := hk2.2 P _ _ _ qp (by decide) (by decide)
       have qx2 := hk2.2 (P + 1) _ _ _ qx (by decide) (by decide)
       have f2 := (cells1T qp2).1
       have f3 := cells6T qx2
       rw [hpr, hts] at f3
       have l2 := lt_of_blk qp2
       have l3 := lt_of_blk qx2
       have HB2 := Lib.hid (And.intro (HK1.out.1.trans hb2) (HK1.out.2.trans hk2))
       have hwr := writeP_any B b _ (mkB [32]) w2 hp2 (by have := HL.out; rw [mk_sz]; simp only [List.length_append] at this ⊢; simp at this ⊢; omega) (Nat.le_trans hB HB2.out.1.size)
       rw [sb_mkB] at hwr
       clear hcm hp2 hb2 hk2 f0 f1 l0 l1 qp qx)
    | (go_at_call 61; refine hwr.mono ?_; rintro e w4 ⟨rfl, hp4, hb4, hk4⟩
       have f4 := (cells1T (hk4.2 P _ _ _ qp2 (by decide) (by decide))).1
       have f5 := cells6T (hk4.2 (P + 1) _ _ _ qx2 (by decide) (by decide))
       have l4 := lt_of_blk (hk4.2 P _ _ _ qp2 (by decide) (by decide))
       have l5 := lt_of_blk (hk4.2 (P + 1) _ _ _ qx2 (by decide) (by decide))
       have HB4 := Lib.hid (And.intro (HB2.out.1.trans hb4) (HB2.out.2.trans hk4))
       have hcl := HSt.out w4 _ HB4.out.1 hp4 HL.out
       clear hwr hp4 hb4 hk4 f2 f3 l2 l3)
    | (go_at_call 64; refine hcl.mono ?_; rintro e w5 ⟨rfl, hp5, hb5, hk5⟩; have HP5 := Lib.hid hp5; have HB5 := Lib.hid (And.intro (HB4.out.1.trans hb5) (HB4.out.2.trans hk5)); clear hcl hp5 hb5 hk5))
  all_goals go_end0
  all_goals exact ⟨rfl, HP5.out, HB5.out.1, HB5.out.2⟩
end Go.Proofs.YtfcceojfcmgmlaaGreatDoor.Fl

/-
  A method's text, where it has neither a primitive nor variables: the program's Print.
-/
namespace Go.Proofs.YtfcceojfcmgmlaaGreatDoor.Fl
open Go.RowKit Go.Shelf

set_option maxRecDepth 100000 in
set_option maxHeartbeats 8000000 in
theorem print_any (m : Me) (n : Nat) (t : Nat → List UInt8) (hc : checkM m = 0) (hnk : NkM m) (hcn : cntL m.bd ≤ 10000000) (har : arityL (mkB m.nm) = (n : Int)) (hn0 : 0 < n) (hps : m.ps.length = n) (hpl : n ≤ (spA m.nm).length) (hpr : m.pr = 0) (hts : m.ts.length = 0) (hbd : 0 < m.bd.length) (hbl : m.bd.length ≤ 100000000)
    (hys : ∀ (i : Nat) (h : i < m.bd.length), Prints m.bd[i] (t i)) (v : Value) (B : Nat) (w : World) (hv : MeAt w (Lo B) v m) (hB : B ≤ w.heap.size)
    (hE : ∀ w', Below B w w' → EnvL w') (hl : (joinT [32] (prtT m.nm (fun i => m.ps.getD i [])) n ++ [32] ++ joinT [46, 32] t m.bd.length).length ≤ 1000000000) :
    Calls Tryz.prog 16 #[v] w fun e w' => e = .returned (.tuple #[.string (mkB (joinT [32] (prtT m.nm (fun i => m.ps.getD i [])) n ++ [32] ++ joinT [46, 32] t m.bd.length)), .int .i64 0]) ∧ Below B w w' := by
  have HCk := Lib.hid (fun (w' : World) (hb : Below B w w') => check10_any m v B w' (hv.below hb (Nat.le_refl _)) (Nat.le_trans hB hb.size) hnk hcn)
  rw [hc] at HCk
  have HMt := Lib.hid (fun (w' : World) (b : Nat) (hb : Below B w w') (hp : PrIs w' B b []) => method_any m n t har hn0 hps hpl hpr hts hbd hbl hys hnk.1 B b [] v w' (hv.below hb (Nat.le_refl _)) hp (Nat.le_trans hB hb.size) (fun w2 hb2 => hE w2 (hb.trans hb2)) (by simpa using hl))
  simp only [List.nil_append] at HMt
  have hne : joinT [32] (prtT m.nm (fun i => m.ps.getD i [])) n ++ [32] ++ joinT [46, 32] t m.bd.length ≠ [] := by simp
  generalize joinT [32] (prtT m.nm (fun i => m.ps.getD i [])) n ++ [32] ++ joinT [46, 32] t m.bd.length = tx at *
  obtain ⟨Ap, cp, At, ct, Ab, cb, rfl, -⟩ := hv.ex
  clear hv hys hE hl hc hnk hcn har hn0 hps hpl hpr hts hbd hbl
  obtain ⟨X, hX⟩ : ∃ X, w.heap.size = X := ⟨_, rfl⟩
  obtain ⟨W1, hW1⟩ : ∃ W, w.alloc (.cells #[.string (mkB m.nm), .slice Ap m.ps.length cp, .slice At m.ts.length ct, .int .i64 m.pr, .slice Ab m.bd.length cb, .int .i64 m.at_] 30) = W := ⟨_, rfl⟩
  have hb1 : Below w.heap.size w W1 := by rw [← hW1]; exact (Below.refl _ _).alloc (Nat.le_refl _) _
  have hx1 : W1.heap[X]? = some (.cells #[.string (mkB m.nm), .slice Ap m.ps.length cp, .slice At m.ts.length ct, .int .i64 m.pr, .slice Ab m.bd.length cb, .int .i64 m.at_] 30 (0, 0)) := by
    rw [← hW1, ← hX]; exact heap_alloc_new w _
  have HB1 := Lib.hid (hb1.mono hB)
  go_enter Tryz.func16, Tryz.ntmps16
  go_upto_region 1 with fail
  try simp only [hW1, hX]
  clear hW1 hX hb1
  have f1 := cells6T hx1
  have l1 := lt_of_blk hx1
  have hB1 := Nat.le_trans hB HB1.out.size
  go_upto_region 5 with (go_at_call 10; refine (HCk.out _ HB1.out).mono ?_; rintro e w2 ⟨rfl, hb2⟩; have hx2 := (hb2.block X l1).trans hx1; have HB2 := Lib.hid (HB1.out.trans (hb2.mono hB1)); clear hb2)
  obtain ⟨b, hb⟩ : ∃ b, w2.heap.size = b := ⟨_, rfl⟩
  obtain ⟨W3, hW3⟩ : ∃ W, w2.alloc (.cells #[.pointer none, .slice none 0 0] 69) = W := ⟨_, rfl⟩
  have hb3 : Below w2.heap.size w2 W3 := by rw [← hW3]; exact (Below.refl _ _).alloc (Nat.le_refl _) _
  have hbk : W3.heap[b]? = some (.cells #[.pointer none, .slice none 0 0] 69 (0, 0)) := by rw [← hW3, ← hb]; exact heap_alloc_new w2 _
  have hB2 := Nat.le_trans hB HB2.out.size
  have HB3 := Lib.hid (HB2.out.trans (hb3.mono hB2))
  have hx3 := (hb3.block X (lt_of_blk hx2)).trans hx2
  have hp0 : PrIs W3 B b [] := .inl ⟨by rw [← hb]; exact hB2, .slice none 0 0, hbk, World.ownsRow_nil _ _ _ _, fun h => by cases h⟩
  have hcl := HMt.out W3 b HB3.out hp0
  have f3 := cells6T hx3
  have l3 := lt_of_blk hx3
  have lb := lt_of_blk hbk
  clear f1 l1 hx1 hx2
  try simp only [hW3]
  try simp only [hb]
  clear hW3 hb hb3 hbk hp0
  go_wp2_with (first
    | (go_at_call 35; refine hcl.mono ?_; rintro e w4 ⟨rfl, hp4, hb4, hk4⟩
       have HB4 := Lib.hid (HB3.out.trans hb4)
       have hst := stringP_any B b tx w4 hp4 hne
       clear hcl hp4 hb4 hk4)
    | (go_at_call 36; refine hst.mono ?_; rintro e w5 ⟨rfl, hb5⟩; have HB5 := Lib.hid (HB4.out.trans hb5); clear hst hb5))
  all_goals go_ret2
  all_goals exact ⟨rfl, HB5.out⟩
end Go.Proofs.YtfcceojfcmgmlaaGreatDoor.Fl

/-
  The fixed fact of layer 10's laws.
-/
namespace Go.Proofs.YtfcceojfcmgmlaaGreatDoor.Fl
open Go.RowKit Go.Shelf

def nX : Nd := .mk 5 [120] 0 [] [] 0
def nI : Nd := .mk 1 [] 1 [] [] 0
def nS : Nd := .mk 7 [43] 0 [nX, nI] [] 0
def nR : Nd := .mk 10 [] 0 [nS] [] 0
def fixM : Me := ⟨[102, 111, 111, 58], [[120]], [], 0, [nR], 0⟩
theorem ar_foo : arityL (mkB [102, 111, 111, 58]) = 1 := of_decide_eq_true (by kernel_rfl)
theorem ar_plus : arityL (mkB [43]) = 1 := of_decide_eq_true (by kernel_rfl)
theorem check_fix : checkM fixM = 0 := of_decide_eq_true (by kernel_rfl)
theorem itoa_one : Lib.itoa 1 = [49] := of_decide_eq_true (by kernel_rfl)
theorem pr_X : Prints nX [120] := prints_var nX rfl
theorem pr_I : Prints nI [49] := by
  have := prints_int nI rfl (by decide) (by decide)
  rwa [show nI.nu = 1 from rfl, itoa_one] at this
theorem pr_S : Prints nS [120, 32, 43, 32, 49] := by
  have := prints_send nS rfl 1 [120] (fun _ => [49]) ar_plus (by decide) rfl (of_decide_eq_true (by kernel_rfl)) (by decide) pr_X (by decide) (fun i h => by
    have h : i + 1 < 2 := h
    have : i = 0 := by omega
    subst this
    exact ⟨pr_I, show nI.nm.length ≤ 16777216 by decide⟩) (by decide)
  have e : opT nS.kids[0] false [120] ++ [32] ++ joinT [32] (prtT nS.nm (argT nS (fun _ => [49]))) 1 = [120, 32, 43, 32, 49] := of_decide_eq_true (by kernel_rfl)
  rwa [e] at this
theorem pr_R : Prints nR [94, 120, 32, 43, 32, 49] := prints_ret nR rfl (by decide) _ pr_S
theorem txt_fix : joinT [32] (prtT fixM.nm (fun i => fixM.ps.getD i [])) 1 ++ [32] ++ joinT [46, 32] (fun _ => [94, 120, 32, 43, 32, 49]) fixM.bd.length = [102, 111, 111, 58, 32, 120, 32, 94, 120, 32, 43, 32, 49] := of_decide_eq_true (by kernel_rfl)
theorem nk_fix : NkM fixM := by
  refine ⟨by decide, by decide, by decide, ?_⟩
  intro y hy
  have : y ∈ [nR, nS, nX, nI] := hy
  simp only [List.mem_cons, List.not_mem_nil, or_false] at this
  rcases this with rfl | rfl | rfl | rfl <;> exact ⟨by decide, by decide, by decide⟩
theorem allocs6 (w : World) (o0 o1 o2 o3 o4 o5 : Obj) (W : World) (hW : ((((((w.alloc o0).alloc o1).alloc o2).alloc o3).alloc o4).alloc o5) = W) :
    W.heap[w.heap.size + 1]? = some o1 ∧ W.heap[w.heap.size + 1 + 1]? = some o2 ∧ W.heap[w.heap.size + 1 + 1 + 1]? = some o3 ∧ W.heap[w.heap.size + 1 + 1 + 1 + 1]? = some o4 ∧ W.heap[w.heap.size + 1 + 1 + 1 + 1 + 1]? = some o5 ∧ Below w.heap.size w W ∧ W.heap.size = w.heap.size + 6 := by
  obtain ⟨W2, h2⟩ : ∃ W2, (w.alloc o0).alloc o1 = W2 := ⟨_, rfl⟩
  obtain ⟨a0, a1, ab⟩ := boxes2T w o0 o1 W2 h2
  have s2 : W2.heap.size = w.heap.size + 2 := by rw [← h2, World.size_alloc, World.size_alloc]
  rw [h2] at hW
  obtain ⟨W4, h4⟩ : ∃ W4, (W2.alloc o2).alloc o3 = W4 := ⟨_, rfl⟩
  obtain ⟨b0, b1, bb⟩ := boxes2T W2 o2 o3 W4 h4
  have s4 : W4.heap.size = w.heap.size + 4 := by rw [← h4, World.size_alloc, World.size_alloc, s2]
  rw [h4] at hW
  obtain ⟨c0, c1, cb⟩ := boxes2T W4 o4 o5 W hW
  have s6 : W.heap.size = w.heap.size + 6 := by rw [← hW, World.size_alloc, World.size_alloc, s4]
  rw [s2] at b0 b1
  rw [s4] at c0 c1
  refine ⟨((cb.block _ (by omega)).trans (bb.block _ (by omega))).trans a1, (cb.block _ (by omega)).trans b0, (cb.block _ (by omega)).trans b1, c0, c1, ab.trans ((bb.mono (by omega)).trans (cb.mono (by omega))), s6⟩
set_option maxRecDepth 100000 in
set_option maxHeartbeats 8000000 in
theorem awake10_any (w : World) (hE : ∀ w', Below w.heap.size w w' → EnvL w') : Calls Tryz.prog 7 #[] w fun e w' => e = .returned (.bool true) ∧ Below w.heap.size w w' := by
  go_enter Tryz.func7, Tryz.ntmps7
  go_upto_region 3 with fail
  obtain ⟨W, hW⟩ : ∃ W, ((((((w.alloc (.cells #[.int .i64 5, .string ⟨#[120]⟩, .int .i64 0, .slice none 0 0, .slice none 0 0, .int .i64 0] 47)).alloc (.cells #[.string ⟨#[120]⟩] 9)).alloc (.cells #[.int .i64 5, .string ⟨#[120]⟩, .int .i64 0, .slice none 0 0, .slice none 0 0, .int .i64 0, .int .i64 1, .string ⟨#[]⟩, .int .i64 1, .slice none 0 0, .slice none 0 0, .int .i64 0] 47)).alloc
    (.cells #[.int .i64 7, .string ⟨#[43]⟩, .int .i64 0, .slice (some ⟨w.heap.size + 1 + 1, 0, none⟩) 2 2, .slice none 0 0, .int .i64 0] 47)).alloc (.cells #[.int .i64 10, .string ⟨#[]⟩, .int .i64 0, .slice (some ⟨w.heap.size + 1 + 1 + 1, 0, none⟩) 1 1, .slice none 0 0, .int .i64 0] 47)).alloc
    (.cells #[.string ⟨#[102, 111, 111, 58]⟩, .slice (some ⟨w.heap.size + 1, 0, none⟩) 1 1, .slice none 0 0, .int .i64 0, .slice (some ⟨w.heap.size + 1 + 1 + 1 + 1, 0, none⟩) 1 1, .int .i64 0] 30)) = W := ⟨_, rfl⟩
  obtain ⟨q1, q2, q3, q4, q5, hb, hs⟩ := allocs6 w _ _ _ _ _ _ W hW
  try simp only [hW]
  clear hW
  have HE := Lib.hid (fun (w' : World) (h : Below W.heap.size W w') => hE w' (hb.trans (h.mono hb.size)))
  have HB := Lib.hid hb
  clear hE hb
  obtain ⟨X, hX⟩ : ∃ X, w.heap.size = X := ⟨_, rfl⟩
  rw [hX] at q1 q2 q3 q4 q5 hs
  try simp only [hX]
  clear hX
  have hnX : NdAt W (Lo W.heap.size) (X + 1 + 1) 0 nX := .mk none 0 none 0 0 0 (by show _ < _; omega) (by rw [Lib.cell_of_heap q2]; rfl) (by rw [Lib.cell_of_heap q2]; rfl) (by rw [Lib.cell_of_heap q2]; rfl) (by rw [Lib.cell_of_heap q2]; rfl) (by rw [Lib.cell_of_heap q2]; rfl) (by rw [Lib.cell_of_heap q2]; rfl)
    (Nat.le_refl _) (Nat.le_refl _) (by omega) (by omega) (.inl rfl) (fun h => absurd rfl h) (fun i h => absurd h (Nat.not_lt_zero _)) (fun _ => rfl) (fun _ => rfl)
  have hnI : NdAt W (Lo W.heap.size) (X + 1 + 1) 6 nI := .mk none 0 none 0 0 0 (by show _ < _; omega) (by rw [Lib.cell_of_heap q2]; rfl) (by rw [Lib.cell_of_heap q2]; rfl) (by rw [Lib.cell_of_heap q2]; rfl) (by rw [Lib.cell_of_heap q2]; rfl) (by rw [Lib.cell_of_heap q2]; rfl) (by rw [Lib.cell_of_heap q2]; rfl)
    (Nat.le_refl _) (Nat.le_refl _) (by omega) (by omega) (.inl rfl) (fun h => absurd rfl h) (fun i h => absurd h (Nat.not_lt_zero _)) (fun _ => rfl) (fun _ => rfl)
  have hnS : NdAt W (Lo W.heap.size) (X + 1 + 1 + 1) 0 nS := .mk (some ⟨X + 1 + 1, 0, none⟩) 2 none 0 (X + 1 + 1) 0 (by show _ < _; omega) (by rw [Lib.cell_of_heap q3]; rfl) (by rw [Lib.cell_of_heap q3]; rfl) (by rw [Lib.cell_of_heap q3]; rfl) (by rw [Lib.cell_of_heap q3]; rfl) (by rw [Lib.cell_of_heap q3]; rfl) (by rw [Lib.cell_of_heap q3]; rfl)
    (Nat.le_refl _) (Nat.le_refl _) (by omega) (by omega) (.inl rfl) (fun _ => ⟨rfl, by show _ < _; omega⟩) (fun i h => by
      have h : i < 2 := h
      match i, h with
      | 0, _ => exact hnX
      | 1, _ => exact hnI) (fun h => by cases h) (fun _ => rfl)
  have hnR : NdAt W (Lo W.heap.size) (X + 1 + 1 + 1 + 1) 0 nR := .mk (some ⟨X + 1 + 1 + 1, 0, none⟩) 1 none 0 (X + 1 + 1 + 1) 0 (by show _ < _; omega) (by rw [Lib.cell_of_heap q4]; rfl) (by rw [Lib.cell_of_heap q4]; rfl) (by rw [Lib.cell_of_heap q4]; rfl) (by rw [Lib.cell_of_heap q4]; rfl) (by rw [Lib.cell_of_heap q4]; rfl) (by rw [Lib.cell_of_heap q4]; rfl)
    (Nat.le_refl _) (Nat.le_refl _) (by omega) (by omega) (.inl rfl) (fun _ => ⟨rfl, by show _ < _; omega⟩) (fun i h => by
      have h : i < 1 := h
      match i, h with
      | 0, _ => exact hnS) (fun h => by cases h) (fun _ => rfl)
  have hme : MeAt W (Lo W.heap.size) (.agg #[.string ⟨#[102, 111, 111, 58]⟩, .slice (some ⟨X + 1, 0, none⟩) 1 1, .slice none 0 0, .int .i64 0, .slice (some ⟨X + 1 + 1 + 1 + 1, 0, none⟩) 1 1, .int .i64 0]) fixM :=
    ⟨some ⟨X + 1, 0, none⟩, 1, none, 0, some ⟨X + 1 + 1 + 1 + 1, 0, none⟩, 1, rfl, Nat.le_refl _, by omega, Nat.le_refl _, by omega, Nat.le_refl _, by omega,
      .inr ⟨X + 1, 0, rfl, by show _ < _; omega, fun j v hj => by
        have h1 : j < 1 := by
          have := (List.getElem?_eq_some_iff.1 hj).1
          exact this
        have : j = 0 := by omega
        subst this
        rw [Lib.cell_of_heap q1]
        exact hj⟩, .inl rfl, .inr ⟨X + 1 + 1 + 1 + 1, 0, rfl, by show _ < _; omega, fun i h => by
          have h : i < 1 := h
          match i, h with
          | 0, _ => exact hnR⟩, fun h => (by cases h), fun _ => rfl, fun h => (by cases h)⟩
  have hpr := print_any fixM 1 (fun _ => [94, 120, 32, 43, 32, 49]) check_fix nk_fix (by decide) ar_foo (by decide) rfl (of_decide_eq_true (by kernel_rfl)) rfl rfl (by decide) (by decide) (fun i h => by
    have h : i < 1 := h
    match i, h with
    | 0, _ => exact pr_R) _ W.heap.size W hme (Nat.le_refl _) HE.out (by rw [txt_fix]; decide)
  rw [txt_fix] at hpr
  have HD := Lib.hid (fun (w' : World) (h : Below W.heap.size W w') => depthM_any fixM _ W.heap.size w' (hme.below h (Nat.le_refl _)) h.size (by decide))
  have HC := Lib.hid (fun (w' : World) (h : Below W.heap.size W w') => countM_any fixM _ W.heap.size w' (hme.below h (Nat.le_refl _)) h.size (by decide))
  rw [show depL fixM.bd = 3 from rfl] at HD
  rw [show cntL fixM.bd = 4 from rfl] at HC
  clear hnX hnI hnS hnR hme
  have f1 := cells6T q5
  have l1 := lt_of_blk q5
  clear q1 q2 q3 q4
  go_wp2_with (first
    | (go_at_call 16; refine hpr.mono ?_; rintro e w2 ⟨rfl, hb2⟩; have HB2 := Lib.hid hb2; have q6 := (hb2.block _ l1).trans q5; have f2 := cells6T q6; have l2 := lt_of_blk q6; clear hpr hb2 f1)
    | (go_at_call 12; refine (HD.out _ HB2.out).mono ?_; rintro e w3 ⟨rfl, hb3⟩; have HB3 := Lib.hid (HB2.out.trans (hb3.mono HB2.out.size)); have q7 := (hb3.block _ l2).trans q6; have f3 := cells6T q7; have l3 := lt_of_blk q7; clear hb3 f2)
    | (go_at_call 14; refine (HC.out _ HB3.out).mono ?_; rintro e w4 ⟨rfl, hb4⟩; have HB4 := Lib.hid (HB3.out.trans (hb4.mono HB3.out.size)); clear hb4 f3))
  all_goals go_ret
  all_goals exact ⟨rfl, HB.out.trans (HB4.out.mono HB.out.size)⟩
end Go.Proofs.YtfcceojfcmgmlaaGreatDoor.Fl

/-
  TreeSame: the first node's place turned in a method of the call's own.
-/
namespace Go.Proofs.YtfcceojfcmgmlaaGreatDoor.Fl
open Go.RowKit Go.Shelf

theorem srAt_set {w : World} {P : Nat → Prop} {A : Option Addr} {ns : List (List UInt8)} {g : Nat} {z : Int} (v : Value) (h : SrAt w P A ns) (hc : w.cell? ⟨g, 5, none⟩ = some (.int .i64 z)) : SrAt (w.setCell ⟨g, 5, none⟩ v) P A ns := by
  rcases h with h | ⟨b, off, hA, hb, hc'⟩
  · exact .inl h
  · refine .inr ⟨b, off, hA, hb, fun j u hj => ?_⟩
    have h1 := hc' j u hj
    rw [World.cell?_setCell_other _ _ _ _ (fun e => ?_)]
    · exact h1
    · have e1 : (⟨b, off + j, none⟩ : Addr) = ⟨g, 5, none⟩ := e.symm
      rw [e1, hc] at h1
      unfold cs_ at hj
      rw [List.getElem?_map] at hj
      cases hn : ns[j]? with
      | none => rw [hn] at hj; cases hj
      | some s =>
        rw [hn] at hj
        injection hj with hj
        injection h1 with h1
        rw [← hj] at h1
        cases h1
theorem turnT {w : World} {la g c4 n1 n2 : Nat} {A1 A2 : Option Addr} {a1 : Me} {x : NE} {es : List NE} (a : Int)
    (hM : MeAt w (Lo w.heap.size) (.agg #[.string (mkB a1.nm), .slice A1 a1.ps.length n1, .slice A2 a1.ts.length n2, .int .i64 a1.pr, .slice (some ⟨g, 0, none⟩) a1.bd.length c4, .int .i64 a1.at_]) a1)
    (hE : OwnP w la (.slice (some ⟨g, 0, none⟩) (x :: es).length c4) (x :: es)) (he : ∀ y ∈ x :: es, Ent w (Nx 0 la w.heap.size (.slice (some ⟨g, 0, none⟩) (x :: es).length c4)) y) (hb : a1.bd = x.1 :: es.map fun x => x.1) :
    w.cell? ⟨g, 5, none⟩ = some (.int .i64 x.1.at_) ∧ w.frozen? ⟨g, 5, none⟩ = false ∧ g < w.heap.size ∧ la ≤ g ∧
    MeAt (w.setCell ⟨g, 5, none⟩ (.int .i64 a)) (Lo w.heap.size) (.agg #[.string (mkB a1.nm), .slice A1 a1.ps.length n1, .slice A2 a1.ts.length n2, .int .i64 a1.pr, .slice (some ⟨g, 0, none⟩) a1.bd.length c4, .int .i64 a1.at_]) { a1 with bd := withAt x.1 a :: es.map fun x => x.1 } := by
  obtain ⟨hg5, hfz, hgl, hla⟩ : w.cell? ⟨g, 5, none⟩ = some (.int .i64 x.1.at_) ∧ w.frozen? ⟨g, 5, none⟩ = false ∧ g < w.heap.size ∧ la ≤ g := by
    rcases hE.2 with ⟨e1, _⟩ | ⟨g', cap, cur, e1, hbg, hg, hcap, _, _, ht⟩
    · cases e1
    · injection e1 with e1 _ _
      injection e1 with e1
      injection e1 with e1
      subst e1
      refine ⟨?_, frozen_of_row _ _ _ _ _ hg, lt_of_blk hg, hbg⟩
      rw [cell_of_row w g 5 _ _ _ hg]
      have h5 : (ne_ (x :: es))[5]? = some (.int .i64 x.1.at_) := rfl
      rw [← ht, List.getElem?_take, if_pos (by rw [List.length_cons]; omega)] at h5
      rw [← h5]
      simp
  refine ⟨hg5, hfz, hgl, hla, ?_⟩
  obtain ⟨p1, p2, p3⟩ := own_withAt a hE he
  obtain ⟨Ap, cp, At, ct, Ab, cb, e, h1, h2, h3, h4, h5, h6, s1, s2, s3, m1, m2, m3⟩ := hM.ex
  have hlen : (withAt x.1 a :: es.map fun x => x.1).length = a1.bd.length := by rw [hb]; rfl
  simp only [Value.agg.injEq, Array.mk.injEq, List.cons.injEq, Value.slice.injEq] at e
  obtain ⟨-, ⟨rfl, -, rfl⟩, ⟨rfl, -, rfl⟩, -, ⟨rfl, -, rfl⟩, -⟩ := e
  have hn := nds_of_row (P := Lo w.heap.size) (B := (w.setCell ⟨g, 5, none⟩ (.int .i64 a)).heap.size) (A := some ⟨g, 0, none⟩) (l := (withAt x.1 a, x.2) :: es) (by
    rcases p1.2 with ⟨e1, _⟩ | ⟨g', cap, cur, e1, hbg, hg, hcap, _, _, ht⟩
    · cases e1
    · injection e1 with e1 _ _
      injection e1 with e1
      injection e1 with e1
      subst e1
      refine .inr ⟨g, 0, rfl, lt_of_blk hg, fun j v hj => ?_⟩
      have hjl : j < ((withAt x.1 a, x.2) :: es).length * 6 := by
        rcases Nat.lt_or_ge j (ne_ ((withAt x.1 a, x.2) :: es)).length with h1 | h1
        · rwa [ne__len] at h1
        · rw [List.getElem?_eq_none h1] at hj; cases hj
      rw [Nat.zero_add, cell_of_row _ g j _ _ _ hg, ← hj, ← ht, List.getElem?_take, if_pos (by simpa using hjl)]
      simp) (fun ad e => by injection e with e; subst e; exact hgl) (fun y hy => (p2 y hy).keep fun k hk => ⟨rfl, hk.elim (fun h => absurd h (Nat.not_lt_zero k)) fun h => h.2.1⟩)
  refine ⟨A1, n1, A2, n2, some ⟨g, 0, none⟩, c4, by rw [hlen], h1, h2, h3, h4, by rw [hlen]; exact h5, h6, srAt_set _ s1 hg5, srAt_set _ s2 hg5, hn, m1, m2, fun h => by cases h⟩
end Go.Proofs.YtfcceojfcmgmlaaGreatDoor.Fl

/-
  The law TreeSame: its first steps.
-/
namespace Go.Proofs.YtfcceojfcmgmlaaGreatDoor.Fl
open Go.RowKit Go.Shelf

theorem allocs4 (w : World) (o0 o1 o2 o3 : Obj) (W : World) (hW : ((((w.alloc o0).alloc o1).alloc o2).alloc o3) = W) :
    W.heap[w.heap.size]? = some o0 ∧ W.heap[w.heap.size + 1]? = some o1 ∧ W.heap[w.heap.size + 1 + 1]? = some o2 ∧ W.heap[w.heap.size + 1 + 1 + 1]? = some o3 ∧ Below w.heap.size w W ∧ W.heap.size = w.heap.size + 4 := by
  obtain ⟨W2, h2⟩ : ∃ W2, (w.alloc o0).alloc o1 = W2 := ⟨_, rfl⟩
  obtain ⟨a0, a1, ab⟩ := boxes2T w o0 o1 W2 h2
  have s2 : W2.heap.size = w.heap.size + 2 := by rw [← h2, World.size_alloc, World.size_alloc]
  rw [h2] at hW
  obtain ⟨b0, b1, bb⟩ := boxes2T W2 o2 o3 W hW
  have s4 : W.heap.size = w.heap.size + 4 := by rw [← hW, World.size_alloc, World.size_alloc, s2]
  rw [s2] at b0 b1
  exact ⟨(bb.block _ (by omega)).trans a0, (bb.block _ (by omega)).trans a1, b0, b1, ab.trans (bb.mono (by omega)), s4⟩
theorem ownN_rd {w : World} {base n c : Nat} {A : Option Addr} {xs : List NE} (h : OwnN w base (.slice A n c) xs) : Rd w w.heap.size A (ne_ xs) := by
  rcases h.2 with ⟨_, e2⟩ | ⟨g, cap, cur, e1, hb, hg, _, _, _, ht⟩
  · rw [List.eq_nil_of_length_eq_zero e2]; exact .inl rfl
  · injection e1 with e1 _ _
    subst e1
    refine .inr ⟨g, 0, rfl, lt_of_blk hg, fun j v hj => ?_⟩
    have hjl : j < xs.length * 6 := by
      rcases Nat.lt_or_ge j (ne_ xs).length with h1 | h1
      · rwa [ne__len] at h1
      · rw [List.getElem?_eq_none h1] at hj; cases hj
    rw [Nat.zero_add, cell_of_row w g j _ _ _ hg, ← hj, ← ht, List.getElem?_take, if_pos (by omega)]
    simp
/-- blocks between -/
def Iv (lo hi : Nat) : Nat → Prop := fun k => lo ≤ k ∧ k < hi
theorem OwnP.keepO {w w' : World} {base : Nat} {v : Value} {xs : List NE} (h : OwnP w base v xs) (hk : ∀ k, v.ownBlock = some k → w'.heap[k]? = w.heap[k]?) : OwnP w' base v xs :=
  ⟨h.1, h.2.elim .inl fun ⟨g, cap, cur, hv, hbg, hg, r⟩ => .inr ⟨g, cap, cur, hv, hbg, (hk g (by rw [hv]; rfl)).trans hg, r⟩⟩
theorem cut_bds (m : Me) : (cutM m).ps.length ≤ 100000000 ∧ (cutM m).ts.length ≤ 100000000 ∧ cntL (cutM m).bd ≤ 10000000 ∧ ∀ y ∈ allL (cutM m).bd, y.ns.length ≤ 100000000 := by
  obtain ⟨h1, h2, h3, h4⟩ := cutM_small m
  exact ⟨by omega, by omega, by omega, fun y hy => by have := h4 y hy; omega⟩
theorem stores12 {w0 w W : World} {T : Nat} {T0 : TypeId} {x0 x1 x2 x3 x4 x5 y0 y1 y2 y3 y4 y5 : Value} (hx : w.heap[T]? = some (.cells #[x0, x1, x2, x3, x4, x5] T0 (0, 0))) (hy : w.heap[T + 1]? = some (.cells #[y0, y1, y2, y3, y4, y5] T0 (0, 0))) (h : Below T w0 w) (u0 u1 u2 u3 u4 u5 v0 v1 v2 v3 v4 v5 : Value)
    (hW : (((((((((((w.setCell ⟨T, 0, none⟩ u0).setCell ⟨T, 1, none⟩ u1).setCell ⟨T, 2, none⟩ u2).setCell ⟨T, 3, none⟩ u3).setCell ⟨T, 4, none⟩ u4).setCell ⟨T, 5, none⟩ u5).setCell ⟨T + 1, 0, none⟩ v0).setCell ⟨T + 1, 1, none⟩ v1).setCell ⟨T + 1, 2, none⟩ v2).setCell ⟨T + 1, 3, none⟩ v3).setCell ⟨T + 1, 4, none⟩ v4).setCell ⟨T + 1, 5, none⟩ v5 = W) :
    W.heap[T]? = some (.cells #[u0, u1, u2, u3, u4, u5] T0 (0, 0)) ∧ W.heap[T + 1]? = some (.cells #[v0, v1, v2, v3, v4, v5] T0 (0, 0)) ∧ (∀ k, k ≠ T → k ≠ T + 1 → W.heap[k]? = w.heap[k]?) ∧ W.heap.size = w.heap.size ∧ Below T w0 W := by
  have g1 := set6T hx u0 u1 u2 u3 u4 u5
  obtain ⟨k1, k2⟩ := six_setT (w := w) (C := T) u0 u1 u2 u3 u4 u5
  have hy' := (k1 (T + 1) (by omega)).trans hy
  have hb := ((((((((((((h).setCell (p := ⟨T, 0, none⟩) (Nat.le_refl _) u0).setCell (p := ⟨T, 1, none⟩) (Nat.le_refl _) u1).setCell (p := ⟨T, 2, none⟩) (Nat.le_refl _) u2).setCell (p := ⟨T, 3, none⟩) (Nat.le_refl _) u3).setCell (p := ⟨T, 4, none⟩) (Nat.le_refl _) u4).setCell (p := ⟨T, 5, none⟩) (Nat.le_refl _) u5).setCell (p := ⟨T + 1, 0, none⟩) (Nat.le_succ _) v0).setCell (p := ⟨T + 1, 1, none⟩) (Nat.le_succ _) v1).setCell (p := ⟨T + 1, 2, none⟩) (Nat.le_succ _) v2).setCell (p := ⟨T + 1, 3, none⟩) (Nat.le_succ _) v3).setCell (p := ⟨T + 1, 4, none⟩) (Nat.le_succ _) v4).setCell (p := ⟨T + 1, 5, none⟩) (Nat.le_succ _) v5
  generalize ((((((w.setCell ⟨T, 0, none⟩ u0).setCell ⟨T, 1, none⟩ u1).setCell ⟨T, 2, none⟩ u2).setCell ⟨T, 3, none⟩ u3).setCell ⟨T, 4, none⟩ u4).setCell ⟨T, 5, none⟩ u5) = w1 at *
  have g2 := set6T hy' v0 v1 v2 v3 v4 v5
  obtain ⟨m1, m2⟩ := six_setT (w := w1) (C := T + 1) v0 v1 v2 v3 v4 v5
  rw [hW] at g2 m1 m2 hb
  exact ⟨(m1 T (by omega)).trans g1, g2, fun k h1 h2 => (m1 k h2).trans (k1 k h1), m2.trans k2, hb⟩
end Go.Proofs.YtfcceojfcmgmlaaGreatDoor.Fl
