/-
  Events: the fixed fact of the laws.
-/
import Derived.Test.YtlmelfakmllinaaEvI
namespace Go.Proofs.Ytlmelfakmllinaa.Fl
open Go.RowKit

def fixE (g : Nat) : List EE := [(⟨1, [104, 105, 10], []⟩, (some ⟨g, 0, none⟩, 3)), (⟨3, [], []⟩, (none, 0))]
theorem fixE_text (g : Nat) : textE (evs (fixE g)) = [111, 117, 116, 32, 34, 104, 105, 92, 48, 97, 34, 10, 115, 97, 118, 101, 100, 10] := by
  show textE [⟨1, [104, 105, 10], []⟩, ⟨3, [], []⟩] = _
  decide +kernel
theorem fixE_comm (g : Nat) : commE (evs (fixE g)) (evs ((fixE g).take 1)) = 1 := by
  show commE [⟨1, [104, 105, 10], []⟩, ⟨3, [], []⟩] [⟨1, [104, 105, 10], []⟩] = _
  decide +kernel
theorem EvBs.take1 {w : World} {B n : Nat} {l : List EE} (h : EvBs w B l) : EvBs w B (l.take n) := fun x hx => h x (List.mem_of_mem_take hx)
set_option maxRecDepth 100000 in
set_option maxHeartbeats 4000000 in
theorem awake_anyE (w : World) :
    Calls Try.prog 6 #[] w fun e w' => e = .returned (.bool true) ∧ Below w.heap.size w w' := by
  go_enter Try.func6, Try.ntmps6
  go_wp2_with fail
  have hcv := Lib.run_convert_bytes_const (P := Try.prog) w 32 5 #[.int .u8 104, .int .u8 105, .int .u8 10] 3 3 Try.underlying32 Try.underlying5
  rw [show (#[Value.int .u8 104, .int .u8 105, .int .u8 10] : Array Value).size = 3 from rfl] at hcv
  rw [hcv]
  simp only [Result.andThen]
  rw [Oper.upon_value]
  clear hcv
  go_wp2_with fail
  obtain ⟨W, hW⟩ : ∃ W, (w.alloc (.cells #[.int .u8 104, .int .u8 105, .int .u8 10] 5 (3, 4))).alloc (.cells #[.int .i64 1, .slice (some ⟨w.heap.size, 0, none⟩) 3 3, .string ⟨#[]⟩, .int .i64 3, .slice none 0 0, .string ⟨#[]⟩] 45) = W := ⟨_, rfl⟩
  obtain ⟨p0, p1, hb⟩ := boxes2E w _ _ W hW
  have H : EvsAt W W.heap.size (some ⟨w.heap.size + 1, 0, none⟩) (fixE w.heap.size) := by
    refine ⟨.inr ⟨w.heap.size + 1, 0, rfl, lt_of_blk p1, fun j v hj => ?_⟩, fun x hx => ?_, fun x hx => ?_⟩
    · rw [Nat.zero_add]
      exact (cell_of_row _ _ _ _ _ _ p1).trans ((List.getElem?_toArray ..).trans hj)
    · rcases List.mem_cons.1 hx with rfl | hx
      · refine ⟨.inr ⟨w.heap.size, 0, rfl, lt_of_blk p0, fun j v hj => ?_⟩, Nat.le_refl _, fun h => by cases h⟩
        rw [Nat.zero_add]
        exact (cell_of_row _ _ _ _ _ _ p0).trans ((List.getElem?_toArray ..).trans hj)
      · obtain rfl := List.mem_singleton.1 hx
        exact ⟨.inl rfl, Nat.zero_le _, fun _ => ⟨rfl, rfl⟩⟩
    · rcases List.mem_cons.1 hx with rfl | hx
      · exact ⟨by show 3 ≤ 200; decide, by show 0 ≤ 200; decide⟩
      · obtain rfl := List.mem_singleton.1 hx
        exact ⟨by decide, by decide⟩
  have HB := Lib.hid hb
  have HH := Lib.hid H
  have htx := text_anyE (fixE w.heap.size) _ 2 W.heap.size W H (Nat.le_refl _) (by show 2 ≤ 40; decide)
  rw [fixE_text] at htx
  have HCm := Lib.hid (fun (w' : World) (h : Below W.heap.size W w') => common_any (fixE w.heap.size) ((fixE w.heap.size).take 1) (some ⟨w.heap.size + 1, 0, none⟩) (some ⟨w.heap.size + 1, 0, none⟩) 2 2 W.heap.size w' (H.below h (Nat.le_refl _)) ⟨by have := (H.rd.below h (Nat.le_refl _)).take_ 3; exact this, ((H.bs.below h (Nat.le_refl _))).take1, fun x hx => H.sm x (List.mem_of_mem_take hx)⟩ h.size ⟨by show 2 ≤ 40; decide, by show 1 ≤ 40; decide⟩)
  rw [fixE_comm] at HCm
  rw [hW]
  clear hW p0 p1 hb H
  refine htx.mono ?_
  rintro e w2 ⟨rfl, hb2⟩
  have hcm := HCm.out w2 hb2
  have HB2 := Lib.hid (HB.out.trans (hb2.mono HB.out.size))
  clear htx hb2 HCm
  go_wp2_with (go_at_call 17; refine hcm.mono ?_; rintro e w3 ⟨rfl, hb3⟩; have hb4 := HB2.out.trans (hb3.mono HB2.out.size); clear hcm hb3)
  go_ret
  exact ⟨rfl, hb4⟩
end Go.Proofs.Ytlmelfakmllinaa.Fl
