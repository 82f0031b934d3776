/-
  append(s, make([]api.Word, m)...), s a row of the call's own: what it does.
-/
import Derived.Test.YthklbpcpmmpfmaaHeap
import Derived.Lib.AppendZeros
namespace Go.Proofs.Ythklbpcpmmpfmaa.Fl
open Go.RowKit

theorem cw_zeros (m : Nat) : Builtin.zeroCells (Value.int .u64 0).cells m = (cw (List.replicate m 0)).toArray := by
  apply Array.ext'
  simp [Builtin.zeroCells, cw, Value.cells, Array.toList_map]
  apply List.ext_getElem <;> simp [Nat.mod_one]
theorem cwh_one (ws : List Nat) : ∀ u ∈ cw ws, u.oneCell' = true := by
  intro u hu
  obtain ⟨x, _, rfl⟩ := List.mem_map.1 hu
  rfl
theorem word_info : ∃ i, Try.prog.info? 28 = some i ∧ i.zero = some (.int .u64 0) ∧ i.size = 1 ∧ i.bytes = 8 := by
  have h := wordinfo
  rcases hi : Try.prog.info? 28 with _ | i
  · rw [hi] at h; cases h
  · rw [hi] at h
    simp only [Option.map_some, Option.some.injEq, Prod.mk.injEq] at h
    exact ⟨i, rfl, h.1, h.2.1, h.2.2⟩
theorem append_zeros (w : World) (base gc cap m : Nat) (L : List Nat) (ty : TypeId) (hown : OwnH w base (.slice (some ⟨gc, 0, none⟩) L.length cap) L) (hb : base ≤ w.heap.size) (h0 : 0 < m) (hm : L.length + m ≤ 16777216) :
    ∃ gc' cap' w', (Builtin.append_ #[39, 3] ty #[.slice (some ⟨gc, 0, none⟩) L.length cap, .int .i64 (m : Int)]).run Try.prog w = .ok (.slice (some ⟨gc', 0, none⟩) (L.length + m) cap') w' ∧
      OwnH w' base (.slice (some ⟨gc', 0, none⟩) (L.length + m) cap') (L ++ List.replicate m 0) ∧ w.grownBy w' (some gc) ∧ (gc' = gc ∨ gc' = w.heap.size) := by
  obtain ⟨i, hi, hz, hsz, hby⟩ := word_info
  have ht := Try.underlying39
  have htn := Try.underlying3
  have hlen : (L ++ List.replicate m 0).length = L.length + m := by simp
  have hcl : (cw (List.replicate m 0)).length = m := by rw [cw_len]; simp
  have happ : cw (L ++ List.replicate m 0) = cw L ++ cw (List.replicate m 0) := by simp [cw]
  have hn : m ≠ 0 := by omega
  have hw : IntKind.i64.wrap (m : Int) = m := by rw [IntKind.wrap_i64]; omega
  have hneg : ¬ ((m : Int) < 0) := by omega
  have h48i : ¬ (281474976710656 < (m : Int) * 8) := by omega
  have hzc := cw_zeros
  rcases hown.2 with ⟨e, _⟩ | ⟨g', cap', cur, e, hbg, hg, hnc, hcm, hcs, htake⟩
  · cases e
  · injection e with e1 _ e3
    injection e1 with e1
    injection e1 with e1
    subst e1 e3
    rw [Nat.mul_one] at htake hcs
    by_cases hroom : L.length + m ≤ cap
    · have hst := run_storeCells_at Try.prog gc L.length 28 (cw (List.replicate m 0)) 0 cur w hg (by rw [hcl]; omega) (cwh_one _)
      simp only [Nat.add_zero] at hst
      refine ⟨gc, cap, w.setRow gc (cur.toList.take L.length ++ cw (List.replicate m 0) ++ cur.toList.drop (L.length + (cw (List.replicate m 0)).length)).toArray, ?_, ⟨by rw [cw_len, Nat.mul_one], .inr ⟨gc, cap, _, by rw [hlen], hbg, setRow_heap w gc cur _ 28 _ hg, by omega, hcm, ?_, ?_⟩⟩, ⟨rfl, rfl, rfl, by simp, fun k _ hk => setRow_other w gc k _ (fun e => hk (by rw [e]))⟩, .inl rfl⟩
      · simp [Builtin.append_, run_underlying ht, run_underlying htn, sizeOf, typeInfo, zeroValue, hi, hz, hsz, hby, asInt, asIntOf, hw, hn, hneg, h48i, hroom, Addr.add_lit, hzc, hst]
      · simp only [List.size_toArray, List.length_append, List.length_take, List.length_drop, Array.length_toList, hcl]
        omega
      · rw [htake, hlen, happ, Nat.mul_one]
        exact List.take_left' (by rw [List.length_append, cw_len, hcl])
    · have hn2 : ¬ (L.length + m ≤ cap) := hroom
      have h63' : ¬ (9223372036854775807 < ((L.length : Int) + (m : Int))) := by omega
      have hgs := growslice_fits (need := L.length + m) (old := cap) (bytes := 8) (by omega) (by omega)
      have h48' : ¬ (281474976710656 < Builtin.nextslicecap (L.length + m) cap * 8) := by omega
      have hge := grownCap_ge w (L.length + m) cap 28
      have hcm := grownCap_le_maxLen w (L.length + m) cap 28 (by unfold maxLen; omega)
      have holds : ∀ j u, (cw L)[j]? = some u → w.drew.cell? ((⟨gc, 0, none⟩ : Addr).add j) = some u := hown.cells (g := gc) rfl
      have hfo := run_firstCells_some (P := Try.prog) w.drew 1 L.length ⟨gc, 0, none⟩ L.length cap (cw L) (by rw [cw_len, Nat.mul_one]) holds
      refine ⟨w.heap.size, grownCap w (L.length + m) cap 28, w.drew.alloc (.cells ((cw L).toArray ++ (cw (List.replicate m 0)).toArray ++ (cw (List.replicate (grownCap w (L.length + m) cap 28 - (L.length + m)) 0)).toArray) 28), ?_, ⟨by rw [cw_len, Nat.mul_one], .inr ⟨w.heap.size, _, _, by rw [hlen], hb, heap_alloc_new w.drew _, by omega, hcm, ?_, ?_⟩⟩, ⟨rfl, rfl, rfl, by simp, fun k hk _ => heap_alloc_old w.drew _ hk⟩, .inr rfl⟩
      · simp [Builtin.append_, run_underlying ht, run_underlying htn, sizeOf, typeInfo, zeroValue, hi, hz, hsz, hby, asInt, asIntOf, hw, hn, hneg, h48i, hn2, h63', h48', Question.forced, hfo, newRow, grownCap, hzc]
      · simp only [Array.size_append, List.size_toArray, cw_len, List.length_replicate]
        omega
      · simp only [Array.toList_append, happ, hlen, Nat.mul_one, List.append_assoc]
        rw [← List.append_assoc]
        exact List.take_left' (by rw [List.length_append, cw_len, hcl])
end Go.Proofs.Ythklbpcpmmpfmaa.Fl
