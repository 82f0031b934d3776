/-
  Memory whose objects were given numbers of their own, against that which has none.
-/
import Derived.Test.YtahmljjjdoaahaaDoorGTag
import Derived.Test.YtahmljjjdoaahaaDoorGCollH
import Derived.Test.YtahmljjjdoaahaaDoorClosed
import Derived.Test.YtahmljjjdoaahaaDoorLaidC
namespace Go.Proofs.YtahmljjjdoaahaaDoor.Fl
open Go.RowKit

def zeroH (o : Ob) : Ob := { o with hash := 0 }
/-- the same objects, but for their numbers, which differ, and are at most the last one -/
structure Tg (os os' : List Ob) (last : Nat) : Prop where
  z : os'.map zeroH = os
  le : ∀ o ∈ os', o.hash ≤ last
  ds : Dist os' (ixs os' os'.length)
section
variable {os os' : List Ob} {last : Nat}
theorem Tg.len (h : Tg os os' last) : os'.length = os.length := by rw [← h.z, List.length_map]
theorem Tg.pos (h : Tg os os' last) (k : Nat) : Fl.pos os' k = Fl.pos os k := by rw [← h.z, pos_map zeroH (fun _ => rfl)]
theorem Tg.lof (h : Tg os os' last) : (Lof os').length = (Lof os).length := by rw [← h.z, Lof_map_len zeroH (fun _ => rfl)]
theorem Tg.mem (h : Tg os os' last) {o : Ob} (ho : o ∈ os') : zeroH o ∈ os := by rw [← h.z]; exact List.mem_map_of_mem ho
theorem Tg.clean (h : Tg os os' last) (hc : ∀ o ∈ os, CleanO o) : ∀ o ∈ os', CleanO o := fun o ho => hc (zeroH o) (h.mem ho)
theorem Tg.some (h : Tg os os' last) (hc : ∀ o ∈ os, 0 < o.xs.length) : ∀ o ∈ os', 0 < o.xs.length := fun o ho => hc (zeroH o) (h.mem ho)
theorem Tg.init (h0 : ∀ o ∈ os, o.hash = 0) : Tg os os 0 := by
  refine ⟨?_, fun o ho => by rw [h0 o ho]; exact Nat.le_refl _, dist_of fun i j hij hj => .inl (h0 _ (List.getElem_mem _))⟩
  have : ∀ o ∈ os, zeroH o = o := fun o ho => by
    have := h0 o ho
    cases o
    simp only [zeroH]
    simp only at this
    rw [this]
  calc os.map zeroH = os.map id := List.map_congr_left this
    _ = os := List.map_id os
theorem Tg.step (h : Tg os os' last) {k : Nat} (hk : k < os'.length) : Tg os (os'.set k { os'[k] with hash := last + 1 }) (last + 1) := by
  refine ⟨?_, fun o ho => ?_, dist_of fun i j hij hj => ?_⟩
  · rw [List.map_set, show zeroH { os'[k] with hash := last + 1 } = zeroH os'[k] from rfl]
    rw [← List.getElem_map zeroH (h := by rw [List.length_map]; exact hk), List.set_getElem_self, h.z]
  · rcases List.mem_or_eq_of_mem_set ho with h1 | h1
    · exact Nat.le_succ_of_le (h.le o h1)
    · rw [h1]; exact Nat.le_refl _
  · have hj' : j < os'.length := by rw [List.length_set] at hj; exact hj
    have hi' : i < os'.length := Nat.lt_trans hij hj'
    have e1 : ((os'.set k { os'[k] with hash := last + 1 })[i]'(Nat.lt_trans hij hj)).hash = if k = i then last + 1 else (os'[i]'hi').hash := by
      rw [List.getElem_set]; split <;> rfl
    have e2 : ((os'.set k { os'[k] with hash := last + 1 })[j]'hj).hash = if k = j then last + 1 else (os'[j]'hj').hash := by
      rw [List.getElem_set]; split <;> rfl
    rw [e1, e2]
    have a1 := h.le _ (List.getElem_mem hi')
    have a2 := h.le _ (List.getElem_mem hj')
    split
    · next e => rw [if_neg (by omega)]; right; omega
    · split
      · right; omega
      · exact dist_at h.ds hij hj'
/-- the number that an object has -/
def hashAt (os : List Ob) (p : Nat) : Nat := match os[idx os p]? with
  | some o => o.hash
  | none => 0
theorem hashAt_pos (os : List Ob) {k : Nat} (h : k < os.length) : hashAt os (2 * Fl.pos os k) = os[k].hash := by
  unfold hashAt; rw [idx_pos os h, List.getElem?_eq_getElem h]
end
section
variable {w : World} {base g gc cap gb gb2 size last : Nat} {os : List Ob} {ws : List Nat}
def HashPost (n : Nat) (w : World) (e : Ending) (w' : World) : Prop := ∃ (a b c : Nat) (m : Bool), e = .returned (.tuple #[.agg #[.int .u64 (a : Int), .int .i64 (b : Int), .int .i64 (c : Int), .int .u32 (n : Int), .bool m], .int .i64 0]) ∧ Below w.heap.size w w'
theorem head_hash {p : Nat} (hp : isP ws p) (h : ObsAt w base g gc cap gb gb2 size last os ws) :
    Calls Tryd.prog 10 #[.pointer (some ⟨g, 0, none⟩), .int .u64 (p : Int)] w (HashPost (hashAt os p) w) := by
  obtain ⟨k, hk, rfl⟩ := (h.isP p).1 hp
  have hh := ohead_any hk h
  rw [standK_lt hk] at hh
  refine hh.mono ?_
  rintro e w' ⟨rfl, hb⟩
  rw [hashAt_pos os hk]
  exact ⟨_, _, _, _, rfl, hb⟩
theorem hash_moved {fs : List Nat} {xs : List (Kx os fs)} (hst : Stays os fs xs) {p : Nat} (hp : p ∈ fs) : hashAt (moved os (ksOf xs)) (goal os (ksOf xs) p) = hashAt os p := by
  obtain ⟨j, hj, e1, e2⟩ := kept_at hst.ks ((hst.kept _).1 hp)
  have hl := hst.ks.lt _ (List.getElem_mem hj)
  have hj2 : j < (moved os (ksOf xs)).length := by rw [moved_len hst.ks]; exact hj
  have hg := moved_get hst.ks hj
  rw [List.getElem?_eq_getElem hj2] at hg
  injection hg with hg
  rw [e2, hashAt_pos _ hj2, hg, e1, hashAt_pos os hl]
  rfl
end
end Go.Proofs.YtahmljjjdoaahaaDoor.Fl
