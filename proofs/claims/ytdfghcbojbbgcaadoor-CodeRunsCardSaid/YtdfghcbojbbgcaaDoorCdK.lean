/-
  Instructions: the document's Encode.
-/
import Derived.Test.YtdfghcbojbbgcaaDoorCdJ
import Derived.Lib.SlicesS
namespace Go.Proofs.YtdfghcbojbbgcaaDoor.Fl
open Go.RowKit

theorem step_append_u {w : World} {base c : Nat} {A : Option Addr} {xs news : List UInt8} {v : Value} {ops : Array Oper} {o : Oper} {a : Act} {K : Act → World → Prop} {Q : Exit → Act → World → Prop} {E : Prop} (hg : o.guard = none) (s x : Operand) (ho : o.op = .call { callee := .builtin .append, args := #[s, x], argTypes := #[22, 22] })
    (hs : a.eval s = v) (hx : a.eval x = .slice A news.length c) (hown : OwnB w base v xs) (hr : Rd w w.heap.size A (cb news)) (hA : A = none → news.length = 0) (hl : xs.length ≤ 100000000) (hl2 : news.length ≤ 100000000) (hb : base ≤ w.heap.size)
    (h : ∀ A' ts c' w', Hid (ts = xs ++ news) → Hid (OwnB w' base (.slice A' ts.length c') ts) → Hid (Below base w w') → K (a.put o.dst (.slice A' ts.length c')) w') :
    if Region.wanted o (yielded ops a.tmps) = true then Oper.wp Tryd.prog o a w K Q else E := by
  obtain ⟨i0, hi, hz0, hz1, hz2⟩ := info_parts u8infoC
  refine step_append_rd (base := base) (size := 1) (bytes := 1) (n := xs.length) (m := news.length) (c := c) (v := v) (xs := cb xs) (news := cb news) hg s x ho Tryd.underlying22 hi hz0 hz1 hz2 rfl (by decide) hs hx hown hr (by rw [cbC_len, Nat.mul_one]) hA (cbC_one news) (by unfold maxLen; omega) (by omega) hb ?_
  intro v' w' happ
  obtain ⟨A', c', rfl, _, _⟩ := happ.slice
  have e : xs.length + news.length = (xs ++ news).length := by simp
  have ho := happ.own
  rw [e, show cb xs ++ cb news = cb (xs ++ news) from (cbC_app _ _).symm] at ho
  rw [e]
  exact h A' (xs ++ news) c' w' (Lib.hid rfl) (Lib.hid ho) (Lib.hid ((Below.refl _ _).grown happ.grown hb (fun j hj => (World.ownsRow.lt hown j hj).1)))
theorem emptyB : (⟨#[]⟩ : ByteArray).toList = [] := by
  first
    | (unfold ByteArray.toList ByteArray.toList.loop; rfl)
    | (simp [ByteArray.toList, ByteArray.toList.loop]; done)
theorem formsL_get2 {k : Nat} (h : k < 20) : ∃ (nmx : List UInt8) (a : Nat) (la : Int) (b : Nat) (t u : Int), formsL[k]? = some (nmx, (a : Int), la, (b : Int), 0, t, u) ∧ (a ≤ 2 ∧ b ≤ 2) ∧ (la = 0 ∨ (a = 1 ∧ la = -128) ∨ (a = 2 ∧ la = -32768)) ∧ nmx.toArray ≠ #[] := by
  obtain rfl | rfl | rfl | rfl | rfl | rfl | rfl | rfl | rfl | rfl | rfl | rfl | rfl | rfl | rfl | rfl | rfl | rfl | rfl | rfl : k = 0 ∨ k = 1 ∨ k = 2 ∨ k = 3 ∨ k = 4 ∨ k = 5 ∨ k = 6 ∨ k = 7 ∨ k = 8 ∨ k = 9 ∨ k = 10 ∨ k = 11 ∨ k = 12 ∨ k = 13 ∨ k = 14 ∨ k = 15 ∨ k = 16 ∨ k = 17 ∨ k = 18 ∨ k = 19 := by omega
  all_goals first
    | exact ⟨_, 0, _, 0, _, _, rfl, by decide, by decide, by decide⟩
    | exact ⟨_, 1, _, 0, _, _, rfl, by decide, by decide, by decide⟩
    | exact ⟨_, 2, _, 0, _, _, rfl, by decide, by decide, by decide⟩
    | exact ⟨_, 1, _, 1, _, _, rfl, by decide, by decide, by decide⟩
    | exact ⟨_, 1, _, 2, _, _, rfl, by decide, by decide, by decide⟩
def REncPost (l : List Ins) (w : World) (e : Ending) (w' : World) : Prop :=
  Below w.heap.size w w' ∧ ((∃ bs A c, encR l = some bs ∧ bs.length ≤ 5 * l.length ∧ e = .returned (.tuple #[.slice A bs.length c, .bool true]) ∧ OwnB w' w.heap.size (.slice A bs.length c) bs) ∨ (encR l = none ∧ e = .returned (.tuple #[.slice none 0 0, .bool false])))
end Go.Proofs.YtdfghcbojbbgcaaDoor.Fl

