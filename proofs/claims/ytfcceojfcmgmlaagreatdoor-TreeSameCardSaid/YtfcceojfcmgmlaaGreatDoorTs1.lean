/-
  Words for slices: a slice that came in (IsRow), and a slice value that reads as a list of cells (Rd), kept while the call only adds memory of its own.
-/
import Derived.WalkKit
import Derived.WalkSmall
import Derived.Laws.OwnMore
import Derived.Laws.Rows
import Derived.OpenShut
import Derived.Below
import Derived.Deep.QuietTactic
import Derived.BigQuiet
import Derived.Lib.Hide
import Derived.Maps.AppendAt
import Derived.Deep.AppendLies
import Derived.Deep.RegionHeld3
import Derived.Test.YtfcceojfcmgmlaaGreatDoorChecked
import Derived.Test.YtfcceojfcmgmlaaGreatDoorShelf
import Derived.Shelf.Strings.Builder1
import Derived.Shelf.Strings.Builder2
import Derived.Shelf.Strings.Replace
import Derived.Deep.DeepCutAuto
import Derived.Laws.BitsAllLaws
import Derived.RowKit
import Derived.Lib.ParseIntBTie
import Derived.Lib.ItoaNum
import Derived.Lib.Strings
import Derived.Test.YtfcceojfcmgmlaaGreatDoorProg
import Derived.WalkSpells
import Derived.WalkLawsBesides
import Derived.Lib.SmallJoins
import Derived.Laws.BytesArg
import Derived.LoopTactic
import Derived.Tactics2
import Derived.Defers
import Derived.Recover
import Derived.Laws.Pointers
import Derived.Test.YtfcceojfcmgmlaaGreatDoorCards
import Derived.Test.YtfcceojfcmgmlaaGreatDoorTie
import Derived.ProofKit
import Derived.ShutString
import Derived.ChangeOld
import Derived.LaidMore
import Derived.Deep.DeepHandedRow
import Derived.Lib.LaidTab
import Derived.MakeChecks
import Derived.Stop.LaidErr
import Derived.Lay
import Derived.Shelf.Vars
import Derived.RangeFuncNested
import Derived.RangeFuncBound
import Derived.RangeFuncCalls
import Derived.RangeFuncLeaves
import Derived.Shelf.Abstract
import Derived.Shelf.RegionOpen
import Derived.OwnWalkIn
import Derived.TacticsInMore
import Derived.LoopNIn
import Derived.LoopIn
import Derived.Lib.AppendIntMem
import Derived.Test.YtfcceojfcmgmlaaGreatDoorRows
import Derived.ChangeArms
import Derived.Lib.LaidU8
import Derived.Laws.IdiomStrings
import Derived.Sort.QuietTacIn
import Derived.Sort.BigQuietIn
import Derived.Lib.SlTrimSet
import Derived.Shelf.Strings.SlTrimAscii
import Derived.Laws.Runes
import Derived.WalkMore
import Derived.Lib.FieldsP
import Derived.Lib.DecodeN
namespace Go.Proofs.YtfcceojfcmgmlaaGreatDoor.Fl
open Go.RowKit

/-- the slice value '.slice A vs.length c' reads as the cells vs, which lie below block B -/
def Rd (w : World) (B : Nat) (A : Option Addr) (vs : List Value) : Prop :=
  vs = [] ∨ ∃ b off, A = some ⟨b, off, none⟩ ∧ b < B ∧ ∀ j v, vs[j]? = some v → w.cell? ⟨b, off + j, none⟩ = some v
theorem Rd.nil (w : World) (B : Nat) (A : Option Addr) : Rd w B A [] := .inl rfl
theorem Rd.at_ {w : World} {B : Nat} {A : Option Addr} {vs : List Value} (h : Rd w B A vs) {k : Nat} (hk : k < vs.length) :
    ∃ b off, A = some ⟨b, off, none⟩ ∧ b < B ∧ w.cell? ⟨b, off + k, none⟩ = some vs[k] := by
  rcases h with rfl | ⟨b, off, hA, hb, hc⟩
  · simp at hk
  · exact ⟨b, off, hA, hb, hc k _ (List.getElem?_eq_getElem hk)⟩
theorem Rd.keep {w w' : World} {B : Nat} {A : Option Addr} {vs : List Value} (h : Rd w B A vs) (hk : ∀ b o, b < B → w'.cell? ⟨b, o, none⟩ = w.cell? ⟨b, o, none⟩) : Rd w' B A vs := by
  rcases h with rfl | ⟨b, off, hA, hb, hc⟩
  · exact .inl rfl
  · exact .inr ⟨b, off, hA, hb, fun j v hj => (hk b _ hb).trans (hc j v hj)⟩
theorem Rd.below {w w' : World} {B B' : Nat} {A : Option Addr} {vs : List Value} (h : Rd w B A vs) (hb : Below B' w w') (hB : B ≤ B') : Rd w' B A vs :=
  h.keep fun b o hlt => hb.cell (p := ⟨b, o, none⟩) (by show b < B'; omega)
theorem Rd.more {w : World} {B B' : Nat} {A : Option Addr} {vs : List Value} (h : Rd w B A vs) (hB : B ≤ B') : Rd w B' A vs := by
  rcases h with rfl | ⟨b, off, hA, hb, hc⟩
  · exact .inl rfl
  · exact .inr ⟨b, off, hA, by omega, hc⟩
/-- bytes as cells -/
def cb (xs : List UInt8) : List Value := xs.map fun c => .int .u8 (c.toNat : Int)
end Go.Proofs.YtfcceojfcmgmlaaGreatDoor.Fl

/-
  A region that draws its order, whose operations only read and whose calls read or make memory of their own: walked once, in the order of the text. The class of worlds: what was there is as it was.
-/
namespace Go.Proofs.YtfcceojfcmgmlaaGreatDoor.Fl
open Go.RowKit

structure Grow (wr : World) where
  w : World
  below : Below wr.heap.size wr w
instance Grow.there (wr : World) : Nonempty (Grow wr) := ⟨⟨wr, Below.refl _ _⟩⟩
theorem Grow.cell {wr : World} (x : Grow wr) (b o : Nat) (h : b < wr.heap.size) : x.w.cell? ⟨b, o, none⟩ = wr.cell? ⟨b, o, none⟩ := x.below.cell (p := ⟨b, o, none⟩) h
theorem Grow.size {wr : World} (x : Grow wr) : wr.heap.size ≤ x.w.heap.size := x.below.size
theorem wp_region_grow {P : Program} {id : Nat} {Q : Exit → Act → World → Prop} {a : Act} {wr : World} {l : List Oper} (hm : P.follows .mixedOrders = true) (hB : Region.lexB .any l.toArray = true)
    (h : wpQuiet P l.toArray (fun w' => ∃ x : Grow wr, w' = x.w) (fun a' => ∀ w', (∃ x : Grow wr, w' = x.w) → Q .normal a' w') l a) : (Code.region id l.toArray true).wp P Q a wr :=
  wp_region_quiet (C := fun w' => ∃ x : Grow wr, w' = x.w) hm hB ⟨⟨wr.drew, (Below.refl _ _).drew⟩, rfl⟩ (by simpa using h)
/-- a call whose contract says that what was there is as it was -/
theorem Grow.call {P : Program} {f : FuncId} {args : Array Value} {wr : World} (x : Grow wr) {v : Value}
    (h : Calls P f args x.w fun e w' => e = .returned v ∧ Below x.w.heap.size x.w w') : Calls P f args x.w fun e w'' => e = .returned v ∧ ∃ y : Grow wr, w'' = y.w :=
  h.mono fun _ w' ⟨he, hb⟩ => ⟨he, ⟨⟨w', x.below.trans (hb.mono x.size)⟩, rfl⟩⟩
theorem Grow.same {P : Program} {f : FuncId} {args : Array Value} {wr : World} (x : Grow wr) {v : Value}
    (h : Calls P f args x.w fun e w' => e = .returned v ∧ x.w = w') : Calls P f args x.w fun e w'' => e = .returned v ∧ ∃ y : Grow wr, w'' = y.w :=
  h.mono fun _ _ ⟨he, hb⟩ => ⟨he, x, hb.symm⟩
end Go.Proofs.YtfcceojfcmgmlaaGreatDoor.Fl

/-
  append onto a row of the call's own, of whatever a slice value reads as (nil too): at a list of operations, and at one step of a region that draws its order.
-/
namespace Go.Proofs.YtfcceojfcmgmlaaGreatDoor.Fl
open Go.RowKit

section
variable {P : Program} {w : World} {base size bytes n B m c : Nat} {t e : TypeId} {i : TypeInfo} {z v : Value} {xs news : List Value} {A : Option Addr}
/-- what append does to a row of the call's own -/
structure AppRow (w : World) (base size n m : Nat) (e : TypeId) (v : Value) (xs news : List Value) (v' : Value) (w' : World) : Prop where
  own : w'.ownsRow base e size v' (n + m) (xs ++ news)
  grown : w.grownBy w' v.ownBlock
  at_ : v'.ownBlock = v.ownBlock ∨ v'.ownBlock = some w.heap.size
theorem AppRow.slice {w' : World} {v' : Value} (h : AppRow w base size n m e v xs news v' w') : ∃ A c, v' = .slice A (n + m) c ∧ (A = none → n + m = 0) ∧ (∀ a, A = some a → a.off = 0 ∧ a.spot = none ∧ base ≤ a.block ∧ a.block < w'.heap.size ∧ v'.ownBlock = some a.block) := by
  rcases h.own.2 with ⟨e1, e2⟩ | ⟨g, cap, cur, e1, hb, hg, _⟩
  · rw [e2]; exact ⟨none, 0, e1, (fun _ => rfl), (fun a h => by cases h)⟩
  · refine ⟨_, _, e1, (fun h => by cases h), fun a h => ?_⟩
    injection h with h
    subst h e1
    refine ⟨rfl, rfl, hb, ?_, rfl⟩
    rcases Nat.lt_or_ge g w'.heap.size with h1 | h1
    · exact h1
    · rw [Array.getElem?_eq_none h1] at hg; cases hg
theorem AppRow.below {w0 w' : World} {v' : Value} (h : AppRow w base size n m e v xs news v' w') (h0 : Below w0.heap.size w0 w) (hb : ∀ k, v.ownBlock = some k → w0.heap.size ≤ k) : Below w0.heap.size w0 w' :=
  h0.grown h.grown h0.size hb
theorem append_rd (ty : TypeId) (ht : P.underlying t = some (.slice e)) (hi : P.info? e = some i) (hz : i.zero = some z) (hsize : i.size = size) (hby : i.bytes = bytes) (hzs : z.cells.size = size) (hsz : 0 < size)
    (hown : w.ownsRow base e size v n xs) (hr : Rd w B A news) (hl : news.length = m * size) (hA : A = none → m = 0) (h1 : ∀ u ∈ news, u.oneCell' = true)
    (h63 : n + m ≤ maxLen) (hbytes : (n + m) * bytes ≤ 140737488355328) (hbase : base ≤ w.heap.size) :
    ∃ v' w', (Builtin.append_ #[t, t] ty #[v, .slice A m c]).run P w = .ok v' w' ∧ AppRow w base size n m e v xs news v' w' := by
  cases A with
  | none =>
    have hm : m = 0 := hA rfl
    subst hm
    obtain rfl : news = [] := List.eq_nil_of_length_eq_zero (by omega)
    have hrun : (Builtin.append_ #[t, t] ty #[v, .slice none 0 c]).run P w = .ok v w := by
      rcases hown.2 with ⟨rfl, rfl⟩ | ⟨g, cap, cur, rfl, _, _, hnc, _⟩
      · simp [Builtin.append_, run_underlying ht, sizeOf, typeInfo, hi, Builtin.lenOf, Builtin.firstCells]
      · simp [Builtin.append_, run_underlying ht, sizeOf, typeInfo, hi, Builtin.lenOf, Builtin.firstCells, hnc, storeCells]
    exact ⟨v, w, hrun, by rw [Nat.add_zero, List.append_nil]; exact hown, World.grownBy.refl w _, .inl rfl⟩
  | some ad =>
    have hc : ∀ j u, news[j]? = some u → w.cell? (ad.add j) = some u := fun j u hu => by
      rcases hr with rfl | ⟨b, off, hA2, _, hcell⟩
      · simp at hu
      · injection hA2 with hA2
        subst hA2
        have := hcell j u hu
        have e : (⟨b, off, none⟩ : Addr).add j = ⟨b, off + j, none⟩ := by unfold Addr.add; split <;> simp_all
        rw [e]; exact this
    obtain ⟨v', w', h2, h3, h4, _, h6⟩ := run_append_own_at (P := P) w base t ty e i z size bytes ht hi hz hsize hby hzs hsz v n xs hown ad m c news hl hc h1 h63 hbytes hbase
    exact ⟨v', w', h2, h3, h4, h6⟩
theorem oper_append_rd {o : Oper} {a : Act} {K : Act → World → Prop} {Q : Exit → Act → World → Prop} (s x : Operand) (ho : o.op = .call { callee := .builtin .append, args := #[s, x], argTypes := #[t, t] })
    (ht : P.underlying t = some (.slice e)) (hi : P.info? e = some i) (hz : i.zero = some z) (hsize : i.size = size) (hby : i.bytes = bytes) (hzs : z.cells.size = size) (hsz : 0 < size)
    (hs : a.eval s = v) (hx : a.eval x = .slice A m c) (hown : w.ownsRow base e size v n xs) (hr : Rd w B A news) (hl : news.length = m * size) (hA : A = none → m = 0) (h1 : ∀ u ∈ news, u.oneCell' = true)
    (h63 : n + m ≤ maxLen) (hbytes : (n + m) * bytes ≤ 140737488355328) (hbase : base ≤ w.heap.size)
    (h : ∀ v' w', AppRow w base size n m e v xs news v' w' → K (a.put o.dst v') w') : o.wp P a w K Q := by
  obtain ⟨v', w', h2, h3⟩ := append_rd (c := c) o.type ht hi hz hsize hby hzs hsz hown hr hl hA h1 h63 hbytes hbase
  unfold Oper.wp execOp
  simp only [ho, resolve, invoke, builtin, Sem.run_bind, Sem.run_pure, Result.andThen_ok, List.map_toArray, List.map_cons, List.map_nil, hs, hx, h2]
  exact h v' w' h3
theorem wpList_append_rd {ops : Array Oper} {rest : List Oper} {o : Oper} {a : Act} {Q : Exit → Act → World → Prop} (hg : o.guard = none) (s x : Operand) (ho : o.op = .call { callee := .builtin .append, args := #[s, x], argTypes := #[t, t] })
    (ht : P.underlying t = some (.slice e)) (hi : P.info? e = some i) (hz : i.zero = some z) (hsize : i.size = size) (hby : i.bytes = bytes) (hzs : z.cells.size = size) (hsz : 0 < size)
    (hs : a.eval s = v) (hx : a.eval x = .slice A m c) (hown : w.ownsRow base e size v n xs) (hr : Rd w B A news) (hl : news.length = m * size) (hA : A = none → m = 0) (h1 : ∀ u ∈ news, u.oneCell' = true)
    (h63 : n + m ≤ maxLen) (hbytes : (n + m) * bytes ≤ 140737488355328) (hbase : base ≤ w.heap.size)
    (h : ∀ v' w', AppRow w base size n m e v xs news v' w' → wpList P ops Q rest (a.put o.dst v') w') : wpList P ops Q (o :: rest) a w :=
  wpList_plain hg fun _ hK => oper_append_rd s x ho ht hi hz hsize hby hzs hsz hs hx hown hr hl hA h1 h63 hbytes hbase fun v' w' h2 => hK _ _ (h v' w' h2)
theorem step_append_rd {ops : Array Oper} {o : Oper} {a : Act} {K : Act → World → Prop} {Q : Exit → Act → World → Prop} {E : Prop} (hg : o.guard = none) (s x : Operand) (ho : o.op = .call { callee := .builtin .append, args := #[s, x], argTypes := #[t, t] })
    (ht : P.underlying t = some (.slice e)) (hi : P.info? e = some i) (hz : i.zero = some z) (hsize : i.size = size) (hby : i.bytes = bytes) (hzs : z.cells.size = size) (hsz : 0 < size)
    (hs : a.eval s = v) (hx : a.eval x = .slice A m c) (hown : w.ownsRow base e size v n xs) (hr : Rd w B A news) (hl : news.length = m * size) (hA : A = none → m = 0) (h1 : ∀ u ∈ news, u.oneCell' = true)
    (h63 : n + m ≤ maxLen) (hbytes : (n + m) * bytes ≤ 140737488355328) (hbase : base ≤ w.heap.size)
    (h : ∀ v' w', AppRow w base size n m e v xs news v' w' → K (a.put o.dst v') w') :
    if Region.wanted o (yielded ops a.tmps) = true then Oper.wp P o a w K Q else E := by
  have hw : Region.wanted o (yielded ops a.tmps) = true := by simp [Region.wanted, hg]
  rw [if_pos hw]
  exact oper_append_rd s x ho ht hi hz hsize hby hzs hsz hs hx hown hr hl hA h1 h63 hbytes hbase h
end
/-- an empty row of the call's own, just made -/
theorem own_void (w : World) (e : TypeId) (size base : Nat) (hb : base ≤ w.heap.size) : (w.alloc (.cells #[] e)).ownsRow base e size (.slice (some ⟨w.heap.size, 0, none⟩) 0 0) 0 [] :=
  ⟨by simp, .inr ⟨w.heap.size, 0, #[], rfl, hb, heap_alloc_new w _, Nat.le_refl _, by unfold maxLen; omega, by simp, by simp⟩⟩
end Go.Proofs.YtfcceojfcmgmlaaGreatDoor.Fl

/-
  A slice of numbers that came in.
-/
namespace Go.Proofs.YtfcceojfcmgmlaaGreatDoor.Fl
open Go.RowKit

end Go.Proofs.YtfcceojfcmgmlaaGreatDoor.Fl

/-
  The lexer: its reader in memory; a byte ahead, bytes as long as they are such, giving up.
-/
namespace Go.Proofs.YtfcceojfcmgmlaaGreatDoor.Fl
open Go.RowKit

theorem lt_of_blk {w : World} {k : Nat} {o : Obj} (h : w.heap[k]? = some o) : k < w.heap.size := by
  rcases Nat.lt_or_ge k w.heap.size with h1 | h1
  · exact h1
  · rw [Array.getElem?_eq_none h1] at h; cases h
/-- what stands in memory beside one block has not changed -/
structure Ov (R : Nat) (w w' : World) : Prop where
  os : w'.os = w.os
  tape : w'.tape = w.tape
  output : w'.output = w.output
  size : w.heap.size ≤ w'.heap.size
  block : ∀ k, k < w.heap.size → k ≠ R → w'.heap[k]? = w.heap[k]?
theorem Ov.refl (R : Nat) (w : World) : Ov R w w := ⟨rfl, rfl, rfl, Nat.le_refl _, fun _ _ _ => rfl⟩
theorem Ov.trans {R : Nat} {w w1 w2 : World} (h : Ov R w w1) (k : Ov R w1 w2) : Ov R w w2 :=
  ⟨k.os.trans h.os, k.tape.trans h.tape, k.output.trans h.output, Nat.le_trans h.size k.size, fun j hj hn => (k.block j (Nat.lt_of_lt_of_le hj h.size) hn).trans (h.block j hj hn)⟩
theorem Ov.of_below {R : Nat} {w w' : World} (h : Below w.heap.size w w') : Ov R w w' := ⟨h.os, h.tape, h.output, h.size, fun k hk _ => h.block k hk⟩
theorem Ov.set {R : Nat} (w : World) (k : Nat) (v : Value) : Ov R w (w.setCell ⟨R, k, none⟩ v) :=
  ⟨rfl, rfl, rfl, Nat.le_of_eq (by simp [World.setCell]), fun j _ hn => Below.heap_setCell _ _ _ _ hn⟩
theorem Ov.below {R B : Nat} {w w' : World} (h : Ov R w w') (hB : B ≤ w.heap.size) (hR : B ≤ R) : Below B w w' :=
  ⟨h.os, h.tape, h.output, h.size, fun k hk => h.block k (by omega) (by omega)⟩
/-- the reader -/
def RdrAt (w : World) (R : Nat) (s : ByteArray) (p b : Nat) : Prop := w.heap[R]? = some (.cells #[.string s, .int .i64 (p : Int), .int .i64 (b : Int)] 167 (0, 0))
theorem RdrAt.below {w w' : World} {R p b : Nat} {s : ByteArray} (h : RdrAt w R s p b) (hb : Below w.heap.size w w') : RdrAt w' R s p b := (hb.block _ (lt_of_blk h)).trans h
theorem RdrAt.cells {w : World} {R p b : Nat} {s : ByteArray} (h : RdrAt w R s p b) :
    w.cell? ⟨R, 0, none⟩ = some (.string s) ∧ w.cell? ⟨R, 1, none⟩ = some (.int .i64 (p : Int)) ∧ w.cell? ⟨R, 2, none⟩ = some (.int .i64 (b : Int)) ∧ ∀ k, w.frozen? ⟨R, k, none⟩ = false :=
  ⟨cell_of_row _ _ _ _ _ _ h, cell_of_row _ _ _ _ _ _ h, cell_of_row _ _ _ _ _ _ h, fun k => frozen_of_row _ _ _ _ _ h⟩
abbrev sb (s : ByteArray) : List UInt8 := s.data.toList
theorem sb_len (s : ByteArray) : (sb s).length = s.size := by simp [sb]
theorem sb_extract (s : ByteArray) (a b : Nat) : sb (s.extract a b) = ((sb s).take b).drop a := by
  simp [sb, List.extract_eq_drop_take']
theorem sb_tail (s : ByteArray) (a : Nat) : sb (s.extract a s.size) = (sb s).drop a := by
  rw [sb_extract, List.take_of_length_le (by rw [sb_len]; exact Nat.le_refl _)]
/-- the byte at a place; 0 behind the end -/
def lookB (s : ByteArray) (p : Nat) : Nat := if h : p < s.size then s[p].toNat else 0
def blankN (c : Nat) : Bool := c == 32 || c == 9 || c == 10 || c == 13
def letterN (c : Nat) : Bool := (decide (97 ≤ c) && decide (c ≤ 122)) || (decide (65 ≤ c) && decide (c ≤ 90))
theorem letterN_any (c : Nat) (w : World) (hc : c < 256) :
    Calls Tryz.prog 93 #[.int .u8 (c : Int)] w fun e w' => e = .returned (.bool (letterN c)) ∧ w = w' := by
  obtain ⟨r, hr⟩ : ∃ r, letterN c = r := ⟨_, rfl⟩
  rw [hr]
  have HR := Lib.hid hr
  clear hr
  go_enter Tryz.func93, Tryz.ntmps93
  go_wp2_with fail
  all_goals
    go_ret
    refine ⟨congrArg (fun x => Ending.returned (Value.bool x)) ?_, rfl⟩
    rw [← HR.out]
    unfold letterN
    refine Bool.eq_iff_iff.2 ?_
    first
    | (simp; done)
    | (simp; omega)
def digitN (c : Nat) : Bool := decide (48 ≤ c) && decide (c ≤ 57)
theorem digitN_any (c : Nat) (w : World) (hc : c < 256) :
    Calls Tryz.prog 114 #[.int .u8 (c : Int)] w fun e w' => e = .returned (.bool (digitN c)) ∧ w = w' := by
  obtain ⟨r, hr⟩ : ∃ r, digitN c = r := ⟨_, rfl⟩
  rw [hr]
  have HR := Lib.hid hr
  clear hr
  go_enter Tryz.func114, Tryz.ntmps114
  go_wp2_with fail
  all_goals
    go_ret
    refine ⟨congrArg (fun x => Ending.returned (Value.bool x)) ?_, rfl⟩
    rw [← HR.out]
    unfold digitN
    refine Bool.eq_iff_iff.2 ?_
    first
    | (simp; done)
    | (simp; omega)
def partN (c : Nat) : Bool := letterN c || digitN c
theorem partN_any (c : Nat) (w : World) (hc : c < 256) :
    Calls Tryz.prog 92 #[.int .u8 (c : Int)] w fun e w' => e = .returned (.bool (partN c)) ∧ w = w' := by
  have h1 := letterN_any c w hc
  have h2 := digitN_any c w hc
  have HR := Lib.hid (show partN c = (letterN c || digitN c) from rfl)
  generalize partN c = r at *
  go_enter Tryz.func92, Tryz.ntmps92
  cases hl : letterN c
  · rw [hl] at h1 HR
    go_wp2_with fail
    refine h1.mono ?_
    rintro e w' ⟨rfl, rfl⟩
    go_wp2_with fail
    refine h2.mono ?_
    rintro e w' ⟨rfl, rfl⟩
    go_wp2_with fail
    go_ret
    exact ⟨by rw [HR.out]; rfl, rfl⟩
  · rw [hl] at h1 HR
    go_wp2_with fail
    refine h1.mono ?_
    rintro e w' ⟨rfl, rfl⟩
    go_wp2_with fail
    go_ret
    exact ⟨by rw [HR.out]; rfl, rfl⟩
/-- the place behind bytes that are such -/
def runE (f : Nat → Bool) (s : ByteArray) (p : Nat) : Nat := p + (((sb s).drop p).takeWhile fun c => f c.toNat).length
theorem runE_step {f : Nat → Bool} {s : ByteArray} {p : Nat} (h : p < s.size) (hf : f s[p].toNat = true) : runE f s p = runE f s (p + 1) := by
  unfold runE
  have : (sb s).drop p = s[p] :: (sb s).drop (p + 1) := by
    rw [List.drop_eq_getElem_cons (by rw [sb_len]; exact h)]; rfl
  rw [this, List.takeWhile_cons, if_pos hf, List.length_cons]; omega
theorem runE_stop {f : Nat → Bool} {s : ByteArray} {p : Nat} (h : p < s.size) (hf : f s[p].toNat = false) : runE f s p = p := by
  unfold runE
  have : (sb s).drop p = s[p] :: (sb s).drop (p + 1) := by
    rw [List.drop_eq_getElem_cons (by rw [sb_len]; exact h)]; rfl
  rw [this, List.takeWhile_cons, if_neg (by rw [hf]; simp)]; rfl
theorem runE_end {f : Nat → Bool} {s : ByteArray} : runE f s s.size = s.size := by
  unfold runE
  rw [List.drop_of_length_le (by rw [sb_len]; exact Nat.le_refl _)]; rfl
theorem RdrAt.step {w : World} {R p b : Nat} {s : ByteArray} (h : RdrAt w R s p b) (q : Nat) : RdrAt (w.setCell ⟨R, 1, none⟩ (.int .i64 (q : Int))) R s q b :=
  heap_setCell_same w R 1 _ _ (.int .i64 (q : Int)) h
end Go.Proofs.YtfcceojfcmgmlaaGreatDoor.Fl

/-
  strings.Builder, and ReplaceAll, at this dump.
-/
namespace Go.Proofs.YtfcceojfcmgmlaaGreatDoor.Fl
open Go.RowKit

theorem u8infoL : (Tryz.prog.info? 5).map (fun i => (i.zero, i.size, i.bytes)) = some (some (.int .u8 0), 1, 1) := by kernel_rfl
set_option maxRecDepth 100000 in
theorem copyCheck_used (b : Nat) (w : World) (h0 : w.cell? ⟨b, 0, none⟩ = some (.pointer (some ⟨b, 0, none⟩))) :
    Calls Tryz.prog 82 #[.pointer (some ⟨b, 0, none⟩)] w fun e w' => e = .returned (.tuple #[]) ∧ w = w' := by
  go_enter Tryz.func82, Tryz.ntmps82
  obtain ⟨j, hj⟩ := Option.isSome_iff_exists.1 (show (Tryz.prog.info? 67).isSome = true by kernel_rfl)
  go_wp2_with fail
  rw [Lib.run_neq_ptr_same w _ Tryz.underlying64 hj]
  go_wp2
  go_end0
  exact ⟨rfl, rfl⟩
theorem strCells_sb (s : ByteArray) : Lib.strCells s = Lib.byteCells (sb s) := Lib.strCells_eq s
end Go.Proofs.YtfcceojfcmgmlaaGreatDoor.Fl

/-
  The lexer: what may stand ahead of a token; a Name or a Keyword.
-/
namespace Go.Proofs.YtfcceojfcmgmlaaGreatDoor.Fl
open Go.RowKit

/-- goes over blanks and notes: where what is next begins, or where a note does that doesn't end -/
def skipA (m : Option Nat) (p : Nat) : List UInt8 → Nat ⊕ Nat
  | [] => match m with
    | none => .inl p
    | some b => .inr b
  | c :: l => match m with
    | none => if blankN c.toNat then skipA none (p + 1) l else if c = 34 then skipA (some p) (p + 1) l else .inl p
    | some b => if c = 34 then skipA none (p + 1) l else skipA (some b) (p + 1) l
theorem indexByte_ge (c : UInt8) : ∀ l : List UInt8, -1 ≤ Lib.indexByte l c
  | [] => by simp [Lib.indexByte]
  | b :: l => by
    have := indexByte_ge c l
    rw [Lib.indexByte]
    split
    · omega
    · split <;> omega
theorem indexByte_lt (c : UInt8) : ∀ l : List UInt8, Lib.indexByte l c < (l.length : Int)
  | [] => by simp [Lib.indexByte]
  | b :: l => by
    have := indexByte_lt c l
    rw [Lib.indexByte, List.length_cons]
    split
    · omega
    · split <;> omega
end Go.Proofs.YtfcceojfcmgmlaaGreatDoor.Fl

/-
  Heads of objects in plain mathematics: the second word, what is wrong with a head, how many cells it has.
-/
namespace Go.Proofs.YtfcceojfcmgmlaaGreatDoor.Fl

theorem whole (x : Nat) : x = x % 4294967296 + x / 4294967296 % 16 * 4294967296 + x / 68719476736 % 2 * 68719476736 + x / 137438953472 % 8 * 137438953472 + x / 1099511627776 * 1099511627776 := by
  have h1 : x = x % 4294967296 + x / 4294967296 * 4294967296 := by omega
  have h2 : x / 68719476736 = x / 4294967296 / 16 := by rw [Nat.div_div_eq_div_mul]
  have h3 : x / 137438953472 = x / 4294967296 / 32 := by rw [Nat.div_div_eq_div_mul]
  have h4 : x / 1099511627776 = x / 4294967296 / 256 := by rw [Nat.div_div_eq_div_mul]
  rw [h2, h3, h4]
  generalize x / 4294967296 = y at *
  generalize x % 4294967296 = z at *
  omega
end Go.Proofs.YtfcceojfcmgmlaaGreatDoor.Fl

/-
  Plain mathematics for layer 1 (numbers in a word): no program in it. The word of a number, the number of a word, the bitwise operations on 64 bits, division rounded down, products and shifts that wrap.
-/
namespace Go.Proofs.YtfcceojfcmgmlaaGreatDoor.Fl
open Go.RowKit

def InR (n : Int) : Prop := -4611686018427387904 ≤ n ∧ n ≤ 4611686018427387903
instance (n : Int) : Decidable (InR n) := by unfold InR; exact inferInstance
def wd (n : Int) : Int := (2 * n + 1) % 18446744073709551616
/-! ### bitwise, with a sign -/
/-- the 64 bits of a number with its sign, as a natural number -/
def u (x : Int) : Nat := (x % 18446744073709551616).toNat
theorem wrap_i64 (n : Int) : IntKind.i64.wrap n = wrap64 n := by
  unfold wrap64
  have e64 : (2 : Int) ^ 64 = 18446744073709551616 := by decide
  have e63 : (2 : Int) ^ (64 - 1) = 9223372036854775808 := by decide
  simp only [IntKind.wrap, IntKind.bits, IntKind.signed, Bool.true_and, decide_eq_true_eq, e64, e63]
  split <;> omega
attribute [irreducible] wd val resW resE
end Go.Proofs.YtfcceojfcmgmlaaGreatDoor.Fl

/-
  Plain mathematics for layer 1: division rounded down, products and shifts that wrap at 64 bits, and what the reference's loops come to.
-/
namespace Go.Proofs.YtfcceojfcmgmlaaGreatDoor.Fl
open Go.RowKit

/-- divided, down to the next whole number; what is left of that -/
def flo (x y : Int) : Int := if x.tmod y ≠ 0 ∧ decide (x < 0) ≠ decide (y < 0) then x.tdiv y - 1 else x.tdiv y
def rest (x y : Int) : Int := x - flo x y * y
/-! ### products -/
/-! ### shifts -/
attribute [irreducible] flo rest shR
end Go.Proofs.YtfcceojfcmgmlaaGreatDoor.Fl

/-
  Plain mathematics for the checksum: one step, one byte, all bytes; another byte makes another sum. No program in it.
-/
namespace Go.Proofs.YtfcceojfcmgmlaaGreatDoor.Fl
open Go.RowKit

/-! ### another byte -/
/-! ### as the walk writes it -/
end Go.Proofs.YtfcceojfcmgmlaaGreatDoor.Fl

/-
  Counting the bits of a word, in plain mathematics: by fields that are added pairwise.
-/
namespace Go.Proofs.YtfcceojfcmgmlaaGreatDoor.Fl

end Go.Proofs.YtfcceojfcmgmlaaGreatDoor.Fl

/-
  Plain mathematics for texts of numbers: which texts are numerals, what they spell, and what the library's numerals are. No program in it.
-/
namespace Go.Proofs.YtfcceojfcmgmlaaGreatDoor.Fl
open Go.RowKit

def isDig (c : UInt8) : Bool := decide (48 ≤ c.toNat) && decide (c.toNat ≤ 57)
def allDig (l : List UInt8) : Bool := l.all isDig
def dv (acc : Nat) : List UInt8 → Nat
  | [] => acc
  | c :: r => dv (acc * 10 + (c.toNat - 48)) r
/-- behind the sign -/
def body (l : List UInt8) : List UInt8 := if l.head? = some 45 then l.tail else l
def isNeg (l : List UInt8) : Bool := l.head? == some 45
def form (l : List UInt8) : Bool := allDig (body l) && !(body l).isEmpty
def spelt (l : List UInt8) : Int := if isNeg l then -(dv 0 (body l) : Int) else (dv 0 (body l) : Int)
def pe (l : List UInt8) : Int := if form l then (if InR (spelt l) then 0 else 9) else 3

/-! ### what the library reads -/
/-! ### what the reference reads -/
attribute [irreducible] pv pe sat
end Go.Proofs.YtfcceojfcmgmlaaGreatDoor.Fl

/-
  Numbers as texts, of any length: small.digits, small.Parse.
-/
namespace Go.Proofs.YtfcceojfcmgmlaaGreatDoor.Fl
open Go.RowKit

theorem sb_at (s : ByteArray) (k : Nat) (h : k < s.size) : (sb s)[k]? = some s[k] := by
  have : k < (sb s).length := by rw [sb_len]; exact h
  rw [List.getElem?_eq_getElem this]; rfl
theorem sb_mk (l : List UInt8) : sb ⟨l.toArray⟩ = l := by simp [sb]
theorem mkL_size (l : List UInt8) : (⟨l.toArray⟩ : ByteArray).size = l.length := by simp [ByteArray.size]

/-- what the walks read of the program's own variables -/
structure EnvL (w : World) : Prop where
  tab : Lib.TabIs Tryz.prog w "internal/strconv.uint64pow10" .u64 Lib.pow10Tab
  err : ∃ tp p, w.var? Tryz.prog "strconv.ErrRange" = some #[.iface tp p]
theorem varL_lt {w : World} {n : String} {g : Nat} {cs : Array Value} (hg : Tryz.prog.globalNamed n = some g) (h : w.var? Tryz.prog n = some cs) : g < w.heap.size := by
  rcases Nat.lt_or_ge g w.heap.size with hlt | hge
  · exact hlt
  · exfalso
    unfold World.var? at h
    rw [hg] at h
    simp [Array.getElem?_eq_none hge] at h
theorem gPowL : Tryz.prog.globalNamed "internal/strconv.uint64pow10" = some 0 := by kernel_rfl
theorem gErrL : Tryz.prog.globalNamed "strconv.ErrRange" = some 7 := by kernel_rfl
theorem tabL_below {w w' : World} (h : Lib.TabIs Tryz.prog w "internal/strconv.uint64pow10" .u64 Lib.pow10Tab) (hb : Below w.heap.size w w') : Lib.TabIs Tryz.prog w' "internal/strconv.uint64pow10" .u64 Lib.pow10Tab :=
  var?_below hb gPowL (varL_lt gPowL h) h
theorem EnvL.below {w w' : World} (h : EnvL w) (hb : Below w.heap.size w w') : EnvL w' :=
  ⟨tabL_below h.tab hb, by obtain ⟨tp, p, hv⟩ := h.err; exact ⟨tp, p, var?_below hb gErrL (varL_lt gErrL hv) hv⟩⟩
end Go.Proofs.YtfcceojfcmgmlaaGreatDoor.Fl

/-
  The lexer: numbers, a byte behind $, Ops, Keywords behind a #.
-/
namespace Go.Proofs.YtfcceojfcmgmlaaGreatDoor.Fl
open Go.RowKit

/-- what stands between two places -/
def midL (s : ByteArray) (a b : Nat) : List UInt8 := ((sb s).take b).drop a
/-- what an Op is made of -/
def opsL : List UInt8 := [43, 45, 42, 47, 92, 126, 60, 62, 61, 38, 44, 64, 37, 63]
def isOpc (c : UInt8) : Bool := decide (0 ≤ Lib.indexByte opsL c)
def isOpL (l : List UInt8) : Bool := if l.all isOpc then l.length == 1 || (l.length == 2 && l[1]? != some 45) else l == [124]
set_option maxHeartbeats 1000000 in
theorem lxOp_is (t : ByteArray) (w : World) (ht : t.size ≤ 16777216) :
    Calls Tryz.prog 69 #[.string t] w fun e w' => e = .returned (.bool (isOpL (sb t))) ∧ w = w' := by
  have hix := fun (c : UInt8) (w : World) => Tryz.strings_IndexByte ⟨#[43, 45, 42, 47, 92, 126, 60, 62, 61, 38, 44, 64, 37, 63]⟩ (c.toNat : Int) w
  go_enter Tryz.func69, Tryz.ntmps69
  go_wp2_with fail
  go_loop [6] (fun v => ∃ k : Nat, k ≤ t.size ∧ v = .int .i64 (k : Int) ∧ Hid (((sb t).take k).all isOpc = true)) (fun v => t.size - (intOf v).toNat)
  case atStart => exact ⟨0, Nat.zero_le _, rfl, Lib.hid rfl⟩
  case round =>
    obtain ⟨k, hk, rfl, HK⟩ := hrel
    by_cases hlt : k < t.size
    · have hT : (sb t).take (k + 1) = (sb t).take k ++ [t[k]] := by
        have hl : k < (sb t).length := by rw [sb_len]; exact hlt
        rw [List.take_succ_eq_append_getElem hl]; rfl
      have HT := Lib.hid hT
      clear hT
      have hi := hix t[k] w
      rw [Int.toNat_natCast, show t[k].toNat.toUInt8 = t[k] by simp] at hi
      change Calls _ _ _ _ (fun e w' => e = .returned (.int .i64 (Lib.indexByte opsL t[k])) ∧ w' = w) at hi
      obtain ⟨ix, hx⟩ : ∃ ix, Lib.indexByte opsL t[k] = ix := ⟨_, rfl⟩
      have HX := Lib.hid hx
      rw [hx] at hi
      clear hx hix
      by_cases hneg : ix < 0
      · go_wp2_with fail
        refine hi.mono ?_
        rintro e w' ⟨rfl, rfl⟩
        have HF := Lib.hid (show isOpL (sb t) = (t.toList == [124]) by
          have hna : (sb t).all isOpc = false := by
            rw [Bool.eq_false_iff]
            intro ha
            rw [List.all_eq_true] at ha
            have h1 := ha t[k] (List.mem_of_getElem? (sb_at t k hlt))
            unfold isOpc at h1
            rw [HX.out] at h1
            have := of_decide_eq_true h1
            omega
          unfold isOpL
          rw [hna, ByteArray.toList_eq]; rfl)
        go_wp2_with fail
        go_ret
        exact ⟨by rw [HF.out]; rfl, rfl⟩
      · go_wp2_with fail
        refine hi.mono ?_
        rintro e w' ⟨rfl, rfl⟩
        go_wp2_with fail
        go_round
        case rel => exact ⟨k + 1, by omega, by go_num, Lib.hid (by rw [HT.out, List.all_append, HK.out]; simp only [List.all_cons, List.all_nil, Bool.and_true, Bool.true_and]; unfold isOpc; rw [HX.out]; exact decide_eq_true (by omega))⟩
        case measure => simp [intOf]; omega
    · have e : k = t.size := by omega
      subst e
      have HA := Lib.hid (show (sb t).all isOpc = true by have := HK.out; rwa [List.take_of_length_le (by rw [sb_len]; exact Nat.le_refl _)] at this)
      have HF := Lib.hid (show isOpL (sb t) = ((sb t).length == 1 || ((sb t).length == 2 && (sb t)[1]? != some 45)) by unfold isOpL; rw [HA.out]; rfl)
      rw [sb_len] at HF
      clear hix
      by_cases h1 : t.size = 1
      · have HE := Lib.hid (show isOpL (sb t) = true by rw [HF.out, h1]; rfl)
        have e1 : (t.size : Int) = 1 := by omega
        go_wp2_with fail
        go_ret
        exact ⟨by rw [HE.out]; rfl, rfl⟩
      · by_cases h2 : t.size = 2
        · have HE := Lib.hid (show isOpL (sb t) = ((t[1].toNat : Int) != 45) by
            have g1 : (t.size == 1) = false := by simp [h1]
            have g2 : (t.size == 2) = true := by simp [h2]
            rw [HF.out, g1, g2, sb_at t 1 (by omega)]
            have : (t[1] = 45) ↔ (t[1].toNat : Int) = 45 := by
              rw [← UInt8.toNat_inj]
              show t[1].toNat = 45 ↔ _
              omega
            by_cases hc : t[1] = 45
            · rw [hc]; rfl
            · have hc2 : ¬ (t[1].toNat : Int) = 45 := fun e => hc (this.2 e)
              have a1 : (some t[1] != some (45 : UInt8)) = true := by simpa using hc
              have a2 : ((t[1].toNat : Int) != 45) = true := by simpa using hc2
              rw [a1, a2]; rfl)
          have e1 : (t.size : Int) = 2 := by omega
          go_wp2_with fail
          go_ret
          exact ⟨by rw [HE.out]; rfl, rfl⟩
        · have HE := Lib.hid (show isOpL (sb t) = false by
            rw [HF.out]; simp [h1, h2])
          have e1 : ((t.size : Int) == 1) = false := by simp; omega
          have e2 : ((t.size : Int) == 2) = false := by simp; omega
          go_wp2_with fail
          go_ret
          exact ⟨by rw [HE.out]; rfl, rfl⟩
/-- how long an Op stands at a place, of at most so many bytes -/
def opF (s : ByteArray) (p : Nat) : Nat → Nat
  | 0 => 0
  | k + 1 => if p + (k + 1) ≤ s.size ∧ isOpL (midL s p (p + (k + 1))) = true then k + 1 else opF s p k
end Go.Proofs.YtfcceojfcmgmlaaGreatDoor.Fl

/-
  The lexer: what stands between '.
-/
namespace Go.Proofs.YtfcceojfcmgmlaaGreatDoor.Fl
open Go.RowKit

/-- what the lexer reads of package variables -/
def MaxAt (w : World) : Prop := ∃ m, w.cell? ⟨1, 0, none⟩ = some (.int .i64 m)
theorem MaxAt.below {w w' : World} (h : MaxAt w) (hb : Below w.heap.size w w') : MaxAt w' := by
  obtain ⟨m, hm⟩ := h
  exact ⟨m, (hb.cell (p := ⟨1, 0, none⟩) (World.block_lt_of_cell? _ _ hm)).trans hm⟩
end Go.Proofs.YtfcceojfcmgmlaaGreatDoor.Fl

/-
  The lexer: what a # is with; marks.
-/
namespace Go.Proofs.YtfcceojfcmgmlaaGreatDoor.Fl
open Go.RowKit

theorem sb_size (t : ByteArray) : t.size = (sb t).length := (sb_len t).symm
end Go.Proofs.YtfcceojfcmgmlaaGreatDoor.Fl

/-
  The lexer: a token.
-/
namespace Go.Proofs.YtfcceojfcmgmlaaGreatDoor.Fl
open Go.RowKit

/-- what stands while a token is made -/
structure TkW (w0 w : World) (R T C : Nat) (s : ByteArray) (p b : Nat) (v0 v1 v2 v3 : Value) : Prop where
  rdr : RdrAt w R s p b
  tok : w.heap[T]? = some (.cells #[v0, v1, v2, v3] 135 (0, 0))
  res : w.heap[C]? = some (.cells #[.int .i64 0, .string ⟨#[]⟩, .int .i64 0, .int .i64 0] 135 (0, 0))
  ov : Ov R w0 w
  ne : T ≠ R ∧ C ≠ R ∧ T ≠ C ∧ w0.heap.size ≤ T ∧ w0.heap.size ≤ C
theorem TkW.step {w0 w w' : World} {R T C p b p' b' : Nat} {s : ByteArray} {v0 v1 v2 v3 : Value} (h : TkW w0 w R T C s p b v0 v1 v2 v3) (hr : RdrAt w' R s p' b') (ho : Ov R w w') : TkW w0 w' R T C s p' b' v0 v1 v2 v3 :=
  ⟨hr, (ho.block T (lt_of_blk h.tok) h.ne.1).trans h.tok, (ho.block C (lt_of_blk h.res) h.ne.2.1).trans h.res, h.ov.trans ho, h.ne⟩
theorem TkW.below {w0 w w' : World} {R T C p b : Nat} {s : ByteArray} {v0 v1 v2 v3 : Value} (h : TkW w0 w R T C s p b v0 v1 v2 v3) (hb : Below w.heap.size w w') : TkW w0 w' R T C s p b v0 v1 v2 v3 :=
  h.step (h.rdr.below hb) (Ov.of_below hb)
theorem Ov.above {R B : Nat} {w w' : World} (h : Ov R w w') (hB : w.heap.size ≤ B) (k : Nat) (v : Value) : Ov R w (w'.setCell ⟨B, k, none⟩ v) :=
  ⟨h.os, h.tape, h.output, by simp [World.setCell]; exact h.size, fun j hj hn => (Below.heap_setCell _ _ _ _ (show j ≠ B by omega)).trans (h.block j hj hn)⟩
theorem RdrAt.other {w : World} {R B p b : Nat} {s : ByteArray} (h : RdrAt w R s p b) (hB : B ≠ R) (k : Nat) (v : Value) : RdrAt (w.setCell ⟨B, k, none⟩ v) R s p b :=
  (Below.heap_setCell _ _ _ _ (fun e => hB e.symm)).trans h
theorem TkW.set {w0 w : World} {R T C p b : Nat} {s : ByteArray} {v0 v1 v2 v3 x0 x1 x2 x3 : Value} (h : TkW w0 w R T C s p b v0 v1 v2 v3) (j : Nat) (x : Value) (hx : (#[v0, v1, v2, v3] : Array Value).setIfInBounds j x = #[x0, x1, x2, x3]) : TkW w0 (w.setCell ⟨T, j, none⟩ x) R T C s p b x0 x1 x2 x3 :=
  ⟨h.rdr.other h.ne.1 j x, by rw [← hx]; exact heap_setCell_same w T j _ _ x h.tok, (Below.heap_setCell w ⟨T, j, none⟩ x C (fun e => h.ne.2.2.1 e.symm)).trans h.res, h.ov.above h.ne.2.2.2.1 j x, h.ne⟩
theorem set4 {w : World} {C : Nat} {a0 a1 a2 a3 : Value} {T : TypeId} (h : w.heap[C]? = some (.cells #[a0, a1, a2, a3] T (0, 0))) (v0 v1 v2 v3 : Value) :
    ((((w.setCell ⟨C, 0, none⟩ v0).setCell ⟨C, 1, none⟩ v1).setCell ⟨C, 2, none⟩ v2).setCell ⟨C, 3, none⟩ v3).heap[C]? = some (.cells #[v0, v1, v2, v3] T (0, 0)) :=
  heap_setCell_same _ C 3 _ _ v3 (heap_setCell_same _ C 2 _ _ v2 (heap_setCell_same _ C 1 _ _ v1 (heap_setCell_same w C 0 _ _ v0 h)))
/-- the token is handed back -/
theorem TkW.fin {w0 w : World} {R T C p b : Nat} {s : ByteArray} {v0 v1 v2 v3 : Value} (h : TkW w0 w R T C s p b v0 v1 v2 v3) :
    RdrAt ((((w.setCell ⟨C, 0, none⟩ v0).setCell ⟨C, 1, none⟩ v1).setCell ⟨C, 2, none⟩ v2).setCell ⟨C, 3, none⟩ v3) R s p b ∧ Ov R w0 ((((w.setCell ⟨C, 0, none⟩ v0).setCell ⟨C, 1, none⟩ v1).setCell ⟨C, 2, none⟩ v2).setCell ⟨C, 3, none⟩ v3) ∧
      ((((w.setCell ⟨C, 0, none⟩ v0).setCell ⟨C, 1, none⟩ v1).setCell ⟨C, 2, none⟩ v2).setCell ⟨C, 3, none⟩ v3).heap[C]? = some (.cells #[v0, v1, v2, v3] 135 (0, 0)) :=
  ⟨(((h.rdr.other h.ne.2.1 _ _).other h.ne.2.1 _ _).other h.ne.2.1 _ _).other h.ne.2.1 _ _, (((h.ov.above h.ne.2.2.2.2 _ _).above h.ne.2.2.2.2 _ _).above h.ne.2.2.2.2 _ _).above h.ne.2.2.2.2 _ _, set4 h.res _ _ _ _⟩
end Go.Proofs.YtfcceojfcmgmlaaGreatDoor.Fl

/-
  The lexer: Next, which gives up by a panic that it catches.
-/
namespace Go.Proofs.YtfcceojfcmgmlaaGreatDoor.Fl
open Go.RowKit

theorem one_cellL {w : World} {g : Nat} {v : Value} {T : TypeId} (h : w.heap[g]? = some (.cells #[v] T (0, 0))) : w.cell? ⟨g, 0, none⟩ = some v ∧ ∀ k, w.frozen? ⟨g, k, none⟩ = false :=
  ⟨cell_of_row _ _ _ _ _ _ h, fun _ => frozen_of_row _ _ _ _ _ h⟩
theorem set1L {w : World} {C : Nat} {a0 : Value} {T : TypeId} (h : w.heap[C]? = some (.cells #[a0] T (0, 0))) (v0 : Value) : (w.setCell ⟨C, 0, none⟩ v0).heap[C]? = some (.cells #[v0] T (0, 0)) :=
  heap_setCell_same w C 0 _ _ v0 h
end Go.Proofs.YtfcceojfcmgmlaaGreatDoor.Fl

/-
  The lexer: Next.
-/
namespace Go.Proofs.YtfcceojfcmgmlaaGreatDoor.Fl
open Go.RowKit

end Go.Proofs.YtfcceojfcmgmlaaGreatDoor.Fl

/-
  What the frames of the lexer's rows share: the table and the error's variable that the rows list, the one variable that they don't; the witness's world.
-/
namespace Go.Proofs.YtfcceojfcmgmlaaGreatDoor.Fr
open Go.ChangeShapes Go.WideShapes Go.ChangeAt Go.RowKit

theorem own : ownKnob Tryz.prog.godebug = none := by kernel_rfl
theorem laidOut : laidOutB Tryz.prog = true := by kernel_rfl
theorem gPow : Tryz.prog.globalNamed "internal/strconv.uint64pow10" = some 0 := by kernel_rfl
theorem gPowType : (Tryz.prog.globals[0]?).map (·.type) = some 140 := by kernel_rfl
theorem cellsPow : Tryz.prog.cellsOf 140 = 20 := by kernel_rfl
theorem cellsU64 : Tryz.prog.cellsOf 97 = 1 := by kernel_rfl
theorem powData : (Rows.laid_internal_strconv_uint64pow10 : DataW Unit) = Lib.tabData .u64 Lib.pow10Tab := by kernel_rfl
theorem pow_of_laid {W : World} {rest : List (String × DataW Unit)} (h : laidMet Tryz.prog (("internal/strconv.uint64pow10", Rows.laid_internal_strconv_uint64pow10) :: rest) W) : Lib.TabIs Tryz.prog W "internal/strconv.uint64pow10" .u64 Lib.pow10Tab := by
  rw [powData] at h
  exact Lib.tabIs_of_head gPow gPowType Tryz.underlying140 Tryz.underlying97 cellsU64 cellsPow h
theorem star : "*" ++ "errors.errorString" = "*errors.errorString" := by decide
theorem gErr : Tryz.prog.globalNamed "strconv.ErrRange" = some 7 := by kernel_rfl
theorem gErrType : (Tryz.prog.globals[7]?).map (·.type) = some 89 := by kernel_rfl
theorem rowErr (u : TypeId) (h : Tryz.prog.typeName? 3 u = some "*errors.errorString") : u = 202 :=
  typeName_ptr_named (nm := "errors.errorString") (by rw [star]; kernel_rfl) (by kernel_rfl) (by decide) u (by rw [star]; exact h)
theorem cellsErr : Tryz.prog.cellsOf 204 = 1 := by kernel_rfl
theorem cellsStr : Tryz.prog.cellsOf 9 = 1 := by kernel_rfl
/-- the seven that the rows list -/
def laidL : List (String × DataW Unit) := Rows.treeSameRow.laid
theorem laid_lex {W : World} (h : laidMetH Tryz.prog laidL W) : Fl.EnvL W := by
  unfold laidL at h
  rw [MakeChecks.laidMetH_plain _ _ _ (by kernel_rfl)] at h
  refine ⟨pow_of_laid h.tail.tail, ?_⟩
  obtain ⟨a0, s0, hv0, _, _, _⟩ := laid_sentinel h.tail.tail.tail.tail gErr gErrType Tryz.underlying89 rowErr Tryz.underlying202 Tryz.underlying204 rfl rfl Tryz.underlying9 cellsErr cellsStr
  exact ⟨_, _, hv0⟩
theorem max_shaped {W : World} (h : W.ShapedOpen Tryz.prog) : Fl.MaxAt W :=
  cell_of_shapedOpen_int (g := 1) (t := 3) (zero := #[.int .i64 0]) h (of_decide_eq_true (by kernel_rfl)) (by kernel_rfl) rfl (by kernel_rfl) (by kernel_rfl) Tryz.underlying3
/-- the witness's world -/
noncomputable def w0 (os : Os) : World := World.laidAll Tryz.prog os laidL
theorem w0_shaped (os : Os) (args : Array Value) : ((w0 os).forCall (fun _ _ => 0) ⟨#[], args, []⟩).Shaped Tryz.prog :=
  World.shaped_of_ZipB (by kernel_rfl) (by kernel_rfl)
theorem w0_laid (os : Os) (args : Array Value) : laidMetH Tryz.prog laidL ((w0 os).forCall (fun _ _ => 0) ⟨#[], args, []⟩).memory := by
  rw [MakeChecks.laidMetH_plain _ _ _ (by kernel_rfl)]
  exact laidMet_laidAll _ (by kernel_rfl) (by kernel_rfl)
theorem looksOn : true = Tryz.pinned.checked.prog.looks [] := by kernel_rfl
end Go.Proofs.YtfcceojfcmgmlaaGreatDoor.Fr

/-
  The lexer: a token goes on.
-/
namespace Go.Proofs.YtfcceojfcmgmlaaGreatDoor.Fl
open Go.RowKit

end Go.Proofs.YtfcceojfcmgmlaaGreatDoor.Fl

/-
  The lexer: tokens in memory; All.
-/
namespace Go.Proofs.YtfcceojfcmgmlaaGreatDoor.Fl
open Go.RowKit

/-- a token: kind, word, number, place -/
abbrev Tok := Nat × List UInt8 × Int × Nat
def tcells (x : Tok) : List Value := [.int .i64 (x.1 : Int), .string ⟨x.2.1.toArray⟩, .int .i64 x.2.2.1, .int .i64 (x.2.2.2 : Int)]
def ct : List Tok → List Value
  | [] => []
  | x :: l => tcells x ++ ct l
def OwnK (w : World) (base : Nat) (v : Value) (l : List Tok) : Prop := w.ownsRow base 135 4 v l.length (ct l)
theorem OwnK.below {w w' : World} {base : Nat} {v : Value} {xs : List Tok} (h : OwnK w base v xs) (hb : Below w.heap.size w w') : OwnK w' base v xs :=
  ⟨h.1, h.2.elim .inl fun ⟨g, cap, cur, hv, hbg, hg, r⟩ => .inr ⟨g, cap, cur, hv, hbg, (hb.block g (lt_of_blk hg)).trans hg, r⟩⟩
end Go.Proofs.YtfcceojfcmgmlaaGreatDoor.Fl

/-
  The lexer: what a text says behind another is what it says alone.
-/
namespace Go.Proofs.YtfcceojfcmgmlaaGreatDoor.Fl
open Go.RowKit

/-- from d on, s is b -/
structure Tail (s b : ByteArray) (d : Nat) : Prop where
  size : s.size = d + b.size
  drop : ∀ j, (sb s).drop (d + j) = (sb b).drop j
theorem Tail.run {s b : ByteArray} {d : Nat} (h : Tail s b d) (f : Nat → Bool) (j : Nat) : runE f s (d + j) = d + runE f b j := by
  unfold runE
  rw [h.drop, Nat.add_assoc]
theorem Tail.mid {s b : ByteArray} {d : Nat} (h : Tail s b d) (i j : Nat) : midL s (d + i) (d + j) = midL b i j := by
  unfold midL
  rw [List.drop_take, List.drop_take, h.drop, show d + j - (d + i) = j - i by omega]
theorem Tail.op {s b : ByteArray} {d : Nat} (h : Tail s b d) (j : Nat) : ∀ k, opF s (d + j) k = opF b j k
  | 0 => rfl
  | k + 1 => by
    unfold opF
    rw [show d + j + (k + 1) = d + (j + (k + 1)) by omega, h.mid, h.size, h.op j k]
    have e : (d + (j + (k + 1)) ≤ d + b.size) = (j + (k + 1) ≤ b.size) := propext ⟨fun x => by omega, fun x => by omega⟩
    simp only [e]
end Go.Proofs.YtfcceojfcmgmlaaGreatDoor.Fl

/-
  The lexer: what a text says with a blank behind it is what it says alone.
-/
namespace Go.Proofs.YtfcceojfcmgmlaaGreatDoor.Fl
open Go.RowKit

/-- s begins with a, and a blank -/
structure Pre (s a : ByteArray) (r : List UInt8) : Prop where
  eq : sb s = sb a ++ 32 :: r
theorem Pre.size {s a : ByteArray} {r : List UInt8} (h : Pre s a r) : s.size = a.size + 1 + r.length := by
  have := congrArg List.length h.eq
  rw [List.length_append, sb_len, sb_len, List.length_cons] at this
  omega
theorem Pre.drop {s a : ByteArray} {r : List UInt8} (h : Pre s a r) {j : Nat} (hj : j ≤ a.size) : (sb s).drop j = (sb a).drop j ++ 32 :: r := by
  rw [h.eq, List.drop_append_of_le_length (by rw [sb_len]; exact hj)]
theorem Pre.run {s a : ByteArray} {r : List UInt8} (h : Pre s a r) (f : Nat → Bool) (hf : f 32 = false) {j : Nat} (hj : j ≤ a.size) : runE f s j = runE f a j := by
  unfold runE
  rw [h.drop hj]
  congr 2
  generalize (sb a).drop j = l
  induction l with
  | nil => rw [List.nil_append, List.takeWhile_cons, if_neg (by rw [show (32 : UInt8).toNat = 32 from rfl, hf]; simp)]; rfl
  | cons c l ih =>
    rw [List.cons_append, List.takeWhile_cons, List.takeWhile_cons, ih]
theorem Pre.mid {s a : ByteArray} {r : List UInt8} (h : Pre s a r) (i : Nat) {j : Nat} (hj : j ≤ a.size) : midL s i j = midL a i j := by
  unfold midL
  rw [h.eq, List.take_append_of_le_length (by rw [sb_len]; exact hj)]
theorem isOpL_blank {l : List UInt8} (h : (32 : UInt8) ∈ l) : isOpL l = false := by
  unfold isOpL
  rw [if_neg]
  · rw [beq_eq_false_iff_ne]
    rintro rfl
    simp at h
  · rw [List.all_eq_true]
    intro hc
    exact absurd (hc _ h) (by decide)
theorem Pre.op {s a : ByteArray} {r : List UInt8} (h : Pre s a r) {j : Nat} (hj : j ≤ a.size) : ∀ k, opF s j k = opF a j k
  | 0 => rfl
  | k + 1 => by
    have hz := h.size
    unfold opF
    rw [h.op hj k]
    rcases Nat.lt_or_ge a.size (j + (k + 1)) with h1 | h1
    · rw [if_neg (show ¬(j + (k + 1) ≤ a.size ∧ _) from fun x => by omega), if_neg]
      rintro ⟨h2, h3⟩
      rw [isOpL_blank] at h3
      · cases h3
      · unfold midL
        rw [h.eq, List.take_append, List.take_of_length_le (by rw [sb_len]; omega), sb_len, show j + (k + 1) - a.size = (j + k - a.size) + 1 by omega, List.take_succ_cons, List.drop_append_of_le_length (by rw [sb_len]; exact hj)]
        simp
    · rw [h.mid j h1]
      have e : (j + (k + 1) ≤ s.size) = (j + (k + 1) ≤ a.size) := propext ⟨fun _ => h1, fun _ => by omega⟩
      simp only [e]
end Go.Proofs.YtfcceojfcmgmlaaGreatDoor.Fl

/-
  The lexer: two texts with a blank between.
-/
namespace Go.Proofs.YtfcceojfcmgmlaaGreatDoor.Fl
open Go.RowKit

theorem skipA_pre (r : List UInt8) : ∀ (l : List UInt8) (m : Option Nat) (p q : Nat), skipA m p l = .inl q → skipA m p (l ++ 32 :: r) = if q = p + l.length then skipA none (p + l.length + 1) r else .inl q
  | [], m, p, q, h => by
    unfold skipA at h
    split at h
    · injection h with h
      rw [if_pos (by simp; omega)]
      show skipA none p (32 :: r) = _
      rw [skipA]
      rfl
    · cases h
  | c :: l, none, p, q, h => by
    show skipA none p (c :: (l ++ 32 :: r)) = _
    rw [skipA] at h ⊢
    try simp only [] at h
    try simp only []
    rw [List.length_cons, show p + (l.length + 1) = p + 1 + l.length by omega]
    split at h
    · next h0 => rw [if_pos h0]; exact skipA_pre r l none (p + 1) q h
    · next h0 =>
      rw [if_neg h0]
      split at h
      · next h1 => rw [if_pos h1]; exact skipA_pre r l (some p) (p + 1) q h
      · next h1 =>
        rw [if_neg h1]
        injection h with h
        rw [if_neg (by omega), h]
  | c :: l, some b, p, q, h => by
    show skipA (some b) p (c :: (l ++ 32 :: r)) = _
    rw [skipA] at h ⊢
    try simp only [] at h
    try simp only []
    rw [List.length_cons, show p + (l.length + 1) = p + 1 + l.length by omega]
    split at h
    · next h0 => rw [if_pos h0]; exact skipA_pre r l none (p + 1) q h
    · next h0 => rw [if_neg h0]; exact skipA_pre r l (some b) (p + 1) q h
theorem Pre.behind {s a : ByteArray} {r : List UInt8} (h : Pre s a r) : (sb s).drop (a.size + 1) = r := by
  rw [h.eq, List.drop_append, List.drop_of_length_le (by rw [sb_len]; omega), sb_len, show a.size + 1 - a.size = 1 by omega]
  rfl
theorem Pre.skip {s a : ByteArray} {r : List UInt8} (h : Pre s a r) {p q : Nat} (hp : p ≤ a.size) (hq : skipA none p ((sb a).drop p) = .inl q) : skipA none p ((sb s).drop p) = if q = a.size then skipA none (a.size + 1) ((sb s).drop (a.size + 1)) else .inl q := by
  rw [h.drop hp, skipA_pre r _ _ _ _ hq, List.length_drop, sb_len, show p + (a.size - p) = a.size by omega, h.behind]
end Go.Proofs.YtfcceojfcmgmlaaGreatDoor.Fl

/-
  The lexer: the fixed text of the laws.
-/
namespace Go.Proofs.YtfcceojfcmgmlaaGreatDoor.Fl
open Go.RowKit

end Go.Proofs.YtfcceojfcmgmlaaGreatDoor.Fl

/-
  The lexer: a name.
-/
namespace Go.Proofs.YtfcceojfcmgmlaaGreatDoor.Fl
open Go.RowKit

def isNameB (s : ByteArray) : Bool := runE partN s 0 == s.size && letterN (lookB s 0)
set_option maxRecDepth 100000 in
set_option maxHeartbeats 2000000 in
theorem isName_any (s : ByteArray) (w : World) (hs : s.size ≤ 16777216) :
    Calls Tryz.prog 68 #[.string s] w fun e w' => e = .returned (.bool (isNameB s)) ∧ w = w' := by
  have hpn := fun (c : UInt8) (w : World) => partN_any c.toNat w c.toNat_lt
  have hln := fun (c : UInt8) (w : World) => letterN_any c.toNat w c.toNat_lt
  have HPN := Lib.hid hpn
  have HLN := Lib.hid hln
  clear hpn hln
  go_enter Tryz.func68, Tryz.ntmps68
  go_wp2_with fail
  go_loop [6] (fun v => ∃ k : Nat, k ≤ s.size ∧ v = .int .i64 (k : Int) ∧ Hid (runE partN s 0 = runE partN s k)) (fun v => s.size - (intOf v).toNat)
  case atStart => exact ⟨0, Nat.zero_le _, rfl, Lib.hid rfl⟩
  case round =>
    obtain ⟨k, hk, rfl, HK⟩ := hrel
    by_cases hlt : k < s.size
    · have hi := HPN.out s[k] w
      obtain ⟨r, hr⟩ : ∃ r, partN s[k].toNat = r := ⟨_, rfl⟩
      have HR := Lib.hid hr
      rw [hr] at hi
      clear hr
      cases r with
      | false =>
        have HF := Lib.hid (show isNameB s = false by
          unfold isNameB
          rw [HK.out, runE_stop hlt HR.out, show (k == s.size) = false from by rw [beq_eq_false_iff_ne]; omega]; rfl)
        go_wp2_with fail
        refine hi.mono ?_
        rintro e w' ⟨rfl, rfl⟩
        go_wp2_with fail
        go_ret
        exact ⟨by rw [HF.out]; rfl, rfl⟩
      | true =>
        have HE := Lib.hid (show runE partN s 0 = runE partN s (k + 1) by rw [HK.out, runE_step hlt HR.out])
        go_wp2_with fail
        refine hi.mono ?_
        rintro e w' ⟨rfl, rfl⟩
        go_wp2_with fail
        go_round
        case rel => exact ⟨k + 1, by omega, by go_num, HE⟩
        case measure => simp [intOf]; omega
    · have e : k = s.size := by omega
      subst e
      have HA := Lib.hid (show isNameB s = letterN (lookB s 0) by
        unfold isNameB
        rw [HK.out, runE_end, beq_self_eq_true, Bool.true_and])
      clear HK
      by_cases h0 : s.size = 0
      · have hse : s = ⟨#[]⟩ := by
          cases s with
          | mk d => simp [ByteArray.size] at h0; rw [h0]
        subst hse
        go_wp2_with fail
        go_ret
        exact ⟨by rw [HA.out]; rfl, rfl⟩
      · have hp : 0 < s.size := by omega
        have hne : ¬s.toList = [] := by
          intro h
          rw [ByteArray.toList_eq] at h
          have h2 := congrArg List.length h
          rw [show s.data.toList.length = s.size from sb_len s] at h2
          have h3 : s.size = 0 := h2
          omega
        have HEm := Lib.hid (show s.toList.isEmpty = false by rw [List.isEmpty_eq_false_iff]; exact hne)
        have hi := HLN.out s[0] w
        have HL0 := Lib.hid (show isNameB s = letterN s[0].toNat by rw [HA.out]; unfold lookB; rw [dif_pos hp])
        obtain ⟨r, hr⟩ : ∃ r, letterN s[0].toNat = r := ⟨_, rfl⟩
        have HR := Lib.hid hr
        rw [hr] at hi
        clear h0 HA hr
        go_wp2_with (go_at_call 93; (with_reducible refine hi.mono ?_); rintro e w' ⟨rfl, rfl⟩)
        go_ret
        refine ⟨?_, rfl⟩
        show Ending.returned (.bool (!s.toList.isEmpty && r)) = _
        rw [HEm.out, HL0.out, HR.out]
        rfl
end Go.Proofs.YtfcceojfcmgmlaaGreatDoor.Fl

/-
  The lexer: the range over strings.SplitSeq("at:put", ":").
-/
namespace Go.Proofs.YtfcceojfcmgmlaaGreatDoor.Fl
open Go.RowKit Go.Shelf
/-- the boxes that the range reads -/
structure SplAt (w : World) (b1 b2 b3 : Nat) (s : ByteArray) : Prop where
  sep : w.heap[b1]? = some (.cells #[.string ⟨#[58]⟩] 9 (0, 0))
  txt : w.heap[b2]? = some (.cells #[.string s] 9 (0, 0))
  sav : w.heap[b3]? = some (.cells #[.int .i64 0] 3 (0, 0))
def KpS (X : Nat → Prop) (W W' : World) : Prop := W.heap.size ≤ W'.heap.size ∧ ∀ k cs T fr, W.heap[k]? = some (.cells cs T fr) → ¬ X k → W'.heap[k]? = W.heap[k]?
theorem SplAt.kept {X : Nat → Prop} {w w' : World} {b1 b2 b3 : Nat} {s : ByteArray} (h : SplAt w b1 b2 b3 s) (hk : KpS X w w') (hX : ¬ X b1 ∧ ¬ X b2 ∧ ¬ X b3) : SplAt w' b1 b2 b3 s :=
  ⟨(hk.2 _ _ _ _ h.sep hX.1).trans h.sep, (hk.2 _ _ _ _ h.txt hX.2.1).trans h.txt, (hk.2 _ _ _ _ h.sav hX.2.2).trans h.sav⟩
theorem SplAt.set {w : World} {b1 b2 b3 : Nat} {s : ByteArray} (h : SplAt w b1 b2 b3 s) (hb : b1 ≠ b2 ∧ b3 ≠ b2) (t : ByteArray) : SplAt (w.setCell ⟨b2, 0, none⟩ (.string t)) b1 b2 b3 t :=
  ⟨(Below.heap_setCell _ _ _ _ hb.1).trans h.sep, set1L h.txt (.string t), (Below.heap_setCell _ _ _ _ hb.2).trans h.sav⟩
def boxLen (b : Nat) (w : World) : Nat := match w.cell? ⟨b, 0, none⟩ with
  | some (.string s) => s.size
  | _ => 0
end Go.Proofs.YtfcceojfcmgmlaaGreatDoor.Fl

/-
  The lexer: the statement that ranges over strings.SplitSeq("at:put", ":").
-/
namespace Go.Proofs.YtfcceojfcmgmlaaGreatDoor.Fl
open Go.RowKit Go.Shelf

/-- a loop's record -/
def recL (fn : FuncId) (tmps : Array Value) (ps : Array Tmp) (assign body : Code) (D : Nat) (st : LoopState) (pe : Option Code) : Loop :=
  { state := st, pending := pe, fn := fn, tmps := tmps, params := ps, assign := assign, body := body, defers := D }
theorem KpS.trans {X : Nat → Prop} {A B C : World} (h : KpS X A B) (h' : KpS X B C) : KpS X A C :=
  ⟨Nat.le_trans h.1 h'.1, fun k cs T fr hk hx => (h'.2 k cs T fr ((h.2 k cs T fr hk hx).trans hk) hx).trans (h.2 k cs T fr hk hx)⟩
theorem kps_put {X : Nat → Prop} {W : World} {l : Nat} {o : Obj} (o' : Obj) (h : W.heap[l]? = some o) (ho : o.isCells = false) : KpS X W (W.putObj l o') :=
  ⟨by simp, fun k cs T fr hc _ => World.putObj_heap_other (fun e => by subst e; rw [h] at hc; cases hc; cases ho)⟩
end Go.Proofs.YtfcceojfcmgmlaaGreatDoor.Fl

/-
  The lexer: Arity of the laws' fixed name.
-/
namespace Go.Proofs.YtfcceojfcmgmlaaGreatDoor.Fl
open Go.RowKit Go.Shelf
set_option maxRecDepth 100000 in
theorem splitSeq0_any (s sep : ByteArray) (w : World) :
    Calls Tryz.prog 96 #[.string s, .string sep, .int .i64 0] w fun e w' => e = .returned (.func (.func 117) #[] #[.pointer (some ⟨w.heap.size + 1, 0, none⟩), .pointer (some ⟨w.heap.size, 0, none⟩), .pointer (some ⟨w.heap.size + 1 + 1, 0, none⟩)]) ∧
      w' = ((w.alloc (.cells #[.string s] 9)).alloc (.cells #[.string sep] 9)).alloc (.cells #[.int .i64 0] 3) := by
  have hmf : ∀ (fn : Fn) (first cap : Array Value) (w : World), (Instr.makeFunc fn first cap).run Tryz.prog w = .ok (.func fn first cap) w := fun _ _ _ _ => rfl
  go_enter Tryz.func96, Tryz.ntmps96
  go_wp2_with fail
  go_ret
  exact ⟨rfl, rfl⟩
set_option maxRecDepth 100000 in
theorem splitSeq_any (s sep : ByteArray) (w : World) :
    Calls Tryz.prog 71 #[.string s, .string sep] w fun e w' => e = .returned (.func (.func 117) #[] #[.pointer (some ⟨w.heap.size + 1, 0, none⟩), .pointer (some ⟨w.heap.size, 0, none⟩), .pointer (some ⟨w.heap.size + 1 + 1, 0, none⟩)]) ∧
      w' = ((w.alloc (.cells #[.string s] 9)).alloc (.cells #[.string sep] 9)).alloc (.cells #[.int .i64 0] 3) := by
  have h := splitSeq0_any s sep w
  go_enter Tryz.func71, Tryz.ntmps71
  go_wp2_with fail
  refine h.mono ?_
  rintro e w' ⟨rfl, rfl⟩
  go_wp2_with fail
  go_ret
  exact ⟨rfl, rfl⟩
theorem five_boxes (w : World) (o1 o2 o3 o4 o5 : Obj) (W : World) (hW : (((((w.alloc o1).alloc o2).alloc o3).alloc o4).alloc o5) = W) :
    W.heap[w.heap.size]? = some o1 ∧ W.heap[w.heap.size + 1]? = some o2 ∧ W.heap[w.heap.size + 1 + 1]? = some o3 ∧ W.heap[w.heap.size + 1 + 1 + 1]? = some o4 ∧ W.heap[w.heap.size + 1 + 1 + 1 + 1]? = some o5 ∧ Below w.heap.size w W ∧ W.heap.size = w.heap.size + 5 := by
  subst hW
  have s1 : (w.alloc o1).heap.size = w.heap.size + 1 := World.size_alloc w o1
  have s2 : ((w.alloc o1).alloc o2).heap.size = w.heap.size + 1 + 1 := by rw [World.size_alloc, s1]
  have s3 : (((w.alloc o1).alloc o2).alloc o3).heap.size = w.heap.size + 1 + 1 + 1 := by rw [World.size_alloc, s2]
  have s4 : ((((w.alloc o1).alloc o2).alloc o3).alloc o4).heap.size = w.heap.size + 1 + 1 + 1 + 1 := by rw [World.size_alloc, s3]
  have n1 := heap_alloc_new w o1
  have n2 := heap_alloc_new (w.alloc o1) o2
  have n3 := heap_alloc_new ((w.alloc o1).alloc o2) o3
  have n4 := heap_alloc_new (((w.alloc o1).alloc o2).alloc o3) o4
  have n5 := heap_alloc_new ((((w.alloc o1).alloc o2).alloc o3).alloc o4) o5
  rw [s1] at n2
  rw [s2] at n3
  rw [s3] at n4
  rw [s4] at n5
  have b5 := (Below.refl w.heap.size w).alloc (Nat.le_refl _) o1
  have b6 := b5.alloc (by omega) o2
  have b7 := b6.alloc (by omega) o3
  have b8 := b7.alloc (by omega) o4
  have b9 := b8.alloc (by omega) o5
  refine ⟨?_, ?_, ?_, ?_, n5, b9, by rw [World.size_alloc, s4]⟩
  · exact (Below.heap_alloc _ o5 _ (by omega)).trans ((Below.heap_alloc _ o4 _ (by omega)).trans ((Below.heap_alloc _ o3 _ (by omega)).trans ((Below.heap_alloc _ o2 _ (by omega)).trans n1)))
  · exact (Below.heap_alloc _ o5 _ (by omega)).trans ((Below.heap_alloc _ o4 _ (by omega)).trans ((Below.heap_alloc _ o3 _ (by omega)).trans n2))
  · exact (Below.heap_alloc _ o5 _ (by omega)).trans ((Below.heap_alloc _ o4 _ (by omega)).trans n3)
  · exact (Below.heap_alloc _ o5 _ (by omega)).trans n4
end Go.Proofs.YtfcceojfcmgmlaaGreatDoor.Fl

/-
  The lexer: a text parted at each colon; the statement that ranges over strings.SplitSeq(s, ":").
-/
namespace Go.Proofs.YtfcceojfcmgmlaaGreatDoor.Fl
open Go.RowKit Go.Shelf
def spl : List UInt8 → List (List UInt8)
  | [] => [[]]
  | c :: l => if c = 58 then [] :: spl l else match spl l with
    | [] => [[c]]
    | p :: ps => (c :: p) :: ps
theorem spl_index : ∀ l : List UInt8, spl l = if Lib.indexByte l 58 < 0 then [l] else l.take (Lib.indexByte l 58).toNat :: spl (l.drop ((Lib.indexByte l 58).toNat + 1))
  | [] => rfl
  | c :: l => by
    have ih := spl_index l
    have hg := indexByte_ge 58 l
    rw [spl]
    by_cases hc : c = 58
    · rw [if_pos hc]
      subst hc
      rw [show Lib.indexByte ((58 : UInt8) :: l) 58 = 0 from by simp [Lib.indexByte]]
      simp
    · rw [if_neg hc, ih]
      have hb : (c == 58) = false := by simpa using hc
      by_cases hn : Lib.indexByte l 58 < 0
      · have h1 : Lib.indexByte l 58 = -1 := by omega
        rw [if_pos hn, show Lib.indexByte (c :: l) 58 = -1 from by simp [Lib.indexByte, hb, h1]]
        rfl
      · have h1 : (Lib.indexByte l 58 == -1) = false := by simp; omega
        have h2 : Lib.indexByte (c :: l) 58 = Lib.indexByte l 58 + 1 := by simp [Lib.indexByte, hb, h1]
        rw [if_neg hn, h2, if_neg (by omega), show (Lib.indexByte l 58 + 1).toNat = (Lib.indexByte l 58).toNat + 1 by omega]
        rfl
theorem mk_sb (t : ByteArray) : (⟨(sb t).toArray⟩ : ByteArray) = t := by cases t; simp [sb]
set_option maxRecDepth 100000 in
set_option maxHeartbeats 4000000 in
theorem split_any (n : Nat) (hn : 1 ≤ n) (l : Nat) (J Jx : List (List UInt8) → World → Prop) (b1 b2 b3 : Nat) (X : Nat → Prop) (hX : ¬ X b1 ∧ ¬ X b2 ∧ ¬ X b3) (hb : b1 ≠ b2 ∧ b3 ≠ b2) (hJ2 : ∀ s w v, J s w → J s (w.setCell ⟨b2, 0, none⟩ v))
    (s : ByteArray) (hs : s.size ≤ 16777216) (all : List (List UInt8)) (hall : spl (sb s) = all)
    (hY : ∀ pre (t : ByteArray) W, J pre W → t.size ≤ s.size → (∃ post, pre ++ sb t :: post = all) → YieldAt Fence.wide (n - 1) Tryz.prog l #[.string t] W fun e W' =>
      (e = .returned (.bool true) ∧ J (pre ++ [sb t]) W' ∧ KpS X W W') ∨ (e = .returned (.bool false) ∧ Jx (pre ++ [sb t]) W'))
    (W : World) (h : SplAt W b1 b2 b3 s) (h0 : J [] W) :
    CallsIn Fence.wide n Tryz.prog 117 #[.func (.yield l) #[] #[], .pointer (some ⟨b1, 0, none⟩), .pointer (some ⟨b2, 0, none⟩), .pointer (some ⟨b3, 0, none⟩)] W fun e W' => (∃ v, e = .returned v) ∧
      (J all W' ∨ ∃ pre, Jx pre W') := by
  have f1 := one_cellL h.sep
  have f2 := one_cellL h.txt
  have f3 := one_cellL h.sav
  have hix := fun (s : ByteArray) (w : World) => Tryz.strings_Index_one s 58 w
  have HIx := Lib.hid hix
  have HAl := Lib.hid hall
  clear hix hall
  refine callsIn_of_wp Tryz.func117 rfl trivial ?_ rfl
  simp only [Tryz.ntmps117, List.size_toArray, List.length_cons, List.length_nil, Nat.reduceAdd, Nat.reduceSub, Array.replicate_succ, Array.replicate_zero, List.push_toArray, List.append_toArray, List.nil_append, List.cons_append]
  gi_wp2
  gi_loopw [] (fun wr => ∃ (pre : List (List UInt8)) (t : ByteArray), Hid (pre ++ spl (sb t) = all) ∧ t.size ≤ s.size ∧ J pre wr ∧ SplAt wr b1 b2 b3 t) (fun wr => boxLen b2 wr)
  case atStart => exact ⟨[], s, HAl, Nat.le_refl _, h0, h⟩
  case round =>
    clear f1 f2 f3 h h0 HAl
    obtain ⟨pre, t, HA, hts, hj, h⟩ := hrel
    have f1 := one_cellL h.sep
    have f2 := one_cellL h.txt
    have f3 := one_cellL h.sav
    have hi := HIx.out t wr
    have hge := indexByte_ge 58 (sb t)
    have hlt := indexByte_lt 58 (sb t)
    rw [sb_len] at hlt
    have HS := Lib.hid (spl_index (sb t))
    change Calls _ _ _ _ (fun e w' => e = .returned (.int .i64 (Lib.indexByte (sb t) 58)) ∧ _) at hi
    by_cases hneg : Lib.indexByte (sb t) 58 < 0
    · have hm1 : Lib.indexByte (sb t) 58 = -1 := by omega
      rw [hm1] at hi
      have HE : Hid (pre ++ [sb t] = all) := Lib.hid (by rw [← HA.out, HS.out, if_pos hneg])
      have hy0 := hY pre t wr hj hts ⟨[], HE.out⟩
      rw [HE.out] at hy0
      clear hge hlt HS hneg hm1
      obtain ⟨fn, tmps, assign, body, hy, hR⟩ := hy0
      gi_wp2
      refine ⟨trivial, ?_⟩
      gi_at_call 119
      refine (callsIn_wide.2 hi).mono ?_
      rintro e w' ⟨rfl, rfl⟩
      gi_wp2
      refine hR.mono ?_
      rintro e w3 (⟨rfl, hJ3, hk3⟩ | ⟨rfl, hJx3⟩)
      · have HJ3 := Lib.hid hJ3
        clear hk3 hJ3 hy hR hi
        gi_wp2
        first | go_end0 | refine bodyPost_ret (results_none rfl _ _ _) rfl ?_
        exact ⟨⟨_, rfl⟩, .inl HJ3.out⟩
      · have HJx := Lib.hid hJx3
        clear hJx3 hy hR hi
        gi_wp2
        first | go_end0 | refine bodyPost_ret (results_none rfl _ _ _) rfl ?_
        exact ⟨⟨_, rfl⟩, .inr ⟨_, HJx.out⟩⟩
    · obtain ⟨i, hieq⟩ : ∃ i : Nat, Lib.indexByte (sb t) 58 = (i : Int) := ⟨(Lib.indexByte (sb t) 58).toNat, by omega⟩
      rw [hieq] at hi
      have hil : i < t.size := by omega
      have hil2 : (i : Int) < (t.size : Int) := by omega
      have hi0 : ¬ ((i : Int) < 0) := by omega
      have e1 : sb (t.extract 0 i) = (sb t).take i := by rw [sb_extract, List.drop_zero]
      have e2 : sb (t.extract (i + 1) t.size) = (sb t).drop (i + 1) := sb_tail t (i + 1)
      have HE : Hid ((pre ++ [sb (t.extract 0 i)]) ++ spl (sb (t.extract (i + 1) t.size)) = all) := Lib.hid (by
        rw [← HA.out, HS.out, if_neg hneg, hieq, e1, e2, Int.toNat_natCast, List.append_assoc]; rfl)
      have hx1 : (t.extract 0 i).size ≤ s.size := by rw [← sb_len, e1, List.length_take, sb_len]; omega
      have hx2 : (t.extract (i + 1) t.size).size < t.size := by rw [← sb_len, e2, List.length_drop, sb_len]; omega
      have hy0 := hY pre (t.extract 0 i) wr hj hx1 ⟨_, by have := HE.out; rw [List.append_assoc] at this; exact this⟩
      have HX2 := Lib.hid hx2
      clear hge hlt HS hneg hieq e1 e2 hx1 hx2
      obtain ⟨fn, tmps, assign, body, hy, hR⟩ := hy0
      gi_wp2
      refine ⟨trivial, ?_⟩
      gi_at_call 119
      refine (callsIn_wide.2 hi).mono ?_
      rintro e w' ⟨rfl, rfl⟩
      gi_wp2
      refine hR.mono ?_
      rintro e w3 (⟨rfl, hJ3, hk3⟩ | ⟨rfl, hJx3⟩)
      · have h3 := h.kept hk3 hX
        have f1 := one_cellL h3.sep
        have f2 := one_cellL h3.txt
        have f3 := one_cellL h3.sav
        have hl0 : boxLen b2 w' = t.size := by unfold boxLen; rw [one_cellL h.txt |>.1]
        have HL0 := Lib.hid hl0
        have HJ3 := Lib.hid (hJ2 _ _ (.string (t.extract (i + 1) t.size)) hJ3)
        have H3 := Lib.hid (h3.set hb (t.extract (i + 1) t.size))
        clear hk3 hJ3 hy hR hi hl0
        gi_wp2
        go_roundw
        case rel => exact ⟨_, _, HE, by have := HX2.out; omega, HJ3.out, H3.out⟩
        case measure => rw [HL0.out]; unfold boxLen; rw [(one_cellL H3.out.txt).1]; exact HX2.out
      · have HJx := Lib.hid hJx3
        clear hJx3 hy hR
        gi_wp2
        refine bodyPost_ret (results_none rfl _ _ _) rfl ?_
        exact ⟨⟨_, rfl⟩, .inr ⟨_, HJx.out⟩⟩
/-- what a round of the range leaves: it goes on, or it leaves the function -/
def SplRnd (B : Nat) (X : Nat → Prop) (I Ix : List (List UInt8) → World → Prop) (xs : List (List UInt8)) (W : World) (e : Exit) (_ : Act) (W' : World) : Prop :=
  (∀ k o, B ≤ k → W.heap[k]? = some o → o.isCells = false → W'.heap[k]? = W.heap[k]?) ∧ ((e = .normal ∧ KpS X W W' ∧ I xs W') ∨ (e = .ret ∧ Ix xs W'))
set_option maxRecDepth 100000 in
set_option maxHeartbeats 4000000 in
theorem range_all {g : Operand} {ps : Array Tmp} {assign body : Code} {Q : Exit → Act → World → Prop} {a : Act} {w : World} {n : Nat} (hn : 2 ≤ n) {b1 b2 b3 : Nat} (s : ByteArray) (hs : s.size ≤ 16777216)
    (hg : a.eval g = .func (.func 117) #[] #[.pointer (some ⟨b1, 0, none⟩), .pointer (some ⟨b2, 0, none⟩), .pointer (some ⟨b3, 0, none⟩)])
    (hS : SplAt w b1 b2 b3 s) (hb : b1 ≠ b2 ∧ b3 ≠ b2) {X : Nat → Prop} (hX : ¬ X b1 ∧ ¬ X b2 ∧ ¬ X b3) (hps : ps.size = 1)
    (I Ix : List (List UInt8) → World → Prop) (hI : ∀ s W l o o', I s W → w.heap.size ≤ l → W.heap[l]? = some o → o.isCells = false → I s (W.putObj l o')) (hIx : ∀ s W l o o', Ix s W → w.heap.size ≤ l → W.heap[l]? = some o → o.isCells = false → Ix s (W.putObj l o')) (hIa : ∀ s W o, I s W → I s (W.alloc o))
    (hI2 : ∀ s W v, I s W → I s (W.setCell ⟨b2, 0, none⟩ v)) (h0 : I [] w)
    (hround : ∀ (l : Nat) (pre : List (List UInt8)) (t : ByteArray) (W : World) (K : Act → World → Prop), I pre W → t.size ≤ s.size → (∃ post, pre ++ sb t :: post = spl (sb s)) →
      (∀ a', (∀ W2, I pre W2 → body.wpIn (Fence.wide.inRound l) (n - 1 - 1) Tryz.prog (SplRnd w.heap.size X I Ix (pre ++ [sb t]) W2) a' W2) → K a' W) →
      assign.wpIn (Fence.wide.inRound l) (n - 1 - 1) Tryz.prog (Exit.then K (fun _ _ _ => False)) { tmps := (ps.zip #[.string t]).foldl (fun t (p, v) => t.setIfInBounds p v) a.tmps, defers := [] } W)
    (hdone : ∀ W, I (spl (sb s)) W → W.heap[w.heap.size]? = some (.deferred (some [])) → Q .normal { a with defers := { target := .collected w.heap.size, args := #[] } :: a.defers } W)
    (hstop : ∀ pre W, Ix pre W → W.heap[w.heap.size]? = some (.deferred (some [])) → Q .ret { a with defers := { target := .collected w.heap.size, args := #[] } :: a.defers } W) :
    (Code.rangeFunc g ps assign body).wpIn Fence.wide n Tryz.prog Q a w := by
  refine wpIn_rangeFunc ?_
  intro fn hfn
  obtain ⟨W1, hW1⟩ : ∃ W1, (w.alloc (.deferred (some []))).alloc (.loop (recL fn a.tmps ps assign body w.heap.size .ready none)) = W1 := ⟨_, rfl⟩
  have hL1 : W1.heap[w.heap.size + 1]? = some (.loop (recL fn a.tmps ps assign body w.heap.size .ready none)) := by
    rw [← hW1]
    have := heap_alloc_new (w.alloc (.deferred (some []))) (.loop (recL fn a.tmps ps assign body w.heap.size .ready none))
    rwa [World.size_alloc] at this
  have hK1 : W1.heap[w.heap.size]? = some (.deferred (some [])) := by
    rw [← hW1]
    exact (Below.heap_alloc _ _ _ (by rw [World.size_alloc]; omega)).trans (heap_alloc_new w _)
  have hI1 : I [] W1 := by rw [← hW1]; exact hIa _ _ _ (hIa _ _ _ h0)
  have hb1 : Below w.heap.size w W1 := by
    rw [← hW1]; exact ((Below.refl _ w).alloc (Nat.le_refl _) _).alloc (by rw [World.size_alloc]; omega) _
  have hS1 : SplAt W1 b1 b2 b3 s := ⟨(hb1.block _ (lt_of_blk hS.sep)).trans hS.sep, (hb1.block _ (lt_of_blk hS.txt)).trans hS.txt, (hb1.block _ (lt_of_blk hS.sav)).trans hS.sav⟩
  have l2 := lt_of_blk hS.txt
  refine ⟨w.heap.size + 1, [{ target := .collected w.heap.size, args := #[] }], W1, { target := .fn (.func 117) #[.pointer (some ⟨b1, 0, none⟩), .pointer (some ⟨b2, 0, none⟩), .pointer (some ⟨b3, 0, none⟩)], args := #[.func (.yield (w.heap.size + 1)) #[] #[]] }, W1, 117,
    #[.func (.yield (w.heap.size + 1)) #[] #[], .pointer (some ⟨b1, 0, none⟩), .pointer (some ⟨b2, 0, none⟩), .pointer (some ⟨b3, 0, none⟩)], W1, ?_, ?_, ?_, ?_, fun _ => by omega, ?_⟩
  · rw [← hW1]; exact run_enterLoop_outer _ _ _ _ _
  · simp only [resolve, hg]
    simp [go_sem]
  · intro f' _; exact trivial
  · have eg := enters_of Tryz.func117 (by kernel_rfl) rfl
    simp [invoke, go_sem, eg]
  · refine (split_any (n - 1) (by omega) (w.heap.size + 1)
      (fun pre W => I pre W ∧ W.heap[w.heap.size + 1]? = some (.loop (recL fn a.tmps ps assign body w.heap.size .ready none)) ∧ W.heap[w.heap.size]? = some (.deferred (some [])))
      (fun pre W => Ix pre W ∧ W.heap[w.heap.size + 1]? = some (.loop (recL fn a.tmps ps assign body w.heap.size .done (some .ret))) ∧ W.heap[w.heap.size]? = some (.deferred (some []))) b1 b2 b3 X hX hb
      (fun s W v h => ⟨hI2 _ _ _ h.1, (Below.heap_setCell _ _ _ _ (show w.heap.size + 1 ≠ b2 by omega)).trans h.2.1, (Below.heap_setCell _ _ _ _ (show w.heap.size ≠ b2 by omega)).trans h.2.2⟩)
      s hs _ rfl ?_ W1 hS1 ⟨hI1, hL1, hK1⟩).mono ?_
    · rintro pre x W ⟨hi, hl, hk⟩ hxs hpost
      have hlt := lt_of_blk hl
      have hy := run_yield (P := Tryz.prog) (args := #[.string x]) hl (by show 1 = ps.size; exact hps.symm)
      refine ⟨fn, _, assign, body, hy, roundIn_of_wpIn hfn (hround _ pre x W _ hi hxs hpost ?_)⟩
      intro a' hbody
      refine ⟨_, run_beginRound hl rfl, ?_⟩
      have hl2 : (W.putObj (w.heap.size + 1) (.loop (recL fn a.tmps ps assign body w.heap.size .busy none))).heap[w.heap.size + 1]? = some (.loop (recL fn a.tmps ps assign body w.heap.size .busy none)) := World.putObj_heap_same hlt
      have hk2 : (W.putObj (w.heap.size + 1) (.loop (recL fn a.tmps ps assign body w.heap.size .busy none))).heap[w.heap.size]? = some (.deferred (some [])) := (World.putObj_heap_other (by omega)).trans hk
      refine wpIn_mono (hbody (W.putObj (w.heap.size + 1) (.loop (recL fn a.tmps ps assign body w.heap.size .busy none))) (hI _ _ _ _ _ hi (by omega) hl rfl)) ?_
      rintro e a3 W3 ⟨hkn, (⟨rfl, hkp, hi3⟩ | ⟨rfl, hi3⟩)⟩
      · have hl3 := (hkn _ _ (by omega) hl2 rfl).trans hl2
        have hk3 := (hkn _ _ (Nat.le_refl _) hk2 rfl).trans hk2
        refine ⟨_, _, run_endRound none hl3, .inl ⟨rfl, ⟨hI _ _ _ _ _ hi3 (by omega) hl3 rfl, World.putObj_heap_same (lt_of_blk hl3), (World.putObj_heap_other (by omega)).trans hk3⟩, (kps_put _ hl rfl).trans (hkp.trans (kps_put _ hl3 rfl))⟩⟩
      · have hl3 := (hkn _ _ (by omega) hl2 rfl).trans hl2
        have hk3 := (hkn _ _ (Nat.le_refl _) hk2 rfl).trans hk2
        exact ⟨_, _, run_endRound (some .ret) hl3, .inr ⟨rfl, hIx _ _ _ _ _ hi3 (by omega) hl3 rfl, World.putObj_heap_same (lt_of_blk hl3), (World.putObj_heap_other (by omega)).trans hk3⟩⟩
    · rintro e W2 ⟨⟨v, rfl⟩, (⟨hi, hl, hk⟩ | ⟨pre, hi, hl, hk⟩)⟩
      · exact ⟨none, _, run_endLoop hl (by simp [recL]), hdone _ (hI _ _ _ _ _ hi (by omega) hl rfl) ((World.putObj_heap_other (by omega)).trans hk)⟩
      · exact ⟨some .ret, _, run_endLoop hl (by simp [recL]), wpIn_ret (hstop pre _ (hIx _ _ _ _ _ hi (by omega) hl rfl) ((World.putObj_heap_other (by omega)).trans hk))⟩
end Go.Proofs.YtfcceojfcmgmlaaGreatDoor.Fl

/-
  The lexer: Arity of any text.
-/
namespace Go.Proofs.YtfcceojfcmgmlaaGreatDoor.Fl
open Go.RowKit Go.Shelf
def nameL (l : List UInt8) : Bool := isNameB ⟨l.toArray⟩
theorem nameL_sb (t : ByteArray) : nameL (sb t) = isNameB t := by unfold nameL; rw [mk_sb]
theorem spl_len : ∀ l : List UInt8, (spl l).length ≤ l.length + 1
  | [] => Nat.le_refl _
  | c :: l => by
    have ih := spl_len l
    rw [spl]
    split
    · simp only [List.length_cons]; omega
    · split
      · simp only [List.length_cons, List.length_nil]; omega
      · next h => rw [h] at ih; simp only [List.length_cons] at ih ⊢; omega
def keysL (l : List UInt8) : Int := if (spl l).all nameL then ((spl l).length : Int) else -1
/-- how many arguments a message of that name has -/
def arityL (s : ByteArray) : Int :=
  if 64 < s.size then -1 else if isNameB s then 0 else if isOpL (sb s) then 1
  else if Lib.hasSuffix (sb s) [58] then keysL (Lib.trimSuffix (sb s) [58]) else -1
/-- what stands while the range runs: the result's box, and the count's -/
def ArI (w : World) (pre : List (List UInt8)) (W : World) : Prop :=
  W.heap[w.heap.size]? = some (.cells #[.int .i64 0] 3 (0, 0)) ∧ W.heap[w.heap.size + 1]? = some (.cells #[.int .i64 (pre.length : Int)] 3 (0, 0)) ∧ Below w.heap.size w W ∧ w.heap.size + 5 ≤ W.heap.size ∧ pre.all nameL = true
def ArX (w : World) (r : Int) (_ : List (List UInt8)) (W : World) : Prop :=
  W.heap[w.heap.size]? = some (.cells #[.int .i64 (-1)] 3 (0, 0)) ∧ Below w.heap.size w W ∧ w.heap.size + 5 ≤ W.heap.size ∧ r = -1
theorem ari_result {W : World} {C : Nat} {n : Int} {a : Array Value} (h : W.heap[C]? = some (.cells #[.int .i64 n] 3 (0, 0))) (ha : a[2]?.getD undef = .pointer (some ⟨C, 0, none⟩)) :
    (results Tryz.f49 a).run Tryz.prog W = .ok (.int .i64 n) W := by
  obtain ⟨c0, _⟩ := one_cellL h
  simp [results, Tryz.results49, go_sem, ha, c0]
set_option maxRecDepth 100000 in
set_option maxHeartbeats 4000000 in
theorem arity_any (s : ByteArray) (w : World) (hs : s.size ≤ 16777216) : Calls Tryz.prog 49 #[.string s] w fun e w' => e = .returned (.int .i64 (arityL s)) ∧ Below w.heap.size w w' := by
  have hn := fun w => isName_any s w hs
  have ho := fun w => lxOp_is s w hs
  have hc := fun w => Tryz.strings_CutSuffix s ⟨#[58]⟩ w (by omega)
  obtain ⟨nb, hnb⟩ : ∃ nb : ByteArray, (⟨(Lib.trimSuffix s.data.toList (⟨#[58]⟩ : ByteArray).data.toList).toArray⟩ : ByteArray) = nb := ⟨_, rfl⟩
  have hsb : sb nb = Lib.trimSuffix (sb s) [58] := by rw [← hnb, sb_mk]
  have hnbs : nb.size ≤ 16777216 := by
    rw [sb_size, hsb]
    unfold Lib.trimSuffix
    split
    · rw [List.length_take, sb_len]; omega
    · rw [sb_len]; exact hs
  rw [hnb] at hc
  have hp := fun w => splitSeq_any nb ⟨#[58]⟩ w
  clear hnb
  obtain ⟨r, hr⟩ : ∃ r, arityL s = r := ⟨_, rfl⟩
  rw [hr]
  have HR := Lib.hid hr
  unfold arityL at HR
  clear hr
  refine (callsIn_wide (n := 4)).1 ?_
  refine callsIn_of_wp_marks Tryz.func49 rfl trivial ?_ rfl
  simp only [Tryz.ntmps49, List.size_toArray, List.length_cons, List.length_nil, Nat.reduceAdd, Nat.reduceSub, Array.replicate_succ, Array.replicate_zero, List.push_toArray, List.append_toArray, List.nil_append, List.cons_append]
  by_cases h64 : 64 < s.size
  · have HR1 : r = -1 := (HR.out.symm.trans (if_pos h64))
    have hz : (64 : Int) < (s.size : Int) := by omega
    subst HR1
    have h1 := heap_alloc_new w (.cells #[.int .i64 (-1)] 3)
    have hb1 : Below w.heap.size w (w.alloc (.cells #[.int .i64 (-1)] 3)) := (Below.refl _ _).alloc (Nat.le_refl _) _
    gi_wp2
    exact ⟨_, ari_result h1 rfl, rfl, hb1⟩
  · have HR1 := Lib.hid (HR.out.symm.trans (if_neg h64))
    have hz : ¬ (64 : Int) < (s.size : Int) := by omega
    clear HR
    gi_wp2
    refine ⟨trivial, ?_⟩
    gi_at_call 68
    refine (callsIn_wide.2 (hn _)).mono ?_
    rintro e w' ⟨rfl, rfl⟩
    clear hn
    cases hin : isNameB s
    case true =>
      have HR2 : r = 0 := (HR1.out.trans (if_pos hin))
      subst HR2
      have h1 := heap_alloc_new w (.cells #[.int .i64 0] 3)
      have hb1 : Below w.heap.size w (w.alloc (.cells #[.int .i64 0] 3)) := (Below.refl _ _).alloc (Nat.le_refl _) _
      gi_wp2
      exact ⟨_, ari_result h1 rfl, rfl, hb1⟩
    have HR2 := Lib.hid (HR1.out.trans (if_neg (by rw [hin]; simp)))
    clear HR1 hin
    gi_wp2
    refine ⟨trivial, ?_⟩
    gi_at_call 69
    refine (callsIn_wide.2 (ho _)).mono ?_
    rintro e w' ⟨rfl, rfl⟩
    clear ho
    cases hio : isOpL (sb s)
    case true =>
      have HR3 : r = 1 := (HR2.out.trans (if_pos hio))
      subst HR3
      have h1 := heap_alloc_new w (.cells #[.int .i64 1] 3)
      have hb1 : Below w.heap.size w (w.alloc (.cells #[.int .i64 1] 3)) := (Below.refl _ _).alloc (Nat.le_refl _) _
      gi_wp2
      exact ⟨_, ari_result h1 rfl, rfl, hb1⟩
    have HR3 := Lib.hid (HR2.out.trans (if_neg (by rw [hio]; simp)))
    clear HR2 hio
    gi_wp2
    refine ⟨trivial, ?_⟩
    gi_at_call 70
    refine (callsIn_wide.2 (hc _)).mono ?_
    rintro e w' ⟨rfl, rfl⟩
    clear hc
    change _ at HR3
    cases hsf : Lib.hasSuffix s.data.toList (⟨#[58]⟩ : ByteArray).data.toList
    case false =>
      have HR4 : r = -1 := (HR3.out.trans (if_neg (by rw [show Lib.hasSuffix (sb s) [58] = false from hsf]; simp)))
      subst HR4
      have h1 := heap_alloc_new w (.cells #[.int .i64 (-1)] 3)
      have hb1 : Below w.heap.size w (w.alloc (.cells #[.int .i64 (-1)] 3)) := (Below.refl _ _).alloc (Nat.le_refl _) _
      gi_wp2
      exact ⟨_, ari_result h1 rfl, rfl, hb1⟩
    have HR4 := Lib.hid (HR3.out.trans (if_pos (show Lib.hasSuffix (sb s) [58] = true from hsf)))
    rw [← hsb] at HR4
    clear HR3 hsf hsb
    gi_wp2
    refine ⟨trivial, ?_⟩
    gi_at_call 71
    refine (callsIn_wide.2 (hp _)).mono ?_
    rintro e w' ⟨rfl, rfl⟩
    gi_wp2
    obtain ⟨W0, hW0⟩ : ∃ W0, (((((w.alloc (.cells #[.int .i64 0] 3)).alloc (.cells #[.int .i64 0] 3)).alloc (.cells #[.string nb] 9)).alloc (.cells #[.string ⟨#[58]⟩] 9)).alloc (.cells #[.int .i64 0] 3)) = W0 := ⟨_, rfl⟩
    obtain ⟨q1, q2, q3, q4, q5, hb0, hsz⟩ := five_boxes w (.cells #[.int .i64 0] 3) (.cells #[.int .i64 0] 3) (.cells #[.string nb] 9) (.cells #[.string ⟨#[58]⟩] 9) (.cells #[.int .i64 0] 3) W0 hW0
    rw [hW0]
    clear hW0
    have hspl := spl_len (sb nb)
    rw [sb_len] at hspl
    refine range_all (b1 := w.heap.size + 1 + 1 + 1) (b2 := w.heap.size + 1 + 1) (b3 := w.heap.size + 1 + 1 + 1 + 1) (by decide) nb hnbs rfl ⟨q4, q3, q5⟩ ⟨by omega, by omega⟩ (X := fun k => k = w.heap.size + 1) ⟨by omega, by omega, by omega⟩ rfl
      (ArI w) (ArX w r) ?put ?putx ?al ?st ⟨q1, q2, hb0, by omega, rfl⟩ ?round ?done ?stop
    case put =>
      rintro s W l o o' ⟨h1, h2, h3, h4, h5⟩ hl hlo ho
      refine ⟨(World.putObj_heap_other (by omega)).trans h1, (World.putObj_heap_other (by omega)).trans h2, ⟨h3.os, h3.tape, h3.output, by simpa using h3.size, fun k hk => (World.putObj_heap_other (by omega)).trans (h3.block k hk)⟩, by simpa using h4, h5⟩
    case putx =>
      rintro s W l o o' ⟨h1, h3, h4, h5⟩ hl hlo ho
      refine ⟨(World.putObj_heap_other (by omega)).trans h1, ⟨h3.os, h3.tape, h3.output, by simpa using h3.size, fun k hk => (World.putObj_heap_other (by omega)).trans (h3.block k hk)⟩, by simpa using h4, h5⟩
    case al =>
      rintro s W o ⟨h1, h2, h3, h4, h5⟩
      exact ⟨(Below.heap_alloc _ _ _ (by omega)).trans h1, (Below.heap_alloc _ _ _ (by omega)).trans h2, h3.alloc (by omega) _, by rw [World.size_alloc]; omega, h5⟩
    case st =>
      rintro s W v ⟨h1, h2, h3, h4, h5⟩
      exact ⟨(Below.heap_setCell W ⟨w.heap.size + 1 + 1, 0, none⟩ v _ (by show w.heap.size ≠ w.heap.size + 1 + 1; omega)).trans h1, (Below.heap_setCell W ⟨w.heap.size + 1 + 1, 0, none⟩ v _ (by show w.heap.size + 1 ≠ w.heap.size + 1 + 1; omega)).trans h2, h3.setCell (p := ⟨w.heap.size + 1 + 1, 0, none⟩) (by show w.heap.size ≤ w.heap.size + 1 + 1; omega) _, by rw [World.size_setCell]; exact h4, h5⟩
    case round =>
      rintro l pre t W K hi hts ⟨post, hpost⟩ hK
      have hnx := fun W2 => isName_any t W2 (by omega)
      have hpl : pre.length ≤ 16777216 := by
        have := congrArg List.length hpost
        rw [List.length_append, List.length_cons] at this
        omega
      have HPo := Lib.hid hpost
      clear hpost hspl
      gi_wp2
      rintro W2 ⟨h1, h2, h3, h4, h5⟩
      have H5 := Lib.hid h5
      clear h5
      have f1 := one_cellL h1
      have f2 := one_cellL h2
      cases hnm : isNameB t
      · rw [hnm] at hnx
        gi_wp2
        refine ⟨trivial, ?_⟩
        gi_at_call 68
        refine (CallsIn.inRound l (callsIn_wide.2 (hnx _))).mono ?_
        rintro e w' ⟨rfl, rfl⟩
        gi_wp2
        have hrn : r = -1 := by
          rw [HR4.out]
          unfold keysL
          rw [if_neg]
          rw [← HPo.out, List.all_append, List.all_cons, nameL_sb, hnm]
          simp
        refine ⟨fun k o hk ho hc => Below.heap_setCell W2 ⟨w.heap.size, 0, none⟩ _ k (by show k ≠ w.heap.size; omega), .inr ⟨rfl, ?_, h3.setCell (p := ⟨w.heap.size, 0, none⟩) (Nat.le_refl _) _, by rw [World.size_setCell]; exact h4, hrn⟩⟩
        exact set1L h1 _
      · rw [hnm] at hnx
        gi_wp2
        refine ⟨trivial, ?_⟩
        gi_at_call 68
        refine (CallsIn.inRound l (callsIn_wide.2 (hnx _))).mono ?_
        rintro e w' ⟨rfl, rfl⟩
        gi_wp2
        refine ⟨fun k o hk _ _ => Below.heap_setCell W2 ⟨w.heap.size + 1, 0, none⟩ _ k (by show k ≠ w.heap.size + 1; omega), .inl ⟨rfl, ⟨by rw [World.size_setCell]; exact Nat.le_refl _, fun k cs T fr _ hk => Below.heap_setCell W2 ⟨w.heap.size + 1, 0, none⟩ _ k hk⟩, ?_⟩⟩
        refine ⟨(Below.heap_setCell W2 ⟨w.heap.size + 1, 0, none⟩ _ _ (by show w.heap.size ≠ w.heap.size + 1; omega)).trans h1, ?_, h3.setCell (p := ⟨w.heap.size + 1, 0, none⟩) (by show w.heap.size ≤ w.heap.size + 1; omega) _, by rw [World.size_setCell]; exact h4, by rw [List.all_append, H5.out, List.all_cons, nameL_sb, hnm]; rfl⟩
        rw [List.length_append]
        exact set1L h2 _
    case done =>
      rintro W ⟨h1, h2, h3, h4, h5⟩ hD
      have hrr : r = ((spl (sb nb)).length : Int) := by rw [HR4.out]; unfold keysL; rw [if_pos h5]
      subst hrr
      clear HR4 h5
      have f1 := one_cellL h1
      have f2 := one_cellL h2
      gi_wp2
      have l1 := lt_of_blk h1
      have hD2 : (W.setCell ⟨w.heap.size, 0, none⟩ (.int .i64 ((spl (sb nb)).length : Int))).heap[W0.heap.size]? = some (.deferred (some [])) := (Below.heap_setCell W ⟨w.heap.size, 0, none⟩ _ _ (by show W0.heap.size ≠ w.heap.size; omega)).trans hD
      have hr2 := set1L h1 (.int .i64 ((spl (sb nb)).length : Int))
      have hb2 : Below w.heap.size w (W.setCell ⟨w.heap.size, 0, none⟩ (.int .i64 ((spl (sb nb)).length : Int))) := h3.setCell (p := ⟨w.heap.size, 0, none⟩) (Nat.le_refl _) _
      refine ⟨by simp, .inl ⟨_, _, rfl, run_takeDeferred hD2, ?_⟩⟩
      have hr3 := (World.putObj_heap_other (o := .deferred none) (show w.heap.size ≠ W0.heap.size by omega)).trans hr2
      have hb3 : Below w.heap.size w ((W.setCell ⟨w.heap.size, 0, none⟩ (.int .i64 ((spl (sb nb)).length : Int))).putObj W0.heap.size (.deferred none)) := ⟨hb2.os, hb2.tape, hb2.output, by simpa using hb2.size, fun k hk => (World.putObj_heap_other (by omega)).trans (hb2.block k hk)⟩
      exact ⟨_, ari_result hr3 rfl, rfl, hb3⟩
    case stop =>
      rintro pre W ⟨h1, h3, h4, rfl⟩ hD
      refine ⟨by simp, .inl ⟨_, _, rfl, run_takeDeferred hD, ?_⟩⟩
      have hr3 := (World.putObj_heap_other (o := .deferred none) (show w.heap.size ≠ W0.heap.size by omega)).trans h1
      have hb3 : Below w.heap.size w (W.putObj W0.heap.size (.deferred none)) := ⟨h3.os, h3.tape, h3.output, by simpa using h3.size, fun k hk => (World.putObj_heap_other (by omega)).trans (h3.block k hk)⟩
      exact ⟨_, ari_result hr3 rfl, rfl, hb3⟩
end Go.Proofs.YtfcceojfcmgmlaaGreatDoor.Fl

/-
  The lexer: All.
-/
namespace Go.Proofs.YtfcceojfcmgmlaaGreatDoor.Fl
open Go.RowKit

end Go.Proofs.YtfcceojfcmgmlaaGreatDoor.Fl

/-
  The lexer: the laws' fixed fact.
-/
namespace Go.Proofs.YtfcceojfcmgmlaaGreatDoor.Fl
open Go.RowKit

end Go.Proofs.YtfcceojfcmgmlaaGreatDoor.Fl

/-
  The laws of layer 9: short; a text, a blank and a text.
-/
namespace Go.Proofs.YtfcceojfcmgmlaaGreatDoor.Fl
open Go.RowKit

theorem sb_append (s t : ByteArray) : sb (s ++ t) = sb s ++ sb t := by
  simp [sb]
end Go.Proofs.YtfcceojfcmgmlaaGreatDoor.Fl

/-
  LexJoins where one of the two texts is refused.
-/
namespace Go.Proofs.YtfcceojfcmgmlaaGreatDoor.Fl
open Go.RowKit

end Go.Proofs.YtfcceojfcmgmlaaGreatDoor.Fl

/-
  The lexer: tokens that are the same; LexJoins' lists.
-/
namespace Go.Proofs.YtfcceojfcmgmlaaGreatDoor.Fl
open Go.RowKit

end Go.Proofs.YtfcceojfcmgmlaaGreatDoor.Fl

/-
  The lexer: a token as it is written is read back.
-/
namespace Go.Proofs.YtfcceojfcmgmlaaGreatDoor.Fl
open Go.RowKit

abbrev mkB (l : List UInt8) : ByteArray := ⟨l.toArray⟩
def partA (l : List UInt8) : Bool := l.all fun c => partN c.toNat
/-- what a token can be -/
def TokV (k : Nat) (wd : List UInt8) (n : Int) : Prop :=
  (k = 1 ∧ n = 0 ∧ wd.length ≤ 64 ∧ partA wd = true ∧ ∃ c r, wd = c :: r ∧ letterN c.toNat = true) ∨
  (k = 2 ∧ n = 0 ∧ wd.length ≤ 64 ∧ ∃ nm, wd = nm ++ [58] ∧ partA nm = true ∧ ∃ c r, nm = c :: r ∧ letterN c.toNat = true) ∨
  (k = 3 ∧ wd = [] ∧ InR n ∧ 0 ≤ n) ∨ (k = 4 ∧ n = 0 ∧ wd.length ≤ 4096) ∨ (k = 5 ∧ n = 0 ∧ wd.length ≤ 64) ∨ (k = 6 ∧ n = 0 ∧ isOpL wd = true) ∨
  ((k = 0 ∨ (7 ≤ k ∧ k ≤ 16)) ∧ n = 0 ∧ wd = [])
end Go.Proofs.YtfcceojfcmgmlaaGreatDoor.Fl

/-
  The lexer: a token as it is written is read back; what a token of a text is.
-/
namespace Go.Proofs.YtfcceojfcmgmlaaGreatDoor.Fl
open Go.RowKit

end Go.Proofs.YtfcceojfcmgmlaaGreatDoor.Fl

/-
  The lexer: what a token of a text is; where it stands.
-/
namespace Go.Proofs.YtfcceojfcmgmlaaGreatDoor.Fl
open Go.RowKit

end Go.Proofs.YtfcceojfcmgmlaaGreatDoor.Fl

/-
  The lexer: written.
-/
namespace Go.Proofs.YtfcceojfcmgmlaaGreatDoor.Fl
open Go.RowKit

theorem textL_any (n : Int) (w : World) (h0 : -9223372036854775808 ≤ n) (h1 : n ≤ 9223372036854775807) (he : EnvL w) :
    Calls Tryz.prog 62 #[.int .i64 n] w fun e w' => e = .returned (.string ⟨(Lib.itoa n).toArray⟩) ∧ Below w.heap.size w w' := by
  have htab := he.tab
  clear he
  go_enter Tryz.func62, Tryz.ntmps62
  go_wp2_with (go_at_call 83; refine (Tryz.strconv_FormatInt_10 _ h0 h1 _ htab).mono ?_; rintro e w' ⟨rfl, k, os, rfl⟩)
  go_ret
  exact ⟨rfl, Lib.below_grow _ _ (Nat.le_refl _) _ _⟩
end Go.Proofs.YtfcceojfcmgmlaaGreatDoor.Fl

/-
  LexJoins where both texts are read.
-/
namespace Go.Proofs.YtfcceojfcmgmlaaGreatDoor.Fl
open Go.RowKit

end Go.Proofs.YtfcceojfcmgmlaaGreatDoor.Fl

/-
  The lexer: Spell of what is a token.
-/
namespace Go.Proofs.YtfcceojfcmgmlaaGreatDoor.Fl
open Go.RowKit

end Go.Proofs.YtfcceojfcmgmlaaGreatDoor.Fl

/-
  The lexer: where the tokens of a text stand.
-/
namespace Go.Proofs.YtfcceojfcmgmlaaGreatDoor.Fl
open Go.RowKit

end Go.Proofs.YtfcceojfcmgmlaaGreatDoor.Fl

/-
  The lexer: a token as it is written, with a blank or a note behind it.
-/
namespace Go.Proofs.YtfcceojfcmgmlaaGreatDoor.Fl
open Go.RowKit

end Go.Proofs.YtfcceojfcmgmlaaGreatDoor.Fl

/-
  The lexer: a token as it is written, with a blank or a note behind it, is read as it.
-/
namespace Go.Proofs.YtfcceojfcmgmlaaGreatDoor.Fl
open Go.RowKit

end Go.Proofs.YtfcceojfcmgmlaaGreatDoor.Fl

/-
  The lexer: tokens that are written with notes ahead of each.
-/
namespace Go.Proofs.YtfcceojfcmgmlaaGreatDoor.Fl
open Go.RowKit

theorem TokV.zero {wd : List UInt8} {n : Int} (h : TokV 0 wd n) : wd = [] ∧ n = 0 := by
  rcases h with ⟨h, _⟩ | ⟨h, _⟩ | ⟨h, _⟩ | ⟨h, _⟩ | ⟨h, _⟩ | ⟨h, _⟩ | ⟨_, h1, h2⟩
  all_goals first
    | exact ⟨h2, h1⟩
    | cases h
end Go.Proofs.YtfcceojfcmgmlaaGreatDoor.Fl

/-
  Instructions: bytes and instructions in memory; the table of what they are like.
-/
namespace Go.Proofs.YtfcceojfcmgmlaaGreatDoor.Fl
open Go.RowKit Go.ChangeShapes

theorem lt_of_blkC {w : World} {k : Nat} {o : Obj} (h : w.heap[k]? = some o) : k < w.heap.size := by
  rcases Nat.lt_or_ge k w.heap.size with h1 | h1
  · exact h1
  · rw [Array.getElem?_eq_none h1] at h; cases h
/-! ### a row of bytes of the call's own -/
def OwnB (w : World) (base : Nat) (v : Value) (l : List UInt8) : Prop := w.ownsRow base 5 1 v l.length (cb l)
theorem OwnB.below {w w' : World} {base : Nat} {v : Value} {xs : List UInt8} (h : OwnB w base v xs) (hb : Below w.heap.size w w') : OwnB w' base v xs :=
  ⟨h.1, h.2.elim .inl fun ⟨g, cap, cur, hv, hbg, hg, r⟩ => .inr ⟨g, cap, cur, hv, hbg, (hb.block g (lt_of_blkC hg)).trans hg, r⟩⟩
/-! ### the table -/
def nm (s : List Nat) : List UInt8 := s.map UInt8.ofNat
section
variable {H : Type} {enc : TypeId × Value → H} {w : World} {base : Nat} {spare : Nat → Bool} {held : Bool} {fuel : Nat} {cs : List Value} {p : List MemPlace}
end
end Go.Proofs.YtfcceojfcmgmlaaGreatDoor.Fl

/-
  The document's lexer: keywords, operators, blanks and notes.
-/
namespace Go.Proofs.YtfcceojfcmgmlaaGreatDoor.Fl
open Go.RowKit

end Go.Proofs.YtfcceojfcmgmlaaGreatDoor.Fl

/-
  The document's lexer: texts between quotes, both ways.
-/
namespace Go.Proofs.YtfcceojfcmgmlaaGreatDoor.Fl
open Go.RowKit

end Go.Proofs.YtfcceojfcmgmlaaGreatDoor.Fl

/-
  The document's lexer: what a # is with.
-/
namespace Go.Proofs.YtfcceojfcmgmlaaGreatDoor.Fl
open Go.RowKit

/-- what stands while the document's token is made -/
structure RtW (w0 w : World) (C T : Nat) (v0 v1 v2 v3 : Value) : Prop where
  tok : w.heap[T]? = some (.cells #[v0, v1, v2, v3] 120 (0, 0))
  res : w.heap[C]? = some (.cells #[.int .i64 0, .string ⟨#[]⟩, .int .i64 0, .int .i64 0] 120 (0, 0))
  bel : Below w0.heap.size w0 w
  ne : T ≠ C ∧ w0.heap.size ≤ T ∧ w0.heap.size ≤ C
theorem RtW.below {w0 w w' : World} {C T : Nat} {v0 v1 v2 v3 : Value} (h : RtW w0 w C T v0 v1 v2 v3) (hb : Below w.heap.size w w') : RtW w0 w' C T v0 v1 v2 v3 :=
  ⟨(hb.block T (lt_of_blk h.tok)).trans h.tok, (hb.block C (lt_of_blk h.res)).trans h.res, h.bel.trans (hb.mono h.bel.size), h.ne⟩
theorem RtW.set {w0 w : World} {C T : Nat} {v0 v1 v2 v3 x0 x1 x2 x3 : Value} (h : RtW w0 w C T v0 v1 v2 v3) (j : Nat) (x : Value) (hx : (#[v0, v1, v2, v3] : Array Value).setIfInBounds j x = #[x0, x1, x2, x3]) : RtW w0 (w.setCell ⟨T, j, none⟩ x) C T x0 x1 x2 x3 :=
  ⟨by rw [← hx]; exact heap_setCell_same w T j _ _ x h.tok, (Below.heap_setCell w ⟨T, j, none⟩ x C (fun e => h.ne.1 e.symm)).trans h.res, h.bel.setCell (p := ⟨T, j, none⟩) h.ne.2.1 x, h.ne⟩
/-- the token is handed back -/
theorem RtW.fin {w0 w : World} {C T : Nat} {v0 v1 v2 v3 : Value} (h : RtW w0 w C T v0 v1 v2 v3) (x0 x1 x2 x3 : Value) :
    ((((w.setCell ⟨C, 0, none⟩ x0).setCell ⟨C, 1, none⟩ x1).setCell ⟨C, 2, none⟩ x2).setCell ⟨C, 3, none⟩ x3).heap[C]? = some (.cells #[x0, x1, x2, x3] 120 (0, 0)) ∧
    Below w0.heap.size w0 ((((w.setCell ⟨C, 0, none⟩ x0).setCell ⟨C, 1, none⟩ x1).setCell ⟨C, 2, none⟩ x2).setCell ⟨C, 3, none⟩ x3) :=
  ⟨set4 h.res _ _ _ _, (((h.bel.setCell (p := ⟨C, 0, none⟩) h.ne.2.2 x0).setCell (p := ⟨C, 1, none⟩) h.ne.2.2 x1).setCell (p := ⟨C, 2, none⟩) h.ne.2.2 x2).setCell (p := ⟨C, 3, none⟩) h.ne.2.2 x3⟩
end Go.Proofs.YtfcceojfcmgmlaaGreatDoor.Fl

/-
  The document's Parse of a text of any length.
-/
namespace Go.Proofs.YtfcceojfcmgmlaaGreatDoor.Fl
open Go.RowKit

end Go.Proofs.YtfcceojfcmgmlaaGreatDoor.Fl

/-
  The document's lexer: Next.
-/
namespace Go.Proofs.YtfcceojfcmgmlaaGreatDoor.Fl
open Go.RowKit

end Go.Proofs.YtfcceojfcmgmlaaGreatDoor.Fl

/-
  The document's lexer: All.
-/
namespace Go.Proofs.YtfcceojfcmgmlaaGreatDoor.Fl
open Go.RowKit

def OwnR (w : World) (base : Nat) (v : Value) (l : List Tok) : Prop := w.ownsRow base 120 4 v l.length (ct l)
theorem OwnR.below {w w' : World} {base : Nat} {v : Value} {xs : List Tok} (h : OwnR w base v xs) (hb : Below w.heap.size w w') : OwnR w' base v xs :=
  ⟨h.1, h.2.elim .inl fun ⟨g, cap, cur, hv, hbg, hg, r⟩ => .inr ⟨g, cap, cur, hv, hbg, (hb.block g (lt_of_blk hg)).trans hg, r⟩⟩
end Go.Proofs.YtfcceojfcmgmlaaGreatDoor.Fl

/-
  The document's chunks: blanks, a chunk from a place on.
-/
namespace Go.Proofs.YtfcceojfcmgmlaaGreatDoor.Fl
open Go.RowKit

end Go.Proofs.YtfcceojfcmgmlaaGreatDoor.Fl

/-
  The document's words between blanks; what is a token's kind and word; a header.
-/
namespace Go.Proofs.YtfcceojfcmgmlaaGreatDoor.Fl
open Go.RowKit

/-! ### a row of texts of the call's own -/
def cs_ (l : List (List UInt8)) : List Value := l.map fun x => .string (mkB x)
theorem cs_len (l : List (List UInt8)) : (cs_ l).length = l.length := by simp [cs_]
theorem cs_app (l m : List (List UInt8)) : cs_ (l ++ m) = cs_ l ++ cs_ m := by simp [cs_]
theorem cs_one (l : List (List UInt8)) : ∀ v ∈ cs_ l, v.oneCell' = true := by
  intro v h
  simp only [cs_, List.mem_map] at h
  obtain ⟨c, _, rfl⟩ := h
  rfl
theorem strInfo : (Tryz.prog.info? 9).map (fun i => (i.zero, i.size, i.bytes)) = some (some (.string ⟨#[]⟩), 1, 16) := by kernel_rfl
def OwnS (w : World) (base : Nat) (v : Value) (l : List (List UInt8)) : Prop := w.ownsRow base 9 1 v l.length (cs_ l)
theorem OwnS.below {w w' : World} {base : Nat} {v : Value} {xs : List (List UInt8)} (h : OwnS w base v xs) (hb : Below w.heap.size w w') : OwnS w' base v xs :=
  ⟨h.1, h.2.elim .inl fun ⟨g, cap, cur, hv, hbg, hg, r⟩ => .inr ⟨g, cap, cur, hv, hbg, (hb.block g (lt_of_blkC hg)).trans hg, r⟩⟩
/-! ### words -/
end Go.Proofs.YtfcceojfcmgmlaaGreatDoor.Fl

/-
  The document's headers.
-/
namespace Go.Proofs.YtfcceojfcmgmlaaGreatDoor.Fl
open Go.RowKit

end Go.Proofs.YtfcceojfcmgmlaaGreatDoor.Fl

/-
  The document's class definitions.
-/
namespace Go.Proofs.YtfcceojfcmgmlaaGreatDoor.Fl
open Go.RowKit

theorem OwnS.wide {w : World} {base base' : Nat} {v : Value} {xs : List (List UInt8)} (h : OwnS w base v xs) (hb : base' ≤ base) : OwnS w base' v xs :=
  ⟨h.1, h.2.elim .inl fun ⟨g, cap, cur, hv, hbg, hg, r⟩ => .inr ⟨g, cap, cur, hv, Nat.le_trans hb hbg, hg, r⟩⟩
theorem OwnS.cell {w : World} {base : Nat} {v : Value} {xs : List (List UInt8)} (h : OwnS w base v xs) {P k : Nat} (hP : v.ownBlock ≠ some P) (x : Value) : OwnS (w.setCell ⟨P, k, none⟩ x) base v xs := ownsRow_setCell_other h (a := ⟨P, k, none⟩) hP x
end Go.Proofs.YtfcceojfcmgmlaaGreatDoor.Fl

/-
  Trees of nodes, in memory.
-/
namespace Go.Proofs.YtfcceojfcmgmlaaGreatDoor.Fl
open Go.RowKit

/-- a node: kind, name, number, kids, names, place -/
inductive Nd where
  | mk (kd : Int) (nm : List UInt8) (nu : Int) (kids : List Nd) (ns : List (List UInt8)) (at_ : Int) : Nd
namespace Nd
def kd : Nd → Int | .mk a _ _ _ _ _ => a
def nm : Nd → List UInt8 | .mk _ a _ _ _ _ => a
def nu : Nd → Int | .mk _ _ a _ _ _ => a
def kids : Nd → List Nd | .mk _ _ _ a _ _ => a
def ns : Nd → List (List UInt8) | .mk _ _ _ _ a _ => a
def at_ : Nd → Int | .mk _ _ _ _ _ a => a
end Nd
mutual
def cntN : Nd → Nat
  | .mk _ _ _ ks _ _ => 1 + cntL ks
def cntL : List Nd → Nat
  | [] => 0
  | x :: l => cntN x + cntL l
end
mutual
def depN : Nd → Nat
  | .mk _ _ _ ks _ _ => 1 + depL ks
def depL : List Nd → Nat
  | [] => 0
  | x :: l => max (depN x) (depL l)
end
mutual
def allN : Nd → List Nd
  | .mk a b c ks d e => .mk a b c ks d e :: allL ks
def allL : List Nd → List Nd
  | [] => []
  | x :: l => allN x ++ allL l
end
mutual
def sameN : Nd → Nd → Bool
  | .mk k n u ks ns _, .mk k' n' u' ks' ns' _ => k == k' && (n == n' && (u == u' && (ns == ns' && sameL ks ks')))
def sameL : List Nd → List Nd → Bool
  | [], [] => true
  | x :: l, y :: m => sameN x y && sameL l m
  | [], _ :: _ => false
  | _ :: _, [] => false
end
theorem cntN_eq (x : Nd) : cntN x = 1 + cntL x.kids := by cases x; rfl
theorem allN_eq (x : Nd) : allN x = x :: allL x.kids := by cases x; rfl
theorem depN_eq (x : Nd) : depN x = 1 + depL x.kids := by cases x; rfl
theorem sameN_eq (x y : Nd) : sameN x y = (x.kd == y.kd && (x.nm == y.nm && (x.nu == y.nu && (x.ns == y.ns && sameL x.kids y.kids)))) := by cases x; cases y; rfl
theorem cnt_mem : ∀ {l : List Nd} {x : Nd}, x ∈ l → cntN x ≤ cntL l
  | [], _, h => by cases h
  | y :: l, x, h => by
    rw [cntL]
    rcases List.mem_cons.1 h with rfl | h
    · omega
    · have := cnt_mem h; omega
theorem cnt_kid {l : List Nd} {i : Nat} (h : i < l.length) : cntL l[i].kids < cntL l := by
  have h1 := cnt_mem (List.getElem_mem h)
  rw [cntN_eq] at h1
  omega
theorem cnt_len : ∀ l : List Nd, l.length ≤ cntL l
  | [] => Nat.le_refl _
  | x :: l => by
    have := cnt_len l
    rw [List.length_cons, cntL, cntN_eq]; omega
theorem allL_app : ∀ l m : List Nd, allL (l ++ m) = allL l ++ allL m
  | [], _ => rfl
  | x :: l, m => by rw [List.cons_append, allL, allL, allL_app l m, List.append_assoc]
theorem allL_len : ∀ (n : Nat) (l : List Nd), cntL l ≤ n → (allL l).length = cntL l
  | _, [], _ => rfl
  | 0, x :: l, h => by rw [cntL, cntN_eq] at h; omega
  | n + 1, x :: l, h => by
    rw [cntL, cntN_eq] at h
    rw [allL, allN_eq, List.length_append, List.length_cons, allL_len n _ (by omega), allL_len n _ (by omega), cntL, cntN_eq]
    omega
theorem sameL_snoc : ∀ {a b : List Nd} (x y : Nd), a.length = b.length → sameL (a ++ [x]) (b ++ [y]) = (sameL a b && sameN x y)
  | [], [], x, y, _ => by simp [sameL]
  | [], _ :: _, _, _, h => by cases h
  | _ :: _, [], _, _, h => by cases h
  | u :: a, v :: b, x, y, h => by
    rw [List.cons_append, List.cons_append, sameL, sameL, sameL_snoc x y (by simpa using h), Bool.and_assoc]
theorem sameL_len : ∀ {a b : List Nd}, a.length ≠ b.length → sameL a b = false
  | [], [], h => absurd rfl h
  | [], _ :: _, _ => rfl
  | _ :: _, [], _ => rfl
  | u :: a, v :: b, h => by rw [sameL, sameL_len (by simpa using h), Bool.and_false]
theorem sameL_take {a b : List Nd} {i : Nat} (h1 : i < a.length) (h2 : i < b.length) : sameL (a.take (i + 1)) (b.take (i + 1)) = (sameL (a.take i) (b.take i) && sameN a[i] b[i]) := by
  rw [List.take_succ_eq_append_getElem h1, List.take_succ_eq_append_getElem h2, sameL_snoc _ _ (by rw [List.length_take, List.length_take]; omega)]
theorem sameL_false : ∀ {a b : List Nd} {i : Nat} (h1 : i < a.length) (h2 : i < b.length), sameN a[i] b[i] = false → sameL a b = false
  | [], _, _, h1, _, _ => by simp at h1
  | _ :: _, [], _, _, h2, _ => by simp at h2
  | u :: a, v :: b, 0, _, _, h => by rw [sameL]; have h : sameN u v = false := h; rw [h]; rfl
  | u :: a, v :: b, i + 1, h1, h2, h => by rw [sameL, sameL_false (i := i) (by simpa using h1) (by simpa using h2) (by simpa using h), Bool.and_false]
mutual
theorem sameN_refl : ∀ x : Nd, sameN x x = true
  | .mk k n u ks ns a => by rw [sameN, sameL_refl ks]; simp
theorem sameL_refl : ∀ l : List Nd, sameL l l = true
  | [] => rfl
  | x :: l => by rw [sameL, sameN_refl x, sameL_refl l]; rfl
end
/-! ### in memory -/
/-- a row of texts, in blocks such as these -/
def SrAt (w : World) (P : Nat → Prop) (A : Option Addr) (ns : List (List UInt8)) : Prop :=
  ns = [] ∨ ∃ b off, A = some ⟨b, off, none⟩ ∧ P b ∧ ∀ (j : Nat) v, (cs_ ns)[j]? = some v → w.cell? ⟨b, off + j, none⟩ = some v
inductive NdAt (w : World) (P : Nat → Prop) : Nat → Nat → Nd → Prop
  | mk {b o : Nat} {kd : Int} {nm : List UInt8} {nu : Int} {kids : List Nd} {ns : List (List UInt8)} {at_ : Int} (Ak : Option Addr) (ck : Nat) (An : Option Addr) (cn bk ok : Nat) :
    P b → w.cell? ⟨b, o, none⟩ = some (.int .i64 kd) → w.cell? ⟨b, o + 1, none⟩ = some (.string (mkB nm)) → w.cell? ⟨b, o + 2, none⟩ = some (.int .i64 nu) →
    w.cell? ⟨b, o + 3, none⟩ = some (.slice Ak kids.length ck) → w.cell? ⟨b, o + 4, none⟩ = some (.slice An ns.length cn) → w.cell? ⟨b, o + 5, none⟩ = some (.int .i64 at_) →
    kids.length ≤ ck → ns.length ≤ cn → ck ≤ 9223372036854775807 → cn ≤ 9223372036854775807 → SrAt w P An ns → (kids ≠ [] → Ak = some ⟨bk, ok, none⟩ ∧ P bk) → (∀ (i : Nat) (h : i < kids.length), NdAt w P bk (ok + i * 6) kids[i]) →
    (Ak = none → kids = []) → (An = none → ns = []) → NdAt w P b o (.mk kd nm nu kids ns at_)
def NdsAt (w : World) (P : Nat → Prop) (A : Option Addr) (l : List Nd) : Prop :=
  l = [] ∨ ∃ b off, A = some ⟨b, off, none⟩ ∧ P b ∧ ∀ (i : Nat) (h : i < l.length), NdAt w P b (off + i * 6) l[i]
theorem SrAt.keep {w w' : World} {P P' : Nat → Prop} {A : Option Addr} {ns : List (List UInt8)} (h : SrAt w P A ns) (hk : ∀ b, P b → w'.heap[b]? = w.heap[b]? ∧ P' b) : SrAt w' P' A ns := by
  rcases h with h | ⟨b, off, rfl, hb, hc⟩
  · exact .inl h
  · refine .inr ⟨b, off, rfl, (hk b hb).2, fun j v hj => ?_⟩
    have := hc j v hj
    unfold World.cell? at this ⊢
    rw [(hk b hb).1]; exact this
theorem cell_keep {w w' : World} {b o : Nat} {v : Value} (h : w.cell? ⟨b, o, none⟩ = some v) (hk : w'.heap[b]? = w.heap[b]?) : w'.cell? ⟨b, o, none⟩ = some v := by
  unfold World.cell? at h ⊢
  rw [hk]; exact h
theorem NdAt.keep {w w' : World} {P P' : Nat → Prop} {b o : Nat} {x : Nd} (h : NdAt w P b o x) (hk : ∀ b, P b → w'.heap[b]? = w.heap[b]? ∧ P' b) : NdAt w' P' b o x := by
  induction h with
  | mk Ak ck An cn bk ok hb c0 c1 c2 c3 c4 c5 h1 h2 m1 m2 hs hkk _ h3 h4 ih =>
    have e := (hk _ hb).1
    exact .mk Ak ck An cn bk ok (hk _ hb).2 (cell_keep c0 e) (cell_keep c1 e) (cell_keep c2 e) (cell_keep c3 e) (cell_keep c4 e) (cell_keep c5 e) h1 h2 m1 m2 (hs.keep hk) (fun h => ⟨(hkk h).1, (hk _ (hkk h).2).2⟩) ih h3 h4
theorem NdsAt.keep {w w' : World} {P P' : Nat → Prop} {A : Option Addr} {l : List Nd} (h : NdsAt w P A l) (hk : ∀ b, P b → w'.heap[b]? = w.heap[b]? ∧ P' b) : NdsAt w' P' A l := by
  rcases h with h | ⟨b, off, rfl, hb, hc⟩
  · exact .inl h
  · exact .inr ⟨b, off, rfl, (hk b hb).2, fun i hi => (hc i hi).keep hk⟩
/-- anywhere below a place of memory -/
abbrev Lo (B : Nat) : Nat → Prop := fun b => b < B
theorem NdsAt.below {w w' : World} {B B' : Nat} {A : Option Addr} {l : List Nd} (h : NdsAt w (Lo B) A l) (hb : Below B w w') (hB : B ≤ B') : NdsAt w' (Lo B') A l :=
  h.keep fun b hlt => ⟨hb.block b hlt, Nat.lt_of_lt_of_le hlt hB⟩
theorem SrAt.below {w w' : World} {B B' : Nat} {A : Option Addr} {l : List (List UInt8)} (h : SrAt w (Lo B) A l) (hb : Below B w w') (hB : B ≤ B') : SrAt w' (Lo B') A l :=
  h.keep fun b hlt => ⟨hb.block b hlt, Nat.lt_of_lt_of_le hlt hB⟩
theorem NdsAt.at_ {w : World} {P : Nat → Prop} {A : Option Addr} {l : List Nd} (h : NdsAt w P A l) {i : Nat} (hi : i < l.length) :
    ∃ b off, A = some ⟨b, off, none⟩ ∧ P b ∧ ∃ (Ak : Option Addr) (ck : Nat) (An : Option Addr) (cn : Nat), w.cell? ⟨b, off + i * 6, none⟩ = some (.int .i64 l[i].kd) ∧ w.cell? ⟨b, off + i * 6 + 1, none⟩ = some (.string (mkB l[i].nm)) ∧ w.cell? ⟨b, off + i * 6 + 2, none⟩ = some (.int .i64 l[i].nu) ∧
      w.cell? ⟨b, off + i * 6 + 3, none⟩ = some (.slice Ak l[i].kids.length ck) ∧ w.cell? ⟨b, off + i * 6 + 4, none⟩ = some (.slice An l[i].ns.length cn) ∧ w.cell? ⟨b, off + i * 6 + 5, none⟩ = some (.int .i64 l[i].at_) ∧
      l[i].kids.length ≤ ck ∧ l[i].ns.length ≤ cn ∧ ck ≤ 9223372036854775807 ∧ cn ≤ 9223372036854775807 ∧ SrAt w P An l[i].ns ∧ NdsAt w P Ak l[i].kids ∧ (Ak = none → l[i].kids = []) ∧ (An = none → l[i].ns = []) := by
  rcases h with h | ⟨b, off, rfl, hb, hc⟩
  · rw [h] at hi; cases hi
  · refine ⟨b, off, rfl, hb, ?_⟩
    have h := hc i hi
    generalize l[i] = x at h ⊢
    cases h with
    | mk Ak ck An cn bk ok hb c0 c1 c2 c3 c4 c5 h1 h2 m1 m2 hs hkk hn h3 h4 =>
      refine ⟨Ak, ck, An, cn, c0, c1, c2, c3, c4, c5, h1, h2, m1, m2, hs, ?_, h3, h4⟩
      show NdsAt w P Ak _
      rename_i kids _ _
      by_cases hk0 : kids = []
      · exact .inl hk0
      · exact .inr ⟨bk, ok, (hkk hk0).1, (hkk hk0).2, hn⟩
theorem SrAt.get {w : World} {P : Nat → Prop} {A : Option Addr} {ns : List (List UInt8)} (h : SrAt w P A ns) {i : Nat} (hi : i < ns.length) : ∃ b off, A = some ⟨b, off, none⟩ ∧ P b ∧ w.cell? ⟨b, off + i, none⟩ = some (.string (mkB ns[i])) := by
  rcases h with h | ⟨b, off, rfl, hb, hc⟩
  · rw [h] at hi; cases hi
  · exact ⟨b, off, rfl, hb, hc i _ (by simp [cs_, hi])⟩
end Go.Proofs.YtfcceojfcmgmlaaGreatDoor.Fl

/-
  The document's trees: have two the same?
-/
namespace Go.Proofs.YtfcceojfcmgmlaaGreatDoor.Fl
open Go.RowKit Go.Shelf

set_option maxRecDepth 100000 in
set_option maxHeartbeats 4000000 in
theorem rsameNames_any (xs ys : List (List UInt8)) (A A' : Option Addr) (c c' B : Nat) (w : World) (h : SrAt w (Lo B) A xs) (h' : SrAt w (Lo B) A' ys) (hB : B ≤ w.heap.size) (hc : xs.length ≤ c) (hc' : ys.length ≤ c') (hl : c ≤ 9223372036854775807) (hl' : c' ≤ 9223372036854775807) :
    Calls Tryz.prog 42 #[.slice A xs.length c, .slice A' ys.length c'] w fun e w' => e = .returned (.bool (xs == ys)) ∧ Below w.heap.size w w' := by
  have H1 := Lib.hid h
  have H2 := Lib.hid h'
  clear h h'
  go_enter Tryz.func42, Tryz.ntmps42
  by_cases hn : xs.length = ys.length
  case neg =>
    have hne : ((xs.length : Int) != (ys.length : Int)) = true := by rw [bne_iff_ne]; omega
    have HE := Lib.hid (show (xs == ys) = false from beq_eq_false_iff_ne.2 fun e => hn (by rw [e]))
    go_wp2_with fail
    go_ret
    exact ⟨by rw [HE.out]; rfl, Below.refl _ _⟩
  have hne : ((xs.length : Int) != (ys.length : Int)) = false := by rw [hn]; simp
  go_wp2_with fail
  go_loopw [5] (fun v wr => ∃ i : Nat, i ≤ xs.length ∧ v = .int .i64 (i : Int) ∧ Hid (xs.take i = ys.take i) ∧ Hid (Below w.heap.size w wr)) (fun v _ => xs.length - (intOf v).toNat)
  case atStart => exact ⟨0, Nat.zero_le _, rfl, Lib.hid rfl, Lib.hid (Below.refl _ _)⟩
  case round =>
    obtain ⟨i, hi, rfl, HT, HB⟩ := hrel
    by_cases hlt : i < xs.length
    case neg =>
      have hq : ¬ ((i : Int) < (xs.length : Int)) := by omega
      have HE := Lib.hid (show (xs == ys) = true by
        have h := HT.out
        rw [List.take_of_length_le (by omega), List.take_of_length_le (by omega)] at h
        rw [h]; simp)
      go_wp2_with fail
      go_ret
      exact ⟨by rw [HE.out]; rfl, HB.out⟩
    have hq : (i : Int) < (xs.length : Int) := by omega
    have hlt' : i < ys.length := by omega
    have hq' : (i : Int) < (ys.length : Int) := by omega
    obtain ⟨b, o, rfl, hb, hcell⟩ := (H1.out.below (HB.out.mono hB) (Nat.le_refl _)).get hlt
    obtain ⟨b', o', rfl, hb', hcell'⟩ := (H2.out.below (HB.out.mono hB) (Nat.le_refl _)).get hlt'
    have hbw : b < wr.heap.size := Nat.lt_of_lt_of_le hb (Nat.le_trans hB HB.out.size)
    have hbw' : b' < wr.heap.size := Nat.lt_of_lt_of_le hb' (Nat.le_trans hB HB.out.size)
    have HX := Lib.hid (show xs.take (i + 1) = xs.take i ++ [xs[i]] from List.take_succ_eq_append_getElem hlt)
    have HY := Lib.hid (show ys.take (i + 1) = ys.take i ++ [ys[i]] from List.take_succ_eq_append_getElem hlt')
    have HN := Lib.hid (show xs[i] ≠ ys[i] → xs ≠ ys from fun h e => h (by subst e; rfl))
    generalize xs[i] = x at *
    generalize ys[i] = y at *
    have HBn : ∀ n, Hid (Below w.heap.size w (wr.drewN n)) := fun n => Lib.hid (_root_.Go.below_drewN HB.out n)
    clear hb hb'
    by_cases he : x = y
    · have hb1 : (x == y) = true := by rw [he]; simp
      have HT2 := Lib.hid (show xs.take (i + 1) = ys.take (i + 1) by rw [HX.out, HY.out, HT.out, he])
      clear he HN
      go_upto_region 6 with fail
      go_quiet (fail)
      go_wp2_with fail
      go_roundw
      case rel => exact ⟨i + 1, by omega, by simp, HT2, HBn _⟩
      case measure => simp [intOf]; omega
    · have hb1 : (x == y) = false := beq_eq_false_iff_ne.2 he
      have HE := Lib.hid (show (xs == ys) = false from beq_eq_false_iff_ne.2 (HN.out he))
      clear he HN
      go_upto_region 6 with fail
      go_quiet (fail)
      go_wp2_with fail
      go_ret
      exact ⟨by rw [HE.out]; rfl, (HBn _).out⟩
set_option maxRecDepth 100000 in
set_option maxHeartbeats 16000000 in
theorem rsameNodes_any (n : Nat) : ∀ (xs ys : List Nd) (A A' : Option Addr) (c c' B : Nat) (w : World), cntL xs ≤ n → NdsAt w (Lo B) A xs → NdsAt w (Lo B) A' ys → B ≤ w.heap.size → xs.length ≤ c → ys.length ≤ c' → c ≤ 9223372036854775807 → c' ≤ 9223372036854775807 →
    Calls Tryz.prog 43 #[.slice A xs.length c, .slice A' ys.length c'] w fun e w' => e = .returned (.bool (sameL xs ys)) ∧ Below w.heap.size w w' := by
  induction n with
  | zero =>
    intro xs ys A A' c c' B w hn h h' hB hc hc' hl hl'
    have hx0 : xs = [] := by cases xs; rfl; rw [cntL, cntN_eq] at hn; omega
    subst hx0
    go_enter Tryz.func43, Tryz.ntmps43
    cases ys with
    | nil =>
      have hne : ((0 : Int) != (0 : Int)) = false := rfl
      go_wp2_with fail
      go_loopw [5] (fun v wr => v = .int .i64 0 ∧ w = wr) (fun v _ => 0)
      case atStart => exact ⟨rfl, rfl⟩
      case round =>
        obtain ⟨rfl, rfl⟩ := hrel
        go_wp2_with fail
        go_ret
        exact ⟨rfl, Below.refl _ _⟩
    | cons y ys =>
      have hne : ((0 : Int) != (((y :: ys).length : Nat) : Int)) = true := by rw [bne_iff_ne, List.length_cons]; omega
      generalize hm : (y :: ys).length = m at *
      have HE := Lib.hid (show sameL [] (y :: ys) = false from rfl)
      go_wp2_with fail
      go_ret
      exact ⟨by rw [HE.out]; rfl, Below.refl _ _⟩
  | succ n ih =>
    intro xs ys A A' c c' B w hn h h' hB hc hc' hl hl'
    have H1 := Lib.hid h
    have H2 := Lib.hid h'
    clear h h'
    go_enter Tryz.func43, Tryz.ntmps43
    by_cases hln : xs.length = ys.length
    case neg =>
      have hne : ((xs.length : Int) != (ys.length : Int)) = true := by rw [bne_iff_ne]; omega
      have HE := Lib.hid (show sameL xs ys = false from sameL_len hln)
      go_wp2_with fail
      go_ret
      exact ⟨by rw [HE.out]; rfl, Below.refl _ _⟩
    have hne : ((xs.length : Int) != (ys.length : Int)) = false := by rw [hln]; simp
    go_wp2_with fail
    go_loopw [5] (fun v wr => ∃ i : Nat, i ≤ xs.length ∧ v = .int .i64 (i : Int) ∧ Hid (sameL (xs.take i) (ys.take i) = true) ∧ Hid (Below w.heap.size w wr)) (fun v _ => xs.length - (intOf v).toNat)
    case atStart => exact ⟨0, Nat.zero_le _, rfl, Lib.hid rfl, Lib.hid (Below.refl _ _)⟩
    case round =>
      obtain ⟨i, hi, rfl, HT, HB⟩ := hrel
      by_cases hlt : i < xs.length
      case neg =>
        have hq : ¬ ((i : Int) < (xs.length : Int)) := by omega
        have HE := Lib.hid (show sameL xs ys = true by
          have h := HT.out
          rw [List.take_of_length_le (by omega), List.take_of_length_le (by omega)] at h
          exact h)
        go_wp2_with fail
        go_ret
        exact ⟨by rw [HE.out]; rfl, HB.out⟩
      have hq : (i : Int) < (xs.length : Int) := by omega
      have hlt' : i < ys.length := by omega
      have hq' : (i : Int) < (ys.length : Int) := by omega
      have hBw := Nat.le_trans hB HB.out.size
      obtain ⟨b, o, rfl, hb, Ak, ck, An, cn, d0, d1, d2, d3, d4, d5, g1, g2, g3, g4, g5, g6, _, _⟩ := (H1.out.below (HB.out.mono hB) (Nat.le_refl _)).at_ hlt
      obtain ⟨b', o', rfl, hb', Ak', ck', An', cn', e0, e1, e2, e3, e4, e5, f1, f2, f3, f4, f5, f6, _, _⟩ := (H2.out.below (HB.out.mono hB) (Nat.le_refl _)).at_ hlt'
      have hbw : b < wr.heap.size := Nat.lt_of_lt_of_le hb hBw
      have hbw' : b' < wr.heap.size := Nat.lt_of_lt_of_le hb' hBw
      have hck := cnt_kid hlt
      have HSN : Hid (∀ w', Below wr.heap.size wr w' → Calls Tryz.prog 42 #[.slice An xs[i].ns.length cn, .slice An' ys[i].ns.length cn'] w' fun e w'' => e = .returned (.bool (xs[i].ns == ys[i].ns)) ∧ Below w'.heap.size w' w'') :=
        Lib.hid (fun w' hb => rsameNames_any _ _ An An' cn cn' B w' (g5.below (hb.mono hBw) (Nat.le_refl _)) (f5.below (hb.mono hBw) (Nat.le_refl _)) (Nat.le_trans hBw hb.size) g2 f2 g4 f4)
      have HSK : Hid (∀ w', Below wr.heap.size wr w' → Calls Tryz.prog 43 #[.slice Ak xs[i].kids.length ck, .slice Ak' ys[i].kids.length ck'] w' fun e w'' => e = .returned (.bool (sameL xs[i].kids ys[i].kids)) ∧ Below w'.heap.size w' w'') :=
        Lib.hid (fun w' hb => ih _ _ Ak Ak' ck ck' B w' (by omega) (g6.below (hb.mono hBw) (Nat.le_refl _)) (f6.below (hb.mono hBw) (Nat.le_refl _)) (Nat.le_trans hBw hb.size) g1 f1 g3 f3)
      have HM := Lib.hid (sameL_take hlt hlt')
      have HN := Lib.hid (sameL_false hlt hlt')
      clear g5 g6 f5 f6 g1 g2 g3 g4 f1 f2 f3 f4 hb hb' ih
      generalize xs[i] = x at *
      generalize ys[i] = y at *
      cases hc0 : (x.kd == y.kd)
      · skip
        have hb0 : (x.kd != y.kd) = true := by simp [bne, hc0]
        have HE := Lib.hid (show sameL xs ys = false from HN.out (by rw [sameN_eq, hc0]; rfl))
        clear HN
        have hx := fun (z : Grow wr) => z.cell
        go_upto_region 6 with fail
        refine wp_region_grow (by kernel_rfl) (by kernel_rfl) ?_
        simp only [List.append_eq, List.cons_append, List.nil_append]
        repeat (go_big_quiet_step (fail))
        refine wpQuiet_nil ?_
        rintro _ ⟨z, rfl⟩
        have hb := Lib.hid (HB.out.trans (z.below.mono HB.out.size))
        clear hx
        go_wp2_with fail
        go_ret
        exact ⟨by rw [HE.out]; rfl, hb.out⟩
      cases hc1 : (x.nm == y.nm)
      · skip
        have hb0 : (x.kd != y.kd) = false := by simp [bne, hc0]
        have hb1 : (x.nm != y.nm) = true := by simp [bne, hc1]
        have HE := Lib.hid (show sameL xs ys = false from HN.out (by rw [sameN_eq, hc0, hc1]; rfl))
        clear HN
        have hx := fun (z : Grow wr) => z.cell
        go_upto_region 6 with fail
        refine wp_region_grow (by kernel_rfl) (by kernel_rfl) ?_
        simp only [List.append_eq, List.cons_append, List.nil_append]
        repeat (go_big_quiet_step (fail))
        refine wpQuiet_nil ?_
        rintro _ ⟨z, rfl⟩
        have hb := Lib.hid (HB.out.trans (z.below.mono HB.out.size))
        clear hx
        go_wp2_with fail
        go_ret
        exact ⟨by rw [HE.out]; rfl, hb.out⟩
      cases hc2 : (x.nu == y.nu)
      · skip
        have hb0 : (x.kd != y.kd) = false := by simp [bne, hc0]
        have hb1 : (x.nm != y.nm) = false := by simp [bne, hc1]
        have hb2 : (x.nu != y.nu) = true := by simp [bne, hc2]
        have HE := Lib.hid (show sameL xs ys = false from HN.out (by rw [sameN_eq, hc0, hc1, hc2]; rfl))
        clear HN
        have hx := fun (z : Grow wr) => z.cell
        go_upto_region 6 with fail
        refine wp_region_grow (by kernel_rfl) (by kernel_rfl) ?_
        simp only [List.append_eq, List.cons_append, List.nil_append]
        repeat (go_big_quiet_step (fail))
        refine wpQuiet_nil ?_
        rintro _ ⟨z, rfl⟩
        have hb := Lib.hid (HB.out.trans (z.below.mono HB.out.size))
        clear hx
        go_wp2_with fail
        go_ret
        exact ⟨by rw [HE.out]; rfl, hb.out⟩
      cases hc3 : (x.ns == y.ns)
      · skip
        have hb0 : (x.kd != y.kd) = false := by simp [bne, hc0]
        have hb1 : (x.nm != y.nm) = false := by simp [bne, hc1]
        have hb2 : (x.nu != y.nu) = false := by simp [bne, hc2]
        have hb3 : (x.ns != y.ns) = true := by simp [bne, hc3]
        have HE := Lib.hid (show sameL xs ys = false from HN.out (by rw [sameN_eq, hc0, hc1, hc2, hc3]; rfl))
        clear HN
        have hsn := fun (z : Grow wr) => HSN.out z.w z.below
        rw [hc3] at hsn
        have hx := fun (z : Grow wr) => z.cell
        go_upto_region 6 with fail
        refine wp_region_grow (by kernel_rfl) (by kernel_rfl) ?_
        simp only [List.append_eq, List.cons_append, List.nil_append]
        repeat (go_big_quiet_step ((go_at_call 42; exact Grow.call _ (hsn _))))
        refine wpQuiet_nil ?_
        rintro _ ⟨z, rfl⟩
        have hb := Lib.hid (HB.out.trans (z.below.mono HB.out.size))
        clear hx hsn
        go_wp2_with fail
        go_ret
        exact ⟨by rw [HE.out]; rfl, hb.out⟩
      cases hc4 : (sameL x.kids y.kids)
      · skip
        have hb0 : (x.kd != y.kd) = false := by simp [bne, hc0]
        have hb1 : (x.nm != y.nm) = false := by simp [bne, hc1]
        have hb2 : (x.nu != y.nu) = false := by simp [bne, hc2]
        have hb3 : (x.ns != y.ns) = false := by simp [bne, hc3]
        have HE := Lib.hid (show sameL xs ys = false from HN.out (by rw [sameN_eq, hc0, hc1, hc2, hc3, hc4]; rfl))
        clear HN
        have hsn := fun (z : Grow wr) => HSN.out z.w z.below
        rw [hc3] at hsn
        have hsk := fun (z : Grow wr) => HSK.out z.w z.below
        rw [hc4] at hsk
        have hx := fun (z : Grow wr) => z.cell
        go_upto_region 6 with fail
        refine wp_region_grow (by kernel_rfl) (by kernel_rfl) ?_
        simp only [List.append_eq, List.cons_append, List.nil_append]
        repeat (go_big_quiet_step (first | (go_at_call 42; exact Grow.call _ (hsn _)) | (go_at_call 43; exact Grow.call _ (hsk _))))
        refine wpQuiet_nil ?_
        rintro _ ⟨z, rfl⟩
        have hb := Lib.hid (HB.out.trans (z.below.mono HB.out.size))
        clear hx hsn hsk
        go_wp2_with fail
        go_ret
        exact ⟨by rw [HE.out]; rfl, hb.out⟩
      have hb0 : (x.kd != y.kd) = false := by simp [bne, hc0]
      have hb1 : (x.nm != y.nm) = false := by simp [bne, hc1]
      have hb2 : (x.nu != y.nu) = false := by simp [bne, hc2]
      have hb3 : (x.ns != y.ns) = false := by simp [bne, hc3]
      have HT2 := Lib.hid (show sameL (xs.take (i + 1)) (ys.take (i + 1)) = true by rw [HM.out, HT.out, sameN_eq, hc0, hc1, hc2, hc3, hc4]; rfl)
      clear HN
      have hsn := fun (z : Grow wr) => HSN.out z.w z.below
      rw [hc3] at hsn
      have hsk := fun (z : Grow wr) => HSK.out z.w z.below
      rw [hc4] at hsk
      have hx := fun (z : Grow wr) => z.cell
      go_upto_region 6 with fail
      refine wp_region_grow (by kernel_rfl) (by kernel_rfl) ?_
      simp only [List.append_eq, List.cons_append, List.nil_append]
      repeat (go_big_quiet_step (first | (go_at_call 42; exact Grow.call _ (hsn _)) | (go_at_call 43; exact Grow.call _ (hsk _))))
      refine wpQuiet_nil ?_
      rintro _ ⟨z, rfl⟩
      have hb := Lib.hid (HB.out.trans (z.below.mono HB.out.size))
      clear hx hsn hsk
      go_wp2_with fail
      go_roundw
      case rel => exact ⟨i + 1, by omega, by simp, HT2, hb⟩
      case measure => simp [intOf]; omega
end Go.Proofs.YtfcceojfcmgmlaaGreatDoor.Fl

/-
  The program's trees: have two the same?
-/
namespace Go.Proofs.YtfcceojfcmgmlaaGreatDoor.Fl
open Go.RowKit Go.Shelf

theorem cells6T {w : World} {g : Nat} {v0 v1 v2 v3 v4 v5 : Value} {T : TypeId} (h : w.heap[g]? = some (.cells #[v0, v1, v2, v3, v4, v5] T (0, 0))) :
    w.cell? ⟨g, 0, none⟩ = some v0 ∧ w.cell? ⟨g, 1, none⟩ = some v1 ∧ w.cell? ⟨g, 2, none⟩ = some v2 ∧ w.cell? ⟨g, 3, none⟩ = some v3 ∧ w.cell? ⟨g, 4, none⟩ = some v4 ∧ w.cell? ⟨g, 5, none⟩ = some v5 ∧ ∀ k, w.frozen? ⟨g, k, none⟩ = false :=
  ⟨cell_of_row _ _ _ _ _ _ h, cell_of_row _ _ _ _ _ _ h, cell_of_row _ _ _ _ _ _ h, cell_of_row _ _ _ _ _ _ h, cell_of_row _ _ _ _ _ _ h, cell_of_row _ _ _ _ _ _ h, fun _ => frozen_of_row _ _ _ _ _ h⟩
theorem boxes2T (w : World) (x y : Obj) (W : World) (hW : (w.alloc x).alloc y = W) : W.heap[w.heap.size]? = some x ∧ W.heap[w.heap.size + 1]? = some y ∧ Below w.heap.size w W := by
  refine ⟨?_, ?_, ?_⟩
  · rw [← hW]; exact (Below.heap_alloc _ _ _ (by rw [World.size_alloc]; omega)).trans (heap_alloc_new w _)
  · rw [← hW, ← World.size_alloc w x]; exact heap_alloc_new _ _
  · rw [← hW]; exact ((Below.refl _ w).alloc (Nat.le_refl _) _).alloc (by rw [World.size_alloc]; omega) _
set_option maxRecDepth 100000 in
set_option maxHeartbeats 4000000 in
theorem equalNames_any (xs ys : List (List UInt8)) (A A' : Option Addr) (c c' B : Nat) (w : World) (h : SrAt w (Lo B) A xs) (h' : SrAt w (Lo B) A' ys) (hB : B ≤ w.heap.size) (hc : xs.length ≤ c) (hc' : ys.length ≤ c') (hl : c ≤ 9223372036854775807) (hl' : c' ≤ 9223372036854775807) :
    Calls Tryz.prog 45 #[.slice A xs.length c, .slice A' ys.length c'] w fun e w' => e = .returned (.bool (xs == ys)) ∧ Below w.heap.size w w' := by
  have H1 := Lib.hid h
  have H2 := Lib.hid h'
  clear h h'
  go_enter Tryz.func45, Tryz.ntmps45
  by_cases hn : xs.length = ys.length
  case neg =>
    have hne : ((xs.length : Int) != (ys.length : Int)) = true := by rw [bne_iff_ne]; omega
    have HE := Lib.hid (show (xs == ys) = false from beq_eq_false_iff_ne.2 fun e => hn (by rw [e]))
    go_wp2_with fail
    go_ret
    exact ⟨by rw [HE.out]; rfl, Below.refl _ _⟩
  have hne : ((xs.length : Int) != (ys.length : Int)) = false := by rw [hn]; simp
  go_wp2_with fail
  go_loopw [13] (fun v wr => ∃ i : Nat, i ≤ xs.length ∧ v = .int .i64 (i : Int) ∧ Hid (xs.take i = ys.take i) ∧ Hid (Below w.heap.size w wr)) (fun v _ => xs.length - (intOf v).toNat)
  case atStart => exact ⟨0, Nat.zero_le _, rfl, Lib.hid rfl, Lib.hid (Below.refl _ _)⟩
  case round =>
    obtain ⟨i, hi, rfl, HT, HB⟩ := hrel
    by_cases hlt : i < xs.length
    case neg =>
      have hq : ¬ ((i : Int) < (xs.length : Int)) := by omega
      have HE := Lib.hid (show (xs == ys) = true by
        have h := HT.out
        rw [List.take_of_length_le (by omega), List.take_of_length_le (by omega)] at h
        rw [h]; simp)
      go_wp2_with fail
      go_ret
      exact ⟨by rw [HE.out]; rfl, HB.out⟩
    have hq : (i : Int) < (xs.length : Int) := by omega
    have hlt' : i < ys.length := by omega
    have hq' : (i : Int) < (ys.length : Int) := by omega
    obtain ⟨b, o, rfl, hb, hcell⟩ := (H1.out.below (HB.out.mono hB) (Nat.le_refl _)).get hlt
    obtain ⟨b', o', rfl, hb', hcell'⟩ := (H2.out.below (HB.out.mono hB) (Nat.le_refl _)).get hlt'
    have hbw : b < wr.heap.size := Nat.lt_of_lt_of_le hb (Nat.le_trans hB HB.out.size)
    have hbw' : b' < wr.heap.size := Nat.lt_of_lt_of_le hb' (Nat.le_trans hB HB.out.size)
    have HX := Lib.hid (show xs.take (i + 1) = xs.take i ++ [xs[i]] from List.take_succ_eq_append_getElem hlt)
    have HY := Lib.hid (show ys.take (i + 1) = ys.take i ++ [ys[i]] from List.take_succ_eq_append_getElem hlt')
    have HN := Lib.hid (show xs[i] ≠ ys[i] → xs ≠ ys from fun h e => h (by subst e; rfl))
    generalize xs[i] = x at *
    generalize ys[i] = y at *
    have HBn : ∀ n, Hid (Below w.heap.size w (wr.drewN n)) := fun n => Lib.hid (_root_.Go.below_drewN HB.out n)
    clear hb hb'
    by_cases he : x = y
    · have hb1 : (x == y) = true := by rw [he]; simp
      have HT2 := Lib.hid (show xs.take (i + 1) = ys.take (i + 1) by rw [HX.out, HY.out, HT.out, he])
      clear he HN
      go_upto_region 6 with fail
      go_quiet (fail)
      go_wp2_with fail
      go_roundw
      case rel => exact ⟨i + 1, by omega, by simp, HT2, HBn _⟩
      case measure => simp [intOf]; omega
    · have hb1 : (x == y) = false := beq_eq_false_iff_ne.2 he
      have HE := Lib.hid (show (xs == ys) = false from beq_eq_false_iff_ne.2 (HN.out he))
      clear he HN
      go_upto_region 6 with fail
      go_quiet (fail)
      go_wp2_with fail
      go_ret
      exact ⟨by rw [HE.out]; rfl, (HBn _).out⟩
/-- a node's cells -/
abbrev ndC (x : Nd) (Ak : Option Addr) (ck : Nat) (An : Option Addr) (cn : Nat) : Array Value := #[.int .i64 x.kd, .string (mkB x.nm), .int .i64 x.nu, .slice Ak x.kids.length ck, .slice An x.ns.length cn, .int .i64 x.at_]
def EqF (n : Nat) : Prop := ∀ (xs ys : List Nd) (A A' : Option Addr) (c c' B : Nat) (w : World), cntL xs ≤ n → NdsAt w (Lo B) A xs → NdsAt w (Lo B) A' ys → B ≤ w.heap.size → xs.length ≤ c → ys.length ≤ c' → c ≤ 9223372036854775807 → c' ≤ 9223372036854775807 →
    Calls Tryz.prog 46 #[.slice A xs.length c, .slice A' ys.length c', .func (.func 47) #[] #[]] w fun e w' => e = .returned (.bool (sameL xs ys)) ∧ Below w.heap.size w w'
set_option maxRecDepth 100000 in
set_option maxHeartbeats 8000000 in
theorem sameNode_any (n : Nat) (hf : EqF n) (x y : Nd) (Ak An Ak' An' : Option Addr) (ck cn ck' cn' B : Nat) (w : World) (hn : cntL x.kids ≤ n) (h1 : NdsAt w (Lo B) Ak x.kids) (h2 : SrAt w (Lo B) An x.ns) (h3 : NdsAt w (Lo B) Ak' y.kids) (h4 : SrAt w (Lo B) An' y.ns) (hB : B ≤ w.heap.size)
    (g1 : x.kids.length ≤ ck) (g2 : x.ns.length ≤ cn) (g3 : y.kids.length ≤ ck') (g4 : y.ns.length ≤ cn') (m1 : ck ≤ 9223372036854775807) (m2 : cn ≤ 9223372036854775807) (m3 : ck' ≤ 9223372036854775807) (m4 : cn' ≤ 9223372036854775807) :
    Calls Tryz.prog 47 #[.agg (ndC x Ak ck An cn), .agg (ndC y Ak' ck' An' cn')] w fun e w' => e = .returned (.bool (sameN x y)) ∧ Below w.heap.size w w' := by
  obtain ⟨W, hW⟩ : ∃ W, (w.alloc (.cells (ndC x Ak ck An cn) 47)).alloc (.cells (ndC y Ak' ck' An' cn') 47) = W := ⟨_, rfl⟩
  obtain ⟨q1, q2, hb⟩ := boxes2T w _ _ W hW
  have HEN := Lib.hid (fun w' (hb : Below w.heap.size w w') => equalNames_any x.ns y.ns An An' cn cn' B w' (h2.below (hb.mono hB) (Nat.le_refl _)) (h4.below (hb.mono hB) (Nat.le_refl _)) (Nat.le_trans hB hb.size) g2 g4 m2 m4)
  have HEF := Lib.hid (fun w' (hb : Below w.heap.size w w') => hf x.kids y.kids Ak Ak' ck ck' B w' hn (h1.below (hb.mono hB) (Nat.le_refl _)) (h3.below (hb.mono hB) (Nat.le_refl _)) (Nat.le_trans hB hb.size) g1 g3 m1 m3)
  obtain ⟨r, hr⟩ : ∃ r, sameN x y = r := ⟨_, rfl⟩
  rw [hr]
  rw [sameN_eq] at hr
  have HR := Lib.hid hr
  clear hr hf h1 h2 h3 h4 hn
  go_enter Tryz.func47, Tryz.ntmps47
  go_upto_region 1 with fail
  try simp only [hW]
  obtain ⟨T, hT⟩ : ∃ T, w.heap.size = T := ⟨_, rfl⟩
  rw [hT] at q1 q2
  try simp only [hT]
  have HB := Lib.hid hb
  have HQ := Lib.hid (And.intro q1 q2)
  have f1 := cells6T HQ.out.1
  have f2 := cells6T HQ.out.2
  have l1 := lt_of_blk HQ.out.1
  have l2 := lt_of_blk HQ.out.2
  clear hW hb q1 q2 hT
  cases hc0 : (x.kd == y.kd)
  · have HE := Lib.hid (show r = false by rw [← HR.out, hc0]; rfl)
    go_wp2_with fail
    go_ret
    exact ⟨by rw [HE.out]; rfl, HB.out⟩
  cases hc1 : (x.nm == y.nm)
  · have HE := Lib.hid (show r = false by rw [← HR.out, hc0, hc1]; rfl)
    go_wp2_with fail
    go_ret
    exact ⟨by rw [HE.out]; rfl, HB.out⟩
  cases hc2 : (x.nu == y.nu)
  · have HE := Lib.hid (show r = false by rw [← HR.out, hc0, hc1, hc2]; rfl)
    go_wp2_with fail
    go_ret
    exact ⟨by rw [HE.out]; rfl, HB.out⟩
  have hen := HEN.out W HB.out
  obtain ⟨t3, ht3⟩ : ∃ t, (x.ns == y.ns) = t := ⟨_, rfl⟩
  rw [ht3] at hen
  have HR2 := HR.out
  rw [hc0, hc1, hc2, ht3] at HR2
  have HR2 := Lib.hid HR2
  clear ht3 HR
  cases t3
  · have HE := Lib.hid (show r = false by rw [← HR2.out]; rfl)
    go_wp2_with (go_at_call 45; refine hen.mono ?_; rintro e w2 ⟨rfl, hb2⟩; clear hen)
    go_ret
    exact ⟨by rw [HE.out]; rfl, HB.out.trans (hb2.mono HB.out.size)⟩
  · have HE := Lib.hid (show r = sameL x.kids y.kids by rw [← HR2.out]; rfl)
    obtain ⟨t4, ht4⟩ : ∃ t, sameL x.kids y.kids = t := ⟨_, rfl⟩
    have HT4 := Lib.hid ht4
    clear ht4
    go_wp2_with (first
      | (go_at_call 45; refine hen.mono ?_; rintro e w2 ⟨rfl, hb2⟩; clear hen
         have f3 := cells6T ((hb2.block _ l1).trans HQ.out.1)
         have f4 := cells6T ((hb2.block _ l2).trans HQ.out.2)
         have l3 := Nat.lt_of_lt_of_le l1 hb2.size
         have l4 := Nat.lt_of_lt_of_le l2 hb2.size
         have hef := HEF.out w2 (HB.out.trans (hb2.mono HB.out.size))
         rw [HT4.out] at hef)
      | (go_at_call 46; refine hef.mono ?_; rintro e w3 ⟨rfl, hb3⟩; clear hef))
    go_ret
    exact ⟨by rw [HE.out, HT4.out]; rfl, (HB.out.trans (hb2.mono HB.out.size)).trans (hb3.mono (Nat.le_trans HB.out.size hb2.size))⟩
set_option maxRecDepth 100000 in
set_option maxHeartbeats 8000000 in
theorem equalFunc_any (n : Nat) : EqF n := by
  induction n with
  | zero =>
    intro xs ys A A' c c' B w hn h h' hB hc hc' hl hl'
    have hx0 : xs = [] := by cases xs; rfl; rw [cntL, cntN_eq] at hn; omega
    subst hx0
    go_enter Tryz.func46, Tryz.ntmps46
    cases ys with
    | nil =>
      have hne : ((0 : Int) != (0 : Int)) = false := rfl
      go_wp2_with fail
      go_loopw [17] (fun v wr => v = .int .i64 0 ∧ w = wr) (fun v _ => 0)
      case atStart => exact ⟨rfl, rfl⟩
      case round =>
        obtain ⟨rfl, rfl⟩ := hrel
        go_wp2_with fail
        go_ret
        exact ⟨rfl, Below.refl _ _⟩
    | cons y ys =>
      have hne : ((0 : Int) != (((y :: ys).length : Nat) : Int)) = true := by rw [bne_iff_ne, List.length_cons]; omega
      generalize hm : (y :: ys).length = m at *
      have HE := Lib.hid (show sameL [] (y :: ys) = false from rfl)
      go_wp2_with fail
      go_ret
      exact ⟨by rw [HE.out]; rfl, Below.refl _ _⟩
  | succ n ih =>
    intro xs ys A A' c c' B w hn h h' hB hc hc' hl hl'
    have H1 := Lib.hid h
    have H2 := Lib.hid h'
    clear h h'
    go_enter Tryz.func46, Tryz.ntmps46
    by_cases hln : xs.length = ys.length
    case neg =>
      have hne : ((xs.length : Int) != (ys.length : Int)) = true := by rw [bne_iff_ne]; omega
      have HE := Lib.hid (show sameL xs ys = false from sameL_len hln)
      go_wp2_with fail
      go_ret
      exact ⟨by rw [HE.out]; rfl, Below.refl _ _⟩
    have hne : ((xs.length : Int) != (ys.length : Int)) = false := by rw [hln]; simp
    have HLN := Lib.hid hln
    clear hln
    go_wp2_with fail
    go_loopw [17] (fun v wr => ∃ i : Nat, i ≤ xs.length ∧ v = .int .i64 (i : Int) ∧ Hid (sameL (xs.take i) (ys.take i) = true) ∧ Hid (Below w.heap.size w wr)) (fun v _ => xs.length - (intOf v).toNat)
    case atStart => exact ⟨0, Nat.zero_le _, rfl, Lib.hid rfl, Lib.hid (Below.refl _ _)⟩
    case round =>
      obtain ⟨i, hi, rfl, HT, HB⟩ := hrel
      by_cases hlt : i < xs.length
      case neg =>
        have hq : ¬ ((i : Int) < (xs.length : Int)) := by omega
        have HE := Lib.hid (show sameL xs ys = true by
          have h := HT.out
          rw [List.take_of_length_le (by omega), List.take_of_length_le (by have := HLN.out; omega)] at h
          exact h)
        go_wp2_with fail
        go_ret
        exact ⟨by rw [HE.out]; rfl, HB.out⟩
      have hq : (i : Int) < (xs.length : Int) := by omega
      have hlt' : i < ys.length := by have := HLN.out; omega
      have hq' : (i : Int) < (ys.length : Int) := by omega
      have hBw := Nat.le_trans hB HB.out.size
      obtain ⟨b, o, rfl, hb, Ak, ck, An, cn, d0, d1, d2, d3, d4, d5, g1, g2, g3, g4, g5, g6, _, _⟩ := (H1.out.below (HB.out.mono hB) (Nat.le_refl _)).at_ hlt
      obtain ⟨b', o', rfl, hb', Ak', ck', An', cn', e0, e1, e2, e3, e4, e5, f1, f2, f3, f4, f5, f6, _, _⟩ := (H2.out.below (HB.out.mono hB) (Nat.le_refl _)).at_ hlt'
      have hbw : b < wr.heap.size := Nat.lt_of_lt_of_le hb hBw
      have hbw' : b' < wr.heap.size := Nat.lt_of_lt_of_le hb' hBw
      have hck := cnt_kid hlt
      have HS : Hid (∀ w', Below wr.heap.size wr w' → Calls Tryz.prog 47 #[.agg (ndC xs[i] Ak ck An cn), .agg (ndC ys[i] Ak' ck' An' cn')] w' fun e w'' => e = .returned (.bool (sameN xs[i] ys[i])) ∧ Below w'.heap.size w' w'') :=
        Lib.hid (fun w' hb => sameNode_any n ih _ _ Ak An Ak' An' ck cn ck' cn' B w' (by omega) (g6.below (hb.mono hBw) (Nat.le_refl _)) (g5.below (hb.mono hBw) (Nat.le_refl _)) (f6.below (hb.mono hBw) (Nat.le_refl _)) (f5.below (hb.mono hBw) (Nat.le_refl _)) (Nat.le_trans hBw hb.size) g1 g2 f1 f2 g3 g4 f3 f4)
      have HM := Lib.hid (sameL_take hlt hlt')
      have HN := Lib.hid (sameL_false hlt hlt')
      clear g5 g6 f5 f6 g1 g2 g3 g4 f1 f2 f3 f4 hb hb' ih
      generalize xs[i] = x at *
      generalize ys[i] = y at *
      obtain ⟨W, hW⟩ : ∃ W, (wr.alloc (.cells (ndC x Ak ck An cn) 47)).alloc (.cells (ndC y Ak' ck' An' cn') 47) = W := ⟨_, rfl⟩
      obtain ⟨q1, q2, hbW⟩ := boxes2T wr _ _ W hW
      go_upto_region 7 with fail
      try simp only [hW]
      obtain ⟨T, hT⟩ : ∃ T, wr.heap.size = T := ⟨_, rfl⟩
      have hs := HS.out W hbW
      rw [hT] at q1 q2
      try simp only [hT]
      have f1 := cells6T q1
      have f2 := cells6T q2
      have l1 := lt_of_blk q1
      have l2 := lt_of_blk q2
      have HBW := Lib.hid (HB.out.trans (hbW.mono HB.out.size))
      clear hW hbW q1 q2 hT d0 d1 d2 d3 d4 d5 e0 e1 e2 e3 e4 e5
      obtain ⟨t, ht⟩ : ∃ t, sameN x y = t := ⟨_, rfl⟩
      rw [ht] at hs
      have HTn := Lib.hid ht
      clear ht
      cases t
      · have HE := Lib.hid (HN.out HTn.out)
        go_wp2_with (go_at_call 47; refine hs.mono ?_; rintro e w2 ⟨rfl, hb2⟩; clear hs)
        go_ret
        exact ⟨by rw [HE.out]; rfl, HBW.out.trans (hb2.mono HBW.out.size)⟩
      · have HT2 := Lib.hid (show sameL (xs.take (i + 1)) (ys.take (i + 1)) = true by rw [HM.out, HT.out, HTn.out]; rfl)
        clear HN HM
        go_wp2_with (go_at_call 47; refine hs.mono ?_; rintro e w2 ⟨rfl, hb2⟩; clear hs)
        have HB3 := Lib.hid (HBW.out.trans (hb2.mono HBW.out.size))
        clear hb2
        go_roundw
        case rel => exact ⟨i + 1, by omega, by simp, HT2, HB3⟩
        case measure => simp [intOf]; omega
end Go.Proofs.YtfcceojfcmgmlaaGreatDoor.Fl

/-
  Methods as trees: have two the same?
-/
namespace Go.Proofs.YtfcceojfcmgmlaaGreatDoor.Fl
open Go.RowKit Go.Shelf

/-- a method: name, parameters, variables, primitive, body, place -/
structure Me where
  nm : List UInt8
  ps : List (List UInt8)
  ts : List (List UInt8)
  pr : Int
  bd : List Nd
  at_ : Int
def sameM (a b : Me) : Bool := a.nm == b.nm && (a.pr == b.pr && (a.ps == b.ps && (a.ts == b.ts && sameL a.bd b.bd)))
/-- a method's value, in memory -/
structure MeAt (w : World) (P : Nat → Prop) (v : Value) (m : Me) : Prop where
  ex : ∃ Ap cp At ct Ab cb, v = .agg #[.string (mkB m.nm), .slice Ap m.ps.length cp, .slice At m.ts.length ct, .int .i64 m.pr, .slice Ab m.bd.length cb, .int .i64 m.at_] ∧
    m.ps.length ≤ cp ∧ cp ≤ 9223372036854775807 ∧ m.ts.length ≤ ct ∧ ct ≤ 9223372036854775807 ∧ m.bd.length ≤ cb ∧ cb ≤ 9223372036854775807 ∧ SrAt w P Ap m.ps ∧ SrAt w P At m.ts ∧ NdsAt w P Ab m.bd ∧ (Ap = none → m.ps = []) ∧ (At = none → m.ts = []) ∧ (Ab = none → m.bd = [])
theorem MeAt.keep {w w' : World} {P P' : Nat → Prop} {v : Value} {m : Me} (h : MeAt w P v m) (hk : ∀ b, P b → w'.heap[b]? = w.heap[b]? ∧ P' b) : MeAt w' P' v m := by
  obtain ⟨Ap, cp, At, ct, Ab, cb, e, h1, h2, h3, h4, h5, h6, s1, s2, s3, n1, n2, n3⟩ := h.ex
  exact ⟨Ap, cp, At, ct, Ab, cb, e, h1, h2, h3, h4, h5, h6, s1.keep hk, s2.keep hk, s3.keep hk, n1, n2, n3⟩
theorem MeAt.below {w w' : World} {B B' : Nat} {v : Value} {m : Me} (h : MeAt w (Lo B) v m) (hb : Below B w w') (hB : B ≤ B') : MeAt w' (Lo B') v m :=
  h.keep fun b hlt => ⟨hb.block b hlt, Nat.lt_of_lt_of_le hlt hB⟩
set_option maxRecDepth 100000 in
set_option maxHeartbeats 8000000 in
theorem rsameM_any (a b : Me) (va vb : Value) (w : World) (ha : MeAt w (Lo w.heap.size) va a) (hb : MeAt w (Lo w.heap.size) vb b) :
    Calls Tryz.prog 18 #[va, vb] w fun e w' => e = .returned (.bool (sameM a b)) ∧ Below w.heap.size w w' := by
  obtain ⟨Ap, cp, At, ct, Ab, cb, rfl, h1, h2, h3, h4, h5, h6, s1, s2, s3, -, -, -⟩ := ha.ex
  obtain ⟨Ap', cp', At', ct', Ab', cb', rfl, g1, g2, g3, g4, g5, g6, r1, r2, r3, -, -, -⟩ := hb.ex
  clear ha hb
  obtain ⟨W, hW⟩ : ∃ W, (w.alloc (.cells #[.string (mkB a.nm), .slice Ap a.ps.length cp, .slice At a.ts.length ct, .int .i64 a.pr, .slice Ab a.bd.length cb, .int .i64 a.at_] 25)).alloc (.cells #[.string (mkB b.nm), .slice Ap' b.ps.length cp', .slice At' b.ts.length ct', .int .i64 b.pr, .slice Ab' b.bd.length cb', .int .i64 b.at_] 25) = W := ⟨_, rfl⟩
  obtain ⟨q1, q2, hbW⟩ := boxes2T w _ _ W hW
  have HP := Lib.hid (fun w' (hb : Below w.heap.size w w') => rsameNames_any a.ps b.ps Ap Ap' cp cp' w.heap.size w' (s1.below hb (Nat.le_refl _)) (r1.below hb (Nat.le_refl _)) hb.size h1 g1 h2 g2)
  have HTm := Lib.hid (fun w' (hb : Below w.heap.size w w') => rsameNames_any a.ts b.ts At At' ct ct' w.heap.size w' (s2.below hb (Nat.le_refl _)) (r2.below hb (Nat.le_refl _)) hb.size h3 g3 h4 g4)
  have HBd := Lib.hid (fun w' (hb : Below w.heap.size w w') => rsameNodes_any (cntL a.bd) a.bd b.bd Ab Ab' cb cb' w.heap.size w' (Nat.le_refl _) (s3.below hb (Nat.le_refl _)) (r3.below hb (Nat.le_refl _)) hb.size h5 g5 h6 g6)
  obtain ⟨r, hr⟩ : ∃ r, sameM a b = r := ⟨_, rfl⟩
  rw [hr]
  unfold sameM at hr
  have HR := Lib.hid hr
  clear hr s1 s2 s3 r1 r2 r3 h1 h2 h3 h4 h5 h6 g1 g2 g3 g4 g5 g6
  go_enter Tryz.func18, Tryz.ntmps18
  go_upto_region 1 with fail
  try simp only [hW]
  obtain ⟨T, hT⟩ : ∃ T, w.heap.size = T := ⟨_, rfl⟩
  rw [hT] at q1 q2
  try simp only [hT]
  have HB := Lib.hid hbW
  have HQ := Lib.hid (And.intro q1 q2)
  have f1 := cells6T HQ.out.1
  have f2 := cells6T HQ.out.2
  have l1 := lt_of_blk HQ.out.1
  have l2 := lt_of_blk HQ.out.2
  clear hW hbW q1 q2 hT
  cases hc0 : (a.nm == b.nm)
  · have HE := Lib.hid (show r = false by rw [← HR.out, hc0]; rfl)
    go_wp2_with fail
    go_ret
    exact ⟨by rw [HE.out]; rfl, HB.out⟩
  cases hc1 : (a.pr == b.pr)
  · have HE := Lib.hid (show r = false by rw [← HR.out, hc0, hc1]; rfl)
    go_wp2_with fail
    go_ret
    exact ⟨by rw [HE.out]; rfl, HB.out⟩
  have hp := HP.out W HB.out
  obtain ⟨t2, ht2⟩ : ∃ t, (a.ps == b.ps) = t := ⟨_, rfl⟩
  obtain ⟨t3, ht3⟩ : ∃ t, (a.ts == b.ts) = t := ⟨_, rfl⟩
  obtain ⟨t4, ht4⟩ : ∃ t, sameL a.bd b.bd = t := ⟨_, rfl⟩
  have HR2 := HR.out
  rw [hc0, hc1, ht2, ht3, ht4] at HR2
  rw [ht2] at hp
  have HR2 := Lib.hid HR2
  have HT3 := Lib.hid ht3
  have HT4 := Lib.hid ht4
  clear ht2 ht3 ht4 HR
  cases t2
  · have HE := Lib.hid (show r = false by rw [← HR2.out]; rfl)
    go_wp2_with (go_at_call 42; refine hp.mono ?_; rintro e w2 ⟨rfl, hb2⟩; clear hp)
    go_ret
    exact ⟨by rw [HE.out]; rfl, HB.out.trans (hb2.mono HB.out.size)⟩
  cases t3
  · have HE := Lib.hid (show r = false by rw [← HR2.out]; rfl)
    go_wp2_with (go_at_call 42; first
      | (refine hp.mono ?_; rintro e w2 ⟨rfl, hb2⟩; clear hp
         have f3 := cells6T ((hb2.block _ l1).trans HQ.out.1)
         have f4 := cells6T ((hb2.block _ l2).trans HQ.out.2)
         have l3 := Nat.lt_of_lt_of_le l1 hb2.size
         have l4 := Nat.lt_of_lt_of_le l2 hb2.size
         have ht := HTm.out w2 (HB.out.trans (hb2.mono HB.out.size))
         rw [HT3.out] at ht)
      | (refine ht.mono ?_; rintro e w3 ⟨rfl, hb3⟩; clear ht))
    go_ret
    exact ⟨by rw [HE.out]; rfl, (HB.out.trans (hb2.mono HB.out.size)).trans (hb3.mono (Nat.le_trans HB.out.size hb2.size))⟩
  have HE := Lib.hid (show r = t4 by rw [← HR2.out]; cases t4 <;> rfl)
  go_wp2_with (first
    | (go_at_call 42; first
        | (refine hp.mono ?_; rintro e w2 ⟨rfl, hb2⟩; clear hp
           have f3 := cells6T ((hb2.block _ l1).trans HQ.out.1)
           have f4 := cells6T ((hb2.block _ l2).trans HQ.out.2)
           have l3 := Nat.lt_of_lt_of_le l1 hb2.size
           have l4 := Nat.lt_of_lt_of_le l2 hb2.size
           have ht := HTm.out w2 (HB.out.trans (hb2.mono HB.out.size))
           rw [HT3.out] at ht)
        | (refine ht.mono ?_; rintro e w3 ⟨rfl, hb3⟩; clear ht
           have f5 := cells6T ((hb3.block _ l3).trans ((hb2.block _ l1).trans HQ.out.1))
           have f6 := cells6T ((hb3.block _ l4).trans ((hb2.block _ l2).trans HQ.out.2))
           have l5 := Nat.lt_of_lt_of_le l3 hb3.size
           have l6 := Nat.lt_of_lt_of_le l4 hb3.size
           have HB3 := Lib.hid ((HB.out.trans (hb2.mono HB.out.size)).trans (hb3.mono (Nat.le_trans HB.out.size hb2.size)))
           have hd := HBd.out w3 HB3.out
           rw [HT4.out] at hd))
    | (go_at_call 43; refine hd.mono ?_; rintro e w4 ⟨rfl, hb4⟩; clear hd))
  go_ret
  exact ⟨by rw [HE.out]; rfl, HB3.out.trans (hb4.mono HB3.out.size)⟩
set_option maxRecDepth 100000 in
set_option maxHeartbeats 8000000 in
theorem sameM_any (a b : Me) (va vb : Value) (w : World) (ha : MeAt w (Lo w.heap.size) va a) (hb : MeAt w (Lo w.heap.size) vb b) :
    Calls Tryz.prog 20 #[va, vb] w fun e w' => e = .returned (.bool (sameM a b)) ∧ Below w.heap.size w w' := by
  obtain ⟨Ap, cp, At, ct, Ab, cb, rfl, h1, h2, h3, h4, h5, h6, s1, s2, s3, -, -, -⟩ := ha.ex
  obtain ⟨Ap', cp', At', ct', Ab', cb', rfl, g1, g2, g3, g4, g5, g6, r1, r2, r3, -, -, -⟩ := hb.ex
  clear ha hb
  obtain ⟨W, hW⟩ : ∃ W, (w.alloc (.cells #[.string (mkB a.nm), .slice Ap a.ps.length cp, .slice At a.ts.length ct, .int .i64 a.pr, .slice Ab a.bd.length cb, .int .i64 a.at_] 30)).alloc (.cells #[.string (mkB b.nm), .slice Ap' b.ps.length cp', .slice At' b.ts.length ct', .int .i64 b.pr, .slice Ab' b.bd.length cb', .int .i64 b.at_] 30) = W := ⟨_, rfl⟩
  obtain ⟨q1, q2, hbW⟩ := boxes2T w _ _ W hW
  have HP := Lib.hid (fun w' (hb : Below w.heap.size w w') => equalNames_any a.ps b.ps Ap Ap' cp cp' w.heap.size w' (s1.below hb (Nat.le_refl _)) (r1.below hb (Nat.le_refl _)) hb.size h1 g1 h2 g2)
  have HTm := Lib.hid (fun w' (hb : Below w.heap.size w w') => equalNames_any a.ts b.ts At At' ct ct' w.heap.size w' (s2.below hb (Nat.le_refl _)) (r2.below hb (Nat.le_refl _)) hb.size h3 g3 h4 g4)
  have HBd := Lib.hid (fun w' (hb : Below w.heap.size w w') => equalFunc_any (cntL a.bd) a.bd b.bd Ab Ab' cb cb' w.heap.size w' (Nat.le_refl _) (s3.below hb (Nat.le_refl _)) (r3.below hb (Nat.le_refl _)) hb.size h5 g5 h6 g6)
  obtain ⟨r, hr⟩ : ∃ r, sameM a b = r := ⟨_, rfl⟩
  rw [hr]
  unfold sameM at hr
  have HR := Lib.hid hr
  clear hr s1 s2 s3 r1 r2 r3 h1 h2 h3 h4 h5 h6 g1 g2 g3 g4 g5 g6
  go_enter Tryz.func20, Tryz.ntmps20
  go_upto_region 1 with fail
  try simp only [hW]
  obtain ⟨T, hT⟩ : ∃ T, w.heap.size = T := ⟨_, rfl⟩
  rw [hT] at q1 q2
  try simp only [hT]
  have HB := Lib.hid hbW
  have HQ := Lib.hid (And.intro q1 q2)
  have f1 := cells6T HQ.out.1
  have f2 := cells6T HQ.out.2
  have l1 := lt_of_blk HQ.out.1
  have l2 := lt_of_blk HQ.out.2
  clear hW hbW q1 q2 hT
  cases hc0 : (a.nm == b.nm)
  · have HE := Lib.hid (show r = false by rw [← HR.out, hc0]; rfl)
    go_wp2_with fail
    go_ret
    exact ⟨by rw [HE.out]; rfl, HB.out⟩
  cases hc1 : (a.pr == b.pr)
  · have HE := Lib.hid (show r = false by rw [← HR.out, hc0, hc1]; rfl)
    go_wp2_with fail
    go_ret
    exact ⟨by rw [HE.out]; rfl, HB.out⟩
  have hp := HP.out W HB.out
  obtain ⟨t2, ht2⟩ : ∃ t, (a.ps == b.ps) = t := ⟨_, rfl⟩
  obtain ⟨t3, ht3⟩ : ∃ t, (a.ts == b.ts) = t := ⟨_, rfl⟩
  obtain ⟨t4, ht4⟩ : ∃ t, sameL a.bd b.bd = t := ⟨_, rfl⟩
  have HR2 := HR.out
  rw [hc0, hc1, ht2, ht3, ht4] at HR2
  rw [ht2] at hp
  have HR2 := Lib.hid HR2
  have HT3 := Lib.hid ht3
  have HT4 := Lib.hid ht4
  clear ht2 ht3 ht4 HR
  cases t2
  · have HE := Lib.hid (show r = false by rw [← HR2.out]; rfl)
    go_wp2_with (go_at_call 45; refine hp.mono ?_; rintro e w2 ⟨rfl, hb2⟩; clear hp)
    go_ret
    exact ⟨by rw [HE.out]; rfl, HB.out.trans (hb2.mono HB.out.size)⟩
  cases t3
  · have HE := Lib.hid (show r = false by rw [← HR2.out]; rfl)
    go_wp2_with (go_at_call 45; first
      | (refine hp.mono ?_; rintro e w2 ⟨rfl, hb2⟩; clear hp
         have f3 := cells6T ((hb2.block _ l1).trans HQ.out.1)
         have f4 := cells6T ((hb2.block _ l2).trans HQ.out.2)
         have l3 := Nat.lt_of_lt_of_le l1 hb2.size
         have l4 := Nat.lt_of_lt_of_le l2 hb2.size
         have ht := HTm.out w2 (HB.out.trans (hb2.mono HB.out.size))
         rw [HT3.out] at ht)
      | (refine ht.mono ?_; rintro e w3 ⟨rfl, hb3⟩; clear ht))
    go_ret
    exact ⟨by rw [HE.out]; rfl, (HB.out.trans (hb2.mono HB.out.size)).trans (hb3.mono (Nat.le_trans HB.out.size hb2.size))⟩
  have HE := Lib.hid (show r = t4 by rw [← HR2.out]; cases t4 <;> rfl)
  go_wp2_with (first
    | (go_at_call 45; first
        | (refine hp.mono ?_; rintro e w2 ⟨rfl, hb2⟩; clear hp
           have f3 := cells6T ((hb2.block _ l1).trans HQ.out.1)
           have f4 := cells6T ((hb2.block _ l2).trans HQ.out.2)
           have l3 := Nat.lt_of_lt_of_le l1 hb2.size
           have l4 := Nat.lt_of_lt_of_le l2 hb2.size
           have ht := HTm.out w2 (HB.out.trans (hb2.mono HB.out.size))
           rw [HT3.out] at ht)
        | (refine ht.mono ?_; rintro e w3 ⟨rfl, hb3⟩; clear ht
           have f5 := cells6T ((hb3.block _ l3).trans ((hb2.block _ l1).trans HQ.out.1))
           have f6 := cells6T ((hb3.block _ l4).trans ((hb2.block _ l2).trans HQ.out.2))
           have l5 := Nat.lt_of_lt_of_le l3 hb3.size
           have l6 := Nat.lt_of_lt_of_le l4 hb3.size
           have HB3 := Lib.hid ((HB.out.trans (hb2.mono HB.out.size)).trans (hb3.mono (Nat.le_trans HB.out.size hb2.size)))
           have hd := HBd.out w3 HB3.out
           rw [HT4.out] at hd))
    | (go_at_call 46; refine hd.mono ?_; rintro e w4 ⟨rfl, hb4⟩; clear hd))
  go_ret
  exact ⟨by rw [HE.out]; rfl, HB3.out.trans (hb4.mono HB3.out.size)⟩
end Go.Proofs.YtfcceojfcmgmlaaGreatDoor.Fl

/-
  What a file has, as the document reads it: its classes and its methods' texts, in rows of the call's own.
-/
namespace Go.Proofs.YtfcceojfcmgmlaaGreatDoor.Fl
open Go.RowKit

/-- a class (name, the one above, fields, place); a method's text (class, of the class's own side, text, place) -/
abbrev Cls := List UInt8 × List UInt8 × List (List UInt8) × Int
abbrev Src := List UInt8 × Bool × List UInt8 × Int
/-- a row's block is no block of another type -/
theorem own_ne {w : World} {base : Nat} {T T' : TypeId} {size n : Nat} {v : Value} {xs : List Value} (h : w.ownsRow base T size v n xs) {k : Nat} {cs : Array Value} {fr : Nat × Nat} (hk : w.heap[k]? = some (.cells cs T' fr)) (hT : T' ≠ T) : v.ownBlock ≠ some k := by
  intro e
  rcases h.2 with ⟨hv, _⟩ | ⟨g, cap, cur, hv, _, hg, _⟩
  · rw [hv] at e; cases e
  · rw [hv] at e
    injection e with e
    subst e
    rw [hg] at hk
    injection hk with hk
    injection hk with _ hk
    exact hT hk.symm
end Go.Proofs.YtfcceojfcmgmlaaGreatDoor.Fl

/-
  What the document's Read says of a file.
-/
namespace Go.Proofs.YtfcceojfcmgmlaaGreatDoor.Fl
open Go.RowKit

/-! ### the model -/
end Go.Proofs.YtfcceojfcmgmlaaGreatDoor.Fl

/-
  The document's Read.
-/
namespace Go.Proofs.YtfcceojfcmgmlaaGreatDoor.Fl
open Go.RowKit

theorem OwnS.keep {w w' : World} {base : Nat} {v : Value} {xs : List (List UInt8)} (h : OwnS w base v xs) (hb : ∀ j, v.ownBlock = some j → w'.heap[j]? = w.heap[j]?) : OwnS w' base v xs :=
  ⟨h.1, h.2.elim .inl fun ⟨g, cap, cur, hv, hbg, hg, r⟩ => .inr ⟨g, cap, cur, hv, hbg, (hb g (by rw [hv]; rfl)).trans hg, r⟩⟩
end Go.Proofs.YtfcceojfcmgmlaaGreatDoor.Fl

/-
  The document's Read: the walk.
-/
namespace Go.Proofs.YtfcceojfcmgmlaaGreatDoor.Fl
open Go.RowKit

end Go.Proofs.YtfcceojfcmgmlaaGreatDoor.Fl

/-
  What a file has, as the program reads it: rows of its classes and of its texts.
-/
namespace Go.Proofs.YtfcceojfcmgmlaaGreatDoor.Fl
open Go.RowKit

def sk_ (l : List Src) : List Value := l.flatMap fun x => [.string (mkB x.1), .bool x.2.1, .string (mkB x.2.2.1), .int .i64 x.2.2.2]
def ck_ (l : List (Cls × Value)) : List Value := l.flatMap fun x => [.string (mkB x.1.1), .string (mkB x.1.2.1), x.2, .int .i64 x.1.2.2.2]
end Go.Proofs.YtfcceojfcmgmlaaGreatDoor.Fl

/-
  What stands while the program reads a file: its reader.
-/
namespace Go.Proofs.YtfcceojfcmgmlaaGreatDoor.Fl
open Go.RowKit

end Go.Proofs.YtfcceojfcmgmlaaGreatDoor.Fl

/-
  The word of a Name is a name.
-/
namespace Go.Proofs.YtfcceojfcmgmlaaGreatDoor.Fl
open Go.RowKit

end Go.Proofs.YtfcceojfcmgmlaaGreatDoor.Fl

/-
  What the program asks of a chunk's tokens, in the document's words.
-/
namespace Go.Proofs.YtfcceojfcmgmlaaGreatDoor.Fl
open Go.RowKit

end Go.Proofs.YtfcceojfcmgmlaaGreatDoor.Fl

/-
  A range over a function, in a function that is known: a panic of a round crosses it.
-/
namespace Go.Proofs.YtfcceojfcmgmlaaGreatDoor.Fl
open Go.RowKit Go.Shelf

end Go.Proofs.YtfcceojfcmgmlaaGreatDoor.Fl

/-
  A chunk, as the program comes to it.
-/
namespace Go.Proofs.YtfcceojfcmgmlaaGreatDoor.Fl
open Go.RowKit

end Go.Proofs.YtfcceojfcmgmlaaGreatDoor.Fl

/-
  The iterator over a file's chunks.
-/
namespace Go.Proofs.YtfcceojfcmgmlaaGreatDoor.Fl
open Go.RowKit Go.Shelf

end Go.Proofs.YtfcceojfcmgmlaaGreatDoor.Fl

/-
  A range over a file's chunks.
-/
namespace Go.Proofs.YtfcceojfcmgmlaaGreatDoor.Fl
open Go.RowKit Go.Shelf

/-- memory has grown, or what has changed are no cells, and none of what was there ahead of B -/
structure Sp (B : Nat) (W W' : World) : Prop where
  os : W'.os = W.os
  tape : W'.tape = W.tape
  output : W'.output = W.output
  size : W.heap.size ≤ W'.heap.size
  low : ∀ k : Nat, k < B → k < W.heap.size → W'.heap[k]? = W.heap[k]?
  cells : ∀ (k : Nat) (cs : Array Value) (T : TypeId) (fr : Nat × Nat), W.heap[k]? = some (Obj.cells cs T fr) → W'.heap[k]? = W.heap[k]?
theorem Sp.below {B : Nat} {W W' : World} (h : Below W.heap.size W W') : Sp B W W' :=
  ⟨h.os, h.tape, h.output, h.size, fun k _ hk => h.block k hk, fun k _ _ _ hk => h.block k (lt_of_blk hk)⟩
theorem Sp.put {B : Nat} {W : World} {l : Nat} {o : Obj} (hl : B ≤ l) (h : W.heap[l]? = some o) (ho : o.isCells = false) (o' : Obj) : Sp B W (W.putObj l o') :=
  ⟨rfl, rfl, rfl, by simp, fun k hk _ => World.putObj_heap_other (by omega), fun k cs T fr hc => World.putObj_heap_other (fun e => by subst e; rw [h] at hc; cases hc; cases ho)⟩
theorem Sp.cell {B : Nat} {W W' : World} (h : Sp B W W') {b o : Nat} {v : Value} (hc : W.cell? ⟨b, o, none⟩ = some v) : W'.cell? ⟨b, o, none⟩ = some v := by
  have hb : ∃ cs T fr, W.heap[b]? = some (.cells cs T fr) := by
    unfold World.cell? at hc
    cases hk : W.heap[b]? with
    | none => simp [hk] at hc
    | some x =>
      cases x <;> simp_all
  obtain ⟨cs, T, fr, hk⟩ := hb
  exact (World.cell?_of_block (a := ⟨b, o, none⟩) (h.cells b cs T fr hk)).trans hc
end Go.Proofs.YtfcceojfcmgmlaaGreatDoor.Fl
