/-
  Counting the bits of a word, in plain mathematics: by fields that are added pairwise.
-/
import Derived.Laws.BitsAllLaws
namespace Go.Proofs.YthklbpcpmmpfmaaDoor.Fl

/-- a number by its fields, the lowest first -/
def val' (B : Nat) : List Nat → Nat
  | [] => 0
  | a :: l => a + B * val' B l
/-- the fields added in pairs -/
def pairs : List Nat → List Nat
  | a :: b :: t => (a + b) :: pairs t
  | l => l
/-- the mask of n even fields -/
def emask (B : Nat) : Nat → Nat
  | 0 => 0
  | n + 1 => (B - 1) + B * B * emask B n
theorem and_parts {k a c u v : Nat} (ha : a < 2 ^ k) (hc : c < 2 ^ k) : (a + 2 ^ k * u) &&& (c + 2 ^ k * v) = (a &&& c) + 2 ^ k * (u &&& v) := by
  have hac : a &&& c < 2 ^ k := Nat.and_lt_two_pow _ hc
  rw [Nat.add_comm a, Nat.add_comm c, Nat.add_comm (a &&& c)]
  apply Nat.eq_of_testBit_eq
  intro j
  rw [Nat.testBit_and, Nat.testBit_two_pow_mul_add _ ha, Nat.testBit_two_pow_mul_add _ hc, Nat.testBit_two_pow_mul_add _ hac]
  split
  · rw [Nat.testBit_and]
  · rw [Nat.testBit_and]
theorem field_and {k a b : Nat} (ha : a < 2 ^ k) : (a + 2 ^ k * b) &&& (2 ^ k - 1) = a := by
  rw [Nat.and_two_pow_sub_one_eq_mod, Nat.add_mul_mod_self_left, Nat.mod_eq_of_lt ha]
theorem field2 {k a b u m : Nat} (ha : a < 2 ^ k) (hb : b < 2 ^ k) : ((a + 2 ^ k * b) + 2 ^ k * 2 ^ k * u) &&& ((2 ^ k - 1) + 2 ^ k * 2 ^ k * m) = a + 2 ^ k * 2 ^ k * (u &&& m) := by
  have h1 : 1 ≤ 2 ^ k := Nat.one_le_two_pow
  have h2 : 2 ^ k * 2 ^ k = 2 ^ (k + k) := by rw [Nat.pow_add]
  have h3 : a + 2 ^ k * b < 2 ^ (k + k) := by
    rw [← h2]
    have : 2 ^ k * b + 2 ^ k ≤ 2 ^ k * 2 ^ k := by rw [← Nat.mul_succ]; exact Nat.mul_le_mul_left _ hb
    omega
  have h4 : 2 ^ k - 1 < 2 ^ (k + k) := by
    rw [← h2]
    have : 2 ^ k * 1 ≤ 2 ^ k * 2 ^ k := Nat.mul_le_mul_left _ h1
    omega
  rw [h2, and_parts h3 h4, field_and ha]
def allLt (B : Nat) (l : List Nat) : Prop := ∀ x ∈ l, x < B
theorem val_split (B u : Nat) : u = u % B + B * (u / B) := (Nat.mod_add_div u B).symm
/-- both masks together -/
theorem fold (k : Nat) : ∀ (n : Nat) (l : List Nat), l.length = 2 * n → allLt (2 ^ k) l →
    (val' (2 ^ k) l / 2 ^ k &&& emask (2 ^ k) n) + (val' (2 ^ k) l &&& emask (2 ^ k) n) = val' (2 ^ k * 2 ^ k) (pairs l)
  | 0, l, hl, _ => by
    obtain rfl : l = [] := List.eq_nil_of_length_eq_zero (by omega)
    simp [val', pairs, emask]
  | n + 1, [], hl, _ => by simp at hl
  | n + 1, [a], hl, _ => by simp at hl; omega
  | n + 1, a :: b :: t, hl, h => by
    have ha : a < 2 ^ k := h a (by simp)
    have hb : b < 2 ^ k := h b (by simp)
    have ih := fold k n t (by simp at hl; omega) (fun x hx => h x (by simp [hx]))
    have hp : 0 < 2 ^ k := Nat.two_pow_pos k
    show ((a + 2 ^ k * (b + 2 ^ k * val' (2 ^ k) t)) / 2 ^ k &&& ((2 ^ k - 1) + 2 ^ k * 2 ^ k * emask (2 ^ k) n)) + ((a + 2 ^ k * (b + 2 ^ k * val' (2 ^ k) t)) &&& ((2 ^ k - 1) + 2 ^ k * 2 ^ k * emask (2 ^ k) n)) = (a + b) + 2 ^ k * 2 ^ k * val' (2 ^ k * 2 ^ k) (pairs t)
    rw [← ih]
    generalize val' (2 ^ k) t = u
    generalize emask (2 ^ k) n = m
    have e1 : (a + 2 ^ k * (b + 2 ^ k * u)) / 2 ^ k = (b + 2 ^ k * (u % 2 ^ k)) + 2 ^ k * 2 ^ k * (u / 2 ^ k) := by
      rw [Nat.add_mul_div_left _ _ hp, Nat.div_eq_of_lt ha, Nat.zero_add]
      have := val_split (2 ^ k) u
      rw [Nat.mul_assoc, Nat.add_assoc, ← Nat.mul_add, ← this]
    have e2 : a + 2 ^ k * (b + 2 ^ k * u) = (a + 2 ^ k * b) + 2 ^ k * 2 ^ k * u := by rw [Nat.mul_add, Nat.mul_assoc, Nat.add_assoc]
    rw [e1, e2, field2 hb (Nat.mod_lt _ hp), field2 ha hb, Nat.mul_add]
    omega
/-- one mask, where the sums leave room -/
theorem fold3 (k c : Nat) (hc : c + c < 2 ^ k) : ∀ (n : Nat) (l : List Nat), l.length = 2 * n → (∀ x ∈ l, x ≤ c) →
    ((val' (2 ^ k) l / 2 ^ k + val' (2 ^ k) l) &&& emask (2 ^ k) n) = val' (2 ^ k * 2 ^ k) (pairs l)
  | 0, l, hl, _ => by
    obtain rfl : l = [] := List.eq_nil_of_length_eq_zero (by omega)
    simp [val', pairs, emask]
  | n + 1, [], hl, _ => by simp at hl
  | n + 1, [a], hl, _ => by simp at hl; omega
  | n + 1, a :: b :: t, hl, h => by
    have ha : a ≤ c := h a (by simp)
    have hb : b ≤ c := h b (by simp)
    have ih := fold3 k c hc n t (by simp at hl; omega) (fun x hx => h x (by simp [hx]))
    have hp : 0 < 2 ^ k := Nat.two_pow_pos k
    have hu : val' (2 ^ k) t % 2 ^ k ≤ c := by
      cases t with
      | nil => simp [val']
      | cons d s =>
        have hd : d ≤ c := h d (by simp)
        show (d + 2 ^ k * val' (2 ^ k) s) % 2 ^ k ≤ c
        rw [Nat.add_mul_mod_self_left, Nat.mod_eq_of_lt (by omega)]
        exact hd
    show (((a + 2 ^ k * (b + 2 ^ k * val' (2 ^ k) t)) / 2 ^ k + (a + 2 ^ k * (b + 2 ^ k * val' (2 ^ k) t))) &&& ((2 ^ k - 1) + 2 ^ k * 2 ^ k * emask (2 ^ k) n)) = (a + b) + 2 ^ k * 2 ^ k * val' (2 ^ k * 2 ^ k) (pairs t)
    rw [← ih]
    generalize val' (2 ^ k) t = u at hu
    generalize emask (2 ^ k) n = m
    have e1 : (a + 2 ^ k * (b + 2 ^ k * u)) / 2 ^ k = (b + 2 ^ k * (u % 2 ^ k)) + 2 ^ k * 2 ^ k * (u / 2 ^ k) := by
      rw [Nat.add_mul_div_left _ _ hp, Nat.div_eq_of_lt (by omega), Nat.zero_add]
      have := val_split (2 ^ k) u
      rw [Nat.mul_assoc, Nat.add_assoc, ← Nat.mul_add, ← this]
    have e2 : a + 2 ^ k * (b + 2 ^ k * u) = (a + 2 ^ k * b) + 2 ^ k * 2 ^ k * u := by rw [Nat.mul_add, Nat.mul_assoc, Nat.add_assoc]
    have e3 : (b + 2 ^ k * (u % 2 ^ k)) + 2 ^ k * 2 ^ k * (u / 2 ^ k) + ((a + 2 ^ k * b) + 2 ^ k * 2 ^ k * u) = ((a + b) + 2 ^ k * (b + u % 2 ^ k)) + 2 ^ k * 2 ^ k * (u / 2 ^ k + u) := by
      rw [Nat.mul_add (2 ^ k) b, Nat.mul_add (2 ^ k * 2 ^ k)]; omega
    rw [e1, e2, e3, field2 (by omega) (by omega)]
def total : List Nat → Nat
  | [] => 0
  | a :: l => a + total l
theorem total_pairs : ∀ l : List Nat, total (pairs l) = total l
  | [] => rfl
  | [a] => rfl
  | a :: b :: t => by simp only [pairs, total, total_pairs t]; omega
theorem pairs_len : ∀ (n : Nat) (l : List Nat), l.length = 2 * n → (pairs l).length = n
  | 0, l, hl => by obtain rfl : l = [] := List.eq_nil_of_length_eq_zero (by omega)
                   rfl
  | n + 1, [], hl => by simp at hl
  | n + 1, [a], hl => by simp at hl; omega
  | n + 1, a :: b :: t, hl => by simp only [pairs, List.length_cons]; rw [pairs_len n t (by simp at hl; omega)]
theorem pairs_le (c : Nat) : ∀ (n : Nat) (l : List Nat), l.length = 2 * n → (∀ x ∈ l, x ≤ c) → ∀ x ∈ pairs l, x ≤ c + c
  | 0, l, hl, _ => by obtain rfl : l = [] := List.eq_nil_of_length_eq_zero (by omega)
                      intro x hx; simp [pairs] at hx
  | n + 1, [], hl, _ => by simp at hl
  | n + 1, [a], hl, _ => by simp at hl; omega
  | n + 1, a :: b :: t, hl, h => by
    intro x hx
    simp only [pairs, List.mem_cons] at hx
    rcases hx with rfl | hx
    · have := h a (by simp); have := h b (by simp); omega
    · exact pairs_le c n t (by simp at hl; omega) (fun y hy => h y (by simp [hy])) x hx
/-- the bits of a number -/
def bitl : Nat → Nat → List Nat
  | _, 0 => []
  | x, n + 1 => x % 2 :: bitl (x / 2) n
theorem bitl_len (x n : Nat) : (bitl x n).length = n := by
  induction n generalizing x with
  | zero => rfl
  | succ n ih => simp [bitl, ih]
theorem bitl_le (x n : Nat) : ∀ y ∈ bitl x n, y ≤ 1 := by
  induction n generalizing x with
  | zero => intro y hy; simp [bitl] at hy
  | succ n ih =>
    intro y hy
    simp only [bitl, List.mem_cons] at hy
    rcases hy with rfl | hy
    · omega
    · exact ih _ y hy
theorem bitl_val (x n : Nat) (h : x < 2 ^ n) : val' 2 (bitl x n) = x := by
  induction n generalizing x with
  | zero => simp at h; subst h; rfl
  | succ n ih =>
    show x % 2 + 2 * val' 2 (bitl (x / 2) n) = x
    rw [ih (x / 2) (by rw [Nat.pow_succ] at h; omega)]
    omega
/-- how many bits a word has -/
def pop (x : Nat) : Nat := total (bitl x 64)
theorem total_le (c : Nat) : ∀ l : List Nat, (∀ x ∈ l, x ≤ c) → total l ≤ c * l.length
  | [], _ => by simp [total]
  | a :: t, h => by
    have := total_le c t (fun x hx => h x (by simp [hx]))
    have := h a (by simp)
    simp only [total, List.length_cons, Nat.mul_succ]; omega
/-- the last three steps -/
theorem last3 {f0 f1 f2 f3 f4 f5 f6 f7 x : Nat} (h0 : f0 ≤ 8) (h1 : f1 ≤ 8) (h2 : f2 ≤ 8) (h3 : f3 ≤ 8) (h4 : f4 ≤ 8) (h5 : f5 ≤ 8) (h6 : f6 ≤ 8) (h7 : f7 ≤ 8) (hx : x = val' 256 [f0, f1, f2, f3, f4, f5, f6, f7]) :
    ∃ y z t : Nat, x + x / 256 = y ∧ y + y / 65536 = z ∧ z + z / 4294967296 = t ∧ y < 18446744073709551616 ∧ z < 18446744073709551616 ∧ t < 18446744073709551616 ∧ t % 128 = f0 + f1 + f2 + f3 + f4 + f5 + f6 + f7 := by
  obtain ⟨r7, e7⟩ : ∃ r, r = f7 := ⟨_, rfl⟩
  obtain ⟨r6, e6⟩ : ∃ r, r = f6 + 256 * r7 := ⟨_, rfl⟩
  obtain ⟨r5, e5⟩ : ∃ r, r = f5 + 256 * r6 := ⟨_, rfl⟩
  obtain ⟨r4, e4⟩ : ∃ r, r = f4 + 256 * r5 := ⟨_, rfl⟩
  obtain ⟨r3, e3⟩ : ∃ r, r = f3 + 256 * r4 := ⟨_, rfl⟩
  obtain ⟨r2, e2⟩ : ∃ r, r = f2 + 256 * r3 := ⟨_, rfl⟩
  obtain ⟨r1, e1⟩ : ∃ r, r = f1 + 256 * r2 := ⟨_, rfl⟩
  have e0 : x = f0 + 256 * r1 := by rw [hx, e1, e2, e3, e4, e5, e6, e7]; simp [val']
  have l7 : r7 ≤ 8 := by omega
  have l6 : r6 ≤ 2056 := by omega
  have l5 : r5 ≤ 526344 := by omega
  have l4 : r4 ≤ 134744072 := by omega
  have l3 : r3 ≤ 34494482440 := by omega
  have l2 : r2 ≤ 8830587504648 := by omega
  have l1 : r1 ≤ 2260630401189896 := by omega
  have l0 : x ≤ 578721382704613384 := by omega
  have a6 : x + r1 + (r2 + r3) + (r4 + r5 + r6 + r7) = (f0 + f1 + f2 + f3 + f4 + f5 + f6 + f7) + 128 * (2 * (r1 + r2 + r3 + r4 + r5 + r6 + r7)) := by
    clear l0 l1 l2 l3 l4 l5 l6 l7 h0 h1 h2 h3 h4 h5 h6 h7 hx; omega
  have a7 : f0 + f1 + f2 + f3 + f4 + f5 + f6 + f7 < 128 := by clear a6 l0 l1 l2 l3 l4 l5 l6 l7 e0 e1 e2 e3 e4 e5 e6 e7 hx; omega
  have a2 : x + r1 = (f0 + f1 + 256 * (f1 + f2)) + 65536 * (r2 + r3) := by clear a6 a7 l0 l1 l2 l3 l4 l5 l6 l7 h0 h1 h2 h3 h4 h5 h6 h7 hx; omega
  have a4 : x + r1 + (r2 + r3) = (f0 + f1 + f2 + f3) + 256 * (f1 + f2 + f3 + f4) + 65536 * (f2 + f3 + f4 + f5) + 16777216 * (f3 + f4 + f5 + f6) + 4294967296 * (r4 + r5 + r6 + r7) := by
    clear a2 a6 a7 l0 l1 l2 l3 l4 l5 l6 l7 h0 h1 h2 h3 h4 h5 h6 h7 hx; omega
  have a1 : x / 256 = r1 := by clear a2 a4 a6 a7 l0 l1 l2 l3 l4 l5 l6 l7 h1 h2 h3 h4 h5 h6 h7 hx e1 e2 e3 e4 e5 e6 e7; omega
  have a3 : (x + r1) / 65536 = r2 + r3 := by rw [a2]; clear a1 a2 a4 a6 a7 l0 l1 l2 l3 l4 l5 l6 l7 hx e0 e1 e2 e3 e4 e5 e6 e7; omega
  have a5 : (x + r1 + (r2 + r3)) / 4294967296 = r4 + r5 + r6 + r7 := by rw [a4]; clear a1 a2 a3 a4 a6 a7 l0 l1 l2 l3 l4 l5 l6 l7 hx e0 e1 e2 e3 e4 e5 e6 e7; omega
  clear hx a2 a4 e0 e1 e2 e3 e4 e5 e6 e7 h0 h1 h2 h3 h4 h5 h6 h7
  refine ⟨x + r1, x + r1 + (r2 + r3), x + r1 + (r2 + r3) + (r4 + r5 + r6 + r7), by rw [a1], by rw [a3], by rw [a5], ?_, ?_, ?_, ?_⟩
  · clear a1 a3 a5 a6 a7; omega
  · clear a1 a3 a5 a6 a7; omega
  · clear a1 a3 a5 a6 a7; omega
  · rw [a6, Nat.add_mul_mod_self_left, Nat.mod_eq_of_lt a7]
theorem val_le (B c : Nat) (hB : 1 ≤ B) : ∀ l : List Nat, (∀ x ∈ l, x ≤ c) → (B - 1) * val' B l + c ≤ c * B ^ l.length
  | [], _ => by simp [val']
  | a :: t, h => by
    have ih := val_le B c hB t (fun x hx => h x (by simp [hx]))
    have ha : a ≤ c := h a (by simp)
    obtain ⟨b, rfl⟩ : ∃ b, B = b + 1 := ⟨B - 1, by omega⟩
    simp only [Nat.add_sub_cancel] at ih ⊢
    show b * (a + (b + 1) * val' (b + 1) t) + c ≤ c * (b + 1) ^ (t.length + 1)
    have h1 : b * (a + (b + 1) * val' (b + 1) t) = b * a + (b + 1) * (b * val' (b + 1) t) := by
      rw [Nat.mul_add, ← Nat.mul_assoc, ← Nat.mul_assoc, Nat.mul_comm b (b + 1)]
    have h2 : c * (b + 1) ^ (t.length + 1) = (b + 1) * (c * (b + 1) ^ t.length) := by rw [Nat.pow_succ, Nat.mul_comm (b + 1), Nat.mul_assoc]
    have h3 := Nat.mul_le_mul_left (b + 1) ih
    have h4 : b * a ≤ b * c := Nat.mul_le_mul_left _ ha
    rw [h1, h2]
    rw [Nat.mul_add] at h3
    have h5 : (b + 1) * c = b * c + c := Nat.succ_mul b c
    omega
theorem list8 {l : List Nat} (h : l.length = 8) : ∃ a b c d e f g i, l = [a, b, c, d, e, f, g, i] := by
  match l, h with
  | [a, b, c, d, e, f, g, i], _ => exact ⟨a, b, c, d, e, f, g, i, rfl⟩
def Steps (x p : Nat) : Prop := ∃ x1 x2 s3 x3 y z t : Nat, (x / 2 &&& 6148914691236517205) + (x &&& 6148914691236517205) = x1 ∧ x1 < 18446744073709551616 ∧ (x1 / 4 &&& 3689348814741910323) + (x1 &&& 3689348814741910323) = x2 ∧ x2 < 18446744073709551616 ∧
  x2 / 16 + x2 = s3 ∧ s3 < 18446744073709551616 ∧ (s3 &&& 1085102592571150095) = x3 ∧ x3 + x3 / 256 = y ∧ y + y / 65536 = z ∧ z + z / 4294967296 = t ∧ y < 18446744073709551616 ∧ z < 18446744073709551616 ∧ t < 18446744073709551616 ∧ t % 128 = p
theorem emask0 : emask 2 32 = 6148914691236517205 := by decide +kernel
theorem emask1 : emask 4 16 = 3689348814741910323 := by decide +kernel
theorem emask2 : emask 16 8 = 1085102592571150095 := by decide +kernel
theorem pop_steps (x : Nat) (h : x < 18446744073709551616) : Steps x (pop x) := by
  have hb := bitl_len x 64
  have hv := bitl_val x 64 (by rw [show (2 : Nat) ^ 64 = 18446744073709551616 by decide +kernel]; exact h)
  have hle := bitl_le x 64
  unfold pop
  generalize bitl x 64 = b at hb hv hle
  have p1 := pairs_len 32 b hb
  have q1 := pairs_le 1 32 b hb hle
  have p2 := pairs_len 16 _ p1
  have q2 := pairs_le 2 16 _ p1 q1
  have p3 := pairs_len 8 _ p2
  have q3 := pairs_le 4 8 _ p2 q2
  have f1 := fold 1 32 b hb (fun y hy => by have := hle y hy; omega)
  have f2 := fold 2 16 _ p1 (fun y hy => by have := q1 y hy; omega)
  have f3 := fold3 4 4 (by decide) 8 _ p2 q2
  simp only [show (2 : Nat) ^ 1 = 2 from rfl, show (2 : Nat) * 2 = 4 from rfl, hv, emask0] at f1
  simp only [show (2 : Nat) ^ 2 = 4 from rfl, show (4 : Nat) * 4 = 16 from rfl, emask1] at f2
  simp only [show (2 : Nat) ^ 4 = 16 from rfl, show (16 : Nat) * 16 = 256 from rfl, emask2] at f3
  have b1 := val_le 4 2 (by decide) _ q1
  have b2 := val_le 16 4 (by decide) _ q2
  rw [p1, show (4 : Nat) ^ 32 = 18446744073709551616 by decide +kernel] at b1
  rw [p2, show (16 : Nat) ^ 16 = 18446744073709551616 by decide +kernel] at b2
  have t3 : total (pairs (pairs (pairs b))) = total b := by rw [total_pairs, total_pairs, total_pairs]
  obtain ⟨a0, a1, a2, a3, a4, a5, a6, a7, e8⟩ := list8 p3
  rw [e8] at f3 t3 q3
  obtain ⟨y, z, t, l1, l2, l3, l4, l5, l6, l7⟩ := last3 (q3 a0 (by simp)) (q3 a1 (by simp)) (q3 a2 (by simp)) (q3 a3 (by simp)) (q3 a4 (by simp)) (q3 a5 (by simp)) (q3 a6 (by simp)) (q3 a7 (by simp)) (x := val' 256 [a0, a1, a2, a3, a4, a5, a6, a7]) rfl
  refine ⟨_, _, _, _, y, z, t, f1, ?_, f2, ?_, rfl, ?_, f3, l1, l2, l3, l4, l5, l6, ?_⟩
  · clear f1 f2 f3 l1 l2 l3 l7 t3; omega
  · clear f1 f2 f3 l1 l2 l3 l7 t3; omega
  · clear f1 f2 f3 l1 l2 l3 l7 t3; omega
  · rw [l7, ← t3]; simp [total]; omega
theorem pop_le (x : Nat) : pop x ≤ 64 := by
  have := total_le 1 (bitl x 64) (bitl_le x 64)
  rw [bitl_len] at this
  unfold pop; omega
end Go.Proofs.YthklbpcpmmpfmaaDoor.Fl
