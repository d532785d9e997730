import PyProof.Rows.All
import Wide.All
import OpenK.AllK
import Wide.FinOn
import HandS.ForMost
import HandS.Wide
import HandS.Gcd
import HandS.IsInst
import HandS.Defaults
import HandS.Evl
import HandS.TupAny
import HandS.Zip
import HandS.SetBool
import HandS.Strs
import HandS.SortKw
import KE.DataMinMax
import HandS.SortRule
import PySem.Challenge.RW_sparewatts_k11_speeds_of_rounds_fall
set_option Elab.async false
set_option linter.all false
set_option maxRecDepth 100000
set_option maxHeartbeats 4000000
/-! Own mathematics: lowest terms, greatest common divisors. -/
namespace Z
theorem sgn_mul (b : Int) (hb : b ≠ 0) : b.sign * b = (b.natAbs : Int) := by
  rw [Int.mul_comm]
  exact Int.mul_sign_self b
/-- what both texts reckon: the two parts divided by the greatest common divisor with the sign of the second one -/
theorem nrm_eq (t b : Int) (hb : b ≠ 0) (s : Int) (hs : s = if b < 0 then -((Nat.gcd t.natAbs b.natAbs : Nat) : Int) else ((Nat.gcd t.natAbs b.natAbs : Nat) : Int)) :
    s ≠ 0 ∧ s.natAbs ≤ b.natAbs ∧ t.fdiv s = (Rat.divInt t b).num ∧ b.fdiv s = ((Rat.divInt t b).den : Int) := by
  have g0 : 0 < Nat.gcd t.natAbs b.natAbs := Nat.gcd_pos_of_pos_right _ (by omega)
  have gl : Nat.gcd t.natAbs b.natAbs ≤ b.natAbs := Nat.gcd_le_right _ (by omega)
  have ht : ((Nat.gcd t.natAbs b.natAbs : Nat) : Int) ∣ t := Int.ofNat_dvd_left.mpr (Nat.gcd_dvd_left _ _)
  have hbd : ((Nat.gcd t.natAbs b.natAbs : Nat) : Int) ∣ b := Int.ofNat_dvd_left.mpr (Nat.gcd_dvd_right _ _)
  have hn := Rat.num_divInt t b
  have hd := Rat.den_divInt t b
  have hg : b.gcd t = Nat.gcd t.natAbs b.natAbs := by rw [Int.gcd_comm]; rfl
  rw [hg] at hn hd
  rw [if_neg hb] at hd
  generalize hG : Nat.gcd t.natAbs b.natAbs = g at *
  have g1 : (g : Int) ≠ 0 := by omega
  obtain ⟨t', rfl⟩ := ht
  obtain ⟨b', rfl⟩ := hbd
  have b0 : b' ≠ 0 := by rintro rfl; simp at hb
  have hna : ((g : Int) * b').natAbs = g * b'.natAbs := by rw [Int.natAbs_mul]; rfl
  have dd : (Rat.divInt (↑g * t') (↑g * b')).den = b'.natAbs := by
    rw [hd, hna]
    exact Nat.mul_div_cancel_left _ g0
  have nn : (Rat.divInt (↑g * t') (↑g * b')).num = b'.sign * t' := by
    rw [hn, Int.sign_mul, Int.sign_eq_one_of_pos (show (0 : Int) < g by omega), Int.one_mul, Int.mul_left_comm]
    exact Int.mul_ediv_cancel_left _ g1
  by_cases hneg : (g : Int) * b' < 0
  · rw [if_pos hneg] at hs
    have hb' : b' < 0 := by
      rcases Int.lt_trichotomy b' 0 with h | h | h
      · exact h
      · exact absurd h b0
      · have := Int.mul_pos (show (0 : Int) < g by omega) h
        omega
    refine ⟨by omega, by omega, ?_, ?_⟩
    · rw [nn, hs, Int.sign_eq_neg_one_of_neg hb', show (g : Int) * t' = (-1 * t') * (-(g : Int)) by rw [Int.neg_mul, Int.one_mul, Int.neg_mul_neg, Int.mul_comm]]
      exact Int.mul_fdiv_cancel _ (by omega)
    · rw [dd, hs, show (g : Int) * b' = (-b') * (-(g : Int)) by rw [Int.neg_mul_neg, Int.mul_comm], Int.mul_fdiv_cancel _ (by omega)]
      omega
  · rw [if_neg hneg] at hs
    have hb' : 0 < b' := by
      rcases Int.lt_trichotomy b' 0 with h | h | h
      · have := Int.mul_neg_of_pos_of_neg (show (0 : Int) < g by omega) h
        omega
      · exact absurd h b0
      · exact h
    refine ⟨by omega, by omega, ?_, ?_⟩
    · rw [nn, hs, Int.sign_eq_one_of_pos hb', show (g : Int) * t' = (1 * t') * (g : Int) by rw [Int.one_mul, Int.mul_comm]]
      exact Int.mul_fdiv_cancel _ (by omega)
    · rw [dd, hs, Int.mul_comm, Int.mul_fdiv_cancel _ (by omega)]
      omega
theorem num_le (t b : Int) (hb : b ≠ 0) : (Rat.divInt t b).num.natAbs ≤ t.natAbs := by
  rw [Rat.num_divInt]
  refine Nat.le_trans (Int.natAbs_ediv_le_natAbs _ _) ?_
  rw [Int.natAbs_mul, Int.natAbs_sign_of_ne_zero hb, Nat.one_mul]
  exact Nat.le_refl _
theorem den_le (t b : Int) (hb : b ≠ 0) : (Rat.divInt t b).den ≤ b.natAbs := by
  rw [Rat.den_divInt, if_neg hb]
  exact Nat.div_le_self _ _
/-- the last word of a loop of greatest common divisors: after i turns the two numbers are small -/
def GStep (C i x y : Nat) : Prop := (1 ≤ i → y < x ∧ x * y * 2 ^ (i - 1) ≤ C) ∧ (2 ≤ i → x * 2 ^ (i - 2) ≤ C)
theorem GStep.zero {C x y : Nat} : GStep C 0 x y := ⟨by omega, by omega⟩
theorem GStep.next {i x y a b : Nat} (h : GStep (a * b) i x y) (h0 : i = 0 → x = a ∧ y = b) (hy : y ≠ 0) : GStep (a * b) (i + 1) y (x % y) := by
  have m1 : x % y < y := Nat.mod_lt _ (by omega)
  refine ⟨fun _ => ⟨m1, ?_⟩, fun h2 => ?_⟩
  · by_cases hi : i = 0
    · obtain ⟨rfl, rfl⟩ := h0 hi
      subst hi
      show y * (x % y) * 2 ^ 0 ≤ x * y
      rw [Nat.pow_zero, Nat.mul_one, Nat.mul_comm x y]
      exact Nat.mul_le_mul_left _ (Nat.mod_le _ _)
    · obtain ⟨h1, h2⟩ := h.1 (by omega)
      refine Nat.le_trans ?_ h2
      have e : i + 1 - 1 = (i - 1) + 1 := by omega
      rw [e, Nat.pow_succ]
      have k : 2 * (x % y) ≤ x := by
        have := Nat.div_add_mod x y
        have d : 1 ≤ x / y := Nat.div_pos (by omega) (by omega)
        have : y * 1 ≤ y * (x / y) := Nat.mul_le_mul_left _ d
        omega
      calc y * (x % y) * (2 ^ (i - 1) * 2) = y * (2 * (x % y)) * 2 ^ (i - 1) := by
            rw [Nat.mul_comm (2 ^ (i - 1)) 2, ← Nat.mul_assoc, Nat.mul_assoc y (x % y) 2, Nat.mul_comm (x % y) 2]
        _ ≤ y * x * 2 ^ (i - 1) := Nat.mul_le_mul_right _ (Nat.mul_le_mul_left _ k)
        _ = x * y * 2 ^ (i - 1) := by rw [Nat.mul_comm y x]
  · obtain ⟨h1, h3⟩ := h.1 (by omega)
    refine Nat.le_trans ?_ h3
    have e : i + 1 - 2 = i - 1 := by omega
    rw [e]
    refine Nat.mul_le_mul_right _ ?_
    have : 1 * y ≤ x * y := Nat.mul_le_mul_right _ (by omega)
    omega
theorem GStep.end {C n x y : Nat} (h : GStep C n x y) (hn : 2 ≤ n) (hC : C < 2 ^ (n - 2)) : False := by
  obtain ⟨h1, _⟩ := h.1 (by omega)
  have h2 := h.2 hn
  have : 1 * 2 ^ (n - 2) ≤ x * 2 ^ (n - 2) := Nat.mul_le_mul_right _ (by omega)
  omega
theorem gcd_turn (x y : Nat) : Nat.gcd y (x % y) = Nat.gcd x y := by
  rw [Nat.gcd_comm y, ← Nat.gcd_rec, Nat.gcd_comm]
theorem abs_nat (i : Int) : (if i < 0 then -i else i) = (i.natAbs : Int) := by split <;> omega
end Z

/-! Own mathematics: ratios as rational numbers, and how large they are. -/
namespace Z
def Sz (n : Nat) (q : Rat) : Prop := q.num.natAbs < 2 ^ n ∧ q.den < 2 ^ n
theorem Sz.mono {n m : Nat} {q : Rat} (h : Sz n q) (l : n ≤ m) : Sz m q :=
  ⟨Nat.lt_of_lt_of_le h.1 (Nat.pow_le_pow_right (by decide) l), Nat.lt_of_lt_of_le h.2 (Nat.pow_le_pow_right (by decide) l)⟩
theorem Sz.divInt {n : Nat} {t b : Int} (hb : b ≠ 0) (h : t.natAbs < 2 ^ n) (h' : b.natAbs < 2 ^ n) : Sz n (Rat.divInt t b) :=
  ⟨Nat.lt_of_le_of_lt (num_le t b hb) h, Nat.lt_of_le_of_lt (den_le t b hb) h'⟩
theorem lt_pow_mul {x y a b : Nat} (hx : x < 2 ^ a) (hy : y < 2 ^ b) : x * y < 2 ^ (a + b) := by
  rw [Nat.pow_add]
  exact Nat.mul_lt_mul'' hx hy
theorem denz (q : Rat) : (q.den : Int) ≠ 0 := by
  have := q.den_nz
  omega
theorem den_mul (p q : Rat) : (p.den : Int) * (q.den : Int) ≠ 0 := Int.mul_ne_zero (denz p) (denz q)
theorem r_add (p q : Rat) : Rat.divInt (p.num * (q.den : Int) + q.num * (p.den : Int)) ((p.den : Int) * (q.den : Int)) = p + q := by
  conv => rhs; rw [← Rat.num_divInt_den p, ← Rat.num_divInt_den q]
  rw [Rat.divInt_add_divInt _ _ (denz p) (denz q)]
theorem r_sub (p q : Rat) : Rat.divInt (p.num * (q.den : Int) - q.num * (p.den : Int)) ((p.den : Int) * (q.den : Int)) = p - q := by
  conv => rhs; rw [← Rat.num_divInt_den p, ← Rat.num_divInt_den q]
  rw [Rat.divInt_sub_divInt _ _ (denz p) (denz q)]
theorem r_mul (p q : Rat) : Rat.divInt (p.num * q.num) ((p.den : Int) * (q.den : Int)) = p * q := by
  conv => rhs; rw [← Rat.num_divInt_den p, ← Rat.num_divInt_den q]
  rw [Rat.divInt_mul_divInt _ _]
theorem r_div (p q : Rat) : Rat.divInt (p.num * (q.den : Int)) ((p.den : Int) * q.num) = p / q := by
  rw [Rat.div_def, Rat.inv_def]
  conv => rhs; rw [← Rat.num_divInt_den p]
  rw [Rat.divInt_mul_divInt _ _]
theorem r_less (p q : Rat) : (p.num * (q.den : Int) < q.num * (p.den : Int)) ↔ p < q := (Rat.lt_iff p q).symm
theorem num0 {q : Rat} (h : q ≠ 0) : q.num ≠ 0 := fun z => h (Rat.num_eq_zero.mp z)
section
variable {p q : Rat} {a b : Nat}
theorem Sz.x1 (h : Sz a p) (k : Sz b q) : (p.num * (q.den : Int)).natAbs < 2 ^ (a + b) := by
  rw [Int.natAbs_mul]
  exact lt_pow_mul h.1 k.2
theorem Sz.x2 (h : Sz a p) (k : Sz b q) : (p.num * q.num).natAbs < 2 ^ (a + b) := by
  rw [Int.natAbs_mul]
  exact lt_pow_mul h.1 k.1
theorem Sz.x3 (h : Sz a p) (k : Sz b q) : ((p.den : Int) * (q.den : Int)).natAbs < 2 ^ (a + b) := by
  rw [Int.natAbs_mul]
  exact lt_pow_mul h.2 k.2
theorem Sz.x4 (h : Sz a p) (k : Sz b q) : ((p.den : Int) * q.num).natAbs < 2 ^ (a + b) := by
  rw [Int.natAbs_mul]
  exact lt_pow_mul h.2 k.1
theorem Sz.x5 (h : Sz a p) (k : Sz b q) : (p.num * (q.den : Int) + q.num * (p.den : Int)).natAbs < 2 ^ (a + b + 1) := by
  have h1 := h.x1 k
  have h2 := k.x1 h
  rw [Nat.add_comm b a] at h2
  rw [Nat.pow_succ]
  omega
theorem Sz.x6 (h : Sz a p) (k : Sz b q) : (p.num * (q.den : Int) - q.num * (p.den : Int)).natAbs < 2 ^ (a + b + 1) := by
  have h1 := h.x1 k
  have h2 := k.x1 h
  rw [Nat.add_comm b a] at h2
  rw [Nat.pow_succ]
  omega
theorem up1 {x n : Nat} (h : x < 2 ^ n) : x < 2 ^ (n + 1) := Nat.lt_of_lt_of_le h (Nat.pow_le_pow_right (by decide) (by omega))
theorem Sz.add (h : Sz a p) (k : Sz b q) : Sz (a + b + 1) (p + q) := by
  rw [← r_add]
  exact Sz.divInt (den_mul p q) (h.x5 k) (up1 (h.x3 k))
theorem Sz.sub (h : Sz a p) (k : Sz b q) : Sz (a + b + 1) (p - q) := by
  rw [← r_sub]
  exact Sz.divInt (den_mul p q) (h.x6 k) (up1 (h.x3 k))
theorem Sz.mul (h : Sz a p) (k : Sz b q) : Sz (a + b) (p * q) := by
  rw [← r_mul]
  exact Sz.divInt (den_mul p q) (h.x2 k) (h.x3 k)
theorem Sz.div (h : Sz a p) (k : Sz b q) (hq : q ≠ 0) : Sz (a + b) (p / q) := by
  rw [← r_div]
  exact Sz.divInt (Int.mul_ne_zero (denz p) (num0 hq)) (h.x1 k) (h.x4 k)
end
theorem Sz.zero : Sz 1 0 := ⟨by decide, by decide⟩
end Z

/-! Own mathematics: lists of points, sums of shares, the rival's slots. -/
namespace Z
/-! ### sums of rationals -/
def rsum : List Rat → Rat
  | [] => 0
  | q :: r => q + rsum r
theorem rsum_append : ∀ (xs ys : List Rat), rsum (xs ++ ys) = rsum xs + rsum ys
  | [], ys => by show rsum ys = 0 + rsum ys; grind
  | x :: xs, ys => by
    have := rsum_append xs ys
    show x + rsum (xs ++ ys) = x + rsum xs + rsum ys
    grind
theorem rsum_nonneg : ∀ {xs : List Rat}, (∀ x ∈ xs, 0 ≤ x) → 0 ≤ rsum xs
  | [], _ => by show (0 : Rat) ≤ 0; grind
  | x :: xs, h => by
    have h1 := rsum_nonneg (xs := xs) fun y hy => h y (List.mem_cons_of_mem _ hy)
    have h2 := h x (List.mem_cons_self ..)
    show 0 ≤ x + rsum xs
    grind
theorem rsum_take {xs : List Rat} {i : Nat} {x : Rat} (h : xs[i]? = some x) : rsum (xs.take (i + 1)) = rsum (xs.take i) + x := by
  rw [List.take_add_one, h, rsum_append]
  show _ + (x + 0) = _
  grind
theorem rsum_take_le {xs : List Rat} (h : ∀ x ∈ xs, 0 ≤ x) (i : Nat) : rsum (xs.take i) ≤ rsum xs := by
  have e : xs = xs.take i ++ xs.drop i := (List.take_append_drop i xs).symm
  have h1 : 0 ≤ rsum (xs.drop i) := rsum_nonneg fun x hx => h x (List.mem_of_mem_drop hx)
  have h2 := rsum_append (xs.take i) (xs.drop i)
  rw [← e] at h2
  grind
theorem foldl_rsum : ∀ (xs : List Rat) (z : Rat), xs.foldl (· + ·) z = z + rsum xs
  | [], z => by show z = z + 0; grind
  | x :: xs, z => by
    show xs.foldl (· + ·) (z + x) = z + (x + rsum xs)
    rw [foldl_rsum xs (z + x)]
    grind
/-! ### the order in which a slot is gone through -/
def rot (s n : Nat) : List Nat := List.range' s (n - s) ++ List.range s
theorem rot_len {s n : Nat} (h : s ≤ n) : (rot s n).length = n := by
  unfold rot
  rw [List.length_append, List.length_range', List.length_range]
  omega
theorem rot_at {s n j : Nat} (h : s < n) (hj : j < n) : (rot s n)[j]? = some ((j + s) % n) := by
  unfold rot
  by_cases c : j < n - s
  · rw [List.getElem?_append_left (by rw [List.length_range']; exact c), List.getElem?_range' c, Nat.one_mul]
    rw [Nat.mod_eq_of_lt (by omega), Nat.add_comm]
  · rw [List.getElem?_append_right (by rw [List.length_range']; omega), List.length_range', List.getElem?_range (by omega)]
    congr 1
    have : j + s = (j - (n - s)) + n := by omega
    rw [this, Nat.add_mod_right, Nat.mod_eq_of_lt (by omega)]
theorem rot_perm {s n : Nat} (h : s ≤ n) : (rot s n).Perm (List.range n) := by
  have e : List.range n = List.range s ++ List.range' s (n - s) := by
    have z := @List.range'_append_1 0 s (n - s)
    rw [Nat.zero_add, show s + (n - s) = n by omega] at z
    rw [List.range_eq_range', List.range_eq_range', z]
  rw [e]
  unfold rot
  exact List.perm_append_comm
theorem rsum_perm {xs ys : List Rat} (h : xs.Perm ys) : rsum xs = rsum ys := by
  induction h with
  | nil => rfl
  | cons x _ ih => show x + rsum _ = x + rsum _; rw [ih]
  | swap x y l => show y + (x + rsum l) = x + (y + rsum l); grind
  | trans _ _ h1 h2 => exact h1.trans h2
theorem range_map_getD (xs : List Rat) : (List.range xs.length).map (fun i => xs.getD i 0) = xs := by
  apply List.ext_getElem?
  intro i
  rw [List.getElem?_map]
  by_cases h : i < xs.length
  · rw [List.getElem?_range h, List.getElem?_eq_getElem h]
    show some (xs.getD i 0) = _
    rw [List.getD_eq_getElem?_getD, List.getElem?_eq_getElem h]
    rfl
  · rw [List.getElem?_eq_none (by rw [List.length_range]; omega), List.getElem?_eq_none (by omega)]
    rfl
theorem rot_sum (xs : List Rat) {s : Nat} (h : s ≤ xs.length) : rsum ((rot s xs.length).map (fun i => xs.getD i 0)) = rsum xs := by
  rw [rsum_perm ((rot_perm h).map _), range_map_getD]
/-! ### whole numbers among the ratios -/
theorem divInt_div (z : Int) (n : Int) : Rat.divInt z n = (z : Rat) / (n : Rat) := by exact Rat.divInt_eq_div z n
/-- a ratio whose product with n is whole -/
theorem sz_of_whole {q : Rat} {n z : Int} {m : Nat} (h : q * (n : Rat) = (z : Rat)) (n0 : n ≠ 0) (hn : n.natAbs < 2 ^ m) (hz : z.natAbs < 2 ^ m) : Sz m q := by
  have e : q = Rat.divInt z n := by
    rw [divInt_div, ← h]
    have : (n : Rat) ≠ 0 := fun c => n0 (Rat.intCast_eq_zero_iff.mp c)
    grind
  rw [e]
  exact Sz.divInt n0 hz hn
end Z

/-! Own base: a def's promise with its place, draws, data that is made of tuples. -/
namespace Z
open PySem PySem.Spec PyProof.Rows L2

/-! ### heaps -/
/-- all stays but what stands at p -/
def Kp (p : Addr) (H H' : Hp) : Prop := ∀ a o, a ≠ p → H a = some o → H' a = some o
theorem Kp.refl (p : Addr) (H : Hp) : Kp p H H := fun _ _ _ h => h
theorem Kp.trans {p : Addr} {H H1 H2 : Hp} (a : Kp p H H1) (b : Kp p H1 H2) : Kp p H H2 := fun x o n h => b x o n (a x o n h)
theorem Kp.of {p : Addr} {H H' : Hp} (e : Same H H') : Kp p H H' := fun a o _ h => e a o h
theorem Kp.sto {p : Addr} {H : Hp} {o : HO} : Kp p H (upd H p o) := fun a u n h => by rw [upd_ne n]; exact h
theorem same_upd {H : Hp} {p : Addr} {o : HO} (h : H p = none) : Same H (upd H p o) := fun b x e => by
  rw [upd_ne (ne_of_none e h)]
  exact e
theorem Kp.new {p q : Addr} {H : Hp} {o : HO} (h : H q = none) : Kp p H (upd H q o) := .of (same_upd h)
/-- a place that H does not know may change -/
theorem Kp.mut {p q : Addr} {H H' : Hp} {o : HO} (e : Kp p H H') (h : H q = none) : Kp p H (upd H' q o) := fun a u n ha => by
  rw [upd_ne (ne_of_none ha h)]
  exact e a u n ha
theorem Same.mut {q : Addr} {H H' : Hp} {o : HO} (e : Same H H') (h : H q = none) : Same H (upd H' q o) := fun a u ha => by
  rw [upd_ne (ne_of_none ha h)]
  exact e a u ha
/-- what may be read as a tuple stays so -/
def Tm (H H' : Hp) : Prop := ∀ a xs, Rd H a (.tup xs) → Rd H' a (.tup xs)
theorem Same.tm {H H' : Hp} (e : Same H H') : Tm H H' := fun a xs h => by
  rcases h with h | ⟨o, h⟩
  · exact .inl (e _ _ h)
  · exact .inr ⟨o, e _ _ h⟩
theorem Kp.tm {p : Addr} {H H' : Hp} {xs : List V} (e : Kp p H H') (hp : H p = some (.lst xs)) : Tm H H' := fun a ys h => by
  rcases h with h | ⟨o, h⟩
  · exact .inl (e _ _ (by rintro rfl; rw [hp] at h; cases h) h)
  · exact .inr ⟨o, e _ _ (by rintro rfl; rw [hp] at h; cases h) h⟩
theorem Tm.refl (H : Hp) : Tm H H := fun _ _ h => h
theorem Tm.trans {H H1 H2 : Hp} (a : Tm H H1) (b : Tm H1 H2) : Tm H H2 := fun x o h => b x o (a x o h)
/-- a list is stored -/
theorem Tm.lst {p : Addr} {H : Hp} {xs ys : List V} (hp : H p = some (.lst xs)) : Tm H (upd H p (.lst ys)) := Kp.tm (Kp.sto (p := p)) hp
theorem Tm.new {p : Addr} {H : Hp} {o : HO} (hp : H p = none) : Tm H (upd H p o) := Same.tm (same_upd hp)
theorem Tm.sq {K : PySem.W.Frag} {H H' : Hp} {a : Addr} {xs : List V} (e : Tm H H') (h : SqT K H a xs) : SqT K H' a xs := by
  rcases h with h | h
  · exact .inl (e _ _ h)
  · exact .inr h

/-! ### data of tuples -/
mutual
inductive Is (K : PySem.W.Frag) (H : Hp) : V → PyData → Prop
  | non : Is K H .non .none
  | bl (b : Bool) : Is K H (.bl b) (.bool b)
  | int (i : Int) : Is K H (.int i) (.int i)
  | str (x : Str) : Is K H (.str x) (.str x)
  | tup {a : Addr} {xs : List V} {ds : List PyData} : SqT K H a xs → IsA K H xs ds → Is K H (.ref a) (.tuple ds)
inductive IsA (K : PySem.W.Frag) (H : Hp) : List V → List PyData → Prop
  | nil : IsA K H [] []
  | cons {v : V} {vs : List V} {d : PyData} {ds : List PyData} : Is K H v d → IsA K H vs ds → IsA K H (v :: vs) (d :: ds)
end
section
variable {K : PySem.W.Frag} {H H' : Hp}
mutual
theorem Is.mono (e : Tm H H') : ∀ (d : PyData) {v : V}, Is K H v d → Is K H' v d
  | _, _, .non => .non
  | _, _, .bl b => .bl b
  | _, _, .int i => .int i
  | _, _, .str x => .str x
  | .tuple ds, _, .tup s a => .tup (e.sq s) (IsA.mono e ds a)
theorem IsA.mono (e : Tm H H') : ∀ (ds : List PyData) {vs : List V}, IsA K H vs ds → IsA K H' vs ds
  | _, _, .nil => .nil
  | d :: ds, _, .cons h t => .cons (Is.mono e d h) (IsA.mono e ds t)
end
mutual
theorem Is.dp : ∀ (d : PyData) {v : V}, Is K H v d → Dp K H v d
  | _, _, .non => .non
  | _, _, .bl b => .bl b
  | _, _, .int i => .int i
  | _, _, .str x => .str x
  | .tuple ds, _, .tup s a => .tup s (IsA.dp ds a)
theorem IsA.dp : ∀ (ds : List PyData) {vs : List V}, IsA K H vs ds → DpAll K H vs ds
  | _, _, .nil => .nil
  | d :: ds, _, .cons h t => .cons (Is.dp d h) (IsA.dp ds t)
end
theorem Is.to {d : PyData} {v : V} (h : Is K H v d) (e : Tm H H') : Is K H' v d := Is.mono e d h
theorem IsA.to {ds : List PyData} {vs : List V} (h : IsA K H vs ds) (e : Tm H H') : IsA K H' vs ds := IsA.mono e ds h
theorem Is.int' {v : V} {i : Int} (h : Is K H v (.int i)) : v = .int i := by cases h; rfl
theorem Is.str' {v : V} {i : Str} (h : Is K H v (.str i)) : v = .str i := by cases h; rfl
theorem Is.tup' {v : V} {ds : List PyData} (h : Is K H v (.tuple ds)) : ∃ a xs, v = .ref a ∧ SqT K H a xs ∧ IsA K H xs ds := by
  cases h with
  | tup s a => exact ⟨_, _, rfl, s, a⟩
theorem IsA.len : ∀ {vs : List V} {ds : List PyData}, IsA K H vs ds → vs.length = ds.length
  | _, _, .nil => rfl
  | _, _, .cons _ t => congrArg Nat.succ (IsA.len t)
theorem IsA.get : ∀ {vs : List V} {ds : List PyData} {i : Nat} {d : PyData}, IsA K H vs ds → ds[i]? = some d → ∃ v, vs[i]? = some v ∧ Is K H v d
  | _, _, _, _, .nil, e => by simp at e
  | _, _, 0, _, .cons h _, e => by simp at e; subst e; exact ⟨_, rfl, h⟩
  | _, _, i + 1, d, .cons _ t, e => by
    obtain ⟨v, h1, h2⟩ := IsA.get (i := i) (d := d) t (by simpa using e)
    exact ⟨v, by simpa using h1, h2⟩
theorem IsA.append : ∀ {vs us : List V} {ds es : List PyData}, IsA K H vs ds → IsA K H us es → IsA K H (vs ++ us) (ds ++ es)
  | _, _, _, _, .nil, s => s
  | _, _, _, _, .cons h t, s => .cons h (IsA.append t s)
theorem IsA.take : ∀ {vs : List V} {ds : List PyData} (n : Nat), IsA K H vs ds → IsA K H (vs.take n) (ds.take n)
  | _, _, 0, _ => .nil
  | _, _, _ + 1, .nil => .nil
  | _, _, n + 1, .cons h t => .cons h (IsA.take n t)
theorem IsA.drop : ∀ {vs : List V} {ds : List PyData} (n : Nat), IsA K H vs ds → IsA K H (vs.drop n) (ds.drop n)
  | _, _, 0, h => h
  | _, _, _ + 1, .nil => .nil
  | _, _, n + 1, .cons _ t => IsA.drop n t
theorem IsA.set {v : V} {d : PyData} (h : Is K H v d) : ∀ {vs : List V} {ds : List PyData} (i : Nat), IsA K H vs ds → IsA K H (vs.set i v) (ds.set i d)
  | _, _, _, .nil => .nil
  | _, _, 0, .cons _ t => .cons h t
  | _, _, i + 1, .cons q t => .cons q (IsA.set h i t)
theorem IsA.two {a b : V} {d e : PyData} (h : Is K H a d) (h' : Is K H b e) : IsA K H [a, b] [d, e] := .cons h (.cons h' .nil)
theorem Is.two' {v : V} {d e : PyData} (h : Is K H v (.tuple [d, e])) : ∃ p a b, v = .ref p ∧ SqT K H p [a, b] ∧ Is K H a d ∧ Is K H b e := by
  obtain ⟨p, xs, rfl, s, q⟩ := h.tup'
  cases q with
  | cons h1 q => cases q with
    | cons h2 q => cases q; exact ⟨p, _, _, rfl, s, h1, h2⟩
/-- a new tuple -/
theorem Is.newT {p : Addr} {xs : List V} {ds : List PyData} (hp : H p = none) (h : IsA K H xs ds) : Is K (upd H p (.tup xs)) (.ref p) (.tuple ds) := .tup (.inl (.inl upd_same)) (h.to (Tm.new hp))
/-- its type -/
def tyD : PyData → String
  | .none => "NoneType" | .bool _ => "bool" | .int _ => "int" | .str _ => "str" | _ => "tuple"
theorem Is.ty {v : V} {d : PyData} (h : Is K H v d) : TyX K H v (.type (tyD d)) := by
  cases h with
  | non => exact .base .non
  | bl b => exact .base (.bl b)
  | int i => exact .base (.int i)
  | str x => exact .base (.str x)
  | tup s a =>
    rcases s with (s | ⟨o, s⟩) | ⟨o, its, n, hk, hc, _⟩
    · exact .base (.tup s)
    · exact .fTuple s
    · exact .kTuple hk hc
end

/-! ### a def of the text, and what it promises -/
structure At (K : PySem.W.Frag) (mg : Str → Option Value) (x : Str) (st : Stmt) (ps : List Str) : Prop where
  ex : ∃ (f : Addr) (fd : FuncData), Fun K x x st f fd ∧ mg x = some (.ref f) ∧ Binds K fd ps []
structure Ok (P : Program) (w : World) (K : PySem.W.Frag) (mg : Str → Option Value) (base : Heap) (lvl : Nat) (x : Str) (ps : List Str) (dvs : List V) (sp : Sp) : Prop where
  ex : ∃ (f : Addr) (fd : FuncData) (ds : List Value), FnOk P w K mg base CX0 lvl f fd ps sp ∧ mg x = some (.ref f) ∧ PySem.W.keepIn K (.ref f) = true ∧ Binds K fd ps ds ∧ Vals dvs ds
section
variable {P : Program} {w : World} {K : PySem.W.Frag} {mg : Str → Option Value} {base : Heap} {x : Str} {st : Stmt} {ps N : List Str} {k : Nat} {sp : Sp}
theorem At.ok (F : At K mg x st ps) (S : FnScope N ps (defScope st)) (len : ∀ vs H Q E, sp vs H Q E → vs.length = ps.length)
    (hbody : ∀ (f : Addr) (cdv : Value) (A : Around) (outer : List Env) (s : Shared) (H : Hp) (vs : List V) (Q : VK) (E : XK), Room k (A.deeper (envOfC x (defScope st) s.heap.objs.size f cdv)) → sp vs H Q E →
      ∃ t, PSs (cxOf CX0 P w K mg base N x (defScope st) f cdv A outer s H E).nox (defBody st) t ∧ t { nx := fun _ H' => Q .non H', rt := Q } (start N vs) H) : Ok P w K mg base (k + 1) x ps [] sp := by
  obtain ⟨f, fd, F, m, b⟩ := F.ex
  exact ⟨f, fd, [], F.ok S len (fun cdv A outer s H vs Q E hr h => hbody f cdv A outer s H vs Q E hr h), m, F.kp, b, .nil⟩
theorem Ok.imp {dvs : List V} {sp' : Sp} (F : Ok P w K mg base k x ps dvs sp) (h : ∀ vs H Q E, sp' vs H Q E → sp vs H Q E) : Ok P w K mg base k x ps dvs sp' := by
  obtain ⟨f, fd, ds, F, m, kp, b, d⟩ := F.ex
  exact ⟨f, fd, ds, F.imp h, m, kp, b, d⟩
theorem Ok.up {dvs : List V} {j : Nat} (F : Ok P w K mg base k x ps dvs sp) (h : k ≤ j) : Ok P w K mg base j x ps dvs sp := by
  obtain ⟨f, fd, ds, F, m, kp, b, d⟩ := F.ex
  exact ⟨f, fd, ds, F.mono h, m, kp, b, d⟩
end
section
variable {X : Cx} {x : Str} {p pos : Pos} {e : Expr} {es : List Expr} {k : Nat} {ps : List Str} {dvs : List V} {sp : Sp} {t : TA}
theorem pe_ok (C : Ok X.prog X.w X.K X.mg X.base k x ps dvs sp) (hr : Room k X.A) (hg : Gl X x) (ha : PA X (e :: es) t) (hdb : (x == ("__debug__" : Str)) = false := by decide)
    (he : starEach (e :: es) X.env = (false, eval e X.env) :: starEach es X.env := by rfl) (hpl : (backTo pos (starEach es X.env)).any (·.1) = false := by rfl) :
    PE X (.Call (.Name x p) (e :: es) [] pos) (tCall sp dvs E0 t) := by
  obtain ⟨f, fd, ds, F, m, kp, b, d⟩ := C.ex
  exact pe_call F hr hg m kp b d pass0 ha hdb he hpl
/-- // by any divisor but 0 below 2 ^ 9000 -/
def CDivX (_ j : Int) : Prop := j ≠ 0 ∧ j.natAbs.log2 < 9000
theorem op_fdivX : OpR X (binaryOp .FloorDiv) (rI CDivX fun i j => .int (i.fdiv j)) := opI fun i j _ _ _ _ _ hc q => floordiv_int hc.1 q (.inl (PyProof.noPylong_of_log2 hc.2))
end
section
variable {X : Cx}
/-- a product: one side small, or both of moderate size -/
def CMulX (i j : Int) : Prop := CMul i j ∨ CMulW i j
theorem op_mulX : OpR X (binaryOp .Mult) (rI CMulX fun i j => .int (i * j)) := opI fun _ _ _ _ _ _ _ hc q => mul_int q (hc.elim (fun h => h.ok) (fun h => h.ok))
end
theorem mulL {i j : Int} (h : -(2 ^ 64) < i ∧ i < 2 ^ 64) : CMulX i j := .inl (.inl h)
theorem mulR {i j : Int} (h : -(2 ^ 64) < j ∧ j < 2 ^ 64) : CMulX i j := .inl (.inr h)
/-! the same rules, the written part named (within a comprehension) -/
section
variable {X : Cx} {K : PySem.W.Frag}
theorem ix_tupK (h : X.K = K) : IxR X (rIxT K) := h ▸ ix_tup
theorem ix_listK (h : X.K = K) : IxR X (rIxL K) := h ▸ ix_list
theorem call_lenK (h : X.K = K) : CallR X (.builtin "len") (fun xs H Q => ∃ p ys, xs = [.ref p] ∧ (SqL K H p ys ∨ SqT K H p ys) ∧ Q (.int ys.length) H) := h ▸ call_len_seq
theorem op_inK (h : X.K = K) : OpR X (compareOp .In) (rIn K false) := h ▸ op_in_seq
theorem op_notInK (h : X.K = K) : OpR X (compareOp .NotIn) (rIn K true) := h ▸ op_notIn_seq
theorem op_eqK (h : X.K = K) (hu : X.A.units + 64 < cLine) : OpR X (compareOp .Eq) (rEqD K) := h ▸ op_eqD hu
theorem op_neK (h : X.K = K) (hu : X.A.units + 64 < cLine) : OpR X (compareOp .NotEq) (rNeD K) := h ▸ op_neD hu
theorem sl_listK (h : X.K = K) : SlR X (rSlL K) := h ▸ sl_list
theorem sl_tupK (h : X.K = K) : SlR X (rSlT K) := h ▸ sl_tup
end
/-- what the program leaves alone -/
structure BI (mg : Str → Option Value) : Prop where
  len : mg "len" = none
  int : mg "int" = none
  abs : mg "abs" = none
  list : mg "list" = none
  tuple : mg "tuple" = none
  range : mg "range" = none
  isinstance : mg "isinstance" = none
  str : mg "str" = none
  bool : mg "bool" = none
  sum : mg "sum" = none
  sorted : mg "sorted" = none
  enumerate : mg "enumerate" = none

/-! ### draws -/
/-- a pool of draws stands at p, its cells at a -/
def Pl (p a : Addr) (H : Hp) : Prop := ∃ (ns : List Int) (i rest last cnt : Int), a ≠ p ∧ H p = some (.lst [.ref a, .int i, .int rest, .int last, .int cnt]) ∧ H a = some (.lst (ns.map V.int)) ∧ ns.length ≤ 63 ∧
  0 ≤ i ∧ 0 ≤ rest ∧ 0 ≤ last ∧ last < 1000000000000000000 ∧ 0 ≤ cnt
theorem Pl.lst {p a : Addr} {H : Hp} (h : Pl p a H) : ∃ xs, H p = some (.lst xs) := by
  obtain ⟨ns, i, rest, last, cnt, _, h, _⟩ := h
  exact ⟨_, h⟩
theorem Pl.tm {p a : Addr} {H H' : Hp} (h : Pl p a H) (e : Kp p H H') : Tm H H' := by
  obtain ⟨xs, h⟩ := h.lst
  exact e.tm h
theorem Pl.same {p a : Addr} {H H' : Hp} (h : Pl p a H) (e : Same H H') : Pl p a H' := by
  obtain ⟨ns, i, rest, last, cnt, n, h, h1, h2⟩ := h
  exact ⟨ns, i, rest, last, cnt, n, e _ _ h, e _ _ h1, h2⟩
/-- another place is stored -/
theorem Pl.mut {p a q : Addr} {H : Hp} {o : HO} (h : Pl p a H) (n : q ≠ p) (na : q ≠ a) : Pl p a (upd H q o) := by
  obtain ⟨ns, i, rest, last, cnt, nn, h, h1, h3⟩ := h
  exact ⟨ns, i, rest, last, cnt, nn, by rw [upd_ne n.symm]; exact h, by rw [upd_ne na.symm]; exact h1, h3⟩
theorem Pl.ne {p a q : Addr} {H : Hp} (h : Pl p a H) (hq : H q = none) : q ≠ p ∧ q ≠ a := by
  obtain ⟨ns, i, rest, last, cnt, nn, h, h1, h3⟩ := h
  exact ⟨fun e => (by rw [e, h] at hq; cases hq), fun e => (by rw [e, h1] at hq; cases hq)⟩
def spPool (K : PySem.W.Frag) : Sp := fun vs H Q _ => ∃ (s : Addr) (ns : List Int), vs = [.ref s] ∧ SqL K H s (ns.map V.int) ∧ ns.length ≤ 63 ∧ ∀ p a H', H p = none → Same H H' → Pl p a H' → Q (.ref p) H'
def spDraw : Sp := fun vs H Q _ => ∃ (p a : Addr) (m : Int), vs = [.ref p, .int m] ∧ Pl p a H ∧ 0 < m ∧ m ≤ 10000000000000000000000000000000000000000 ∧
  ∀ r H', 0 ≤ r → r < m → Kp p H H' → Pl p a H' → Q (.int r) H'
theorem tenK : (10 : Int) ^ (40 : Int).toNat = 10000000000000000000000000000000000000000 := by decide +kernel
theorem divX {i m : Int} (h0 : 0 < m) (h1 : m ≤ 10000000000000000000000000000000000000000) : CDivX i m := by
  refine ⟨by omega, ?_⟩
  have h : m.natAbs < 2 ^ 200 := by
    have : (10000000000000000000000000000000000000000 : Nat) < 2 ^ 200 := by decide +kernel
    omega
  exact Nat.lt_of_lt_of_le (PySem.Flt.log2_lt_of (by decide) h) (by decide)
theorem fm0 {i m : Int} (h0 : 0 < m) : 0 ≤ i.fmod m := Int.fmod_nonneg_of_pos i h0
theorem fm1 {i m : Int} (h0 : 0 < m) : i.fmod m < m := Int.fmod_lt_of_pos i h0
theorem mulF {i j : Int} : CMulX (i.fmod 2147483647) j := mulL ⟨by have := fm0 (i := i) (m := 2147483647) (by decide); omega, by have := fm1 (i := i) (m := 2147483647) (by decide); omega⟩
theorem fd0 {i m : Int} (h0 : 0 < m) (hi : 0 ≤ i) : 0 ≤ i.fdiv m := by
  rw [Int.fdiv_eq_ediv_of_nonneg i (by omega)]
  exact Int.ediv_nonneg hi (by omega)
theorem small5 {n : Nat} (h : n ≤ 100000) : n ≤ sizeLine := Nat.le_trans h (by decide)
theorem small5' {n : Nat} (h : n < 100000) : n < sizeLine := Nat.lt_of_lt_of_le h (by decide)
/-- a product with one small side -/
theorem mulS {i j : Int} (hi : i.natAbs < 2 ^ 400000) (hj : j.natAbs < 2 ^ 400000) : CMulW i j := wide_mul hi hj (by decide) (by decide) (by decide)
end Z

namespace Z
open PySem PySem.Spec PyProof.Rows L2
/-! ### numbers and ratios -/
def BIG : Nat := 2 ^ 8000
theorem big_lt {n : Nat} (h : n < BIG) : n < 2 ^ 8000 := h
theorem divB {i s : Int} {b : Nat} (h0 : s ≠ 0) (h1 : s.natAbs ≤ b) (h2 : b < BIG) : CDivX i s :=
  ⟨h0, Nat.lt_of_lt_of_le (PySem.Flt.log2_lt_of (by decide) (big_lt (Nat.lt_of_le_of_lt h1 h2))) (by decide)⟩
theorem big_sq {a b : Nat} (ha : a < BIG) (hb : b < BIG) : a * b < 2 ^ (100000 - 2) := by
  have h : a * b < BIG * BIG := Nat.mul_lt_mul'' ha hb
  refine Nat.lt_of_lt_of_le h ?_
  unfold BIG
  rw [← Nat.pow_add]
  exact Nat.pow_le_pow_right (by decide) (by decide)
theorem mulB {i j : Int} (hi : i.natAbs < BIG) (hj : j.natAbs < BIG) : CMulX i j := .inr (wide_mul (big_lt hi) (big_lt hj) (by decide) (by decide) (by decide))
/-- a ratio as the program writes it -/
def rat2 (q : Rat) : PyData := .tuple [.int q.num, .int (q.den : Int)]
def spGcd : Sp := fun vs H Q _ => ∃ a b : Nat, vs = [.int (a : Int), .int (b : Int)] ∧ a < BIG ∧ b < BIG ∧ Q (.int ((Nat.gcd a b : Nat) : Int)) H
/-- the ratio of two numbers -/
def spRat (K : PySem.W.Frag) : Sp := fun vs H Q _ => ∃ t b : Int, vs = [.int t, .int b] ∧ b ≠ 0 ∧ t.natAbs < BIG ∧ b.natAbs < BIG ∧ ∀ v H', Same H H' → Is K H' v (rat2 (Rat.divInt t b)) → Q v H'
theorem rat2_new {K : PySem.W.Frag} {H : Hp} {p : Addr} {x y : Int} {q : Rat} (hp : H p = none) (hx : x = q.num) (hy : y = (q.den : Int)) : Is K (upd H p (.tup [.int x, .int y])) (.ref p) (rat2 q) := by
  subst hx hy
  exact Is.newT hp (.two (.int _) (.int _))
/-! ### two data are the same -/
mutual
def plainD : PyData → Bool
  | .none | .int _ | .str _ => true
  | .tuple ds => decide (ds.length ≤ 1000) && plainDs ds
  | _ => false
def plainDs : List PyData → Bool
  | [] => true
  | d :: ds => plainD d && plainDs ds
end
theorem plain_get : ∀ {ds : List PyData} {i : Nat} {d : PyData}, plainDs ds = true → ds[i]? = some d → plainD d = true
  | [], _, _, _, e => by simp at e
  | x :: xs, 0, d, h, e => by
    simp at e
    subst e
    exact (Bool.and_eq_true_iff.mp (by simpa [plainDs] using h)).1
  | x :: xs, i + 1, d, h, e => plain_get (ds := xs) (i := i) (Bool.and_eq_true_iff.mp (by simpa [plainDs] using h)).2 (by simpa using e)
mutual
def depD : PyData → Nat
  | .tuple ds => depDs ds + 1
  | _ => 0
def depDs : List PyData → Nat
  | [] => 0
  | d :: ds => max (depD d) (depDs ds)
end
theorem dep_get : ∀ {ds : List PyData} {i : Nat} {d : PyData}, ds[i]? = some d → depD d ≤ depDs ds
  | [], _, _, e => by simp at e
  | x :: xs, 0, d, e => by
    simp at e
    subst e
    show depD x ≤ max (depD x) (depDs xs)
    omega
  | x :: xs, i + 1, d, e => by
    have := dep_get (ds := xs) (i := i) (d := d) (by simpa using e)
    show depD d ≤ max (depD x) (depDs xs)
    omega
/-- n calls, one in another, are allowed -/
def spSame (K : PySem.W.Frag) (n : Nat) : Sp := fun vs H Q _ => ∃ (x y : V) (d e : PyData), vs = [x, y] ∧ Is K H x d ∧ Is K H y e ∧ plainD d = true ∧ plainD e = true ∧ depD e < n ∧ ∀ (b : Bool) H', Same H H' → (b = true ↔ d = e) → Q (.bl b) H'
theorem kt {K : PySem.W.Frag} {a b : String} {r : Bool} (h : kitB a b = some r) : PySem.W.kitOne K (.type a) (.type b) = some r := kit_ty h
/-- which built-in type a datum has -/
theorem kt_of {K : PySem.W.Frag} (d : PyData) (hd : plainD d = true) (T : String) (hT : T = "tuple" ∨ T = "str" ∨ T = "int") : PySem.W.kitOne K (.type (tyD d)) (.type T) = some (decide (tyD d = T)) := by
  cases d with
  | none =>
            rcases hT with rfl | rfl | rfl
            · exact kt (show kitB "NoneType" "tuple" = some (decide ("NoneType" = "tuple")) by decide +kernel)
            · exact kt (show kitB "NoneType" "str" = some (decide ("NoneType" = "str")) by decide +kernel)
            · exact kt (show kitB "NoneType" "int" = some (decide ("NoneType" = "int")) by decide +kernel)
  | int i =>
            rcases hT with rfl | rfl | rfl
            · exact kt (show kitB "int" "tuple" = some (decide ("int" = "tuple")) by decide +kernel)
            · exact kt (show kitB "int" "str" = some (decide ("int" = "str")) by decide +kernel)
            · exact kt (show kitB "int" "int" = some (decide ("int" = "int")) by decide +kernel)
  | str s =>
            rcases hT with rfl | rfl | rfl
            · exact kt (show kitB "str" "tuple" = some (decide ("str" = "tuple")) by decide +kernel)
            · exact kt (show kitB "str" "str" = some (decide ("str" = "str")) by decide +kernel)
            · exact kt (show kitB "str" "int" = some (decide ("str" = "int")) by decide +kernel)
  | tuple ds =>
            rcases hT with rfl | rfl | rfl
            · exact kt (show kitB "tuple" "tuple" = some (decide ("tuple" = "tuple")) by decide +kernel)
            · exact kt (show kitB "tuple" "str" = some (decide ("tuple" = "str")) by decide +kernel)
            · exact kt (show kitB "tuple" "int" = some (decide ("tuple" = "int")) by decide +kernel)
  | bool b => simp [plainD] at hd
  | list ds => simp [plainD] at hd
  | dict ds => simp [plainD] at hd
theorem ktB {K : PySem.W.Frag} (i : Int) : PySem.W.kitOne K (.type (tyD (.int i))) (.type "bool") = some false := kt (show kitB "int" "bool" = some false by decide +kernel)
end Z
namespace Z
open PySem PySem.Spec PyProof.Rows L2
theorem ty_tuple {d : PyData} (hd : plainD d = true) (h : tyD d = "tuple") : ∃ ds, d = .tuple ds ∧ ds.length ≤ 1000 ∧ plainDs ds = true := by
  cases d with
  | none => exact absurd h (show ¬ "NoneType" = "tuple" by decide)
  | int i => exact absurd h (show ¬ "int" = "tuple" by decide)
  | str s => exact absurd h (show ¬ "str" = "tuple" by decide)
  | tuple ds =>
    have h2 : (decide (ds.length ≤ 1000) && plainDs ds) = true := by simpa [plainD] using hd
    exact ⟨ds, rfl, of_decide_eq_true (Bool.and_eq_true_iff.mp h2).1, (Bool.and_eq_true_iff.mp h2).2⟩
  | bool b => simp [plainD] at hd
  | list ds => simp [plainD] at hd
  | dict ds => simp [plainD] at hd
theorem no_tuple {d : PyData} (hd : plainD d = true) (h : ¬ tyD d = "tuple") : d = .none ∨ (∃ i, d = .int i) ∨ ∃ s, d = .str s := by
  cases d with
  | none => exact .inl rfl
  | int i => exact .inr (.inl ⟨i, rfl⟩)
  | str s => exact .inr (.inr ⟨s, rfl⟩)
  | tuple ds => exact absurd rfl h
  | bool b => simp [plainD] at hd
  | list ds => simp [plainD] at hd
  | dict ds => simp [plainD] at hd
theorem ext_of {α : Type} {xs ys : List α} (hl : xs.length = ys.length) (h : ∀ j < ys.length, xs[j]? = ys[j]?) : xs = ys := by
  apply List.ext_getElem? 
  intro j
  by_cases hj : j < ys.length
  · exact h j hj
  · rw [List.getElem?_eq_none (by omega), List.getElem?_eq_none (by omega)]
/-- a def with defaults dvs, the last of which may be left out -/
structure AtD (K : PySem.W.Frag) (mg : Str → Option Value) (x : Str) (st : Stmt) (ps : List Str) (dvs : List V) : Prop where
  ex : ∃ (f : Addr) (fd : FuncData) (ds : List Value), FunD K x x (defArgs st) (defBody st) (defScope st) dvs [] f fd ∧ mg x = some (.ref f) ∧ Binds K fd ps [] ∧ Binds K fd ps ds ∧ Vals dvs ds
section
variable {P : Program} {w : World} {K : PySem.W.Frag} {mg : Str → Option Value} {base : Heap} {x : Str} {st : Stmt} {ps N : List Str} {k : Nat} {sp : Sp} {dvs : List V}
theorem AtD.ok (F : AtD K mg x st ps dvs) (S : FnScope N ps (defScope st)) (len : ∀ vs H Q E, sp vs H Q E → vs.length = ps.length)
    (hbody : ∀ (f : Addr) (cdv : Value) (A : Around) (outer : List Env) (s : Shared) (H : Hp) (vs : List V) (Q : VK) (E : XK), Room k (A.deeper (envOfC x (defScope st) s.heap.objs.size f cdv)) → sp vs H Q E →
      ∃ t, PSs (cxOf CX0 P w K mg base N x (defScope st) f cdv A outer s H E).nox (defBody st) t ∧ t { nx := fun _ H' => Q .non H', rt := Q } (start N vs) H) :
    Ok P w K mg base (k + 1) x ps [] sp ∧ Ok P w K mg base (k + 1) x ps dvs sp := by
  obtain ⟨f, fd, ds, F, m, b, b2, d⟩ := F.ex
  have G : FnOk P w K mg base CX0 (k + 1) f fd ps sp := F.ok S len (fun cdv A outer s H vs Q E hr h => by
    obtain ⟨t, h1, h2⟩ := hbody f cdv A outer s H vs Q E hr h
    exact ⟨t, h1.nox, h2⟩)
  exact ⟨⟨f, fd, [], G, m, F.kp, b, .nil⟩, ⟨f, fd, ds, G, m, F.kp, b2, d⟩⟩
end
end Z
namespace Z
open PySem PySem.Spec PyProof.Rows L2
theorem plain_rat2 (q : Rat) : plainD (rat2 q) = true := by
  unfold rat2
  rw [plainD, plainDs, plainDs, plainDs, plainD, plainD]
  rfl
theorem dep_rat2 (q : Rat) : depD (rat2 q) = 1 := by
  simp [rat2, depD, depDs]
theorem rat2_inj {q r : Rat} (h : rat2 q = rat2 r) : q = r := by
  have h1 := PyData.tuple.inj h
  have h2 : PyData.int q.num = PyData.int r.num ∧ _ := List.cons.inj h1
  have h3 := List.cons.inj h2.2
  have h4 := PyData.int.inj h2.1
  have h5 := PyData.int.inj h3.1
  exact Rat.ext h4 (by omega)
/-- what law(script) promises -/
def spLaw (K : PySem.W.Frag) : Sp := fun vs H Q _ => ∃ (a : Addr) (ns : List Int), vs = [.ref a] ∧ SqL K H a (ns.map V.int) ∧ ns.length ≤ 63 ∧ ∀ H', Q (.bl true) H'
theorem t41 : (100000000000000000000000000000000000000000 : Nat) < BIG := Nat.lt_of_lt_of_le (show 100000000000000000000000000000000000000000 < 2 ^ 200 by decide +kernel) (Nat.pow_le_pow_right (by decide) (by decide))
theorem bigK {n : Nat} (h : n ≤ 100000000000000000000000000000000000000000000000000) : n < BIG :=
  Nat.lt_of_le_of_lt h (Nat.lt_of_lt_of_le (show 100000000000000000000000000000000000000000000000000 < 2 ^ 200 by decide +kernel) (Nat.pow_le_pow_right (by decide) (by decide)))
end Z

namespace Z
open PySem PySem.Spec PyProof.Rows L2
/-! ### the promises of the ratios' operations -/
theorem sz_big {x n : Nat} (h : n ≤ 8000) (hx : x < 2 ^ n) : x < BIG := Nat.lt_of_lt_of_le hx (Nat.pow_le_pow_right (by decide) h)
theorem Sz.bn {q : Rat} (h : Sz 3900 q) : q.num.natAbs < BIG := sz_big (by decide) h.1
theorem Sz.bd {q : Rat} (h : Sz 3900 q) : ((q.den : Int)).natAbs < BIG := sz_big (n := 3900) (by decide) (by rw [Int.natAbs_natCast]; exact h.2)
def spBin (K : PySem.W.Frag) (g : Rat → Rat → Rat) : Sp := fun vs H Q _ => ∃ (x y : V) (p q : Rat), vs = [x, y] ∧ Is K H x (rat2 p) ∧ Is K H y (rat2 q) ∧ Sz 3900 p ∧ Sz 3900 q ∧ ∀ v H', Same H H' → Is K H' v (rat2 (g p q)) → Q v H'
def spBinQ (K : PySem.W.Frag) : Sp := fun vs H Q _ => ∃ (x y : V) (p q : Rat), vs = [x, y] ∧ Is K H x (rat2 p) ∧ Is K H y (rat2 q) ∧ Sz 3900 p ∧ Sz 3900 q ∧ q ≠ 0 ∧ ∀ v H', Same H H' → Is K H' v (rat2 (p / q)) → Q v H'
def spLess (K : PySem.W.Frag) : Sp := fun vs H Q _ => ∃ (x y : V) (p q : Rat), vs = [x, y] ∧ Is K H x (rat2 p) ∧ Is K H y (rat2 q) ∧ Sz 3900 p ∧ Sz 3900 q ∧ Q (.bl (decide (p < q))) H
/-- the program's own zero -/
def GZ (K : PySem.W.Frag) (mg : Str → Option Value) : Prop := ∃ zA : Addr, mg "ZERO" = some (.ref zA) ∧ ∀ H : Hp, SqT K H zA [.int 0, .int 1]
theorem is_zero {K : PySem.W.Frag} {H : Hp} {a : Addr} (h : SqT K H a [.int 0, .int 1]) : Is K H (.ref a) (rat2 0) := .tup h (.two (.int 0) (.int 1))
/-! ### sums -/
def sumR : List Rat → Rat
  | [] => 0
  | q :: r => q + sumR r
def sumL (z : Rat) (qs : List Rat) : Rat := qs.foldl (· + ·) z
theorem sumL_take {qs : List Rat} {i : Nat} {q : Rat} (h : qs[i]? = some q) (z : Rat) : sumL z (qs.take (i + 1)) = sumL z (qs.take i) + q := by
  unfold sumL
  rw [List.take_add_one, h, List.foldl_append]
  rfl
theorem sumL_sz {n : Nat} : ∀ {qs : List Rat} {m : Nat} {z : Rat}, (∀ q ∈ qs, Sz n q) → Sz m z → Sz (m + qs.length * (n + 1)) (sumL z qs)
  | [], m, z, _, hz => hz.mono (by omega)
  | q :: r, m, z, h, hz => by
    have h1 := hz.add (h q (List.mem_cons_self ..))
    have h2 := sumL_sz (qs := r) (fun x hx => h x (List.mem_cons_of_mem _ hx)) h1
    refine h2.mono ?_
    rw [List.length_cons, Nat.add_mul]
    omega
/-- the sum of ratios that stand in a list at a; n bounds their size -/
def spSumL (K : PySem.W.Frag) : Sp := fun vs H Q _ => ∃ (a : Addr) (xs : List V) (qs : List Rat) (n : Nat), vs = [.ref a] ∧ SqL K H a xs ∧ IsA K H xs (qs.map rat2) ∧ (∀ q ∈ qs, Sz n q) ∧ n ≤ 2000 ∧ qs.length * (n + 1) ≤ 1900 ∧
  ∀ v H', Same H H' → Is K H' v (rat2 (sumL 0 qs)) → Q v H'
def spSumT (K : PySem.W.Frag) : Sp := fun vs H Q _ => ∃ (a : Addr) (xs : List V) (qs : List Rat) (n : Nat), vs = [.ref a] ∧ SqT K H a xs ∧ IsA K H xs (qs.map rat2) ∧ (∀ q ∈ qs, Sz n q) ∧ n ≤ 2000 ∧ qs.length * (n + 1) ≤ 1900 ∧
  ∀ v H', Same H H' → Is K H' v (rat2 (sumL 0 qs)) → Q v H'
/-- the same, every sum on the way small -/
def spSumLP (K : PySem.W.Frag) : Sp := fun vs H Q _ => ∃ (a : Addr) (xs : List V) (qs : List Rat), vs = [.ref a] ∧ SqL K H a xs ∧ IsA K H xs (qs.map rat2) ∧ (∀ q ∈ qs, Sz 3900 q) ∧ (∀ i, Sz 3900 (sumL 0 (qs.take i))) ∧ ∀ v H', Same H H' → Is K H' v (rat2 (sumL 0 qs)) → Q v H'
def spSumTP (K : PySem.W.Frag) : Sp := fun vs H Q _ => ∃ (a : Addr) (xs : List V) (qs : List Rat), vs = [.ref a] ∧ SqT K H a xs ∧ IsA K H xs (qs.map rat2) ∧ (∀ q ∈ qs, Sz 3900 q) ∧ (∀ i, Sz 3900 (sumL 0 (qs.take i))) ∧ ∀ v H', Same H H' → Is K H' v (rat2 (sumL 0 qs)) → Q v H'
theorem sumL_mid {qs : List Rat} {n i : Nat} (h : ∀ q ∈ qs, Sz n q) (hl : qs.length * (n + 1) ≤ 1900) : Sz 3900 (sumL 0 (qs.take i)) := by
  refine (sumL_sz (fun q hq => h q (List.mem_of_mem_take hq)) Sz.zero).mono ?_
  have : (qs.take i).length ≤ qs.length := by rw [List.length_take]; omega
  have := Nat.mul_le_mul_right (n + 1) this
  omega
theorem getR {qs : List Rat} {i : Nat} {d : PyData} (h : (qs.map rat2)[i]? = some d) : ∃ q, qs[i]? = some q ∧ d = rat2 q := by
  rw [List.getElem?_map] at h
  cases hq : qs[i]? with
  | none => rw [hq] at h; cases h
  | some q => rw [hq] at h; exact ⟨q, rfl, (Option.some.inj h).symm⟩
theorem seq_same {K : PySem.W.Frag} {H H' : Hp} {a : Addr} {xs : List V} (e : Same H H') (h : SqL K H a xs) : SqL K H' a xs := e.seq h
/-- an item of a list of data -/
theorem IsA.at {K : PySem.W.Frag} {H : Hp} : ∀ {vs : List V} {ds : List PyData} {i : Nat} {v : V}, IsA K H vs ds → vs[i]? = some v → ∃ d, ds[i]? = some d ∧ Is K H v d
  | _, _, _, _, .nil, e => by simp at e
  | _, _, 0, _, .cons h _, e => by simp at e; subst e; exact ⟨_, rfl, h⟩
  | _, _, i + 1, v, .cons _ t, e => by
    obtain ⟨d, h1, h2⟩ := IsA.at (i := i) (v := v) t (by simpa using e)
    exact ⟨d, by simpa using h1, h2⟩
section
variable {K : PySem.W.Frag} {σ : L2.St} {H : Hp} {Q : VK} {i j : Nat} {va vb : V} {p q : Rat} {g : Rat → Rat → Rat}
/-- two answers of ratios, the same -/
theorem rd_same2 (h1 : σ[i]? = some (some va)) (h2 : σ[j]? = some (some vb)) (ia : Is K H va (rat2 p)) (ib : Is K H vb (rat2 q)) (zp : Sz 3900 p) (zq : Sz 3900 q) (k : ∀ H', Same H H' → Q (.bl true) H') :
    tCall (spSame K 2) [] E0 (tCons (tCall (spBin K g) [] E0 (tCons (tVar i) (tCons (tVar j) tNil))) (tCons (tCall (spBin K g) [] E0 (tCons (tVar i) (tCons (tVar j) tNil))) tNil)) σ H Q := by
  refine ⟨va, h1, vb, h2, va, vb, p, q, rfl, ia, ib, zp, zq, fun v1 H1 s1 i1 => ?_⟩
  refine ⟨va, h1, vb, h2, va, vb, p, q, rfl, ia.to (Same.tm s1), ib.to (Same.tm s1), zp, zq, fun v2 H2 s2 i2 => ?_⟩
  refine ⟨v1, v2, _, _, rfl, i1.to (Same.tm s2), i2, plain_rat2 _, plain_rat2 _, by rw [dep_rat2]; decide, fun c H3 s3 hc => ?_⟩
  obtain rfl : c = true := hc.mpr rfl
  exact k H3 (s1.trans (s2.trans s3))
theorem rd_same2Q (h1 : σ[i]? = some (some va)) (h2 : σ[j]? = some (some vb)) (ia : Is K H va (rat2 p)) (ib : Is K H vb (rat2 q)) (zp : Sz 3900 p) (zq : Sz 3900 q) (hq : q ≠ 0) (k : ∀ H', Same H H' → Q (.bl true) H') :
    tCall (spSame K 2) [] E0 (tCons (tCall (spBinQ K) [] E0 (tCons (tVar i) (tCons (tVar j) tNil))) (tCons (tCall (spBinQ K) [] E0 (tCons (tVar i) (tCons (tVar j) tNil))) tNil)) σ H Q := by
  refine ⟨va, h1, vb, h2, va, vb, p, q, rfl, ia, ib, zp, zq, hq, fun v1 H1 s1 i1 => ?_⟩
  refine ⟨va, h1, vb, h2, va, vb, p, q, rfl, ia.to (Same.tm s1), ib.to (Same.tm s1), zp, zq, hq, fun v2 H2 s2 i2 => ?_⟩
  refine ⟨v1, v2, _, _, rfl, i1.to (Same.tm s2), i2, plain_rat2 _, plain_rat2 _, by rw [dep_rat2]; decide, fun c H3 s3 hc => ?_⟩
  obtain rfl : c = true := hc.mpr rfl
  exact k H3 (s1.trans (s2.trans s3))
end
theorem sumL_imp {K : PySem.W.Frag} : ∀ vs H Q E, spSumL K vs H Q E → spSumLP K vs H Q E := by
  rintro vs H Q E ⟨a, xs, qs, n, rfl, hS, hI, hz, hn, hl, k⟩
  exact ⟨a, xs, qs, rfl, hS, hI, fun q hq => (hz q hq).mono (by omega), fun i => sumL_mid hz hl, k⟩
theorem sumT_imp {K : PySem.W.Frag} : ∀ vs H Q E, spSumT K vs H Q E → spSumTP K vs H Q E := by
  rintro vs H Q E ⟨a, xs, qs, n, rfl, hS, hI, hz, hn, hl, k⟩
  exact ⟨a, xs, qs, rfl, hS, hI, fun q hq => (hz q hq).mono (by omega), fun i => sumL_mid hz hl, k⟩
end Z

namespace Z
open PySem PySem.Spec PyProof.Rows L2
/-! ### jobs -/
structure Job where
  n : Str
  c : Int
  d : Int
  w : Int
def dJob (j : Job) : PyData := .tuple [.str j.n, .int j.c, .int j.d, .int j.w]
/-- the name of the k-th job: one letter of a .. t, the k-th of them -/
structure NmOk (k : Nat) (x : Str) : Prop where
  mid : x.cps.toList.find? (fun c => decide (c < 117)) = some (97 + k)
  len : x.cps.toList.length ≤ 6
  low : ∀ c ∈ x.cps.toList, 97 ≤ c ∧ c ≤ 122
  ne : x.cps.toList ≠ []
theorem NmOk.inj {k l : Nat} {x : Str} (h : NmOk k x) (h' : NmOk l x) : k = l := by
  have e := h.mid.symm.trans h'.mid
  have := Option.some.inj e
  omega
structure JobOk (j : Job) : Prop where
  c0 : 0 ≤ j.c
  cd : j.c < j.d
  d1 : j.d ≤ 10000
  w0 : 1 ≤ j.w
  w1 : j.w ≤ 10000
/-- a job list as it is drawn -/
structure JobsOk (js : List Job) : Prop where
  ok : ∀ j ∈ js, JobOk j
  nm : ∀ i j, js[i]? = some j → NmOk i j.n
theorem str_app (x y : Str) : (x ++ y).cps.toList = x.cps.toList ++ y.cps.toList := Array.toList_append ..
theorem str_len (x : Str) : x.length = x.cps.toList.length := rfl
/-- a drawn name -/
def spName : Sp := fun vs H Q _ => ∃ (p pa : Addr) (k : Nat), vs = [.ref p, .int (k : Int)] ∧ Pl p pa H ∧ k < 20 ∧ ∀ x H', NmOk k x → Kp p H H' → Pl p pa H' → Q (.str x) H'
/-- a drawn window -/
def spWin (K : PySem.W.Frag) : Sp := fun vs H Q _ => ∃ (p pa : Addr) (b : Bool), vs = [.ref p, .bl b] ∧ Pl p pa H ∧ ∀ t c d H', 0 ≤ c → c < d → d ≤ 10000 → Kp p H H' → Pl p pa H' → H t = none → H' t = some (.tup [.int c, .int d]) → Q (.ref t) H'
/-- a drawn job list of at most n jobs -/
def spJobs (K : PySem.W.Frag) : Sp := fun vs H Q _ => ∃ (p pa : Addr) (n : Nat), vs = [.ref p, .int (n : Int)] ∧ Pl p pa H ∧ n ≤ 19 ∧ ∀ t xs js H', JobsOk js → js.length ≤ n → Kp p H H' → Pl p pa H' → H t = none → H' t = some (.tup xs) → IsA K H' xs (js.map dJob) → Q (.ref t) H'
theorem fresh_kp {p a : Addr} {H H' : Hp} (e : Kp p H H') (n : a ≠ p) (h : H' a = none) : H a = none := by
  cases q : H a with
  | none => rfl
  | some o =>
    rw [e a o n q] at h
    cases h
theorem Pl.at_ne {p pa q : Addr} {H : Hp} {xs : List V} (h : Pl p pa H) (hq : H q = some (.tup xs)) : q ≠ p := by
  obtain ⟨ns, i, rest, last, cnt, nn, h, _⟩ := h
  rintro rfl
  rw [h] at hq
  cases hq
/-- what is new behind a change at p is new before it -/
theorem Pl.free {p pa q : Addr} {H H' : Hp} (h : Pl p pa H') (e : Kp p H H') (hq : H' q = none) : H q = none := fresh_kp e (h.ne hq).1 hq
/-! ### the parts of a name -/
def HeadOk (x : Str) : Prop := x.cps.toList.length ≤ 3 ∧ ∀ c ∈ x.cps.toList, 117 ≤ c ∧ c ≤ 122
def TailOk (x : Str) : Prop := x.cps.toList.length ≤ 2 ∧ ∀ c ∈ x.cps.toList, 97 ≤ c ∧ c ≤ 122
theorem nm_of {k : Nat} {h t : Str} (hk : k < 20) (hh : HeadOk h) (ht : TailOk t) : NmOk k (h ++ ⟨#[97 + k]⟩ ++ t) := by
  have e : (h ++ (⟨#[97 + k]⟩ : Str) ++ t).cps.toList = h.cps.toList ++ (97 + k) :: t.cps.toList := by
    rw [str_app, str_app, List.append_assoc]
    rfl
  refine ⟨?_, ?_, ?_, ?_⟩
  · rw [e]
    have : ∀ l : List Nat, (∀ c ∈ l, 117 ≤ c ∧ c ≤ 122) → (l ++ (97 + k) :: t.cps.toList).find? (fun c => decide (c < 117)) = some (97 + k) := by
      intro l
      induction l with
      | nil =>
        intro _
        show ((97 + k) :: t.cps.toList).find? _ = _
        rw [List.find?_cons_of_pos]
        exact decide_eq_true (by omega)
      | cons c r ih =>
        intro hc
        show (c :: (r ++ (97 + k) :: t.cps.toList)).find? _ = _
        rw [List.find?_cons_of_neg]
        · exact ih fun x hx => hc x (List.mem_cons_of_mem _ hx)
        · have := hc c (List.mem_cons_self ..)
          rw [decide_eq_false (by omega)]
          decide
    exact this _ hh.2
  · rw [e, List.length_append, List.length_cons]
    have := hh.1
    have := ht.1
    omega
  · rw [e]
    intro c hc
    rcases List.mem_append.mp hc with h | h
    · have := hh.2 c h
      omega
    · rcases List.mem_cons.mp h with h | h
      · omega
      · exact ht.2 c h
  · rw [e]
    simp
theorem letters_at : ∀ k < 20, ((("abcdefghijklmnopqrst" : Str)).cps.toList)[k]? = some (97 + k) := by decide +kernel
theorem headOk0 : HeadOk (("" : Str)) := ⟨by decide +kernel, by decide +kernel⟩
theorem headOk1 : HeadOk (("u" : Str)) := ⟨by decide +kernel, by decide +kernel⟩
theorem headOk2 : HeadOk (("vw" : Str)) := ⟨by decide +kernel, by decide +kernel⟩
theorem headOk3 : HeadOk (("xyz" : Str)) := ⟨by decide +kernel, by decide +kernel⟩
theorem tailOk0 : TailOk (("" : Str)) := ⟨by decide +kernel, by decide +kernel⟩
theorem tailOk1 : TailOk (("z" : Str)) := ⟨by decide +kernel, by decide +kernel⟩
theorem tailOk2 : TailOk (("yy" : Str)) := ⟨by decide +kernel, by decide +kernel⟩
theorem head_at {r : Int} (h0 : 0 ≤ r) (h1 : r < 4) : ∃ x, atI [V.str (("" : Str)), V.str (("u" : Str)), V.str (("vw" : Str)), V.str (("xyz" : Str))] r = some (.str x) ∧ HeadOk x := by
  have : r = 0 ∨ r = 1 ∨ r = 2 ∨ r = 3 := by omega
  rcases this with rfl | rfl | rfl | rfl
  · exact ⟨_, rfl, headOk0⟩
  · exact ⟨_, rfl, headOk1⟩
  · exact ⟨_, rfl, headOk2⟩
  · exact ⟨_, rfl, headOk3⟩
theorem tail_at {r : Int} (h0 : 0 ≤ r) (h1 : r < 3) : ∃ x, atI [V.str (("" : Str)), V.str (("z" : Str)), V.str (("yy" : Str))] r = some (.str x) ∧ TailOk x := by
  have : r = 0 ∨ r = 1 ∨ r = 2 := by omega
  rcases this with rfl | rfl | rfl
  · exact ⟨_, rfl, tailOk0⟩
  · exact ⟨_, rfl, tailOk1⟩
  · exact ⟨_, rfl, tailOk2⟩
theorem IsA.push {K : PySem.W.Frag} {H : Hp} {xs : List V} {ds : List PyData} {v : V} {d : PyData} (h : IsA K H xs ds) (i : Is K H v d) : IsA K H (xs ++ [v]) (ds ++ [d]) := h.append (.cons i .nil)
theorem is_job {K : PySem.W.Frag} {H : Hp} {t : Addr} {j : Job} (h : SqT K H t [.str j.n, .int j.c, .int j.d, .int j.w]) : Is K H (.ref t) (dJob j) := .tup h (.cons (.str _) (.cons (.int _) (.cons (.int _) (.cons (.int _) .nil))))
theorem job_at {K : PySem.W.Frag} {H : Hp} {v : V} {j : Job} (h : Is K H v (dJob j)) : ∃ t, v = .ref t ∧ SqT K H t [.str j.n, .int j.c, .int j.d, .int j.w] := by
  obtain ⟨t, xs, rfl, s, a⟩ := h.tup'
  cases a with
  | cons h1 a => cases a with
    | cons h2 a => cases a with
      | cons h3 a => cases a with
        | cons h4 a =>
          cases a; cases h1; cases h2; cases h3; cases h4
          exact ⟨t, rfl, s⟩
theorem getJ {α : Type} {f : α → PyData} {qs : List α} {i : Nat} {d : PyData} (h : (qs.map f)[i]? = some d) : ∃ q, qs[i]? = some q ∧ d = f q := by
  rw [List.getElem?_map] at h
  cases hq : qs[i]? with
  | none => rw [hq] at h; cases h
  | some q => rw [hq] at h; exact ⟨q, rfl, (Option.some.inj h).symm⟩
theorem JobsOk.push {js : List Job} {j : Job} (h : JobsOk js) (hj : JobOk j) (hn : NmOk js.length j.n) : JobsOk (js ++ [j]) := by
  refine ⟨fun x hx => ?_, fun i x hx => ?_⟩
  · rcases List.mem_append.mp hx with z | z
    · exact h.ok x z
    · rw [List.mem_singleton.mp z]
      exact hj
  · by_cases hi : i < js.length
    · rw [List.getElem?_append_left hi] at hx
      exact h.nm i x hx
    · rw [List.getElem?_append_right (by omega)] at hx
      have : i - js.length = 0 := by
        cases z : i - js.length with
        | zero => rfl
        | succ n => rw [z] at hx; simp at hx
      rw [this] at hx
      have e : j = x := Option.some.inj hx
      subst e
      have : i = js.length := by omega
      rw [this]
      exact hn
theorem JobsOk.nil : JobsOk [] := ⟨fun _ h => (nomatch h), fun _ _ h => by simp at h⟩
/-- a pool and a list of data at L, all else as in H0 -/
structure LM (K : PySem.W.Frag) (p pa L : Addr) (H0 : Hp) (ds : List PyData) (H' : Hp) : Prop where
  P : Pl p pa H'
  k : Kp p H0 H'
  l : ∃ xs, H' L = some (.lst xs) ∧ IsA K H' xs ds
theorem LM.step {K : PySem.W.Frag} {p pa L : Addr} {H0 H1 H2 : Hp} {ds : List PyData} (h : LM K p pa L H0 ds H1) (n : L ≠ p) (e : Kp p H1 H2) (P2 : Pl p pa H2) : LM K p pa L H0 ds H2 := by
  obtain ⟨P, k, xs, hl, hi⟩ := h
  exact ⟨P2, k.trans e, xs, e _ _ n hl, hi.to (P.tm e)⟩
theorem LM.same {K : PySem.W.Frag} {p pa L : Addr} {H0 H1 H2 : Hp} {ds : List PyData} (h : LM K p pa L H0 ds H1) (e : Same H1 H2) : LM K p pa L H0 ds H2 := by
  obtain ⟨P, k, xs, hl, hi⟩ := h
  exact ⟨P.same e, k.trans (.of e), xs, e _ _ hl, hi.to (Same.tm e)⟩
/-- the list is stored anew -/
theorem LM.put {K : PySem.W.Frag} {p pa L : Addr} {H0 H1 : Hp} {ds es : List PyData} {ys : List V} (h : LM K p pa L H0 ds H1) (n : L ≠ p) (na : L ≠ pa) (f : H0 L = none) (hi : IsA K H1 ys es) : LM K p pa L H0 es (upd H1 L (.lst ys)) := by
  obtain ⟨P, k, xs, hl, _⟩ := h
  exact ⟨P.mut n na, k.mut f, ys, upd_same, hi.to (Tm.lst hl)⟩
theorem LM.new {K : PySem.W.Frag} {p pa L : Addr} {H0 H1 : Hp} (P : Pl p pa H1) (k : Kp p H0 H1) (f : H1 L = none) : LM K p pa L H0 [] (upd H1 L (.lst [])) :=
  ⟨P.same (same_upd f), k.trans (.new f), [], upd_same, .nil⟩
end Z

namespace Z
open PySem PySem.Spec PyProof.Rows L2
/-! ### points -/
structure PtsOk (js : List Job) (ps : List Int) : Prop where
  lt : ps.Pairwise (· < ·)
  mem : ∀ j ∈ js, j.c ∈ ps ∧ j.d ∈ ps
  bd : ∀ x ∈ ps, ∃ j ∈ js, j.c ≤ x ∧ x ≤ j.d
  len : ps.length ≤ 3 * js.length
theorem isA_ints {K : PySem.W.Frag} {H : Hp} : ∀ {ns : List Int} {xs : List V}, IsA K H xs (ns.map PyData.int) → xs = ns.map V.int
  | [], _, .nil => rfl
  | n :: ns, _, .cons h t => by
    cases h
    rw [isA_ints t]
    rfl
theorem ints_isA {K : PySem.W.Frag} {H : Hp} : ∀ (ns : List Int), IsA K H (ns.map V.int) (ns.map PyData.int)
  | [] => .nil
  | n :: ns => .cons (.int n) (ints_isA ns)
theorem inV_int (i : Int) : ∀ ns : List Int, inV (.int i) (ns.map V.int) = decide (i ∈ ns)
  | [] => by simp [inV]
  | n :: ns => by
    have h := inV_int i ns
    unfold inV at h ⊢
    rw [List.map_cons, List.any_cons, h]
    show ((n == i) || decide (i ∈ ns)) = _
    by_cases e : n = i
    · subst e; simp
    · have : (n == i) = false := by simpa using e
      rw [this]
      simp [List.mem_cons, Ne.symm e]
theorem flat_ints : ∀ ns : List Int, (ns.map V.int).all flatV = true
  | [] => rfl
  | n :: ns => by
    rw [List.map_cons, List.all_cons, flat_ints ns]
    rfl
theorem cut_take (xs : List V) (k : Nat) : cutV xs none (some (k : Int)) = xs.take k := by
  unfold cutV
  rw [HT.sIx_none, HT.sIx_nat]
  show (xs.drop 0).take (min k xs.length - 0) = _
  rw [List.drop_zero, Nat.sub_zero]
  by_cases h : k ≤ xs.length
  · rw [Nat.min_eq_left h]
  · rw [Nat.min_eq_right (by omega), List.take_length, List.take_of_length_le (by omega)]
theorem pw_lt {ps : List Int} (h : ps.Pairwise (· ≤ ·)) (nd : ps.Nodup) : ps.Pairwise (· < ·) := by
  have := List.Pairwise.and h nd
  exact this.imp fun ⟨a, b⟩ => by omega
/-- the points of a job list -/
def spPoints (K : PySem.W.Frag) : Sp := fun vs H Q _ => ∃ (p pa J : Addr) (xs : List V) (js : List Job), vs = [.ref p, .ref J] ∧ Pl p pa H ∧ SqT K H J xs ∧ IsA K H xs (js.map dJob) ∧ (∀ j ∈ js, JobOk j) ∧ js.length ≤ 19 ∧
  ∀ l ps H', PtsOk js ps → Kp p H H' → Pl p pa H' → H l = none → H' l = some (.lst (ps.map V.int)) → Q (.ref l) H'
/-! ### shares -/
def dSlot (s : Int × Int) : PyData := .tuple [.int s.1, .int s.2]
theorem slot_at {K : PySem.W.Frag} {H : Hp} {v : V} {s : Int × Int} (h : Is K H v (dSlot s)) : ∃ t, v = .ref t ∧ SqT K H t [.int s.1, .int s.2] := by
  obtain ⟨t, a, b, rfl, st, h1, h2⟩ := Is.two' h
  cases h1; cases h2
  exact ⟨t, rfl, st⟩
def mine (j : Job) (s : Int × Int) : Bool := decide (j.c ≤ s.1) && decide (s.2 ≤ j.d)
/-- the shares fs of the job j in the stretches sl -/
structure ShOk (j : Job) (sl : List (Int × Int)) (fs : List Rat) : Prop where
  len : fs.length = sl.length
  own : ∀ (x : Nat) (q : Rat) (s : Int × Int), fs[x]? = some q → sl[x]? = some s → q ≠ 0 → mine j s = true
  nn : ∀ q ∈ fs, 0 ≤ q
  wh : ∃ W : Int, 0 < W ∧ W ≤ 200 ∧ ∀ q ∈ fs, ∃ z : Int, 0 ≤ z ∧ z ≤ 30000 ∧ q * (W : Rat) = (z : Rat)
  sum : rsum fs = (j.w : Rat)
theorem ShOk.sz {j : Job} {sl : List (Int × Int)} {fs : List Rat} (h : ShOk j sl fs) : ∀ q ∈ fs, Sz 16 q := fun q hq => by
  obtain ⟨W, w0, w1, hw⟩ := h.wh
  obtain ⟨z, z0, z1, e⟩ := hw q hq
  exact sz_of_whole e (by omega) (by omega) (by omega)
theorem rsum_set : ∀ {xs : List Rat} {i : Nat} {x y : Rat}, xs[i]? = some x → rsum (xs.set i y) = rsum xs - x + y
  | [], i, x, y, h => by simp at h
  | a :: r, 0, x, y, h => by
    have e : a = x := Option.some.inj h
    subst e
    show y + rsum r = a + rsum r - a + y
    grind
  | a :: r, i + 1, x, y, h => by
    have ih := rsum_set (xs := r) (i := i) (x := x) (y := y) h
    show a + rsum (r.set i y) = a + rsum r - x + y
    rw [ih]
    grind
theorem rsum_zeros : ∀ n : Nat, rsum (List.replicate n (0 : Rat)) = 0
  | 0 => rfl
  | n + 1 => by
    show 0 + rsum (List.replicate n (0 : Rat)) = 0
    rw [rsum_zeros n]
    grind
/-- the indexes of the stretches of a job -/
def owns (j : Job) (sl : List (Int × Int)) (n : Nat) : List Nat := (List.range n).filter fun k => mine j (sl.getD k (0, 0))
theorem owns_yes {j : Job} {sl : List (Int × Int)} {n : Nat} (h : mine j (sl.getD n (0, 0)) = true) : owns j sl (n + 1) = owns j sl n ++ [n] := by
  unfold owns
  rw [List.range_succ, List.filter_append, List.filter_cons_of_pos (p := fun k => mine j (sl.getD k (0, 0))) h]
  rfl
theorem owns_no {j : Job} {sl : List (Int × Int)} {n : Nat} (h : mine j (sl.getD n (0, 0)) = false) : owns j sl (n + 1) = owns j sl n := by
  unfold owns
  rw [List.range_succ, List.filter_append, List.filter_cons_of_neg (p := fun k => mine j (sl.getD k (0, 0))) (by rw [h]; decide)]
  exact List.append_nil _
theorem owns_len (j : Job) (sl : List (Int × Int)) (n : Nat) : (owns j sl n).length ≤ n := by
  have h := List.length_filter_le (fun k => mine j (sl.getD k (0, 0))) (List.range n)
  rw [List.length_range] at h
  exact h
theorem owns_nodup (j : Job) (sl : List (Int × Int)) (n : Nat) : (owns j sl n).Nodup := List.Pairwise.filter _ List.nodup_range
theorem owns_mem {j : Job} {sl : List (Int × Int)} {n k : Nat} : k ∈ owns j sl n ↔ k < n ∧ mine j (sl.getD k (0, 0)) = true := by
  unfold owns
  rw [List.mem_filter, List.mem_range]
theorem getD_at {α : Type} {xs : List α} {i : Nat} {x d : α} (h : xs[i]? = some x) : xs.getD i d = x := by
  rw [List.getD_eq_getElem?_getD, h]
  rfl
/-- i of the weights are shared out -/
structure ShMid (j : Job) (sl : List (Int × Int)) (os : List Nat) (ws : List Int) (W : Int) (i : Nat) (fs : List Rat) : Prop where
  len : fs.length = sl.length
  own : ∀ (x : Nat) (q : Rat) (s : Int × Int), fs[x]? = some q → sl[x]? = some s → q ≠ 0 → mine j s = true
  rest : ∀ k x : Nat, i ≤ k → os[k]? = some x → fs[x]? = some 0
  wh : ∀ q ∈ fs, ∃ z : Int, 0 ≤ z ∧ z ≤ 30000 ∧ q * (W : Rat) = (z : Rat)
  sum : rsum fs * (W : Rat) = ((j.w * (ws.take i).sum : Int) : Rat)
theorem ShMid.zero {j : Job} {sl : List (Int × Int)} {os : List Nat} {ws : List Int} {W : Int} (h : ∀ x ∈ os, x < sl.length) : ShMid j sl os ws W 0 (List.replicate sl.length 0) where
  len := List.length_replicate
  own := fun x q s hq _ n => absurd (List.eq_of_mem_replicate (List.mem_of_getElem? hq)) n
  rest := fun k x _ hx => by
    rw [List.getElem?_replicate, if_pos (h x (List.mem_of_getElem? hx))]
  wh := fun q hq => ⟨0, Int.le_refl _, by decide, by rw [List.eq_of_mem_replicate hq]; grind⟩
  sum := by
    rw [rsum_zeros]
    show 0 * (W : Rat) = ((j.w * 0 : Int) : Rat)
    rw [Int.mul_zero]
    grind
theorem ShMid.next {j : Job} {sl : List (Int × Int)} {os : List Nat} {ws : List Int} {W : Int} {i x : Nat} {w : Int} {fs : List Rat} (h : ShMid j sl os ws W i fs) (hj : JobOk j) (nd : os.Nodup) (hx : os[i]? = some x) (hw : ws[i]? = some w) (w0 : 0 ≤ w) (w3 : w ≤ 3)
    (hW : 0 < W) (hm : ∀ s, sl[x]? = some s → mine j s = true) : ShMid j sl os ws W (i + 1) (fs.set x (Rat.divInt (j.w * w) W)) := by
  have hWr : (W : Rat) ≠ 0 := fun c => by
    have := Rat.intCast_eq_zero_iff.mp c
    omega
  have eq : Rat.divInt (j.w * w) W * (W : Rat) = ((j.w * w : Int) : Rat) := by
    rw [divInt_div]
    grind
  refine ⟨by rw [List.length_set]; exact h.len, fun y q s hq hs n => ?_, fun k y hk hy => ?_, fun q hq => ?_, ?_⟩
  · by_cases e : x = y
    · subst e
      exact hm s hs
    · rw [List.getElem?_set_ne e] at hq
      exact h.own y q s hq hs n
  · have e : x ≠ y := fun e => by
      subst e
      have := nd_ix nd hx hy
      omega
    rw [List.getElem?_set_ne e]
    exact h.rest k y (by omega) hy
  · rcases List.mem_or_eq_of_mem_set hq with hq | hq
    · exact h.wh q hq
    · subst hq
      have a := hj.w0
      have b := hj.w1
      refine ⟨j.w * w, Int.mul_nonneg (by omega) w0, ?_, eq⟩
      have : j.w * w ≤ 10000 * 3 := Int.mul_le_mul b w3 w0 (by decide)
      omega
  · have z := h.rest i x (Nat.le_refl _) hx
    rw [rsum_set z]
    have e2 : (ws.take (i + 1)).sum = (ws.take i).sum + w := sum_take hw
    rw [e2, Int.mul_add]
    have e3 := h.sum
    have e4 : ((j.w * (ws.take i).sum + j.w * w : Int) : Rat) = ((j.w * (ws.take i).sum : Int) : Rat) + ((j.w * w : Int) : Rat) := Rat.intCast_add _ _
    rw [e4, ← e3, ← eq]
    grind
theorem ShMid.done {j : Job} {sl : List (Int × Int)} {os : List Nat} {ws : List Int} {W : Int} {fs : List Rat} (h : ShMid j sl os ws W ws.length fs) (hW : 0 < W) (h2 : W ≤ 200) (e : ws.sum = W) : ShOk j sl fs := by
  have hWr : (W : Rat) ≠ 0 := fun c => by
    have := Rat.intCast_eq_zero_iff.mp c
    omega
  have hWp : (0 : Rat) < (W : Rat) := Rat.intCast_pos.mpr hW
  refine ⟨h.len, h.own, fun q hq => ?_, ⟨W, hW, h2, h.wh⟩, ?_⟩
  · obtain ⟨z, z0, _, e⟩ := h.wh q hq
    have z1 : (0 : Rat) ≤ (z : Rat) := Rat.intCast_nonneg.mpr z0
    have e2 : q = (z : Rat) / (W : Rat) := by
      rw [← e]
      grind
    rw [e2]
    rw [Rat.div_def]
    exact Rat.mul_nonneg z1 (Rat.le_of_lt (Rat.inv_pos.mpr hWp))
  · have e1 := h.sum
    rw [List.take_length, e, Rat.intCast_mul] at e1
    grind
theorem sum_nonneg : ∀ {ws : List Int}, (∀ w ∈ ws, 0 ≤ w) → 0 ≤ ws.sum
  | [], _ => Int.le_refl _
  | w :: ws, h => by
    have h1 := sum_nonneg (ws := ws) fun y hy => h y (List.mem_cons_of_mem _ hy)
    have h2 := h w (List.mem_cons_self ..)
    rw [List.sum_cons]
    omega
theorem sum_le3 : ∀ {ws : List Int}, (∀ w ∈ ws, w ≤ 3) → ws.sum ≤ 3 * (ws.length : Int)
  | [], _ => by show (0 : Int) ≤ 3 * ((0 : Nat) : Int); omega
  | w :: ws, h => by
    have h1 := sum_le3 (ws := ws) fun y hy => h y (List.mem_cons_of_mem _ hy)
    have h2 := h w (List.mem_cons_self ..)
    rw [List.sum_cons, List.length_cons]
    omega
def spShares (K : PySem.W.Frag) : Sp := fun vs H Q _ => ∃ (p pa S : Addr) (v : V) (sx : List V) (j : Job) (sl : List (Int × Int)), vs = [.ref p, v, .ref S] ∧ Pl p pa H ∧ Is K H v (dJob j) ∧ JobOk j ∧ H S = some (.lst sx) ∧ S ≠ p ∧ IsA K H sx (sl.map dSlot) ∧ sl.length ≤ 60 ∧
  (∃ s ∈ sl, mine j s = true) ∧ ∀ l xs fs H', ShOk j sl fs → Kp p H H' → Pl p pa H' → H l = none → H' l = some (.lst xs) → IsA K H' xs (fs.map rat2) → Q (.ref l) H'
theorem is_slots {K : PySem.W.Frag} {H : Hp} {sx : List V} {sl : List (Int × Int)} {i : Nat} (h : IsA K H sx (sl.map dSlot)) (hi : i < sl.length) : ∃ t, sx[i]? = some (.ref t) ∧ SqT K H t [.int (sl.getD i (0, 0)).1, .int (sl.getD i (0, 0)).2] := by
  have g : sl[i]? = some sl[i] := List.getElem?_eq_getElem hi
  obtain ⟨v, gv, iv⟩ := h.get (i := i) (d := dSlot sl[i]) (by rw [List.getElem?_map, g]; rfl)
  obtain ⟨t, rfl, st⟩ := slot_at iv
  rw [getD_at g]
  exact ⟨t, gv, st⟩
def vN (k : Nat) : V := .int (k : Int)
theorem le_sum : ∀ {ws : List Int} {x : Int}, (∀ w ∈ ws, 0 ≤ w) → x ∈ ws → x ≤ ws.sum
  | [], _, _, h => (nomatch h)
  | w :: ws, x, h, hx => by
    have h1 := sum_nonneg (ws := ws) fun y hy => h y (List.mem_cons_of_mem _ hy)
    have h2 := h w (List.mem_cons_self ..)
    rw [List.sum_cons]
    rcases List.mem_cons.mp hx with e | e
    · omega
    · have := le_sum (ws := ws) (fun y hy => h y (List.mem_cons_of_mem _ hy)) e
      omega
theorem ixN_of {n : Nat} {i : Int} (h0 : 0 ≤ i) (h1 : i < n) : ixN n i = some i.toNat := by
  unfold ixN
  rw [if_pos h0, if_pos h1]
end Z

namespace Z
open PySem PySem.Spec PyProof.Rows L2
/-! ### plans -/
structure Pc where
  s : Rat
  e : Rat
  n : Str
  v : Rat
def dPc (p : Pc) : PyData := .tuple [rat2 p.s, rat2 p.e, .str p.n, rat2 p.v]
def workOf (n : Str) (ps : List Pc) : Rat := rsum ((ps.filter fun p => decide (p.n = n)).map fun p => p.v * (p.e - p.s))
theorem workOf_push (n : Str) (ps : List Pc) (p : Pc) : workOf n (ps ++ [p]) = workOf n ps + (if p.n = n then p.v * (p.e - p.s) else 0) := by
  unfold workOf
  rw [List.filter_append, List.map_append, rsum_append]
  by_cases h : p.n = n
  · rw [List.filter_cons_of_pos (by exact decide_eq_true h), if_pos h]
    show _ + (p.v * (p.e - p.s) + 0) = _
    grind
  · rw [List.filter_cons_of_neg (by rw [decide_eq_false h]; decide), if_neg h]
    rfl
/-- a piece of the rival -/
structure PcOk (js : List Job) (sl : List (Int × Int)) (fss : List (List Rat)) (p : Pc) : Prop where
  at' : ∃ j ∈ js, ∃ s ∈ sl, p.n = j.n ∧ mine j s = true ∧ ((s.1 : Int) : Rat) ≤ p.s ∧ p.e ≤ ((s.2 : Int) : Rat)
  lt : p.s < p.e
  v0 : 0 < p.v
  zs : Sz 200 p.s
  ze : Sz 200 p.e
  zv : Sz 200 p.v
  vb : p.v ≤ 600000
  wk : ∃ k a : Nat, p.v * (p.e - p.s) = (fss.getD a []).getD k 0
  vk : ∃ (k : Nat) (t : Int × Int), sl[k]? = some t ∧ p.v = rsum (fss.map fun fs => fs.getD k 0) / ((t.2 - t.1 : Int) : Rat)
/-- a whole number -/
def IsI (q : Rat) : Prop := ∃ z : Int, 0 ≤ z ∧ z ≤ 100000 ∧ q = (z : Rat)
/-- one piece goes on at the speed of the one in front of it, or whole times stand between them -/
def RunR (p q : Pc) : Prop := (p.e = q.s ∧ p.v = q.v) ∨ (IsI p.e ∧ IsI q.s)
structure RunC (ps : List Pc) : Prop where
  hd : ∀ p, ps[0]? = some p → IsI p.s
  ch : ∀ (i : Nat) (p q : Pc), ps[i]? = some p → ps[i + 1]? = some q → RunR p q
/-- what stands at the end of the pieces -/
def LastP (ps : List Pc) (X : Pc → Prop) : Prop := ∀ p, ps[ps.length - 1]? = some p → X p
theorem RunC.nil : RunC [] := ⟨fun _ h => by simp at h, fun _ _ _ h => by simp at h⟩
theorem RunC.push {ps : List Pc} {q : Pc} (h : RunC ps) (h0 : ps = [] → IsI q.s) (hl : LastP ps fun p => RunR p q) : RunC (ps ++ [q]) := by
  refine ⟨fun p hp => ?_, fun i p r hp hr => ?_⟩
  · cases ps with
    | nil =>
      have : q = p := by simpa using hp
      subst this
      exact h0 rfl
    | cons a r =>
      have : a = p := by simpa using hp
      subst this
      exact h.hd a rfl
  · by_cases hi : i + 1 < ps.length
    · rw [List.getElem?_append_left (by omega)] at hp
      rw [List.getElem?_append_left hi] at hr
      exact h.ch i p r hp hr
    · have hl2 := (List.getElem?_eq_some_iff.mp hr).1
      rw [List.length_append, List.length_singleton] at hl2
      have e : ps.length = i + 1 := by omega
      rw [List.getElem?_append_left (by omega)] at hp
      rw [List.getElem?_append_right (by omega), show i + 1 - ps.length = 0 by omega] at hr
      have er : q = r := by simpa using hr
      subst er
      exact hl p (by rw [e]; exact hp)
theorem lastP_push {ps : List Pc} {q : Pc} {X : Pc → Prop} (h : X q) : LastP (ps ++ [q]) X := fun p hp => by
  rw [List.length_append, List.length_singleton, Nat.add_sub_cancel, List.getElem?_append_right (Nat.le_refl _), Nat.sub_self] at hp
  have e : q = p := by simpa using hp
  subst e
  exact h
structure SlOk (sl : List (Int × Int)) : Prop where
  bd : ∀ s ∈ sl, 0 ≤ s.1 ∧ s.1 < s.2 ∧ s.2 ≤ 10000
  pw : sl.Pairwise fun s t => s.2 ≤ t.1
structure RHyp (js : List Job) (sl : List (Int × Int)) (fss : List (List Rat)) : Prop where
  jok : JobsOk js
  nj : js.length ≤ 19
  sok : SlOk sl
  len : fss.length = js.length
  sh : ∀ (a : Nat) (j : Job) (fs : List Rat), js[a]? = some j → fss[a]? = some fs → ShOk j sl fs
def col (fss : List (List Rat)) (k a : Nat) : Rat := (fss.getD a []).getD k 0
def load (fss : List (List Rat)) (k : Nat) : Rat := rsum (fss.map fun fs => fs.getD k 0)
theorem cols_range (fss : List (List Rat)) (k : Nat) : (List.range fss.length).map (col fss k) = fss.map fun fs => fs.getD k 0 := by
  apply List.ext_getElem?
  intro i
  rw [List.getElem?_map, List.getElem?_map]
  by_cases h : i < fss.length
  · rw [List.getElem?_range h, List.getElem?_eq_getElem h]
    show some ((fss.getD i []).getD k 0) = _
    rw [getD_at (List.getElem?_eq_getElem h)]
    rfl
  · rw [List.getElem?_eq_none (by rw [List.length_range]; omega), List.getElem?_eq_none (by omega)]
    rfl
theorem rot_load (fss : List (List Rat)) (k : Nat) {s : Nat} (h : s ≤ fss.length) : rsum ((rot s fss.length).map (col fss k)) = load fss k := by
  rw [rsum_perm ((rot_perm h).map _), cols_range]
  rfl
section
variable {js : List Job} {sl : List (Int × Int)} {fss : List (List Rat)}
theorem RHyp.col0 (h : RHyp js sl fss) (k a : Nat) : 0 ≤ col fss k a := by
  unfold col
  by_cases ha : a < fss.length
  · have g := List.getElem?_eq_getElem ha
    rw [getD_at g]
    by_cases hk : k < (fss[a]).length
    · rw [getD_at (List.getElem?_eq_getElem hk)]
      have hj : js[a]? = some (js[a]'(by have := h.len; omega)) := List.getElem?_eq_getElem _
      exact (h.sh a _ _ hj g).nn _ (List.getElem_mem hk)
    · rw [List.getD_eq_getElem?_getD, List.getElem?_eq_none (by omega)]
      show (0 : Rat) ≤ 0
      grind
  · have e : fss.getD a [] = [] := by
      rw [List.getD_eq_getElem?_getD, List.getElem?_eq_none (by omega)]
      rfl
    rw [e]
    show (0 : Rat) ≤ 0
    grind
/-- one number with which all shares become whole -/
theorem whole_all : ∀ {fss : List (List Rat)}, (∀ fs ∈ fss, ∃ W : Int, 0 < W ∧ W ≤ 200 ∧ ∀ q ∈ fs, ∃ z : Int, 0 ≤ z ∧ z ≤ 30000 ∧ q * (W : Rat) = (z : Rat)) →
    ∃ D : Int, 0 < D ∧ D ≤ 200 ^ fss.length ∧ ∀ fs ∈ fss, ∀ q ∈ fs, ∃ z : Int, 0 ≤ z ∧ z ≤ 30000 * D ∧ q * (D : Rat) = (z : Rat)
  | [], _ => ⟨1, by decide, by decide, fun _ h => (nomatch h)⟩
  | fs :: r, h => by
    obtain ⟨D, d0, d1, hD⟩ := whole_all (fss := r) fun x hx => h x (List.mem_cons_of_mem _ hx)
    obtain ⟨W, w0, w1, hW⟩ := h fs (List.mem_cons_self ..)
    have wd : 0 < W * D := Int.mul_pos w0 d0
    have dle : D ≤ W * D := by
      have : 1 * D ≤ W * D := Int.mul_le_mul_of_nonneg_right (by omega) (by omega)
      omega
    refine ⟨W * D, wd, ?_, fun x hx q hq => ?_⟩
    · rw [List.length_cons, Int.pow_succ, Int.mul_comm]
      exact Int.mul_le_mul d1 w1 (by omega) (Int.pow_nonneg (by decide))
    · rw [Rat.intCast_mul]
      rcases List.mem_cons.mp hx with e | hx
      · subst e
        obtain ⟨z, z0, z1, e⟩ := hW q hq
        refine ⟨z * D, Int.mul_nonneg z0 (by omega), ?_, by rw [Rat.intCast_mul, ← e]; grind⟩
        refine Int.le_trans (Int.mul_le_mul_of_nonneg_right z1 (by omega)) ?_
        omega
      · obtain ⟨z, z0, z1, e⟩ := hD x hx q hq
        refine ⟨W * z, Int.mul_nonneg (by omega) z0, ?_, by rw [Rat.intCast_mul, ← e]; grind⟩
        have := Int.mul_le_mul_of_nonneg_left z1 (show 0 ≤ W by omega)
        rw [show W * (30000 * D) = 30000 * (W * D) by rw [← Int.mul_assoc, Int.mul_comm W 30000, Int.mul_assoc]] at this
        exact this
/-- a sum of such numbers -/
theorem whole_sum {D : Int} (d0 : 0 < D) : ∀ {qs : List Rat}, (∀ q ∈ qs, ∃ z : Int, 0 ≤ z ∧ z ≤ 30000 * D ∧ q * (D : Rat) = (z : Rat)) → ∃ z : Int, 0 ≤ z ∧ z ≤ 30000 * D * (qs.length : Int) ∧ rsum qs * (D : Rat) = (z : Rat)
  | [], _ => ⟨0, Int.le_refl _, by simp, by show 0 * (D : Rat) = 0; grind⟩
  | q :: r, h => by
    obtain ⟨z, z0, z1, e⟩ := whole_sum d0 (qs := r) fun x hx => h x (List.mem_cons_of_mem _ hx)
    obtain ⟨y, y0, y1, e2⟩ := h q (List.mem_cons_self ..)
    refine ⟨y + z, by omega, ?_, ?_⟩
    · rw [List.length_cons]
      have : 30000 * D * ((r.length + 1 : Nat) : Int) = 30000 * D * (r.length : Int) + 30000 * D := by
        rw [Int.natCast_add, Int.mul_add]
        omega
      omega
    · rw [Rat.intCast_add, ← e, ← e2]
      show (q + rsum r) * (D : Rat) = _
      grind
end

/-! ### a slot gone through -/
section
variable {js : List Job} {sl : List (Int × Int)} {fss : List (List Rat)}
/-- behind the first k slots -/
structure OutMid (js : List Job) (sl : List (Int × Int)) (fss : List (List Rat)) (k : Nat) (ps : List Pc) : Prop where
  A : ∀ p ∈ ps, PcOk js sl fss p
  B : ps.Pairwise fun p q => p.e ≤ q.s
  C : ∀ p ∈ ps, ∀ (i : Nat) (s : Int × Int), k ≤ i → sl[i]? = some s → p.e ≤ ((s.1 : Int) : Rat)
  D : ∀ (a : Nat) (j : Job) (fs : List Rat), js[a]? = some j → fss[a]? = some fs → workOf j.n ps = rsum (fs.take k)
  R : RunC ps
  Q : LastP ps fun p => IsI p.e
/-- within the slot k from lo to hi, behind the first i of the order -/
structure InMid (js : List Job) (sl : List (Int × Int)) (fss : List (List Rat)) (k : Nat) (lo hi : Int) (od : List Nat) (i : Nat) (now : Rat) (ps : List Pc) : Prop where
  A : ∀ p ∈ ps, PcOk js sl fss p
  B : ps.Pairwise fun p q => p.e ≤ q.s
  C : ∀ p ∈ ps, p.e ≤ now
  D : ∀ (a : Nat) (j : Job) (fs : List Rat), js[a]? = some j → fss[a]? = some fs → workOf j.n ps = rsum (fs.take k) + (if a ∈ od.take i then col fss k a else 0)
  N : now * load fss k = (lo : Rat) * load fss k + ((hi - lo : Int) : Rat) * rsum ((od.take i).map (col fss k))
  Z : load fss k = 0 → now = (lo : Rat)
  R : RunC ps
  Q : LastP ps fun p => (p.e = now ∧ p.v = load fss k / ((hi - lo : Int) : Rat)) ∨ (IsI p.e ∧ now = (lo : Rat))
  Q0 : ps = [] → now = (lo : Rat)
theorem OutMid.zero : OutMid js sl fss 0 [] :=
  ⟨fun _ h => (nomatch h), .nil, fun _ h => (nomatch h), fun _ _ fs _ _ => by show (0 : Rat) = rsum (fs.take 0); rfl, .nil, fun _ h => by simp at h⟩
theorem OutMid.start {k : Nat} {lo hi : Int} {ps : List Pc} {od : List Nat} (h : OutMid js sl fss k ps) (hs : sl[k]? = some (lo, hi)) : InMid js sl fss k lo hi od 0 (lo : Rat) ps where
  A := h.A
  B := h.B
  C := fun p hp => h.C p hp k (lo, hi) (Nat.le_refl _) hs
  D := fun a j fs hj hf => by
    rw [h.D a j fs hj hf, List.take_zero, if_neg (by simp)]
    grind
  N := by
    rw [List.take_zero]
    show _ = _ + _ * (0 : Rat)
    grind
  Z := fun _ => rfl
  R := h.R
  Q := fun p hp => .inr ⟨h.Q p hp, rfl⟩
  Q0 := fun _ => rfl
theorem load0 (H : RHyp js sl fss) {k a : Nat} (ha : a < fss.length) : col fss k a ≤ load fss k := by
  have e : load fss k = rsum ((List.range fss.length).map (col fss k)) := by rw [cols_range]; rfl
  rw [e]
  have g : ((List.range fss.length).map (col fss k))[a]? = some (col fss k a) := by
    rw [List.getElem?_map, List.getElem?_range ha]
    rfl
  have nn : ∀ x ∈ (List.range fss.length).map (col fss k), (0 : Rat) ≤ x := fun x hx => by
    obtain ⟨b, _, rfl⟩ := List.mem_map.mp hx
    exact H.col0 k b
  have h1 := rsum_take g
  have h2 := rsum_take_le nn (a + 1)
  have h3 := rsum_nonneg (xs := ((List.range fss.length).map (col fss k)).take a) fun x hx => nn x (List.mem_of_mem_take hx)
  grind
theorem loadnn (H : RHyp js sl fss) (k : Nat) : 0 ≤ load fss k := by
  unfold load
  rw [← cols_range]
  exact rsum_nonneg fun x hx => by
    obtain ⟨b, _, rfl⟩ := List.mem_map.mp hx
    exact H.col0 k b
theorem InMid.skip {k i a : Nat} {lo hi : Int} {od : List Nat} {now : Rat} {ps : List Pc} (h : InMid js sl fss k lo hi od i now ps) (ha : od[i]? = some a) (hc : col fss k a = 0) : InMid js sl fss k lo hi od (i + 1) now ps where
  A := h.A
  B := h.B
  C := h.C
  D := fun b j fs hj hf => by
    rw [h.D b j fs hj hf, List.take_add_one, ha]
    by_cases e : b = a
    · subst e
      rw [hc]
      simp
    · congr 1
      have : b ∈ od.take i ++ (some a).toList ↔ b ∈ od.take i := by simp [e]
      simp only [this]
  N := by
    rw [h.N, List.take_add_one, ha]
    show _ = _ + _ * rsum ((od.take i ++ [a]).map (col fss k))
    rw [List.map_append, rsum_append]
    show _ = _ + _ * (_ + (col fss k a + 0))
    rw [hc]
    grind
  Z := h.Z
  R := h.R
  Q := h.Q
  Q0 := h.Q0
end
section
variable {js : List Job} {sl : List (Int × Int)} {fss : List (List Rat)}
theorem col_whole {D : Int} (hD : ∀ fs ∈ fss, ∀ q ∈ fs, ∃ z : Int, 0 ≤ z ∧ z ≤ 30000 * D ∧ q * (D : Rat) = (z : Rat)) (d0 : 0 < D) (k a : Nat) : ∃ z : Int, 0 ≤ z ∧ z ≤ 30000 * D ∧ col fss k a * (D : Rat) = (z : Rat) := by
  have zero : ∃ z : Int, 0 ≤ z ∧ z ≤ 30000 * D ∧ (0 : Rat) * (D : Rat) = (z : Rat) := ⟨0, Int.le_refl _, by omega, by grind⟩
  unfold col
  by_cases ha : a < fss.length
  · rw [getD_at (List.getElem?_eq_getElem ha)]
    by_cases hk : k < (fss[a]).length
    · rw [getD_at (List.getElem?_eq_getElem hk)]
      exact hD _ (List.getElem_mem ha) _ (List.getElem_mem hk)
    · have e : (fss[a]).getD k 0 = 0 := by
        rw [List.getD_eq_getElem?_getD, List.getElem?_eq_none (by omega)]
        rfl
      rw [e]
      exact zero
  · have e : fss.getD a [] = [] := by
      rw [List.getD_eq_getElem?_getD, List.getElem?_eq_none (by omega)]
      rfl
    rw [e]
    exact zero
/-- all times and speeds are small -/
theorem RHyp.small (H : RHyp js sl fss) : ∃ D : Int, 0 < D ∧ D ≤ 200 ^ 19 ∧ ∀ (k : Nat) (as : List Nat), ∃ z : Int, 0 ≤ z ∧ z ≤ 30000 * D * (as.length : Int) ∧ rsum (as.map (col fss k)) * (D : Rat) = (z : Rat) := by
  obtain ⟨D, d0, d1, hD⟩ := whole_all (fss := fss) fun fs hfs => by
    obtain ⟨a, ha⟩ := List.getElem?_of_mem hfs
    have hl := (List.getElem?_eq_some_iff.mp ha).1
    exact (H.sh a _ fs (List.getElem?_eq_getElem (by have := H.len; omega)) ha).wh
  refine ⟨D, d0, Int.le_trans d1 ?_, fun k as => ?_⟩
  · have : fss.length ≤ 19 := by have := H.len; have := H.nj; omega
    have h2 : (200 : Nat) ^ fss.length ≤ 200 ^ 19 := Nat.pow_le_pow_right (by decide) this
    have e1 : ((200 : Int) ^ fss.length) = (((200 : Nat) ^ fss.length : Nat) : Int) := by rw [Int.natCast_pow]; rfl
    have e2 : ((200 : Int) ^ 19) = (((200 : Nat) ^ 19 : Nat) : Int) := by decide +kernel
    rw [e1, e2]
    exact Int.ofNat_le.mpr h2
  · have h := whole_sum d0 (qs := as.map (col fss k)) fun q hq => by
      obtain ⟨a, _, rfl⟩ := List.mem_map.mp hq
      exact col_whole hD d0 k a
    rw [List.length_map] at h
    exact h
theorem p19 : ((200 : Int) ^ 19) < 2 ^ 146 := by decide +kernel
theorem szV (H : RHyp js sl fss) (k : Nat) {h : Int} (h0 : 0 < h) (h1 : h ≤ 10000) : Sz 200 (load fss k / (h : Rat)) := by
  obtain ⟨D, d0, d1, hD⟩ := H.small
  obtain ⟨z, z0, z1, e⟩ := hD k (List.range fss.length)
  rw [cols_range, List.length_range] at *
  have e' : load fss k * (D : Rat) = (z : Rat) := e
  have hh : (h : Rat) ≠ 0 := fun c => by
    have := Rat.intCast_eq_zero_iff.mp c
    omega
  have key : load fss k / (h : Rat) * ((D * h : Int) : Rat) = (z : Rat) := by
    rw [Rat.intCast_mul, ← e']
    grind
  have pp := p19
  have l19 : (fss.length : Int) ≤ 19 := by have := H.len; have := H.nj; omega
  have dh : D * h ≤ 2 ^ 146 * 10000 := Int.mul_le_mul (by omega) h1 (by omega) (by decide)
  have dh0 : 0 < D * h := Int.mul_pos d0 h0
  have zz : z ≤ 30000 * 2 ^ 146 * 19 := Int.le_trans z1 (Int.mul_le_mul (by omega) l19 (by omega) (by decide))
  refine sz_of_whole key (by omega) ?_ ?_
  · have : (2 : Nat) ^ 146 * 10000 < 2 ^ 200 := by decide +kernel
    omega
  · have : (30000 * 2 ^ 146 * 19 : Nat) < 2 ^ 200 := by decide +kernel
    omega
theorem szN (H : RHyp js sl fss) (k : Nat) {lo h : Int} {as : List Nat} {now : Rat} (la : as.length ≤ 19) (lo0 : 0 ≤ lo) (lo1 : lo ≤ 10000) (h0 : 0 < h) (h1 : h ≤ 10000) (hL : 0 < load fss k) (e : now * load fss k = (lo : Rat) * load fss k + (h : Rat) * rsum (as.map (col fss k))) : Sz 200 now := by
  obtain ⟨D, d0, d1, hD⟩ := H.small
  obtain ⟨z, z0, z1, ez⟩ := hD k (List.range fss.length)
  obtain ⟨t, t0, t1, et⟩ := hD k as
  rw [cols_range, List.length_range] at *
  have ez' : load fss k * (D : Rat) = (z : Rat) := ez
  have dr : (0 : Rat) < (D : Rat) := Rat.intCast_pos.mpr d0
  have zpos : 0 < z := by
    have : (0 : Rat) < (z : Rat) := by rw [← ez']; exact Rat.mul_pos hL dr
    exact Rat.intCast_pos.mp this
  have key : now * (z : Rat) = ((lo * z + h * t : Int) : Rat) := by
    rw [Rat.intCast_add, Rat.intCast_mul, Rat.intCast_mul, ← ez', ← et]
    grind
  have pp := p19
  have l19 : (fss.length : Int) ≤ 19 := by have := H.len; have := H.nj; omega
  have la' : (as.length : Int) ≤ 19 := by omega
  have zz : z ≤ 30000 * 2 ^ 146 * 19 := Int.le_trans z1 (Int.mul_le_mul (by omega) l19 (by omega) (by decide))
  have tt : t ≤ 30000 * 2 ^ 146 * 19 := Int.le_trans t1 (Int.mul_le_mul (by omega) la' (by omega) (by decide))
  have b1 : lo * z ≤ 10000 * (30000 * 2 ^ 146 * 19) := Int.mul_le_mul lo1 zz (by omega) (by decide)
  have b2 : h * t ≤ 10000 * (30000 * 2 ^ 146 * 19) := Int.mul_le_mul h1 tt t0 (by decide)
  have b3 : 0 ≤ lo * z := Int.mul_nonneg lo0 (by omega)
  have b4 : 0 ≤ h * t := Int.mul_nonneg (by omega) t0
  have big : (20000 * (30000 * 2 ^ 146 * 19) : Nat) < 2 ^ 200 := by decide +kernel
  refine sz_of_whole key (by omega) (by omega) (by omega)
theorem load_le (H : RHyp js sl fss) (k : Nat) : load fss k ≤ 570000 := by
  obtain ⟨D, d0, d1, hD⟩ := H.small
  obtain ⟨z, z0, z1, e⟩ := hD k (List.range fss.length)
  rw [cols_range, List.length_range] at *
  have e' : load fss k * (D : Rat) = (z : Rat) := e
  have dr : (0 : Rat) < (D : Rat) := Rat.intCast_pos.mpr d0
  have l19 : (fss.length : Int) ≤ 19 := by have := H.len; have := H.nj; omega
  have zz : z ≤ 570000 * D := by
    have h1 : 30000 * D * (fss.length : Int) ≤ 30000 * D * 19 := Int.mul_le_mul_of_nonneg_left l19 (by omega)
    omega
  have c : (z : Rat) ≤ ((570000 * D : Int) : Rat) := Rat.intCast_le_intCast.mpr zz
  rw [Rat.intCast_mul, ← e'] at c
  exact Rat.le_of_mul_le_mul_right c dr
theorem InMid.add (H : RHyp js sl fss) {k i a s : Nat} {lo hi : Int} {now : Rat} {ps : List Pc} {j : Job} {fs : List Rat} (h : InMid js sl fss k lo hi (rot s fss.length) i now ps) (hs0 : s ≤ fss.length) (ha : (rot s fss.length)[i]? = some a) (hj : js[a]? = some j) (hf : fss[a]? = some fs)
    (hs : sl[k]? = some (lo, hi)) (hc : 0 < col fss k a) :
    0 < load fss k / ((hi - lo : Int) : Rat) ∧ Sz 200 (load fss k / ((hi - lo : Int) : Rat)) ∧ Sz 16 (col fss k a) ∧ Sz 200 now ∧
    InMid js sl fss k lo hi (rot s fss.length) (i + 1) (now + col fss k a / (load fss k / ((hi - lo : Int) : Rat))) (ps ++ [⟨now, now + col fss k a / (load fss k / ((hi - lo : Int) : Rat)), j.n, load fss k / ((hi - lo : Int) : Rat)⟩]) := by
  have bs := H.sok.bd _ (List.mem_of_getElem? hs)
  have hl0 : 0 < hi - lo := by have := bs.2.1; simp only at this; omega
  have hl1 : hi - lo ≤ 10000 := by have := bs.2.2; have := bs.1; simp only at *; omega
  have al : a < fss.length := (List.getElem?_eq_some_iff.mp hf).1
  have L0 := load0 H (k := k) al
  have Lp : 0 < load fss k := by grind
  have il : i < (rot s fss.length).length := (List.getElem?_eq_some_iff.mp ha).1
  rw [rot_len hs0] at il
  have nl : fss.length ≤ 19 := by have := H.len; have := H.nj; omega
  have hr : (0 : Rat) < ((hi - lo : Int) : Rat) := Rat.intCast_pos.mpr hl0
  generalize hd : ((hi - lo : Int) : Rat) = d at *
  have vp : 0 < load fss k / d := by
    rw [Rat.div_def]
    exact Rat.mul_pos Lp (Rat.inv_pos.mpr hr)
  have zv : Sz 200 (load fss k / d) := by rw [← hd]; exact szV H k hl0 hl1
  have ec : col fss k a / (load fss k / d) = col fss k a * d / load fss k := by grind
  have ecp : 0 < col fss k a / (load fss k / d) := by
    rw [Rat.div_def]
    exact Rat.mul_pos hc (Rat.inv_pos.mpr vp)
  have nod : (rot s fss.length).Nodup := (rot_perm hs0).nodup_iff.mpr List.nodup_range
  have anot : a ∉ (rot s fss.length).take i := fun hm => by
    obtain ⟨x, hx⟩ := List.getElem?_of_mem hm
    have xl := (List.getElem?_eq_some_iff.mp hx).1
    rw [List.length_take] at xl
    rw [List.getElem?_take_of_lt (by omega)] at hx
    have := nd_ix nod hx ha
    omega
  have et : (rot s fss.length).take (i + 1) = (rot s fss.length).take i ++ [a] := by rw [List.take_add_one, ha]; rfl
  have es : rsum (((rot s fss.length).take (i + 1)).map (col fss k)) = rsum (((rot s fss.length).take i).map (col fss k)) + col fss k a := by
    rw [et, List.map_append, rsum_append]
    show _ + (col fss k a + 0) = _
    grind
  have nnc : ∀ x ∈ (rot s fss.length).map (col fss k), (0 : Rat) ≤ x := fun x hx => by
    obtain ⟨b, _, rfl⟩ := List.mem_map.mp hx
    exact H.col0 k b
  have le1 : rsum (((rot s fss.length).take (i + 1)).map (col fss k)) ≤ load fss k := by
    rw [← rot_load fss k hs0, List.map_take]
    exact rsum_take_le nnc (i + 1)
  have ge0 : 0 ≤ rsum (((rot s fss.length).take i).map (col fss k)) := by
    rw [List.map_take]
    exact rsum_nonneg fun x hx => nnc x (List.mem_of_mem_take hx)
  have N := h.N
  rw [hd] at N
  have N' : (now + col fss k a / (load fss k / d)) * load fss k = (lo : Rat) * load fss k + d * rsum (((rot s fss.length).take (i + 1)).map (col fss k)) := by
    rw [es, ec]
    grind
  have zs : Sz 200 now := szN H k (as := (rot s fss.length).take i) (h := hi - lo) (by rw [List.length_take, rot_len hs0]; omega) bs.1 (by have := bs.2.2; have := bs.2.1; simp only at *; omega) hl0 hl1 Lp (by rw [hd]; exact N)
  have ze : Sz 200 (now + col fss k a / (load fss k / d)) := szN H k (as := (rot s fss.length).take (i + 1)) (h := hi - lo) (by rw [List.length_take, rot_len hs0]; omega) bs.1 (by have := bs.2.2; have := bs.2.1; simp only at *; omega) hl0 hl1 Lp (by rw [hd]; exact N')
  have sh := H.sh a j fs hj hf
  have kl : k < sl.length := (List.getElem?_eq_some_iff.mp hs).1
  have gk : fs[k]? = some (col fss k a) := by
    have g := List.getElem?_eq_getElem (l := fs) (i := k) (by rw [sh.len]; exact kl)
    rw [g]
    unfold col
    rw [getD_at hf, getD_at g]
  have zc : Sz 16 (col fss k a) := sh.sz _ (List.mem_of_getElem? gk)
  have hm : mine j (lo, hi) = true := sh.own k _ _ gk hs (by grind)
  have low : (lo : Rat) ≤ now := by
    have m : (lo : Rat) * load fss k ≤ now * load fss k := by
      have := Rat.mul_nonneg (Rat.le_of_lt hr) ge0
      grind
    exact Rat.le_of_mul_le_mul_right m Lp
  have hid : (hi : Rat) = (lo : Rat) + d := by
    rw [← hd, Rat.intCast_sub]
    grind
  have high : now + col fss k a / (load fss k / d) ≤ (hi : Rat) := by
    have m : (now + col fss k a / (load fss k / d)) * load fss k ≤ (hi : Rat) * load fss k := by
      have := Rat.mul_le_mul_of_nonneg_left le1 (Rat.le_of_lt hr)
      rw [N', hid]
      grind
    exact Rat.le_of_mul_le_mul_right m Lp
  have ilo : IsI (lo : Rat) := ⟨lo, bs.1, by have := bs.2.2; have := bs.2.1; simp only at *; omega, rfl⟩
  refine ⟨vp, zv, zc, zs, ?_, ?_, ?_, ?_, ?_, ?_, ?_, ?_, ?_⟩
  · intro p hp
    rcases List.mem_append.mp hp with hp | hp
    · exact h.A p hp
    · rw [List.mem_singleton.mp hp]
      refine ⟨⟨j, List.mem_of_getElem? hj, (lo, hi), List.mem_of_getElem? hs, rfl, hm, low, high⟩, by show now < now + _; grind, vp, zs, ze, zv, ?_, ⟨k, a, ?_⟩, ⟨k, (lo, hi), hs, by show load fss k / d = load fss k / ((hi - lo : Int) : Rat); rw [hd]⟩⟩
      · have ll := load_le H k
        have d1 : (1 : Rat) ≤ d := by
          rw [← hd]
          exact Rat.intCast_le_intCast.mpr (show (1 : Int) ≤ hi - lo by omega)
        have m : load fss k / d * 1 ≤ load fss k / d * d := Rat.mul_le_mul_of_nonneg_left d1 (Rat.le_of_lt vp)
        have e : load fss k / d * d = load fss k := by grind
        show load fss k / d ≤ 600000
        grind
      · show load fss k / d * (now + col fss k a / (load fss k / d) - now) = col fss k a
        grind
  · rw [List.pairwise_append]
    refine ⟨h.B, List.pairwise_singleton _ _, fun p hp q hq => ?_⟩
    rw [List.mem_singleton.mp hq]
    exact h.C p hp
  · intro p hp
    rcases List.mem_append.mp hp with hp | hp
    · have := h.C p hp
      grind
    · rw [List.mem_singleton.mp hp]
      exact Rat.le_refl
  · intro b j' fs' hj' hf'
    rw [workOf_push, h.D b j' fs' hj' hf', et]
    by_cases e : b = a
    · subst e
      rw [hj] at hj'
      cases hj'
      rw [if_neg anot, if_pos rfl, if_pos (by simp)]
      show _ + 0 + load fss k / d * (now + col fss k b / (load fss k / d) - now) = _
      grind
    · have nm : ¬ j.n = j'.n := fun z => by
        have h1 := H.jok.nm a j hj
        rw [z] at h1
        exact e ((H.jok.nm b j' hj').inj h1)
      have : b ∈ (rot s fss.length).take i ++ [a] ↔ b ∈ (rot s fss.length).take i := by simp [e]
      simp only [this]
      rw [if_neg nm]
      grind
  · rw [hd]
    exact N'
  · intro z
    grind
  · refine h.R.push (fun z => ?_) fun p hp => ?_
    · show IsI now
      rw [h.Q0 z]
      exact ilo
    · rcases h.Q p hp with ⟨z1, z2⟩ | ⟨z1, z2⟩
      · refine .inl ⟨z1, ?_⟩
        rw [hd] at z2
        exact z2
      · refine .inr ⟨z1, ?_⟩
        show IsI now
        rw [z2]
        exact ilo
  · refine lastP_push (.inl ⟨rfl, ?_⟩)
    show load fss k / d = load fss k / ((hi - lo : Int) : Rat)
    rw [hd]
  · intro z
    simp at z
theorem InMid.finish (H : RHyp js sl fss) {k s : Nat} {lo hi : Int} {now : Rat} {ps : List Pc} (h : InMid js sl fss k lo hi (rot s fss.length) fss.length now ps) (hs0 : s ≤ fss.length) (hs : sl[k]? = some (lo, hi)) : OutMid js sl fss (k + 1) ps := by
  have bs := H.sok.bd _ (List.mem_of_getElem? hs)
  have N := h.N
  have lhi : (lo : Rat) ≤ (hi : Rat) := by
    have := bs.2.1
    exact Rat.intCast_le_intCast.mpr (by simp only at this; omega)
  rw [List.take_of_length_le (by rw [rot_len hs0]; exact Nat.le_refl _), rot_load fss k hs0] at N
  have bs1 : 0 ≤ lo := bs.1
  have bs2 : lo < hi := bs.2.1
  have bs3 : hi ≤ 10000 := bs.2.2
  have nh2 : now ≤ (hi : Rat) ∧ IsI now := by
    by_cases z : load fss k = 0
    · rw [h.Z z]
      exact ⟨lhi, lo, bs1, by omega, rfl⟩
    · rw [Rat.intCast_sub] at N
      have : now = (hi : Rat) := by grind
      rw [this]
      exact ⟨Rat.le_refl, hi, by omega, by omega, rfl⟩
  have nh := nh2.1
  refine ⟨h.A, h.B, fun p hp i t hi2 ht => ?_, fun a j fs hj hf => ?_, h.R, fun p hp => ?_⟩
  · have c := h.C p hp
    have pw := H.sok.pw
    have : ((lo, hi) : Int × Int).2 ≤ t.1 := by
      have hil := (List.getElem?_eq_some_iff.mp ht)
      have hkl := (List.getElem?_eq_some_iff.mp hs)
      obtain ⟨h1, e1⟩ := hil
      obtain ⟨h2, e2⟩ := hkl
      have := List.pairwise_iff_getElem.mp pw k i h2 h1 (by omega)
      rw [e1, e2] at this
      exact this
    have r : (hi : Rat) ≤ (t.1 : Rat) := Rat.intCast_le_intCast.mpr this
    grind
  · rw [h.D a j fs hj hf]
    have al : a < fss.length := (List.getElem?_eq_some_iff.mp hf).1
    have am : a ∈ (rot s fss.length).take fss.length := by
      rw [List.take_of_length_le (by rw [rot_len hs0]; exact Nat.le_refl _)]
      exact ((rot_perm hs0).mem_iff).mpr (List.mem_range.mpr al)
    rw [if_pos am]
    have sh := H.sh a j fs hj hf
    have kl : k < sl.length := (List.getElem?_eq_some_iff.mp hs).1
    have gk : fs[k]? = some (col fss k a) := by
      have g := List.getElem?_eq_getElem (l := fs) (i := k) (by rw [sh.len]; exact kl)
      rw [g]
      unfold col
      rw [getD_at hf, getD_at g]
    rw [rsum_take gk]
  · rcases h.Q p hp with ⟨z1, _⟩ | ⟨z1, _⟩
    · rw [z1]
      exact nh2.2
    · exact z1
/-- the product of the lengths of the slots -/
def lens : List (Int × Int) → Int
  | [] => 1
  | t :: r => (t.2 - t.1) * lens r
theorem lens_ok : ∀ {sl : List (Int × Int)}, (∀ s ∈ sl, 0 ≤ s.1 ∧ s.1 < s.2 ∧ s.2 ≤ 10000) → 0 < lens sl ∧ lens sl ≤ 10000 ^ sl.length ∧ ∀ t ∈ sl, ∃ m : Int, lens sl = (t.2 - t.1) * m
  | [], _ => ⟨by decide, by decide, fun _ h => (nomatch h)⟩
  | t :: r, h => by
    obtain ⟨a, b, c⟩ := lens_ok (sl := r) fun s hs => h s (List.mem_cons_of_mem _ hs)
    have ht := h t (List.mem_cons_self ..)
    refine ⟨Int.mul_pos (by omega) a, ?_, fun u hu => ?_⟩
    · show (t.2 - t.1) * lens r ≤ _
      rw [List.length_cons, Int.pow_succ, Int.mul_comm]
      exact Int.mul_le_mul b (by omega) (by omega) (Int.pow_nonneg (by decide))
    · rcases List.mem_cons.mp hu with rfl | hu
      · exact ⟨_, rfl⟩
      · obtain ⟨m, e⟩ := c u hu
        refine ⟨(t.2 - t.1) * m, ?_⟩
        show (t.2 - t.1) * lens r = _
        rw [e]
        grind
/-- the rival as it is made -/
structure RivOk (js : List Job) (ps : List Pc) : Prop where
  pc : ∀ p ∈ ps, p.s < p.e ∧ 0 < p.v ∧ Sz 200 p.s ∧ Sz 200 p.e ∧ Sz 200 p.v ∧ ∃ j ∈ js, p.n = j.n ∧ ((j.c : Int) : Rat) ≤ p.s ∧ p.e ≤ ((j.d : Int) : Rat)
  ord : ps.Pairwise fun p q => p.e ≤ q.s
  work : ∀ j ∈ js, workOf j.n ps = (j.w : Rat)
  vb : ∀ p ∈ ps, p.v ≤ 600000
  wh : ∃ D : Int, 0 < D ∧ D ≤ 200 ^ 19 ∧ ∀ p ∈ ps, ∃ z : Int, p.v * (p.e - p.s) * (D : Rat) = (z : Rat)
  run : RunC ps
  re : LastP ps fun p => IsI p.e
  ve : ∃ E : Int, 0 < E ∧ E ≤ 2 ^ 950 ∧ ∀ p ∈ ps, ∃ z : Int, p.v * (E : Rat) = (z : Rat)
theorem p950 : ((200 : Int) ^ 19) * 10000 ^ 60 ≤ 2 ^ 950 := by decide +kernel
theorem OutMid.done (H : RHyp js sl fss) (hsl : sl.length ≤ 60) {ps : List Pc} (h : OutMid js sl fss sl.length ps) : RivOk js ps := by
  obtain ⟨D, d0, d1, hD⟩ := H.small
  obtain ⟨l0, l1, l2⟩ := lens_ok H.sok.bd
  have l60 : lens sl ≤ 10000 ^ 60 := by
    refine Int.le_trans l1 ?_
    have h2 : (10000 : Nat) ^ sl.length ≤ 10000 ^ 60 := Nat.pow_le_pow_right (by decide) hsl
    have e1 : ((10000 : Int) ^ sl.length) = (((10000 : Nat) ^ sl.length : Nat) : Int) := by rw [Int.natCast_pow]; rfl
    have e2 : ((10000 : Int) ^ 60) = (((10000 : Nat) ^ 60 : Nat) : Int) := by decide +kernel
    rw [e1, e2]
    exact Int.ofNat_le.mpr h2
  refine ⟨fun p hp => ?_, h.B, fun j hj => ?_, fun p hp => (h.A p hp).vb, ⟨D, d0, d1, fun p hp => ?_⟩, h.R, h.Q, D * lens sl, Int.mul_pos d0 l0, Int.le_trans (Int.mul_le_mul d1 l60 (by omega) (by decide +kernel)) p950, fun p hp => ?_⟩
  · have o := h.A p hp
    obtain ⟨j, hj, s, hs, hn, hm, h1, h2⟩ := o.at'
    unfold mine at hm
    rw [Bool.and_eq_true] at hm
    have m1 : ((j.c : Int) : Rat) ≤ ((s.1 : Int) : Rat) := Rat.intCast_le_intCast.mpr (of_decide_eq_true hm.1)
    have m2 : ((s.2 : Int) : Rat) ≤ ((j.d : Int) : Rat) := Rat.intCast_le_intCast.mpr (of_decide_eq_true hm.2)
    exact ⟨o.lt, o.v0, o.zs, o.ze, o.zv, j, hj, hn, by grind, by grind⟩
  · obtain ⟨a, ha⟩ := List.getElem?_of_mem hj
    have al := (List.getElem?_eq_some_iff.mp ha).1
    have hf := List.getElem?_eq_getElem (l := fss) (i := a) (by have := H.len; omega)
    have sh := H.sh a j _ ha hf
    rw [h.D a j _ ha hf, ← sh.len, List.take_length]
    exact sh.sum
  · obtain ⟨k, a, e⟩ := (h.A p hp).wk
    obtain ⟨z, _, _, ez⟩ := hD k [a]
    refine ⟨z, ?_⟩
    rw [e, ← ez]
    show _ = (col fss k a + 0) * (D : Rat)
    unfold col
    grind
  · obtain ⟨k, t, ht, ev⟩ := (h.A p hp).vk
    obtain ⟨z, _, _, ez⟩ := hD k (List.range fss.length)
    rw [cols_range] at ez
    obtain ⟨m, em⟩ := l2 t (List.mem_of_getElem? ht)
    have bt := H.sok.bd _ (List.mem_of_getElem? ht)
    have tn : ((t.2 - t.1 : Int) : Rat) ≠ 0 := fun c => by
      have := Rat.intCast_eq_zero_iff.mp c
      omega
    refine ⟨z * m, ?_⟩
    rw [ev, em, Rat.intCast_mul, Rat.intCast_mul, Rat.intCast_mul, ← ez]
    generalize rsum (fss.map fun fs => fs.getD k 0) = L
    generalize ((t.2 - t.1 : Int) : Rat) = d at tn
    grind
end

/-! ### the slots between the points -/
def slotsOf (ps : List Int) : List (Int × Int) := (List.range (ps.length - 1)).map fun k => (ps.getD k 0, ps.getD (k + 1) 0)
theorem slots_at {ps : List Int} {k : Nat} (h : k < ps.length - 1) : (slotsOf ps)[k]? = some (ps.getD k 0, ps.getD (k + 1) 0) := by
  unfold slotsOf
  rw [List.getElem?_map, List.getElem?_range h]
  rfl
theorem slots_len (ps : List Int) : (slotsOf ps).length = ps.length - 1 := by
  unfold slotsOf
  rw [List.length_map, List.length_range]
theorem pts_lt {ps : List Int} (h : ps.Pairwise (· < ·)) {a b : Nat} (hb : b < ps.length) (hab : a < b) : ps.getD a 0 < ps.getD b 0 := by
  have := List.pairwise_iff_getElem.mp h a b (by omega) hb hab
  rw [getD_at (List.getElem?_eq_getElem (show a < ps.length by omega)), getD_at (List.getElem?_eq_getElem hb)]
  exact this
theorem pts_mem {ps : List Int} {a : Nat} (h : a < ps.length) : ps.getD a 0 ∈ ps := by
  rw [getD_at (List.getElem?_eq_getElem h)]
  exact List.getElem_mem h
theorem slots_ok {js : List Job} {ps : List Int} (h : PtsOk js ps) (hj : ∀ j ∈ js, JobOk j) : SlOk (slotsOf ps) := by
  refine ⟨fun s hs => ?_, ?_⟩
  · obtain ⟨k, hk⟩ := List.getElem?_of_mem hs
    have kl := (List.getElem?_eq_some_iff.mp hk).1
    rw [slots_len] at kl
    rw [slots_at kl] at hk
    cases hk
    have lt := pts_lt h.lt (a := k) (b := k + 1) (by omega) (by omega)
    obtain ⟨j, jm, h1, h2⟩ := h.bd _ (pts_mem (ps := ps) (a := k) (by omega))
    obtain ⟨j2, jm2, h3, h4⟩ := h.bd _ (pts_mem (ps := ps) (a := k + 1) (by omega))
    have := (hj j jm).c0
    have := (hj j2 jm2).d1
    exact ⟨by omega, lt, by omega⟩
  · refine List.pairwise_iff_getElem.mpr fun a b ha hb hab => ?_
    have ga := List.getElem?_eq_getElem ha
    have gb := List.getElem?_eq_getElem hb
    rw [slots_len] at ha hb
    rw [slots_at ha] at ga
    rw [slots_at hb] at gb
    rw [← Option.some.inj ga, ← Option.some.inj gb]
    show ps.getD (a + 1) 0 ≤ ps.getD b 0
    by_cases e : a + 1 = b
    · rw [e]; exact Int.le_refl _
    · exact Int.le_of_lt (pts_lt h.lt (by omega) (by omega))
theorem slots_mine {js : List Job} {ps : List Int} (h : PtsOk js ps) {j : Job} (hj : j ∈ js) (oj : JobOk j) : ∃ s ∈ slotsOf ps, mine j s = true := by
  obtain ⟨m1, m2⟩ := h.mem j hj
  obtain ⟨a, ha⟩ := List.getElem?_of_mem m1
  obtain ⟨b, hb⟩ := List.getElem?_of_mem m2
  have al := (List.getElem?_eq_some_iff.mp ha).1
  have bl := (List.getElem?_eq_some_iff.mp hb).1
  have ea := getD_at (d := (0 : Int)) ha
  have eb := getD_at (d := (0 : Int)) hb
  have cd := oj.cd
  have ab : a < b := by
    by_cases z : a < b
    · exact z
    · by_cases e : a = b
      · subst e; omega
      · have := pts_lt h.lt (a := b) (b := a) al (by omega)
        omega
  refine ⟨_, List.mem_of_getElem? (slots_at (ps := ps) (k := a) (by omega)), ?_⟩
  unfold mine
  rw [Bool.and_eq_true]
  refine ⟨decide_eq_true (by simp only; omega), decide_eq_true ?_⟩
  show ps.getD (a + 1) 0 ≤ j.d
  rw [← eb]
  by_cases e : a + 1 = b
  · rw [e]; exact Int.le_refl _
  · exact Int.le_of_lt (pts_lt h.lt bl (by omega))
/-! ### rows of shares -/
def RowsAt (K : PySem.W.Frag) (p R : Addr) (H : Hp) (ras : List Addr) (fss : List (List Rat)) : Prop :=
  ras.length = fss.length ∧ ∀ (a : Nat) (ra : Addr) (fs : List Rat), ras[a]? = some ra → fss[a]? = some fs → ra ≠ p ∧ ra ≠ R ∧ ∃ xs, H ra = some (.lst xs) ∧ IsA K H xs (fs.map rat2)
theorem RowsAt.kp {K : PySem.W.Frag} {p R pa : Addr} {H H' : Hp} {ras : List Addr} {fss : List (List Rat)} (h : RowsAt K p R H ras fss) (P : Pl p pa H) (e : Kp p H H') : RowsAt K p R H' ras fss :=
  ⟨h.1, fun a ra fs h1 h2 => by
    obtain ⟨n1, n2, xs, hx, hi⟩ := h.2 a ra fs h1 h2
    exact ⟨n1, n2, xs, e _ _ n1 hx, hi.to (P.tm e)⟩⟩
theorem rd_of_div {q : Rat} {h : Int} (h0 : h ≠ 0) : Rat.divInt q.num ((q.den : Int) * h) = q / (h : Rat) := by
  rw [divInt_div, Rat.intCast_mul, Rat.div_def, Rat.div_def]
  have e : (q.num : Rat) * ((q.den : Int) : Rat)⁻¹ = q := by
    rw [← Rat.div_def, ← divInt_div]
    exact Rat.num_divInt_den q
  have d0 : ((q.den : Int) : Rat) ≠ 0 := fun c => denz q (Rat.intCast_eq_zero_iff.mp c)
  have h1 : (h : Rat) ≠ 0 := fun c => h0 (Rat.intCast_eq_zero_iff.mp c)
  conv => rhs; rw [← e]
  grind
/-- a rival plan of a job list -/
def spRival (K : PySem.W.Frag) : Sp := fun vs H Q _ => ∃ (p pa J : Addr) (xs : List V) (js : List Job), vs = [.ref p, .ref J] ∧ Pl p pa H ∧ SqT K H J xs ∧ IsA K H xs (js.map dJob) ∧ JobsOk js ∧ js.length ≤ 19 ∧
  ∀ t ys ps H', RivOk js ps → ps.length ≤ 3 * js.length * js.length → Kp p H H' → Pl p pa H' → H t = none → H' t = some (.tup ys) → IsA K H' ys (ps.map dPc) → Q (.ref t) H'
theorem is_pc {K : PySem.W.Frag} {H : Hp} {t : Addr} {a b c : V} {q : Pc} (h : SqT K H t [a, b, .str q.n, c]) (ha : Is K H a (rat2 q.s)) (hb : Is K H b (rat2 q.e)) (hc : Is K H c (rat2 q.v)) : Is K H (.ref t) (dPc q) :=
  .tup h (.cons ha (.cons hb (.cons (.str _) (.cons hc .nil))))
theorem pc_at {K : PySem.W.Frag} {H : Hp} {v : V} {q : Pc} (h : Is K H v (dPc q)) : ∃ t a b c, v = .ref t ∧ SqT K H t [a, b, .str q.n, c] ∧ Is K H a (rat2 q.s) ∧ Is K H b (rat2 q.e) ∧ Is K H c (rat2 q.v) := by
  obtain ⟨t, xs, rfl, s, a⟩ := h.tup'
  cases a with
  | cons h1 a => cases a with
    | cons h2 a => cases a with
      | cons h3 a => cases a with
        | cons h4 a =>
          cases a; cases h3
          exact ⟨t, _, _, _, rfl, s, h1, h2, h4⟩
theorem rat_at {K : PySem.W.Frag} {H : Hp} {v : V} {q : Rat} (h : Is K H v (rat2 q)) : ∃ t, v = .ref t ∧ SqT K H t [.int q.num, .int (q.den : Int)] := by
  obtain ⟨t, a, b, rfl, s, h1, h2⟩ := Is.two' h
  cases h1; cases h2
  exact ⟨t, rfl, s⟩
theorem num_pos {q : Rat} : (0 < q.num) ↔ 0 < q := by
  rw [Rat.lt_iff]
  show 0 < q.num ↔ (0 : Int) * (q.den : Int) < q.num * ((1 : Nat) : Int)
  omega
end Z

namespace Z
open PySem PySem.Spec PyProof.Rows L2
/-! ### equal data -/
theorem eqv_rat2 (p q : Rat) : PyData.eqv (rat2 p) (rat2 q) = decide (p = q) := by
  show PyData.eqv (.tuple _) (.tuple _) = _
  rw [PyData.eqv, PyData.eqvAll, PyData.eqvAll, PyData.eqvAll, PyData.eqv, PyData.eqv, Bool.and_true]
  by_cases h : p = q
  · subst h
    simp
  · rw [decide_eq_false h, Bool.and_eq_false_iff]
    by_cases h1 : p.num = q.num
    · refine .inr (beq_eq_false_iff_ne.mpr fun h2 => h (Rat.ext h1 (by omega)))
    · exact .inl (beq_eq_false_iff_ne.mpr h1)
theorem lay_rat2 (p : Rat) : (rat2 p).canLay0 = true := by
  unfold rat2
  rw [PyData.canLay0, PyData.canLayAll0, PyData.canLayAll0, PyData.canLayAll0, PyData.canLay0, PyData.canLay0]
  rfl
theorem depth_rat2 (p : Rat) : (rat2 p).depth = 1 := by
  unfold rat2
  simp [PyData.depth, PyData.depthAll]
theorem shaped_rat2 (p : Rat) : SeqAt.shaped (rat2 p) = true := by
  unfold SeqAt.shaped
  rw [lay_rat2, depth_rat2]
  rfl
theorem shaped_str {x : Str} (h : PyData.strOk x = true) : SeqAt.shaped (.str x) = true := by
  unfold SeqAt.shaped
  rw [PyData.canLay0, h]
  simp [PyData.depth]
theorem eqv_str (x y : Str) : PyData.eqv (.str x) (.str y) = decide (x = y) := by
  rw [PyData.eqv]
  by_cases h : x = y
  · subst h; simp
  · rw [decide_eq_false h]
    exact beq_eq_false_iff_ne.mpr h
theorem eqv_pair (x y : Str) (p q : Rat) : PyData.eqv (.tuple [.str x, rat2 p]) (.tuple [.str y, rat2 q]) = (decide (x = y) && decide (p = q)) := by
  rw [PyData.eqv, PyData.eqvAll, PyData.eqvAll, PyData.eqvAll, eqv_str, eqv_rat2, Bool.and_true]
theorem shaped_pair {x : Str} (h : PyData.strOk x = true) (p : Rat) : SeqAt.shaped (.tuple [.str x, rat2 p]) = true := by
  unfold SeqAt.shaped
  rw [PyData.canLay0, PyData.canLayAll0, PyData.canLayAll0, PyData.canLayAll0, PyData.canLay0, h, lay_rat2]
  simp [PyData.depth, PyData.depthAll, depth_rat2]
theorem lay_dPc {p : Pc} (h : PyData.strOk p.n = true) : (dPc p).canLay0 = true := by
  unfold dPc
  rw [PyData.canLay0, PyData.canLayAll0, PyData.canLayAll0, PyData.canLayAll0, PyData.canLayAll0, PyData.canLayAll0, PyData.canLay0, h, lay_rat2, lay_rat2, lay_rat2]
  rfl
theorem depth_dPc (p : Pc) : (dPc p).depth = 2 := by
  unfold dPc
  simp [PyData.depth, PyData.depthAll, depth_rat2]
def POk (ps : List Pc) : Prop := ∀ p ∈ ps, PyData.strOk p.n = true
theorem lay_dPcs : ∀ {ps : List Pc}, POk ps → PyData.canLayAll0 (ps.map dPc) = true
  | [], _ => by rw [List.map_nil, PyData.canLayAll0]
  | p :: ps, h => by
    rw [List.map_cons, PyData.canLayAll0, lay_dPc (h p (List.mem_cons_self ..)), lay_dPcs (ps := ps) fun q hq => h q (List.mem_cons_of_mem _ hq)]
    rfl
theorem depth_dPcs : ∀ (ps : List Pc), PyData.depthAll (ps.map dPc) ≤ 2
  | [] => by simp [PyData.depthAll]
  | p :: ps => by
    have := depth_dPcs ps
    rw [List.map_cons, PyData.depthAll, depth_dPc]
    omega
theorem shaped_list {ps : List Pc} (h : POk ps) : SeqAt.shaped (.list (ps.map dPc)) = true := by
  unfold SeqAt.shaped
  have := depth_dPcs ps
  rw [PyData.canLay0, lay_dPcs h, PyData.depth]
  simp
  omega
theorem shaped_nil : SeqAt.shaped (.list []) = true := by
  unfold SeqAt.shaped
  simp [PyData.canLay0, PyData.canLayAll0, PyData.depth, PyData.depthAll]
theorem eqv_nil (ps : List Pc) : PyData.eqv (.list (ps.map dPc)) (.list []) = decide (ps = []) := by
  cases ps with
  | nil => simp [PyData.eqv, PyData.eqvAll]
  | cons p ps => simp [PyData.eqv, PyData.eqvAll]
theorem plain_dPc (p : Pc) : plainD (dPc p) = true := by
  unfold dPc
  rw [plainD, plainDs, plainDs, plainDs, plainDs, plainDs, plain_rat2, plain_rat2, plain_rat2, plainD]
  rfl
theorem plain_dPcs : ∀ ps : List Pc, plainDs (ps.map dPc) = true
  | [] => by rw [List.map_nil, plainDs]
  | p :: ps => by
    rw [List.map_cons, plainDs, plain_dPc, plain_dPcs ps]
    rfl
def dPlan (ps : List Pc) : PyData := .tuple (ps.map dPc)
theorem plain_plan {ps : List Pc} (h : ps.length ≤ 1000) : plainD (dPlan ps) = true := by
  unfold dPlan
  rw [plainD, plain_dPcs, List.length_map, decide_eq_true h]
  rfl
theorem dep_dPc (p : Pc) : depD (dPc p) = 2 := by
  simp [dPc, depD, depDs, dep_rat2]
theorem dep_dPcs : ∀ ps : List Pc, depDs (ps.map dPc) ≤ 2
  | [] => by simp [depDs]
  | p :: ps => by
    have := dep_dPcs ps
    rw [List.map_cons, depDs, dep_dPc]
    omega
theorem dep_plan (ps : List Pc) : depD (dPlan ps) < 4 := by
  have := dep_dPcs ps
  unfold dPlan
  rw [depD]
  omega
theorem nm_str {k : Nat} {x : Str} (h : NmOk k x) : PyData.strOk x = true := by
  unfold PyData.strOk
  rw [Array.all_eq_true']
  intro c hc
  have := h.low c (by simpa using hc)
  exact decide_eq_true (by omega)
/-! ### tidy plans -/
def goesOn (p q : Pc) : Bool := decide (p.e = q.s) && (decide (p.n = q.n) && decide (p.v = q.v))
def tidyStep (acc : List Pc) (p : Pc) : List Pc :=
  match acc.getLast? with
  | none => acc ++ [p]
  | some l => if goesOn l p then acc.dropLast ++ [⟨l.s, p.e, p.n, p.v⟩] else acc ++ [p]
def tidyL (ps : List Pc) : List Pc := ps.foldl tidyStep []
theorem step_nil (p : Pc) : tidyStep [] p = [p] := rfl
theorem step_yes {acc : List Pc} {l p : Pc} (h : goesOn l p = true) : tidyStep (acc ++ [l]) p = acc ++ [⟨l.s, p.e, p.n, p.v⟩] := by
  unfold tidyStep
  rw [List.getLast?_concat]
  show (if goesOn l p then _ else _) = _
  rw [if_pos h, List.dropLast_concat]
theorem step_no {acc : List Pc} {l p : Pc} (h : goesOn l p = false) : tidyStep (acc ++ [l]) p = acc ++ [l] ++ [p] := by
  unfold tidyStep
  rw [List.getLast?_concat]
  show (if goesOn l p then _ else _) = _
  rw [if_neg (by rw [h]; decide)]
theorem snoc_or (acc : List Pc) : acc = [] ∨ ∃ i l, acc = i ++ [l] := by
  rcases List.eq_nil_or_concat acc with h | ⟨i, l, h⟩
  · exact .inl h
  · exact .inr ⟨i, l, by rw [h, List.concat_eq_append]⟩
theorem tidy_take {ps : List Pc} {i : Nat} {p : Pc} (h : ps[i]? = some p) : tidyL (ps.take (i + 1)) = tidyStep (tidyL (ps.take i)) p := by
  unfold tidyL
  rw [List.take_add_one, h, List.foldl_append]
  rfl
theorem step_len (acc : List Pc) (p : Pc) : (tidyStep acc p).length ≤ acc.length + 1 := by
  rcases snoc_or acc with rfl | ⟨i, l, rfl⟩
  · exact Nat.le_refl _
  · cases h : goesOn l p with
    | true => rw [step_yes h]; simp
    | false => rw [step_no h]; simp
theorem tidy_len (ps : List Pc) : ∀ i, (tidyL (ps.take i)).length ≤ i
  | 0 => Nat.le_refl _
  | i + 1 => by
    have ih := tidy_len ps i
    cases h : ps[i]? with
    | none =>
      have : ps.length ≤ i := List.getElem?_eq_none_iff.mp h
      rw [List.take_of_length_le (by omega)]
      rw [List.take_of_length_le (by omega)] at ih
      omega
    | some p =>
      rw [tidy_take h]
      have := step_len (tidyL (ps.take i)) p
      omega
def Tidy (ps : List Pc) : Prop := ∀ (k : Nat) (p q : Pc), ps[k]? = some p → ps[k + 1]? = some q → goesOn p q = false
theorem goes_last {l l' p : Pc} (e : l.s = l'.s ∧ l.n = l'.n ∧ l.v = l'.v) (h : goesOn p l = goesOn p l) : goesOn p l = goesOn p l' := by
  unfold goesOn
  rw [e.1, e.2.1, e.2.2]
theorem tidy_push {acc : List Pc} {l : Pc} (h : Tidy acc) (hl : ∀ x, acc.getLast? = some x → goesOn x l = false) : Tidy (acc ++ [l]) := by
  intro k p q hp hq
  have lk : k + 1 < (acc ++ [l]).length := (List.getElem?_eq_some_iff.mp hq).1
  rw [List.length_append, List.length_singleton] at lk
  rw [List.getElem?_append_left (by omega)] at hp
  by_cases e : k + 1 < acc.length
  · rw [List.getElem?_append_left e] at hq
    exact h k p q hp hq
  · have e2 : k + 1 = acc.length := by omega
    rw [List.getElem?_append_right (by omega), e2, Nat.sub_self] at hq
    have : l = q := Option.some.inj hq
    subst this
    refine hl p ?_
    rw [List.getLast?_eq_getElem?, show acc.length - 1 = k by omega]
    exact hp
theorem Tidy.init {acc : List Pc} {l : Pc} (h : Tidy (acc ++ [l])) : Tidy acc := fun k p q hp hq => by
  have lk : k + 1 < acc.length := (List.getElem?_eq_some_iff.mp hq).1
  exact h k p q (by rw [List.getElem?_append_left (by omega)]; exact hp) (by rw [List.getElem?_append_left lk]; exact hq)
theorem Tidy.last {acc : List Pc} {l x : Pc} (h : Tidy (acc ++ [l])) (hx : acc.getLast? = some x) : goesOn x l = false := by
  rw [List.getLast?_eq_getElem?] at hx
  have lx : acc.length - 1 < acc.length := (List.getElem?_eq_some_iff.mp hx).1
  refine h (acc.length - 1) x l (by rw [List.getElem?_append_left lx]; exact hx) ?_
  rw [List.getElem?_append_right (by omega), show acc.length - 1 + 1 - acc.length = 0 by omega]
  rfl
theorem tidy_step {acc : List Pc} (h : Tidy acc) (p : Pc) : Tidy (tidyStep acc p) := by
  rcases snoc_or acc with rfl | ⟨i, l, rfl⟩
  · rw [step_nil]
    exact fun k a b _ hb => by simp at hb
  · cases e : goesOn l p with
    | true =>
      rw [step_yes e]
      refine tidy_push h.init fun x hx => ?_
      have := h.last hx
      unfold goesOn at e this ⊢
      simp only [Bool.and_eq_true, decide_eq_true_eq] at e
      rw [← e.2.1, ← e.2.2]
      exact this
    | false =>
      rw [step_no e]
      refine tidy_push h fun x hx => ?_
      rw [List.getLast?_concat] at hx
      rw [← Option.some.inj hx]
      exact e
theorem tidy_fold : ∀ (ps : List Pc) {acc : List Pc}, Tidy acc → Tidy (ps.foldl tidyStep acc)
  | [], _, h => h
  | p :: ps, _, h => tidy_fold ps (tidy_step h p)
theorem tidyL_tidy (ps : List Pc) : Tidy (tidyL ps) := tidy_fold ps fun k a b _ hb => by simp at hb
theorem tidy_same_fold : ∀ (ps acc : List Pc), Tidy (acc ++ ps) → ps.foldl tidyStep acc = acc ++ ps
  | [], acc, _ => (List.append_nil acc).symm
  | p :: ps, acc, h => by
    have e : tidyStep acc p = acc ++ [p] := by
      rcases snoc_or acc with rfl | ⟨i, l, rfl⟩
      · rfl
      · refine step_no ?_
        refine h i.length l p ?_ ?_
        · rw [List.append_assoc, List.getElem?_append_right (Nat.le_refl _), Nat.sub_self]
          rfl
        · rw [List.append_assoc, List.getElem?_append_right (by omega), show i.length + 1 - i.length = 1 by omega]
          rfl
    show ps.foldl tidyStep (tidyStep acc p) = _
    rw [e, tidy_same_fold ps (acc ++ [p]) (by rw [List.append_assoc]; exact h), List.append_assoc]
    rfl
theorem tidyL_same {ps : List Pc} (h : Tidy ps) : tidyL ps = ps := by
  have := tidy_same_fold ps [] h
  exact this
theorem step_ok {acc : List Pc} {p : Pc} (h : POk acc) (hp : PyData.strOk p.n = true) : POk (tidyStep acc p) := by
  rcases snoc_or acc with rfl | ⟨i, l, rfl⟩
  · intro x hx
    rw [List.mem_singleton.mp hx]
    exact hp
  · cases e : goesOn l p with
    | true =>
      rw [step_yes e]
      intro x hx
      rcases List.mem_append.mp hx with z | z
      · exact h x (List.mem_append_left _ z)
      · rw [List.mem_singleton.mp z]
        exact hp
    | false =>
      rw [step_no e]
      intro x hx
      rcases List.mem_append.mp hx with z | z
      · exact h x z
      · rw [List.mem_singleton.mp z]
        exact hp
theorem tidy_ok {ps : List Pc} (h : POk ps) : ∀ i, POk (tidyL (ps.take i))
  | 0 => fun _ z => (nomatch z)
  | i + 1 => by
    cases e : ps[i]? with
    | none =>
      have : ps.length ≤ i := List.getElem?_eq_none_iff.mp e
      have ih := tidy_ok h i
      rw [List.take_of_length_le (by omega)]
      rw [List.take_of_length_le (by omega)] at ih
      exact ih
    | some p =>
      rw [tidy_take e]
      exact step_ok (tidy_ok h i) (h p (List.mem_of_getElem? e))
/-- a list of data that ends in d -/
theorem IsA.snoc {K : PySem.W.Frag} {H : Hp} : ∀ {ds : List PyData} {xs : List V} {d : PyData}, IsA K H xs (ds ++ [d]) → ∃ ys v, xs = ys ++ [v] ∧ IsA K H ys ds ∧ Is K H v d
  | [], _, d, h => by
    cases h with
    | cons a b => cases b; exact ⟨[], _, rfl, .nil, a⟩
  | e :: ds, _, d, h => by
    cases h with
    | cons a b =>
      obtain ⟨ys, v, rfl, h1, h2⟩ := IsA.snoc b
      exact ⟨_ :: ys, v, rfl, .cons a h1, h2⟩
def spTidy (K : PySem.W.Frag) : Sp := fun vs H Q _ => ∃ (A : Addr) (xs : List V) (ps : List Pc), vs = [.ref A] ∧ SqT K H A xs ∧ IsA K H xs (ps.map dPc) ∧ POk ps ∧ ps.length ≤ 1000 ∧
  ∀ t ys H', Same H H' → H t = none → H' t = some (.tup ys) → IsA K H' ys ((tidyL ps).map dPc) → Q (.ref t) H'
def spIsTidy (K : PySem.W.Frag) : Sp := fun vs H Q _ => ∃ (A : Addr) (xs : List V) (ps : List Pc), vs = [.ref A] ∧ SqT K H A xs ∧ IsA K H xs (ps.map dPc) ∧ POk ps ∧ ps.length ≤ 1000 ∧ Tidy ps ∧ ∀ H', Same H H' → Q (.bl true) H'
def spGoes (K : PySem.W.Frag) : Sp := fun vs H Q _ => ∃ (a b : V) (p q : Pc), vs = [a, b] ∧ Is K H a (dPc p) ∧ Is K H b (dPc q) ∧ ∀ H', Same H H' → Q (.bl (goesOn p q)) H'
def spCut (K : PySem.W.Frag) : Sp := fun vs H Q _ => ∃ (p pa : Addr) (v : V) (c : Pc), vs = [.ref p, v] ∧ Pl p pa H ∧ Is K H v (dPc c) ∧ PyData.strOk c.n = true ∧ Sz 200 c.s ∧ Sz 200 c.e ∧
  ∀ l xs qs H', POk qs → qs.length ≤ 3 → Kp p H H' → Pl p pa H' → H l = none → H' l = some (.lst xs) → IsA K H' xs (qs.map dPc) → Q (.ref l) H'
theorem unit_rat {n : Int} (h : 0 < n) : rat2 (Rat.divInt 1 n) = .tuple [.int 1, .int n] := by
  unfold rat2
  rw [Rat.num_divInt, Rat.den_divInt, if_neg (by omega), Int.sign_eq_one_of_pos h]
  have : n.gcd 1 = 1 := by rw [Int.gcd_comm]; exact Int.one_gcd
  rw [this]
  simp
  omega
end Z

namespace Z
open PySem PySem.Spec PyProof.Rows L2
/-! ### pairs that stand for ratios, in lowest terms or not -/
def dP (t : Int × Int) : PyData := .tuple [.int t.1, .int t.2]
structure PrOk (t : Int × Int) : Prop where
  d0 : 0 < t.2
  n1 : t.1.natAbs < 2 ^ 3900
  d1 : t.2.natAbs < 2 ^ 3900
def val (t : Int × Int) : Rat := Rat.divInt t.1 t.2
theorem val_less {a b : Int × Int} (ha : PrOk a) (hb : PrOk b) : (a.1 * b.2 < b.1 * a.2) ↔ val a < val b := by
  have a0 : (0 : Rat) < (a.2 : Rat) := Rat.intCast_pos.mpr ha.d0
  have b0 : (0 : Rat) < (b.2 : Rat) := Rat.intCast_pos.mpr hb.d0
  have ea : val a * (a.2 : Rat) = (a.1 : Rat) := by
    unfold val
    rw [divInt_div]
    grind
  have eb : val b * (b.2 : Rat) = (b.1 : Rat) := by
    unfold val
    rw [divInt_div]
    grind
  rw [← Rat.intCast_lt_intCast, Rat.intCast_mul, Rat.intCast_mul, ← ea, ← eb]
  have p := Rat.mul_pos a0 b0
  have e1 : val a * (a.2 : Rat) * (b.2 : Rat) = val a * ((a.2 : Rat) * (b.2 : Rat)) := by grind
  have e2 : val b * (b.2 : Rat) * (a.2 : Rat) = val b * ((a.2 : Rat) * (b.2 : Rat)) := by grind
  rw [e1, e2]
  refine ⟨fun h => ?_, fun h => Rat.mul_lt_mul_of_pos_right h p⟩
  by_cases z : val a < val b
  · exact z
  · have z2 : val b ≤ val a := Rat.not_lt.mp z
    have := Rat.mul_le_mul_of_nonneg_right z2 (Rat.le_of_lt p)
    grind
def ofR (q : Rat) : Int × Int := (q.num, (q.den : Int))
theorem dP_ofR (q : Rat) : dP (ofR q) = rat2 q := rfl
theorem val_ofR (q : Rat) : val (ofR q) = q := Rat.num_divInt_den q
theorem pr_ofR {q : Rat} (h : Sz 3900 q) : PrOk (ofR q) := ⟨by have := q.den_nz; show 0 < (q.den : Int); omega, h.1, by show ((q.den : Int)).natAbs < _; rw [Int.natAbs_natCast]; exact h.2⟩
def spLessP (K : PySem.W.Frag) : Sp := fun vs H Q _ => ∃ (x y : V) (a b : Int × Int), vs = [x, y] ∧ Is K H x (dP a) ∧ Is K H y (dP b) ∧ PrOk a ∧ PrOk b ∧ Q (.bl (decide (val a < val b))) H
theorem less_imp {K : PySem.W.Frag} : ∀ vs H Q E, spLess K vs H Q E → spLessP K vs H Q E := by
  rintro vs H Q E ⟨x, y, p, q, rfl, hx, hy, zp, zq, k⟩
  refine ⟨x, y, ofR p, ofR q, rfl, hx, hy, pr_ofR zp, pr_ofR zq, ?_⟩
  rw [val_ofR, val_ofR]
  exact k
theorem dp_at {K : PySem.W.Frag} {H : Hp} {v : V} {a : Int × Int} (h : Is K H v (dP a)) : ∃ t, v = .ref t ∧ SqT K H t [.int a.1, .int a.2] := by
  obtain ⟨t, x, y, rfl, s, h1, h2⟩ := Is.two' h
  cases h1; cases h2
  exact ⟨t, rfl, s⟩
/-! ### the lesser, the greater -/
def minR (p q : Rat) : Rat := if q < p then q else p
def maxR (p q : Rat) : Rat := if p < q then q else p
/-! ### idle times -/
def dGap (g : Rat × Rat) : PyData := .tuple [rat2 g.1, rat2 g.2]
def gapStep (last : Rat) (a : Rat × List (Rat × Rat)) (p : Pc) : Rat × List (Rat × Rat) :=
  (maxR a.1 p.e, if a.1 < minR p.s last then a.2 ++ [(a.1, minR p.s last)] else a.2)
def gapsL (begin last : Rat) (ps : List Pc) : Rat × List (Rat × Rat) := ps.foldl (gapStep last) (begin, [])
def gapsD (begin last : Rat) (ps : List Pc) : List (Rat × Rat) :=
  if (gapsL begin last ps).1 < last then (gapsL begin last ps).2 ++ [((gapsL begin last ps).1, last)] else (gapsL begin last ps).2
theorem gaps_take {begin last : Rat} {ps : List Pc} {i : Nat} {p : Pc} (h : ps[i]? = some p) : gapsL begin last (ps.take (i + 1)) = gapStep last (gapsL begin last (ps.take i)) p := by
  unfold gapsL
  rw [List.take_add_one, h, List.foldl_append]
  rfl
theorem maxR_sz {n : Nat} {p q : Rat} (h : Sz n p) (k : Sz n q) : Sz n (maxR p q) := by
  unfold maxR
  split
  · exact k
  · exact h
theorem minR_sz {n : Nat} {p q : Rat} (h : Sz n p) (k : Sz n q) : Sz n (minR p q) := by
  unfold minR
  split
  · exact k
  · exact h
theorem gaps_sz {begin last : Rat} {ps : List Pc} (hb : Sz 200 begin) (h : ∀ p ∈ ps, Sz 200 p.e) : ∀ i, Sz 200 (gapsL begin last (ps.take i)).1
  | 0 => hb
  | i + 1 => by
    cases e : ps[i]? with
    | none =>
      have : ps.length ≤ i := List.getElem?_eq_none_iff.mp e
      have ih := gaps_sz (last := last) hb h i
      rw [List.take_of_length_le (by omega)]
      rw [List.take_of_length_le (by omega)] at ih
      exact ih
    | some p =>
      rw [gaps_take e]
      exact maxR_sz (gaps_sz hb h i) (h p (List.mem_of_getElem? e))
theorem gaps_len {begin last : Rat} {ps : List Pc} : ∀ i, (gapsL begin last (ps.take i)).2.length ≤ i
  | 0 => Nat.le_refl _
  | i + 1 => by
    cases e : ps[i]? with
    | none =>
      have : ps.length ≤ i := List.getElem?_eq_none_iff.mp e
      have ih := gaps_len (begin := begin) (last := last) (ps := ps) i
      rw [List.take_of_length_le (by omega)]
      rw [List.take_of_length_le (by omega)] at ih
      omega
    | some p =>
      have ih := gaps_len (begin := begin) (last := last) (ps := ps) i
      rw [gaps_take e]
      unfold gapStep
      dsimp only
      split
      · rw [List.length_append]; exact Nat.succ_le_succ ih
      · omega
theorem gapsD_len {begin last : Rat} {ps : List Pc} : (gapsD begin last ps).length ≤ ps.length + 1 := by
  have h := gaps_len (begin := begin) (last := last) (ps := ps) ps.length
  rw [List.take_length] at h
  unfold gapsD
  split
  · rw [List.length_append]; exact Nat.succ_le_succ h
  · omega
/-- the law's own turn is the same -/
theorem min_both {a s l : Rat} : (a < minR s l) ↔ (a < s ∧ a < l) := by
  unfold minR
  split
  · constructor <;> grind
  · constructor <;> grind
theorem plain_gaps : ∀ gs : List (Rat × Rat), plainDs (gs.map dGap) = true
  | [] => by rw [List.map_nil, plainDs]
  | g :: gs => by
    rw [List.map_cons, plainDs, plain_gaps gs]
    unfold dGap
    rw [plainD, plainDs, plainDs, plainDs, plain_rat2, plain_rat2]
    rfl
theorem plain_gap {gs : List (Rat × Rat)} (h : gs.length ≤ 1000) : plainD (.tuple (gs.map dGap)) = true := by
  rw [plainD, plain_gaps, List.length_map, decide_eq_true h]
  rfl
theorem dep_gaps : ∀ gs : List (Rat × Rat), depDs (gs.map dGap) ≤ 2
  | [] => by simp [depDs]
  | g :: gs => by
    have := dep_gaps gs
    rw [List.map_cons, depDs]
    have e : depD (dGap g) = 2 := by simp [dGap, depD, depDs, dep_rat2]
    rw [e]
    omega
theorem dep_gap (gs : List (Rat × Rat)) : depD (.tuple (gs.map dGap)) < 4 := by
  have := dep_gaps gs
  rw [depD]
  omega
def spSel (K : PySem.W.Frag) (g : Rat → Rat → Rat) : Sp := fun vs H Q _ => ∃ (x y : V) (p q : Rat), vs = [x, y] ∧ Is K H x (rat2 p) ∧ Is K H y (rat2 q) ∧ Sz 3900 p ∧ Sz 3900 q ∧ ∀ v, Is K H v (rat2 (g p q)) → Q v H
/-- begin and last are integers -/
def spGaps (K : PySem.W.Frag) : Sp := fun vs H Q _ => ∃ (A : Addr) (xs : List V) (ps : List Pc) (b e : Int), vs = [.ref A, .int b, .int e] ∧ SqT K H A xs ∧ IsA K H xs (ps.map dPc) ∧ (∀ p ∈ ps, Sz 200 p.s ∧ Sz 200 p.e) ∧ ps.length ≤ 900 ∧ b.natAbs < 2 ^ 100 ∧ e.natAbs < 2 ^ 100 ∧
  ∀ t ys H', Same H H' → H' t = some (.tup ys) → IsA K H' ys ((gapsD (b : Rat) (e : Rat) ps).map dGap) → Q (.ref t) H'
theorem int_rat (b : Int) : rat2 (b : Rat) = .tuple [.int b, .int 1] := rfl
theorem sz_int {b : Int} {n : Nat} (h : b.natAbs < 2 ^ n) (n0 : 0 < n) : Sz n (b : Rat) := ⟨h, by show 1 < 2 ^ n; exact Nat.one_lt_two_pow (by omega)⟩
theorem one_rat (b : Int) : Rat.divInt b 1 = (b : Rat) := by
  rw [divInt_div]
  show (b : Rat) / ((1 : Int) : Rat) = (b : Rat)
  grind
/-! ### the speed at a time -/
def speedL (t : Rat) : List Pc → Rat
  | [] => 0
  | p :: ps => if ¬ t < p.s ∧ t < p.e then p.v else speedL t ps
def spSpeed (K : PySem.W.Frag) : Sp := fun vs H Q _ => ∃ (A : Addr) (xs : List V) (ps : List Pc) (v : V) (t : Int × Int), vs = [.ref A, v] ∧ SqT K H A xs ∧ IsA K H xs (ps.map dPc) ∧ (∀ p ∈ ps, Sz 200 p.s ∧ Sz 200 p.e) ∧ Is K H v (dP t) ∧ PrOk t ∧
  ∀ u H', Same H H' → Is K H' u (rat2 (speedL (val t) ps)) → Q u H'
theorem speed_drop {t : Rat} {ps : List Pc} {i : Nat} {p : Pc} (h : ps[i]? = some p) : speedL t (ps.drop i) = if ¬ t < p.s ∧ t < p.e then p.v else speedL t (ps.drop (i + 1)) := by
  obtain ⟨hi, e⟩ := List.getElem?_eq_some_iff.mp h
  rw [List.drop_eq_getElem_cons hi, e]
  rfl
def spPick : Sp := fun vs H Q _ => ∃ (p pa R : Addr) (ns : List Int), vs = [.ref p, .ref R] ∧ Pl p pa H ∧ R ≠ p ∧ H R = some (.lst (ns.map V.int)) ∧ 0 < ns.length ∧ ns.length ≤ 1000 ∧ ∀ x H', x ∈ ns → Kp p H H' → Pl p pa H' → Q (.int x) H'
end Z
namespace Z
open PySem PySem.Spec PyProof.Rows L2
/-! ### slices and sums of tuples, whole or not -/
def rSlW (K : PySem.W.Frag) : V → Option Int → Option Int → Hp → VK → Prop := fun x lo hi H Q => ∃ a xs, x = .ref a ∧ SqT K H a xs ∧ ∀ b H', Same H H' → SqT K H' b (cutV xs lo hi) → Q (.ref b) H'
theorem cut_whole {xs : List V} {lo hi : Option Int} (h : HT.sIx xs.length 0 lo = 0 ∧ HT.sIx xs.length xs.length hi = xs.length) : cutV xs lo hi = xs := by
  unfold cutV
  rw [h.1, h.2, List.drop_zero, Nat.sub_zero, List.take_length]
theorem slW_A {K : PySem.W.Frag} {x : V} {lo hi : Option Int} {H : Hp} {Q : VK} (h : rSlW K x lo hi H Q) : rSlA K x lo hi H Q := by
  obtain ⟨a, xs, rfl, hs, q⟩ := h
  refine ⟨a, xs, rfl, hs, fun w => q a H (Same.refl _) (by rw [cut_whole w]; exact hs), fun _ p np => q p _ (same_upd np) (SqT.of upd_same)⟩
section
variable {X : Cx} {K : PySem.W.Frag}
theorem sl_tupW : SlR X (rSlW X.K) := by
  intro pins s σ H x v vl vu lo hi sl Q I rx hs pl pu h
  exact sl_tupA pins s σ H x v vl vu lo hi sl Q I rx hs pl pu (slW_A h)
theorem sl_tupWK (h : X.K = K) : SlR X (rSlW K) := h ▸ sl_tupW
def rCatW (K : PySem.W.Frag) : R2 := fun x y H Q => ∃ a b xs ys, x = .ref a ∧ y = .ref b ∧ SqT K H a xs ∧ SqT K H b ys ∧ xs.length + ys.length ≤ sizeLine ∧ ∀ c H', Same H H' → SqT K H' c (xs ++ ys) → Q (.ref c) H'
theorem op_catW : OpR X (binaryOp .Add) (rCatW X.K) := by
  intro pins s σ H x y v u Q I rx ry h
  obtain ⟨a, b, xs, ys, rfl, rfl, ha, hb, hl, q⟩ := h
  refine op_catA pins s σ H _ _ v u Q I rx ry ⟨a, b, xs, ys, rfl, rfl, ha, hb, hl, fun e => ?_, fun _ e => ?_, fun _ _ p np => q p _ (same_upd np) (SqT.of upd_same)⟩
  · subst e
    exact q b H (Same.refl _) hb
  · subst e
    exact q a H (Same.refl _) (by rw [List.append_nil]; exact ha)
end
end Z

namespace Z
open PySem PySem.Spec PyProof.Rows L2
/-! ### prices -/
def px (ts : List (Int × Int)) (i : Nat) : Int := (ts.getD i (0, 0)).1
def py (ts : List (Int × Int)) (i : Nat) : Int := (ts.getD i (0, 0)).2
/-- the points of a table, as whole numbers -/
structure TabOk (ts : List (Int × Int)) : Prop where
  n2 : 2 ≤ ts.length
  n6 : ts.length ≤ 6
  x0 : px ts 0 = 0
  up : ∀ i, i + 1 < ts.length → px ts i < px ts (i + 1)
  cv : ∀ i, i + 2 < ts.length → (py ts (i + 1) - py ts i) * (px ts (i + 2) - px ts (i + 1)) ≤ (py ts (i + 2) - py ts (i + 1)) * (px ts (i + 1) - px ts i)
  bx : ∀ i, (px ts i).natAbs < 2 ^ 60
  bY : ∀ i, (py ts i).natAbs < 2 ^ 60
def slo (ts : List (Int × Int)) (i : Nat) : Rat := ((py ts (i + 1) - py ts i : Int) : Rat) / ((px ts (i + 1) - px ts i : Int) : Rat)
def lin (ts : List (Int × Int)) (i : Nat) (s : Rat) : Rat := (py ts i : Rat) + slo ts i * (s - (px ts i : Rat))
theorem ratlt {a b : Int} (h : a < b) : (a : Rat) < (b : Rat) := Rat.intCast_lt_intCast.mpr h
theorem ratle {a b : Int} (h : a ≤ b) : (a : Rat) ≤ (b : Rat) := Rat.intCast_le_intCast.mpr h
theorem slo_mul {ts : List (Int × Int)} {i : Nat} (h : TabOk ts) (hi : i + 1 < ts.length) : slo ts i * ((px ts (i + 1) : Rat) - (px ts i : Rat)) = (py ts (i + 1) : Rat) - (py ts i : Rat) := by
  have h1 := ratlt (h.up i hi)
  unfold slo
  rw [Rat.intCast_sub, Rat.intCast_sub]
  have : (px ts (i + 1) : Rat) - (px ts i : Rat) ≠ 0 := by grind
  grind
theorem rmul_cancel {a b c : Rat} (hc : 0 < c) (h : a * c ≤ b * c) : a ≤ b := Rat.le_of_mul_le_mul_right h hc
theorem slo_up {ts : List (Int × Int)} {i : Nat} (h : TabOk ts) (hi : i + 2 < ts.length) : slo ts i ≤ slo ts (i + 1) := by
  have c := ratle (h.cv i hi)
  have e1 := slo_mul h (i := i) (by omega)
  have e2 := slo_mul h (i := i + 1) (by omega)
  have p1 := ratlt (h.up i (by omega))
  have p2 := ratlt (h.up (i + 1) (by omega))
  rw [Rat.intCast_mul, Rat.intCast_mul, Rat.intCast_sub, Rat.intCast_sub, Rat.intCast_sub, Rat.intCast_sub] at c
  have d1 : (0 : Rat) < (px ts (i + 1) : Rat) - (px ts i : Rat) := by grind
  have d2 : (0 : Rat) < (px ts (i + 2) : Rat) - (px ts (i + 1) : Rat) := by
    have : (px ts (i + 1) : Rat) < (px ts (i + 2) : Rat) := p2
    grind
  have e2' : slo ts (i + 1) * ((px ts (i + 2) : Rat) - (px ts (i + 1) : Rat)) = (py ts (i + 2) : Rat) - (py ts (i + 1) : Rat) := e2
  have e3 := Rat.mul_pos d1 d2
  refine rmul_cancel e3 ?_
  rw [← e1, ← e2'] at c
  grind
/-- one line above the next -/
theorem lin_step {ts : List (Int × Int)} {i : Nat} (h : TabOk ts) (hi : i + 2 < ts.length) (s : Rat) : lin ts (i + 1) s - lin ts i s = (slo ts (i + 1) - slo ts i) * (s - (px ts (i + 1) : Rat)) := by
  have e1 := slo_mul h (i := i) (by omega)
  unfold lin
  grind
theorem rmul_nn {a b : Rat} (ha : 0 ≤ a) (hb : 0 ≤ b) : 0 ≤ a * b := Rat.mul_nonneg ha hb
theorem lin_up {ts : List (Int × Int)} {i : Nat} (h : TabOk ts) (hi : i + 2 < ts.length) {s : Rat} (hs : (px ts (i + 1) : Rat) ≤ s) : lin ts i s ≤ lin ts (i + 1) s := by
  have e := lin_step h hi s
  have a := slo_up h hi
  have := rmul_nn (a := slo ts (i + 1) - slo ts i) (b := s - (px ts (i + 1) : Rat)) (by grind) (by grind)
  grind
theorem lin_dn {ts : List (Int × Int)} {i : Nat} (h : TabOk ts) (hi : i + 2 < ts.length) {s : Rat} (hs : s ≤ (px ts (i + 1) : Rat)) : lin ts (i + 1) s ≤ lin ts i s := by
  have e := lin_step h hi s
  have a := slo_up h hi
  have := rmul_nn (a := slo ts (i + 1) - slo ts i) (b := (px ts (i + 1) : Rat) - s) (by grind) (by grind)
  grind
theorem px_mono {ts : List (Int × Int)} (h : TabOk ts) : ∀ {i j : Nat}, i ≤ j → j < ts.length → px ts i ≤ px ts j := by
  intro i j hij
  induction hij with
  | refl => intro _; exact Int.le_refl _
  | step hm ih =>
    intro hj
    have a1 := h.up _ hj
    have a2 := ih (by omega)
    exact Int.le_trans a2 (Int.le_of_lt a1)
/-- the place of a speed -/
structure Sel (ts : List (Int × Int)) (s : Rat) (k : Nat) : Prop where
  lt : k + 1 < ts.length
  lo : (px ts k : Rat) ≤ s
  hi : k + 2 = ts.length ∨ s ≤ (px ts (k + 1) : Rat)
theorem Sel.top {ts : List (Int × Int)} {s : Rat} {k : Nat} (h : TabOk ts) (S : Sel ts s k) : ∀ j, j + 1 < ts.length → lin ts j s ≤ lin ts k s := by
  intro j hj
  rcases Nat.le_total j k with hjk | hjk
  · -- below
    have : ∀ d, j + d ≤ k → lin ts j s ≤ lin ts (j + d) s := by
      intro d
      induction d with
      | zero => intro _; exact Rat.le_refl
      | succ d ih =>
        intro hd
        have h1 := ih (by omega)
        have hx : (px ts (j + d + 1) : Rat) ≤ s := Rat.le_trans (ratle (px_mono h (by omega) (by have := S.lt; omega))) S.lo
        exact Rat.le_trans h1 (lin_up h (by have := S.lt; omega) hx)
    have h2 := this (k - j) (by omega)
    rwa [show j + (k - j) = k by omega] at h2
  · rcases S.hi with e | e
    · have : j = k := by omega
      subst this
      exact Rat.le_refl
    · have : ∀ d, k + d + 1 < ts.length → lin ts (k + d) s ≤ lin ts k s := by
        intro d
        induction d with
        | zero => intro _; exact Rat.le_refl
        | succ d ih =>
          intro hd
          have h1 := ih (by omega)
          have hx : s ≤ (px ts (k + d + 1) : Rat) := Rat.le_trans e (ratle (px_mono h (by omega) (by omega)))
          exact Rat.le_trans (lin_dn h (by omega) hx) h1
      have h2 := this (j - k) (by omega)
      rwa [show k + (j - k) = j by omega] at h2
/-- the value: the greatest of the lines -/
def maxL (ts : List (Int × Int)) (s : Rat) : Nat → Rat
  | 0 => lin ts 0 s
  | n + 1 => if maxL ts s n < lin ts (n + 1) s then lin ts (n + 1) s else maxL ts s n
def tabV (ts : List (Int × Int)) (s : Rat) : Rat := maxL ts s (ts.length - 2)
theorem maxL_ge {ts : List (Int × Int)} {s : Rat} : ∀ {n j : Nat}, j ≤ n → lin ts j s ≤ maxL ts s n
  | 0, j, h => by
    have : j = 0 := by omega
    subst this
    exact Rat.le_refl
  | n + 1, j, h => by
    unfold maxL
    by_cases e : j = n + 1
    · subst e
      split
      · exact Rat.le_refl
      · grind
    · have := maxL_ge (ts := ts) (s := s) (n := n) (j := j) (by omega)
      split
      · grind
      · exact this
theorem maxL_at {ts : List (Int × Int)} {s : Rat} : ∀ {n : Nat}, ∃ j, j ≤ n ∧ maxL ts s n = lin ts j s
  | 0 => ⟨0, Nat.le_refl _, rfl⟩
  | n + 1 => by
    unfold maxL
    split
    · exact ⟨n + 1, Nat.le_refl _, rfl⟩
    · obtain ⟨j, h, e⟩ := maxL_at (ts := ts) (s := s) (n := n)
      exact ⟨j, by omega, e⟩
theorem Sel.val {ts : List (Int × Int)} {s : Rat} {k : Nat} (h : TabOk ts) (S : Sel ts s k) : lin ts k s = tabV ts s := by
  have n2 := h.n2
  have a := maxL_ge (ts := ts) (s := s) (n := ts.length - 2) (j := k) (by have := S.lt; omega)
  obtain ⟨j, hj, e⟩ := maxL_at (ts := ts) (s := s) (n := ts.length - 2)
  have b := S.top h j (by omega)
  unfold tabV
  rw [e] at a ⊢
  exact Rat.le_antisymm a b
/-- convex -/
theorem tab_convex {ts : List (Int × Int)} (a b : Rat) : ¬ (tabV ts a + tabV ts b) * Rat.divInt 1 2 < tabV ts ((a + b) * Rat.divInt 1 2) := by
  obtain ⟨j, hj, e⟩ := maxL_at (ts := ts) (s := (a + b) * Rat.divInt 1 2) (n := ts.length - 2)
  have h1 := maxL_ge (ts := ts) (s := a) hj
  have h2 := maxL_ge (ts := ts) (s := b) hj
  have half : Rat.divInt 1 2 = 1 / 2 := by rw [divInt_div]; rfl
  show ¬ (maxL ts a (ts.length - 2) + maxL ts b (ts.length - 2)) * Rat.divInt 1 2 < maxL ts ((a + b) * Rat.divInt 1 2) (ts.length - 2)
  rw [e]
  generalize maxL ts a (ts.length - 2) = x at h1
  generalize maxL ts b (ts.length - 2) = y at h2
  unfold lin at h1 h2 ⊢
  rw [half]
  generalize slo ts j = m at h1 h2 ⊢
  generalize (py ts j : Rat) = q at h1 h2 ⊢
  generalize (px ts j : Rat) = r at h1 h2 ⊢
  grind
theorem sq_convex (a b : Rat) : ¬ (a * a + b * b) * Rat.divInt 1 2 < ((a + b) * Rat.divInt 1 2) * ((a + b) * Rat.divInt 1 2) := by
  have half : Rat.divInt 1 2 = 1 / 2 := by rw [divInt_div]; rfl
  rw [half]
  have h : 0 ≤ (a - b) * (a - b) := by
    rcases Rat.le_total (a := a - b) (b := 0) with h | h
    · have := Rat.mul_nonneg (a := -(a - b)) (b := -(a - b)) (by grind) (by grind)
      grind
    · exact Rat.mul_nonneg h h
  grind
/-! ### data -/
/-- a price: the square, or a table -/
abbrev Pr := Option (List (Int × Int))
def dPt (t : Int × Int) : PyData := .tuple [.int t.1, .int t.2]
def dPr : Pr → PyData
  | none => .tuple [.str ("square" : Str)]
  | some ts => .tuple [.str ("table" : Str), .tuple (ts.map dPt)]
def PriceOk : Pr → Prop
  | none => True
  | some ts => TabOk ts
def prV : Pr → Rat → Rat
  | none, s => s * s
  | some ts, s => tabV ts s
theorem pr_convex (pr : Pr) (a b : Rat) : ¬ (prV pr a + prV pr b) * Rat.divInt 1 2 < prV pr ((a + b) * Rat.divInt 1 2) := by
  cases pr with
  | none => exact sq_convex a b
  | some ts => exact tab_convex a b
theorem sz_cast {z : Int} {n : Nat} (h : z.natAbs < 2 ^ n) (hn : 1 ≤ n) : Sz n (z : Rat) := sz_int h hn
theorem TabOk.szx {ts : List (Int × Int)} (h : TabOk ts) (i : Nat) : Sz 60 (px ts i : Rat) := sz_cast (h.bx i) (by decide)
theorem TabOk.szy {ts : List (Int × Int)} (h : TabOk ts) (i : Nat) : Sz 60 (py ts i : Rat) := sz_cast (h.bY i) (by decide)
theorem TabOk.dx {ts : List (Int × Int)} (h : TabOk ts) (i : Nat) : (px ts (i + 1) - px ts i).natAbs < 2 ^ 61 := by
  have := h.bx i
  have := h.bx (i + 1)
  omega
theorem TabOk.dy {ts : List (Int × Int)} (h : TabOk ts) (i : Nat) : (py ts (i + 1) - py ts i).natAbs < 2 ^ 61 := by
  have := h.bY i
  have := h.bY (i + 1)
  omega
theorem slo_div (ts : List (Int × Int)) (i : Nat) : Rat.divInt (py ts (i + 1) - py ts i) (px ts (i + 1) - px ts i) = slo ts i := divInt_div _ _
theorem TabOk.szs {ts : List (Int × Int)} (h : TabOk ts) {i : Nat} (hi : i + 1 < ts.length) : Sz 61 (slo ts i) := by
  rw [← slo_div]
  have := h.up i hi
  exact Sz.divInt (by omega) (h.dy i) (h.dx i)
theorem sz_line {n : Nat} {s m : Rat} {x y : Int} (hs : Sz n s) (hx : Sz 60 (x : Rat)) (hy : Sz 60 (y : Rat)) (hm : Sz 61 m) : Sz (60 + n + 60 + 61 + 2 + 61) ((y : Rat) + m * (s - (x : Rat))) := by
  have h1 := hs.sub hx
  have h2 := hm.mul h1
  have h3 := hy.add h2
  exact h3.mono (by omega)
theorem prV_sz {pr : Pr} {n : Nat} {s : Rat} (h : PriceOk pr) (hs : Sz n s) : Sz (2 * n + 400) (prV pr s) := by
  cases pr with
  | none => exact (hs.mul hs).mono (by omega)
  | some ts =>
    obtain ⟨j, hj, e⟩ := maxL_at (ts := ts) (s := s) (n := ts.length - 2)
    have n2 := TabOk.n2 h
    have := sz_line hs (TabOk.szx h j) (TabOk.szy h j) (TabOk.szs h (i := j) (by omega))
    show Sz _ (maxL ts s (ts.length - 2))
    rw [e]
    exact this.mono (by omega)
/-- the price at a speed -/
def spPrice (K : PySem.W.Frag) : Sp := fun vs H Q _ => ∃ (x y : V) (pr : Pr) (s : Rat), vs = [x, y] ∧ Is K H x (dPr pr) ∧ Is K H y (rat2 s) ∧ PriceOk pr ∧ 0 ≤ s ∧ Sz 1700 s ∧ ∀ v H', Same H H' → Is K H' v (rat2 (prV pr s)) → Q v H'
theorem pt_at {K : PySem.W.Frag} {H : Hp} {v : V} {t : Int × Int} (h : Is K H v (dPt t)) : ∃ p, v = .ref p ∧ SqT K H p [.int t.1, .int t.2] := by
  obtain ⟨p, a, b, rfl, s, h1, h2⟩ := Is.two' h
  cases h1; cases h2
  exact ⟨p, rfl, s⟩
theorem pts_get {K : PySem.W.Frag} {H : Hp} {xs : List V} {ts : List (Int × Int)} {i : Nat} (h : IsA K H xs (ts.map dPt)) (hi : i < ts.length) : ∃ p, xs[i]? = some (.ref p) ∧ SqT K H p [.int (px ts i), .int (py ts i)] := by
  obtain ⟨v, e, iv⟩ := h.get (i := i) (d := dPt ts[i]) (by rw [List.getElem?_map, List.getElem?_eq_getElem hi]; rfl)
  obtain ⟨p, rfl, s⟩ := pt_at iv
  refine ⟨p, e, ?_⟩
  have : ts.getD i (0, 0) = ts[i] := by rw [List.getD_eq_getElem?_getD, List.getElem?_eq_getElem hi]; rfl
  unfold px py
  rw [this]
  exact s
theorem tabL_get {xs : List V} {ts : List (Int × Int)} {i : Nat} {v : V} {K : PySem.W.Frag} {H : Hp} (h : IsA K H xs (ts.map dPt)) (e : xs[i]? = some v) : i < ts.length := by
  have := h.len
  rw [List.length_map] at this
  have := (List.getElem?_eq_some_iff.mp e).1
  omega
theorem cut_drop1 (xs : List V) : cutV xs (some 1) none = xs.drop 1 := by
  unfold cutV
  rw [HT.sIx_none, show (1 : Int) = ((1 : Nat) : Int) from rfl, HT.sIx_nat]
  by_cases h : 1 ≤ xs.length
  · rw [Nat.min_eq_left h]
    exact List.take_of_length_le (by rw [List.length_drop]; exact Nat.le_refl _)
  · have : xs = [] := List.eq_nil_of_length_eq_zero (by omega)
    subst this
    rfl
theorem pr_none {K : PySem.W.Frag} {H : Hp} {v : V} (h : Is K H v (dPr none)) : ∃ a, v = .ref a ∧ SqT K H a [.str ("square" : Str)] := by
  obtain ⟨a, xs, rfl, s, q⟩ := Is.tup' h
  cases q with
  | cons h1 q => cases q; cases h1; exact ⟨a, rfl, s⟩
theorem pr_some {K : PySem.W.Frag} {H : Hp} {v : V} {ts : List (Int × Int)} (h : Is K H v (dPr (some ts))) : ∃ a b xs, v = .ref a ∧ SqT K H a [.str ("table" : Str), .ref b] ∧ SqT K H b xs ∧ IsA K H xs (ts.map dPt) := by
  obtain ⟨a, x, y, rfl, s, h1, h2⟩ := Is.two' h
  cases h1
  obtain ⟨b, xs, rfl, sb, q⟩ := Is.tup' h2
  exact ⟨a, b, xs, rfl, s, sb, q⟩
theorem is_whole {K : PySem.W.Frag} {H : Hp} {t : Addr} {z : Int} : Is K (upd H t (.tup [.int z, .int 1])) (.ref t) (rat2 (z : Rat)) := .tup (SqT.of upd_same) (.two (.int _) (.int _))
/-! ### how a table is made -/
theorem px_push {ts : List (Int × Int)} {t : Int × Int} {k : Nat} (h : k < ts.length) : px (ts ++ [t]) k = px ts k := by
  unfold px
  rw [List.getD_eq_getElem?_getD, List.getD_eq_getElem?_getD, List.getElem?_append_left h]
theorem py_push {ts : List (Int × Int)} {t : Int × Int} {k : Nat} (h : k < ts.length) : py (ts ++ [t]) k = py ts k := by
  unfold py
  rw [List.getD_eq_getElem?_getD, List.getD_eq_getElem?_getD, List.getElem?_append_left h]
theorem px_last {ts : List (Int × Int)} {t : Int × Int} : px (ts ++ [t]) ts.length = t.1 := by
  unfold px
  rw [List.getD_eq_getElem?_getD, List.getElem?_append_right (Nat.le_refl _), Nat.sub_self]
  rfl
theorem py_last {ts : List (Int × Int)} {t : Int × Int} : py (ts ++ [t]) ts.length = t.2 := by
  unfold py
  rw [List.getD_eq_getElem?_getD, List.getElem?_append_right (Nat.le_refl _), Nat.sub_self]
  rfl
/-- i lines of a table are made; m is the next slope -/
structure TbMid (i : Nat) (m : Int) (ts : List (Int × Int)) : Prop where
  len : ts.length = i + 1
  i5 : i ≤ 5
  m0 : m.natAbs ≤ 3 + 63 * i
  x0 : px ts 0 = 0
  up : ∀ k, k + 1 < ts.length → px ts k < px ts (k + 1)
  cv : ∀ k, k + 2 < ts.length → (py ts (k + 1) - py ts k) * (px ts (k + 2) - px ts (k + 1)) ≤ (py ts (k + 2) - py ts (k + 1)) * (px ts (k + 1) - px ts k)
  la : ∀ k, k + 1 < ts.length → py ts (k + 1) - py ts k ≤ m * (px ts (k + 1) - px ts k)
  bd : ∀ k, k < ts.length → 0 ≤ px ts k ∧ px ts k ≤ 6 * i ∧ (py ts k).natAbs ≤ 2400 * i
theorem TbMid.one {m : Int} (h : m.natAbs ≤ 3) : TbMid 0 m [(0, 0)] := by
  refine ⟨rfl, by decide, h, rfl, fun k hk => ?_, fun k hk => ?_, fun k hk => ?_, fun k hk => ?_⟩
  · simp at hk
  · simp at hk
  · simp at hk
  · have : k = 0 := by simpa using hk
    subst this
    decide
theorem mul_up {a m x y : Int} (h : m ≤ y) (hx : 0 ≤ x) (ha : a ≤ m * x) : a ≤ y * x := Int.le_trans ha (Int.mul_le_mul_of_nonneg_right h hx)
theorem TbMid.push {i : Nat} {m st d : Int} {ts : List (Int × Int)} (h : TbMid i m ts) (hi : i < 5) (s0 : 1 ≤ st) (s1 : st ≤ 6) (d0 : 0 ≤ d) (d1 : d ≤ 63) : TbMid (i + 1) (m + d) (ts ++ [(px ts i + st, py ts i + m * st)]) := by
  have hl := h.len
  have lst : ts.length = i + 1 := hl
  have ex : px (ts ++ [(px ts i + st, py ts i + m * st)]) (i + 1) = px ts i + st := by
    have := px_last (ts := ts) (t := (px ts i + st, py ts i + m * st))
    rw [hl] at this
    exact this
  have ey : py (ts ++ [(px ts i + st, py ts i + m * st)]) (i + 1) = py ts i + m * st := by
    have := py_last (ts := ts) (t := (px ts i + st, py ts i + m * st))
    rw [hl] at this
    exact this
  have ll : (ts ++ [(px ts i + st, py ts i + m * st)]).length = i + 2 := by rw [List.length_append, hl]; rfl
  have m0 := h.m0
  have bmul : (m * st).natAbs ≤ 400 * 6 := by
    rw [Int.natAbs_mul]
    exact Nat.mul_le_mul (by omega) (by omega)
  generalize et : (px ts i + st, py ts i + m * st) = t at *
  refine ⟨by rw [ll], by omega, by omega, ?_, ?_, ?_, ?_, ?_⟩
  · rw [px_push (by omega)]; exact h.x0
  · intro k hk
    rw [ll] at hk
    by_cases e : k = i
    · subst e
      rw [ex, px_push (by omega)]
      omega
    · rw [px_push (by omega), px_push (by omega)]
      exact h.up k (by omega)
  · intro k hk
    rw [ll] at hk
    by_cases e : k + 1 = i
    · subst e
      rw [show k + 2 = k + 1 + 1 from rfl, ex, ey, px_push (k := k + 1) (by omega), px_push (k := k) (by omega), py_push (k := k + 1) (by omega), py_push (k := k) (by omega)]
      have la := h.la k (by omega)
      have := Int.mul_le_mul_of_nonneg_right la (show (0 : Int) ≤ st by omega)
      rw [show px ts (k + 1) + st - px ts (k + 1) = st by omega, show py ts (k + 1) + m * st - py ts (k + 1) = m * st by omega]
      rw [Int.mul_right_comm] at this
      exact this
    · rw [px_push (by omega), px_push (by omega), px_push (by omega), py_push (by omega), py_push (by omega), py_push (by omega)]
      exact h.cv k (by omega)
  · intro k hk
    rw [ll] at hk
    by_cases e : k = i
    · subst e
      rw [ex, ey, px_push (by omega), py_push (by omega), show px ts k + st - px ts k = st by omega, show py ts k + m * st - py ts k = m * st by omega]
      exact Int.mul_le_mul_of_nonneg_right (by omega) (by omega)
    · rw [px_push (by omega), px_push (by omega), py_push (by omega), py_push (by omega)]
      have u := h.up k (by omega)
      exact mul_up (by omega) (by omega) (h.la k (by omega))
  · intro k hk
    rw [ll] at hk
    by_cases e : k = i + 1
    · subst e
      rw [ex, ey]
      have := h.bd i (by omega)
      omega
    · rw [px_push (by omega), py_push (by omega)]
      have := h.bd k (by omega)
      omega
theorem px_map {ts : List (Int × Int)} {w l : Int} {k : Nat} (h : k < ts.length) : px (ts.map fun t => (t.1 * w, t.2 + l)) k = px ts k * w := by
  unfold px
  rw [List.getD_eq_getElem?_getD, List.getD_eq_getElem?_getD, List.getElem?_map, List.getElem?_eq_getElem h]
  rfl
theorem py_map {ts : List (Int × Int)} {w l : Int} {k : Nat} (h : k < ts.length) : py (ts.map fun t => (t.1 * w, t.2 + l)) k = py ts k + l := by
  unfold py
  rw [List.getD_eq_getElem?_getD, List.getD_eq_getElem?_getD, List.getElem?_map, List.getElem?_eq_getElem h]
  rfl
theorem p_out {ts : List (Int × Int)} {k : Nat} (h : ts.length ≤ k) : px ts k = 0 ∧ py ts k = 0 := by
  unfold px py
  rw [List.getD_eq_getElem?_getD, List.getElem?_eq_none h]
  exact ⟨rfl, rfl⟩
theorem TbMid.fin {i : Nat} {m w l : Int} {ts : List (Int × Int)} (h : TbMid i m ts) (hi : 1 ≤ i) (w0 : 1 ≤ w) (w1 : w ≤ 20001) (l0 : 0 ≤ l) (l1 : l ≤ 100000) : TabOk (ts.map fun t => (t.1 * w, t.2 + l)) := by
  have hl := h.len
  have i5 := h.i5
  have ll : (ts.map fun t => (t.1 * w, t.2 + l)).length = i + 1 := by rw [List.length_map, hl]
  refine ⟨by omega, by omega, by rw [px_map (by omega), h.x0, Int.zero_mul], fun k hk => ?_, fun k hk => ?_, fun k => ?_, fun k => ?_⟩
  · rw [ll] at hk
    rw [px_map (by omega), px_map (by omega)]
    exact Int.mul_lt_mul_of_pos_right (h.up k (by omega)) (by omega)
  · rw [ll] at hk
    rw [px_map (by omega), px_map (by omega), px_map (by omega), py_map (by omega), py_map (by omega), py_map (by omega)]
    have := Int.mul_le_mul_of_nonneg_right (h.cv k (by omega)) (show (0 : Int) ≤ w by omega)
    grind
  · by_cases hk : k < ts.length
    · rw [px_map hk]
      have b := h.bd k hk
      have : (px ts k * w).natAbs ≤ 30 * 20001 := by
        rw [Int.natAbs_mul]
        exact Nat.mul_le_mul (by omega) (by omega)
      exact Nat.lt_of_le_of_lt this (by decide)
    · rw [(p_out (by rw [ll]; omega)).1]
      decide
  · by_cases hk : k < ts.length
    · rw [py_map hk]
      have b := h.bd k hk
      exact Nat.lt_of_le_of_lt (show _ ≤ 200000 by omega) (by decide)
    · rw [(p_out (by rw [ll]; omega)).2]
      decide
def spTable (K : PySem.W.Frag) : Sp := fun vs H Q _ => ∃ (p pa : Addr), vs = [.ref p] ∧ Pl p pa H ∧ ∀ v (ts : List (Int × Int)) H', TabOk ts → Kp p H H' → Pl p pa H' → Is K H' v (dPr (some ts)) → Q v H'
/-- further built-in names -/
structure BJ (mg : Str → Option Value) : Prop where
  zip : mg "zip" = none
  max : mg "max" = none
  min : mg "min" = none
/-- a loop over zip of a tuple and a shorter one -/
theorem for_zipS {K : PySem.W.Frag} {a b : Addr} {xs ys : List V} {g : TG} {tb : TS} {D : Ends} {σ : L2.St} {H : Hp} (hl : ys.length ≤ xs.length) (Pv : Nat → L2.St → Hp → Prop) (h0 : Pv 0 σ H) (hq : ∀ i σ H, Pv i σ H → SqT K H a xs ∧ SqT K H b ys)
    (hs : ∀ (i : Nat) (x y : V) (T : Addr) (σ : L2.St) (H : Hp), xs[i]? = some x → ys[i]? = some y → Pv i σ H → H T = none → g (.ref T) σ (upd H T (.tup [x, y])) fun σ2 H2 => tb { D with nx := Pv (i + 1), ct := Pv (i + 1), bk := D.nx } σ2 H2) (hd : ∀ σ H, Pv ys.length σ H → D.nx σ H) :
    ∃ W : Nat → Nat → L2.St → Hp → Prop, (∃ m, W 0 m σ H) ∧ ∀ i m σ H, W i m σ H →
      ((RZ.ItzT K a b).stop i H ∧ D.nx σ H) ∨ ((RZ.ItzT K a b).go i H ∧ ∃ N : L2.St → Hp → Prop, (∀ σ' H', N σ' H' → ∃ m', m' < m ∧ W (i + 1) m' σ' H') ∧ ∀ v H', (RZ.ItzT K a b).yld i H v H' → g v σ H' fun σ2 H2 => tb { D with nx := N, ct := N, bk := D.nx } σ2 H2) := by
  refine ⟨fun i m σ H => m = ys.length - i ∧ i ≤ ys.length ∧ Pv i σ H, ⟨ys.length, rfl, Nat.zero_le _, h0⟩, ?_⟩
  rintro i m σ H ⟨rfl, hi, p⟩
  obtain ⟨qx, qy⟩ := hq i σ H p
  by_cases hlt : i < ys.length
  · have hlt2 : i < xs.length := by omega
    have hx : xs[i]? = some xs[i] := List.getElem?_eq_getElem hlt2
    have hy : ys[i]? = some ys[i] := List.getElem?_eq_getElem hlt
    refine .inr ⟨⟨xs, ys, _, _, qx, qy, hx, hy⟩, Pv (i + 1), fun σ' H' p' => ⟨ys.length - (i + 1), by omega, rfl, hlt, p'⟩, fun v H' y => ?_⟩
    obtain ⟨T, x', y', rfl, hT, rfl, f1, f2⟩ := y
    exact hs i x' y' T σ H (f1 xs qx) (f2 ys qy) p hT
  · have e : i = ys.length := by omega
    subst e
    exact .inl ⟨⟨xs, ys, qx, qy, Or.inr (Nat.le_refl _)⟩, hd σ H p⟩
/-- the points at a -/
def spTab (K : PySem.W.Frag) : Sp := fun vs H Q _ => ∃ (a : Addr) (xs : List V) (y : V) (ts : List (Int × Int)) (s : Rat), vs = [.ref a, y] ∧ SqT K H a xs ∧ IsA K H xs (ts.map dPt) ∧ Is K H y (rat2 s) ∧ TabOk ts ∧ 0 ≤ s ∧ Sz 1700 s ∧ ∀ v H', Same H H' → Is K H' v (rat2 (tabV ts s)) → Q v H'
/-- what the program's loop holds behind i pairs -/
def TPi (ts : List (Int × Int)) (s : Rat) (i j : Nat) (sl : Rat) : Prop :=
  (∀ k, j < k → k < i → ¬ (px ts k : Rat) < s) ∧ ((j < i ∧ (px ts j : Rat) < s ∧ sl = slo ts j) ∨ (j = 0 ∧ sl = 0 ∧ (0 < i → ¬ (px ts 0 : Rat) < s)))
theorem TPi.yes {ts : List (Int × Int)} {s : Rat} {i : Nat} (h : (px ts i : Rat) < s) : TPi ts s (i + 1) i (slo ts i) := ⟨fun k a b => by omega, .inl ⟨by omega, h, rfl⟩⟩
theorem TPi.no {ts : List (Int × Int)} {s : Rat} {i j : Nat} {sl : Rat} (h : ¬ (px ts i : Rat) < s) (p : TPi ts s i j sl) : TPi ts s (i + 1) j sl := by
  refine ⟨fun k a b => ?_, ?_⟩
  · by_cases e : k = i
    · subst e; exact h
    · exact p.1 k a (by omega)
  · rcases p.2 with ⟨a, b, c⟩ | ⟨a, b, c⟩
    · exact .inl ⟨by omega, b, c⟩
    · refine .inr ⟨a, b, fun _ => ?_⟩
      by_cases e : i = 0
      · subst e; exact h
      · exact c (by omega)
theorem TPi.end' {ts : List (Int × Int)} {s sl : Rat} {j : Nat} (ht : TabOk ts) (h0 : 0 ≤ s) (p : TPi ts s (ts.length - 1) j sl) : (py ts j : Rat) + sl * (s - (px ts j : Rat)) = tabV ts s := by
  have n2 := ht.n2
  rcases p.2 with ⟨a, b, rfl⟩ | ⟨rfl, rfl, c⟩
  · have S : Sel ts s j := by
      refine ⟨by omega, by grind, ?_⟩
      by_cases e : j + 2 = ts.length
      · exact .inl e
      · exact .inr (Rat.not_lt.mp (p.1 (j + 1) (by omega) (by omega)))
    exact S.val ht
  · have c := Rat.not_lt.mp (c (by omega))
    have z : (px ts 0 : Rat) = 0 := by rw [ht.x0]; rfl
    have s0 : s = 0 := by
      rw [z] at c
      exact Rat.le_antisymm c h0
    have u := ratlt (ht.up 0 (by omega))
    have S : Sel ts s 0 := ⟨by omega, by rw [z]; exact h0, .inr (by rw [s0, ← z]; exact Rat.le_of_lt u)⟩
    rw [← S.val ht]
    unfold lin
    rw [z, s0]
    grind
/-- what the law's loop holds -/
def LPi (ts : List (Int × Int)) (s : Rat) (i j : Nat) : Prop := (∀ k, j < k → k < i → s < (px ts k : Rat)) ∧ (j = 0 ∨ (j < i ∧ ¬ s < (px ts j : Rat)))
theorem LPi.end' {ts : List (Int × Int)} {s : Rat} {j : Nat} (ht : TabOk ts) (h0 : 0 ≤ s) (p : LPi ts s (ts.length - 1) j) : lin ts j s = tabV ts s := by
  have n2 := ht.n2
  have z : (px ts 0 : Rat) = 0 := by rw [ht.x0]; rfl
  have jl : j + 1 < ts.length := by
    rcases p.2 with rfl | ⟨a, _⟩ <;> omega
  have S : Sel ts s j := by
    refine ⟨jl, ?_, ?_⟩
    · rcases p.2 with rfl | ⟨_, b⟩
      · rw [z]; exact h0
      · exact Rat.not_lt.mp b
    · by_cases e : j + 2 = ts.length
      · exact .inl e
      · exact .inr (Rat.le_of_lt (p.1 (j + 1) (by omega) (by omega)))
  exact S.val ht
end Z

/-! Own rules: min, max with default; sorted of a set, downwards; comprehensions of sets of whole numbers. -/
namespace Z
open PySem PySem.Spec PyProof.Rows L2
theorem reads_nums {h : Heap} : ∀ {ns : List Int} {us : List Value}, Vals (ns.map V.int) us → ∃ as, ReadsAll h us (ns.map PyData.int) as
  | [], _, .nil => ⟨_, .nil⟩
  | n :: ns, _, .cons r t => by
    obtain ⟨k, rfl⟩ := r
    obtain ⟨as, h1⟩ := reads_nums (ns := ns) t
    exact ⟨_, .cons (.int n k) h1⟩
theorem alike_nums (ns : List Int) : PySem.W.AlikeAll (ns.map PyData.int) := by
  refine ⟨fun x hx y hy => ?_, fun x hx => ?_⟩
  · obtain ⟨i, _, rfl⟩ := List.mem_map.mp hx
    obtain ⟨j, _, rfl⟩ := List.mem_map.mp hy
    rfl
  · obtain ⟨i, _, rfl⟩ := List.mem_map.mp hx
    exact fun e => nomatch e
theorem deep_nums : ∀ ns : List Int, PyData.depthAll (ns.map PyData.int) ≤ 3
  | [] => by simp [PyData.depthAll]
  | n :: ns => by
    have := deep_nums ns
    rw [List.map_cons, PyData.depthAll]
    simp only [PyData.depth]
    omega
/-- least (greatest) of a list of whole numbers, or d -/
def rBestD (K : PySem.W.Frag) (g : Int → Int → Int) : List V → List V → Hp → VK → Prop := fun vs zs H Q => ∃ (a : Addr) (ns : List Int) (d : Int), vs = [V.ref a] ∧ zs = [V.int d] ∧ SqL K H a (ns.map V.int) ∧ ∀ m, (ns = [] → m = d) → (∀ n r, ns = n :: r → m = r.foldl g n) → Q (.int m) H
section
variable {X : Cx}
theorem cr_minD (calm : X.calm = true) (room : X.A.units + 64 < cLine) : CallRK X (.builtin "min") [Str.ofString "default"] (rBestD X.K min) := by
  intro pins s σ H vs zs us ws Q inv rel relz rd
  obtain ⟨a, ns, d, rfl, rfl, lst, q⟩ := rd
  obtain ⟨items, rv, at', _⟩ := inv.list lst
  rw [Vals.ref1 rel]
  obtain ⟨w1, rfl, e1⟩ := vals1 relz
  obtain ⟨tk, rfl⟩ := e1
  obtain ⟨as, reads⟩ := reads_nums (h := s.heap) rv
  have deep := deep_nums ns
  refine PySem.W.min_list_default (inv.ok.hd calm) at'.isList (by simpa using reads) (alike_nums ns) (by omega) (fun e h2 t2 keep => ?_) fun y ys i v h2 t2 bs e hv hr keep => ?_
  · exact ⟨.int d, H, inv.kept keep, ⟨_, rfl⟩, q d (fun _ => rfl) fun n r z => by rw [z] at e; cases e⟩
  · cases ns with
    | nil => cases e
    | cons n r =>
      have e2 := List.cons.inj e
      rw [← e2.1, ← e2.2, PySem.W.minD_ints] at hr
      cases hr
      exact ⟨.int _, H, inv.kept keep, ⟨_, rfl⟩, q _ (fun z => nomatch z) fun n' r' z => by rw [(List.cons.inj z).1, (List.cons.inj z).2]⟩
theorem cr_maxD (calm : X.calm = true) (room : X.A.units + 64 < cLine) : CallRK X (.builtin "max") [Str.ofString "default"] (rBestD X.K max) := by
  intro pins s σ H vs zs us ws Q inv rel relz rd
  obtain ⟨a, ns, d, rfl, rfl, lst, q⟩ := rd
  obtain ⟨items, rv, at', _⟩ := inv.list lst
  rw [Vals.ref1 rel]
  obtain ⟨w1, rfl, e1⟩ := vals1 relz
  obtain ⟨tk, rfl⟩ := e1
  obtain ⟨as, reads⟩ := reads_nums (h := s.heap) rv
  have deep := deep_nums ns
  refine PySem.W.max_list_default (inv.ok.hd calm) at'.isList (by simpa using reads) (alike_nums ns) (by omega) (fun e h2 t2 keep => ?_) fun y ys i v h2 t2 bs e hv hr keep => ?_
  · exact ⟨.int d, H, inv.kept keep, ⟨_, rfl⟩, q d (fun _ => rfl) fun n r z => by rw [z] at e; cases e⟩
  · cases ns with
    | nil => cases e
    | cons n r =>
      have e2 := List.cons.inj e
      rw [← e2.1, ← e2.2, PySem.W.maxD_ints] at hr
      cases hr
      exact ⟨.int _, H, inv.kept keep, ⟨_, rfl⟩, q _ (fun z => nomatch z) fun n' r' z => by rw [(List.cons.inj z).1, (List.cons.inj z).2]⟩
end
/-- sorted(a set, reverse=True) -/
def rSetDown (w : World) : List V → List V → Hp → VK → Prop := fun vs zs H Q => ∃ (a : Addr) (S : Int → Bool) (n : Nat), vs = [V.ref a] ∧ zs = [V.bl true] ∧ H a = some (SetO w a S n) ∧ n < 64 ∧
  ∀ (ns : List Int) (p : Addr), ns.Pairwise (· > ·) → (∀ k : Int, k ∈ ns ↔ S k = true) → ns.length = n → H p = none → Q (.ref p) (upd H p (.lst (ns.map V.int)))
theorem pw_down : ∀ {ns : List Int}, ns.Nodup → ns.Pairwise (· ≥ ·) → ns.Pairwise (· > ·)
  | _, nd, h => (List.Pairwise.and h nd).imp fun ⟨a, b⟩ => by omega
section
variable {X : Cx}
theorem cr_setDown (calm : X.calm = true) : CallRK X (.builtin "sorted") [Str.ofString "reverse"] (rSetDown X.w) := by
  intro pins s σ H vs zs us ws Q inv rel relz rd
  obtain ⟨a, S, n, rfl, rfl, ha, small, q⟩ := rd
  rw [Vals.ref1 rel]
  obtain ⟨w1, rfl, e1⟩ := vals1 relz
  obtain rfl : w1 = Value.bool true := e1
  obtain ⟨o, es, ep, t, ho, hex, hd, good, nodup, mem, hb, hf, hn, hr, hl⟩ := setO_get inv ha
  refine call_function_entry_kw kind_sorted plain_sorted entry_sorted (PyProof.Rows.args_sorted_rev _ _) ?_
  unfold Builtin.«sorted»
  refine wpAny_bind (m := checkCount "sorted" 1 1 _) (wpAny_pure (wpAny_bind (collect_set (A := X.A.in1) (inv.ok.hd calm) ⟨o, ho, hex.1, hd⟩ hf hb hr hl fun s1 out k1 z1 g1 o1 perm => ?_)))
  have len : out.length = n := by
    rw [perm.length_eq, List.length_map, Array.length_toList]
    exact hn
  have whole : IntsAre out (out.map Builtin.Re.reRawOf) := ints_of out fun v hv => by
    obtain ⟨e, he, q⟩ := List.mem_map.mp (perm.mem_iff.mp hv)
    obtain ⟨k, tk, h1, _⟩ := good e he
    exact ⟨k, tk, q ▸ h1⟩
  have perm2 : (out.map Builtin.Re.reRawOf).Perm (es.toList.map keyOf) := by
    have := perm.map Builtin.Re.reRawOf
    rwa [List.map_map] at this
  refine wpAny_bind (wpAny_newList ?_ (by rw [len, sizeLine_eq]; omega))
  have atL : (s1.heap.push (seqObj "list" out.toArray 0)).get? s1.heap.objs.size = some (seqObj "list" out.toArray 0) := Heap.get?_push_size _ rfl
  refine wpAny_bind (wpAny_holding (wpAny_call_entry_kw slot_list_sort ⟨_, atL, rfl⟩ entry_list_sort (SrtR.list_sort_ordR (b := true) SrtO.swo_int atL (by rw [len, sizeLine_eq]; omega) (fun h2 => SrtO.ints_sortable whole h2) fun out2 srt stb => ⟨_, rfl, ?_⟩) (PyProof.Rows.args_list_sort_rev _ _)))
  obtain ⟨ns', i1, p1, ord⟩ := SrtR.ints_outR (b := true) whole srt stb
  obtain ⟨c, hc⟩ := sortedHeap_at (vs := out) (out := out2.toArray.reverse) atL
  refine wpAny_pure ⟨_, rfl, ?_⟩
  have free := inv.hok.fresh z1
  have keep : ∀ b u, s.heap.get? b = some u → (sortedHeap (s1.heap.push (seqObj "list" out.toArray 0)) s1.heap.objs.size out out2.toArray.reverse).get? b = some u := fun b u e => by
    have e2 := k1 b u e
    have lt := Heap.lt_size e2
    rw [sortedHeap_old (Nat.ne_of_lt lt) (by rw [size_push']; exact Nat.lt_succ_of_lt lt)]
    exact Heap.get?_push_of_some _ e2
  have p2 := p1.trans perm2
  have nd2 : ns'.Nodup := p2.nodup_iff.mpr nodup
  have l2 : ns'.length = n := by
    rw [p2.length_eq, List.length_map, Array.length_toList]
    exact hn
  have fits : (ns'.map V.int).length ≤ sizeLine := by rw [List.length_map, l2, sizeLine_eq]; omega
  have i1 : IntsAre out2.toArray.reverse.toList ns' := i1
  have J := inv.call' (ch := []) (s' := { s1 with heap := sortedHeap (s1.heap.push (seqObj "list" out.toArray 0)) s1.heap.objs.size out out2.toArray.reverse }) o1 (Un.laid keep z1 free) (inv.hok.laid keep z1 (o := .lst (ns'.map V.int)) ⟨fits, out2.toArray.reverse.toList, c, vals_of_ints i1, by simpa using hc⟩) (by show AllBare s1.gens; rw [g1]; exact inv.bare) (fun _ z => nomatch z)
  exact ⟨.ref s1.heap.objs.size, _, J, rfl, q ns' _ (pw_down nd2 ord) (fun k => by rw [p2.mem_iff, ← mem k]) l2 free⟩
end
end Z

namespace Z
open PySem PySem.Spec PyProof.Rows L2
section
variable {X : Cx}
/-- the turns of {e for x in it if ..}, e a whole number, the set at D -/
def SiGo (w : World) (J : It) (g : TG) (tt : TT) (te : TE) (own : List Nat) (σ : L2.St) (D : Addr) (Qd : Hp → Prop) (W : Nat → Nat → Hp → Prop) : Prop := ∀ i m H, W i m H →
  (J.stop i H ∧ Qd H) ∨ (J.go i H ∧ ∃ N : Hp → Prop, (∀ H', N H' → ∃ m', m' < m ∧ W (i + 1) m' H') ∧ ∀ x H', J.yld i H x H' → g x (wipe σ own) H' fun σ2 H2 => wipe σ2 own = wipe σ own ∧ tt σ2 H2 fun b H3 =>
    if b = true then te σ2 H3 fun y H4 => ∃ (c : Int) (S : Int → Bool) (n : Nat), y = .int c ∧ H4 D = some (SetO w D S n) ∧ n + 1 < scanBound ∧ N (upd H4 D (SetO w D (fun j => S j || decide (j = c)) (if S c = true then n else n + 1))) else N H3)
def tSi (w : World) (wi : TI) (g : TG) (tt : TT) (te : TE) (own : List Nat) : TE := fun σ H Q => wi σ H fun J H1 => ∀ D, H1 D = none → ∃ W : Nat → Nat → Hp → Prop, (∃ m, W 0 m (upd H1 D (SetO w D (fun _ => false) 0))) ∧ SiGo w J g tt te own σ D (fun H' => Q (.ref D) H') W
theorem putSi {pins : List (Addr × Obj)} {σ : L2.St} {H : Hp} {s : Shared} {E : Value → Shared → Prop} {D : Addr} {S : Int → Bool} {n : Nat} {y : Int} {tk : Tok} {Q : Value → Shared → Prop} (inv : Inv X pins σ H s) (at' : H D = some (SetO X.w D S n)) (room : n + 1 < scanBound)
    (h : ∀ s', Inv X pins σ (upd H D (SetO X.w D (fun j => S j || decide (j = y)) (if S y = true then n else n + 1))) s' → Q .none s') : wpAny (model X.prog X.w) X.A (call (.builtin "set.add") [.ref D, .int y tk]) Q E s := by
  refine setR_add (setO_get inv at') room fun h' same new => h _ (inv.write (e := D) (t' := s.toks + 1) (by rw [at']; trivial) (.inl rfl) (fun b u hb hu => (same.2 b hb).trans hu) ?_ (setO_new new))
  obtain ⟨o, _, _, _, ho, _⟩ := new
  exact ⟨o, ho⟩
theorem core_si {pins : List (Addr × Obj)} {s : Shared} {σ : L2.St} {H : Hp} {Q : VK} {elt tg iter : Expr} {tests : List Expr} {sc : Scope} {own : List (PySem.Str × Nat)} {cp fp0 : Pos} {wi : TI} {g : TG} {tt : TT} {te : TE} {use : Option (Value → Sem Unit)} {Qf : Value → Shared → Prop}
    (calm : X.calm = true) (nodup : X.N.Nodup) (inv : Inv X pins σ H s) (walk : PI X tg iter wi) (blk : BlkOk X.N X.env.scope sc own)
    (h1 : ∀ (s : Shared) (H : Hp) (C : Addr) (cl : List (PySem.Str × Addr)) (fp : List Addr), PG (X.blk s H sc (compEnvC sc cl C X.env) fp) tg g)
    (h2 : ∀ (s : Shared) (H : Hp) (C : Addr) (cl : List (PySem.Str × Addr)) (fp : List Addr), PTs (X.blk s H sc (compEnvC sc cl C X.env) fp) tests tt)
    (h3 : ∀ (s : Shared) (H : Hp) (C : Addr) (cl : List (PySem.Str × Addr)) (fp : List Addr), PE (X.blk s H sc (compEnvC sc cl C X.env) fp) elt te) (fold : ∀ x, foldedSetIterable iter X.env x = pure x)
    (rd : tSi X.w wi g tt te (own.map (·.2)) σ H Q)
    (out : ∀ D C s' m H', Inv X pins σ H' s' → Q (.ref D) H' → s'.heap.Ns C m → FpOk X pins H' C → compPost (model X.prog X.w) X.A X.xe use Qf (.ref D) C (.ok .next) s') :
    wpAny (model X.prog X.w) X.A (comprehension (.SetComp elt [⟨tg, iter, tests, 0⟩] sc cp) sc X.env fp0 (newSet (.type "set")) false (eval iter X.env) use) Qf X.xe s := by
  have cells : ∀ y ∈ sc.names, y.2 = .free → ∃ c, X.env.cells.lookup y.1 = some c := fun y hy e => (blk.free y hy e).elim (fun k => inv.ok.has _ (.inl k)) (fun k => inv.ok.has _ (.inr k))
  refine wpAny_comprehension_free (use := use) rfl fold (closure_ok cells) blk.kind (fun y hy e => by rw [blk.uniq y hy, e]) (thn (walk.run pins s σ H _ inv rd) fun xv s1 hx => thn hx fun itv s2 h2' => ?_)
  obtain ⟨it, fp, tn, J, H2, e, inv2, T, st2, f2, q⟩ := h2'
  subst e
  refine PpSet.newSet_ok (newEnv_comp ?_)
  generalize hD : s2.heap.objs.size = D
  have free : H2 D = none := inv2.hok.fresh (Nat.le_of_eq hD)
  obtain ⟨W, ⟨m0, w0⟩, turns⟩ := q D free
  generalize ho : ({ cls := .type "set", dict := none, data := .set #[] 0 (.fresh 0 0 (!X.w.params.followText "set-order")) } : Obj) = o
  generalize hs3 : ({ s2 with heap := s2.heap.push o } : Shared) = s3
  have heap3 : s3.heap = s2.heap.push o := by rw [← hs3]
  have inv3 : Inv X pins σ (upd H2 D (SetO X.w D (fun _ => false) 0)) s3 := by
    subst hs3 hD ho
    exact inv2.laid (t' := s2.toks) (fun b o e => Heap.get?_push_of_some _ e) (Nat.le_refl _) (setO_new (setR_fresh X.w))
  generalize hH3 : upd H2 D (SetO X.w D (fun _ => false) 0) = H3 at inv3 w0
  have f3 : ∀ b ∈ fp, FpOk X pins H3 b ∧ b < s3.heap.objs.size := fun b hb => by
    obtain ⟨u, e, _⟩ := T.obj _ _ st2 b hb
    have lt := Heap.lt_size e
    refine ⟨⟨?_, (f2 b hb).2⟩, by rw [heap3, Heap.size_push]; exact Nat.lt_succ_of_lt lt⟩
    rw [← hH3, upd_ne (by rw [← hD]; exact Nat.ne_of_lt lt)]
    exact (f2 b hb).1
  have st3 : tn 0 s3.heap := T.keep _ _ _ st2 fun b _ u e => by rw [heap3]; exact Heap.get?_push_of_some _ e
  have inv4 := block_start inv3 blk nodup f3
  generalize hC : s3.heap.objs.size = C at inv4
  generalize hcl : cellsFrom (C + 1) sc.names (cloFrom X.env.cells sc.names []) = cl at inv4
  have pg := h1 s3 H3 C cl fp
  have pt := h2 s3 H3 C cl fp
  have pe := h3 s3 H3 C cl fp
  have frees : ∀ b ∈ fp, H3 b = none := fun b hb => (f3 b hb).1.1
  generalize hs4 : ({ s3 with heap := pushCells (s3.heap.push { cls := .type "dict", data := .dict #[] }) sc.names } : Shared) = s4 at inv4
  have st4 : tn 0 s4.heap := by
    rw [← hs4]
    exact T.keep _ _ _ st3 fun b _ u e => pushCells_keeps _ _ _ _ (Heap.get?_push_of_some _ e)
  suffices main : codeAny (model X.prog X.w) X.A (.compLoop (.SetComp elt [⟨tg, iter, tests, 0⟩] sc cp) 0 (.ref it) (.ref D) (compEnvC sc cl C X.env)) (compPost (model X.prog X.w) X.A X.xe use Qf (.ref D) C) s4 by
    exact PpSet.codeAny_compStart_set main (T.self X.A 0 _ _ _ st4 main)
  generalize hce : compEnvC sc cl C X.env = ce at inv4 pg pt pe ⊢
  have loc : ce.locals = C := by rw [← hce]; rfl
  have still : ∀ {σ' : L2.St} {H' : Hp} {s' : Shared}, Inv (X.blk s3 H3 sc ce fp) [] σ' H' s' → (∀ b ∈ fp, H' b = none) → ∀ b ∈ fp, FpOk (X.blk s3 H3 sc ce fp) [] H' b := fun {σ' H' s'} i' no b hb =>
    ⟨no b hb, (i'.ok.exf b hb).1, i'.ok.exfs b hb, .inl hb, fun x c e => (i'.ok.exf b hb).2 x c e, fun p hp => absurd (show p ∈ ([] : List (Addr × Obj)) ++ [] from hp) (by simp)⟩
  refine PpSet.compLoopS_any (fun n s' => ∃ i H', Inv (X.blk s3 H3 sc ce fp) [] (wipe σ (own.map (·.2))) H' s' ∧ tn i s'.heap ∧ (∀ b ∈ fp, H' b = none) ∧ W i n H') (fun n s5 h5 => ?_) m0 ⟨0, H3, inv4, st4, frees, w0⟩
  obtain ⟨i, H5, inv5, st5, no5, w5⟩ := h5
  rcases turns i n H5 w5 with ⟨stop, done⟩ | ⟨go, N, less, turn⟩
  · refine thnF (T.done (X.blk s3 H3 sc ce fp) rfl rfl rfl calm i [] s5 _ H5 (fun _ _ => False) inv5 (still inv5 no5) st5 stop) fun r s6 ⟨hr, inv6⟩ => ?_
    subst hr
    have inv7 : Inv X pins σ H5 s6 := inv3.call' (ch := fp) inv6.os inv6.base inv6.hok inv6.bare fun b hb => ⟨(f3 b hb).1.2.2.2.1, (f3 b hb).1.2.1, (f3 b hb).1.2.2.2.2.1, (f3 b hb).1.2.2.2.2.2⟩
    have noC : H5 C = none := by
      have := inv6.free
      rw [show (X.blk s3 H3 sc ce fp).env.locals = C from loc] at this
      exact this
    obtain ⟨m, ns, _⟩ := inv6.loc
    have ns : s6.heap.Ns C m := by
      rw [← loc]
      exact ns
    exact out D C s6 m H5 inv7 done ns (inv3.fpOk (by rw [← hC]; exact Nat.le_refl _) noC)
  · refine thnF (T.item (X.blk s3 H3 sc ce fp) rfl rfl rfl calm i [] s5 _ H5 (fun _ _ => False) inv5 (still inv5 no5) st5 go) fun r s6 ⟨u, hr, h6⟩ => ?_
    subst hr
    refine thnF h6 fun _ s7 ⟨x, H7, inv7, r7, y7, st7, no7⟩ => ?_
    have pinned := inv7.pinned (still inv7 no7) (T.obj _ _ st7)
    refine thnF (pg.run _ s7 _ H7 x u _ pinned r7 (turn x H7 y7)) fun _ s8 ⟨σ8, H8, inv8, hw8, q8⟩ => thnF (pt.run _ s8 σ8 H8 _ inv8 q8) fun b s9 ⟨H9, inv9, q9⟩ => ?_
    have fin : ∀ {s' : Shared} {H' : Hp}, Inv (X.blk s3 H3 sc ce fp) ([] ++ pinsAt fp s7.heap) σ8 H' s' → N H' → ∃ m, m < n ∧ ∃ i H', Inv (X.blk s3 H3 sc ce fp) [] (wipe σ (own.map (·.2))) H' s' ∧ tn i s'.heap ∧ (∀ b ∈ fp, H' b = none) ∧ W i m H' := fun {s' H'} i' nx => by
      obtain ⟨m', lt, w'⟩ := less H' nx
      have old : ∀ b ∈ fp, ∀ o, s7.heap.get? b = some o → s'.heap.get? b = some o ∧ H' b = none := fun b hb o e =>
        let z := i'.pin (b, o) (List.mem_append_right _ (List.mem_append_right _ (mem_pinsAt hb e)))
        ⟨z.1, z.2.1⟩
      have len : (wipe σ (own.map (·.2))).length = σ8.length := by
        rw [← hw8, wipe_length]
      refine ⟨m', lt, i + 1, H', (i'.unpinned (pins := [])).weak len (fun j v e => (wipe_some (hw8 ▸ e)).1), T.keep _ _ _ st7 fun b hb o e => (old b hb o e).1, fun b hb => ?_, w'⟩
      obtain ⟨o, e, _⟩ := T.obj _ _ st7 b hb
      exact (old b hb o e).2
    cases b with
    | false => exact fin inv9 q9
    | true =>
      refine thnF (pe.run _ s9 σ8 H9 _ inv9 q9) fun z s10 ⟨yv, H10, inv10, r10, cb, S0, n0, ey, at10, room10, nx⟩ => ?_
      subst ey
      obtain ⟨tk, rfl⟩ := (show ∃ k, z = Value.int cb k from r10)
      exact putSi (X := X.blk s3 H3 sc ce fp) inv10 at10 room10 fun s11 inv11 => fin inv11 nx
/-- as a value -/
theorem pe_si {elt tg iter : Expr} {tests : List Expr} {sc : Scope} {own : List (PySem.Str × Nat)} {cp : Pos} {wi : TI} {g : TG} {tt : TT} {te : TE} (calm : X.calm = true) (nodup : X.N.Nodup) (walk : PI X tg iter wi) (blk : BlkOk X.N X.env.scope sc own)
    (h1 : ∀ (s : Shared) (H : Hp) (C : Addr) (cl : List (PySem.Str × Addr)) (fp : List Addr), PG (X.blk s H sc (compEnvC sc cl C X.env) fp) tg g)
    (h2 : ∀ (s : Shared) (H : Hp) (C : Addr) (cl : List (PySem.Str × Addr)) (fp : List Addr), PTs (X.blk s H sc (compEnvC sc cl C X.env) fp) tests tt)
    (h3 : ∀ (s : Shared) (H : Hp) (C : Addr) (cl : List (PySem.Str × Addr)) (fp : List Addr), PE (X.blk s H sc (compEnvC sc cl C X.env) fp) elt te) (fold : ∀ x, foldedSetIterable iter X.env x = pure x := by intro _; rfl) :
    PE X (.SetComp elt [⟨tg, iter, tests, 0⟩] sc cp) (tSi X.w wi g tt te (own.map (·.2))) := by
  refine ⟨fun pins s σ H Q inv rd => ?_⟩
  rw [PpSet.eval_SetComp]
  refine core_si calm nodup inv walk blk h1 h2 h3 fold rd fun D C s' m H' inv' q ns free => ⟨m, ns, fun h'' same => ?_⟩
  obtain ⟨e0, e1, e2, e3, e4, e5⟩ := free
  exact ⟨.ref D, H', inv'.turned (t' := s'.toks) (fun b o hb e => (same.2 b hb).trans e) e0 e1 e3 e4 e5, rfl, q⟩
end
/-- over a list that stays -/
theorem si_list {w : World} {K : PySem.W.Frag} {a : Addr} {xs : List V} {g : TG} {tt : TT} {te : TE} {own : List Nat} {σ : L2.St} {H1 : Hp} {D : Addr} {Qd : Hp → Prop} (Pv : Nat → Hp → Prop) (h0 : Pv 0 (upd H1 D (SetO w D (fun _ => false) 0))) (hl : ∀ i H, i ≤ xs.length → Pv i H → SqL K H a xs)
    (hs : ∀ i x H, xs[i]? = some x → Pv i H → g x (wipe σ own) H fun σ2 H2 => wipe σ2 own = wipe σ own ∧ tt σ2 H2 fun b H3 =>
      if b = true then te σ2 H3 fun y H4 => ∃ (c : Int) (S : Int → Bool) (n : Nat), y = .int c ∧ H4 D = some (SetO w D S n) ∧ n + 1 < scanBound ∧ Pv (i + 1) (upd H4 D (SetO w D (fun j => S j || decide (j = c)) (if S c = true then n else n + 1))) else Pv (i + 1) H3)
    (hd : ∀ H, Pv xs.length H → Qd H) : ∃ W : Nat → Nat → Hp → Prop, (∃ m, W 0 m (upd H1 D (SetO w D (fun _ => false) 0))) ∧ SiGo w (Itl K a) g tt te own σ D Qd W := by
  refine ⟨fun i m H => m = xs.length - i ∧ i ≤ xs.length ∧ Pv i H, ⟨xs.length, by simp, Nat.zero_le _, h0⟩, ?_⟩
  rintro i m H ⟨rfl, le, p⟩
  have q := hl i H le p
  by_cases lt : i < xs.length
  · refine .inr ⟨⟨xs, xs[i], q, by simp [lt]⟩, Pv (i + 1), fun H' p' => ⟨xs.length - (i + 1), by omega, rfl, lt, p'⟩, fun x H' y => ?_⟩
    obtain ⟨rfl, y⟩ := y
    exact hs i x _ (y xs q) p
  · have e : i = xs.length := by omega
    subst e
    exact .inl ⟨⟨xs, q, Nat.le_refl _⟩, hd H p⟩
section
variable {X : Cx}
theorem ps_setSi {i : Nat} {nm : Str} {pn : Pos} {elt target it : Expr} {cs : List Expr} {sc : Scope} {own : List (Str × Nat)} {cp sp : Pos} {wi : TI} {g : TG} {tt : TT} {tv : TE} (calm : X.calm = true) (nodup : X.N.Nodup) (slot : X.N[i]? = some nm) (loc : X.env.scope.names.lookup nm = some .local)
    (sw : swapsWith (.SetComp elt [⟨target, it, cs, 0⟩] sc cp) (some (.Name nm pn)) sp.line X.env = pure true) (walk : PI X target it wi) (blk : BlkOk X.N X.env.scope sc own)
    (h1 : ∀ (s : Shared) (H : Hp) (C : Addr) (cl : List (Str × Addr)) (fp : List Addr), PG (X.blk s H sc (compEnvC sc cl C X.env) fp) target g)
    (h2 : ∀ (s : Shared) (H : Hp) (C : Addr) (cl : List (Str × Addr)) (fp : List Addr), PTs (X.blk s H sc (compEnvC sc cl C X.env) fp) cs tt)
    (h3 : ∀ (s : Shared) (H : Hp) (C : Addr) (cl : List (Str × Addr)) (fp : List Addr), PE (X.blk s H sc (compEnvC sc cl C X.env) fp) elt tv)
    (fold : ∀ x, foldedSetIterable it X.env x = pure x := by intro _; rfl) :
    PS X (.Assign [.Name nm pn] (.SetComp elt [⟨target, it, cs, 0⟩] sc cp) sp) (tAsg (tSi X.w wi g tt tv (own.map (·.2))) (gName i)) := by
  refine ⟨fun pins s σ H D inv rd => ?_⟩
  rw [exec_Assign_Name_used _ _ _ _ sw]
  refine wpAny_bind (wpAny_standAt (wpAny_bind ?_))
  have rd' : tSi X.w wi g tt tv (own.map (·.2)) σ H (fun x H1 => gName i x σ H1 D.nx) := rd
  refine wpAny_bind (thn (core_si (use := some (assign (.Name nm pn) X.env)) (Qf := fun _ s' => SP X pins D .next s') calm nodup inv walk blk h1 h2 h3 fold rd' fun L C s' m H' inv' q ns free => ?_) fun _ s' hq => wpAny_pure (wpAny_pure hq))
  show wpAny _ _ (assign (.Name nm pn) X.env (.ref L)) _ _ _
  refine wpAny_assign_Name (store_ok2 (v := V.ref L) inv' nodup slot (.inl loc) rfl (fun s2 inv2 stored => ?_) (.inr loc))
  obtain ⟨a, same, where_⟩ := stored
  obtain ⟨e0, e1, e2, e3, e4, e5⟩ := free
  have apart : C ≠ a := by
    rcases where_ with z | z
    · rw [z]
      exact e1
    · exact fun e => e4 nm a z e.symm
  exact ⟨m, ns.sameBut same apart, fun h5 same5 => ⟨_, H', inv2.turned (t' := s2.toks) (fun b o hb e => (same5.2 b hb).trans e) e0 e1 e3 e4 e5, q⟩⟩
theorem sw_set {elt : Expr} {gs : List Comprehension} {sc : Scope} {cp pn : Pos} {nm : Str} {l : Nat} {env : Env} (kind : env.scope.kind = .function) (loc : env.scope.names.lookup nm = some .local) (row : (pn.line == cp.line) = true)
    (other : (sc.names.any fun (n, k) => n == nm && (k == .local || k == .cell)) = false) : swapsWith (.SetComp elt gs sc cp) (some (.Name nm pn)) l env = pure true := by
  have k1 : env.kindOf nm = some .local := loc
  have k2 : env.blockKind = .function := by
    unfold Env.blockKind
    rw [kind]
    rfl
  unfold swapsWith
  simp only [k1, k2, other, Expr.pos, row]
  rfl
end
end Z

namespace Z
open PySem PySem.Spec PyProof.Rows L2
/-! ### free time -/
abbrev Fr := List (Int × Int)
def mx (i j : Int) : Int := if j > i then j else i
def mn (i j : Int) : Int := if j < i then j else i
def cl (x y : Int) (t : Int × Int) : Int × Int := (mx t.1 x, mn t.2 y)
/-- the free time between x and y -/
def ins (x y : Int) (F : Fr) : Fr := (F.map (cl x y)).filter fun t => decide (t.1 < t.2)
def sumF (F : Fr) : Int := (F.map fun t => t.2 - t.1).sum
def lenF (x y : Int) (F : Fr) : Int := sumF (ins x y F)
/-- a job whose work is a ratio -/
structure RJ where
  n : Str
  c : Int
  d : Int
  w : Rat
def dRJ (j : RJ) : PyData := .tuple [.str j.n, .int j.c, .int j.d, rat2 j.w]
def toRJ (j : Job) : RJ := ⟨j.n, j.c, j.d, (j.w : Rat)⟩
/-- a free window -/
structure Row where
  f : Int
  l : Int
  j : RJ
def dRow (r : Row) : PyData := .tuple [.int r.f, .int r.l, dRJ r.j]
def rowOf (F : Fr) (j : RJ) : Row := ⟨((ins j.c j.d F).headD (0, 0)).1, ((ins j.c j.d F).getLastD (0, 0)).2, j⟩
def inR (a b : Int) (r : Row) : Bool := decide (a ≤ r.f) && decide (r.l ≤ b)
def works (rs : List Row) (a b : Int) : List Rat := (rs.filter (inR a b)).map fun r => r.j.w
def dens (rs : List Row) (F : Fr) (a b : Int) : Rat := if works rs a b = [] then 0 else rsum (works rs a b) / (lenF a b F : Rat)
theorem rj_at {K : PySem.W.Frag} {H : Hp} {v : V} {j : RJ} (h : Is K H v (dRJ j)) : ∃ t u, v = .ref t ∧ SqT K H t [.str j.n, .int j.c, .int j.d, u] ∧ Is K H u (rat2 j.w) := by
  obtain ⟨t, xs, rfl, s, a⟩ := h.tup'
  cases a with
  | cons h1 a => cases a with
    | cons h2 a => cases a with
      | cons h3 a => cases a with
        | cons h4 a =>
          cases a; cases h1; cases h2; cases h3
          exact ⟨t, _, rfl, s, h4⟩
theorem row_at {K : PySem.W.Frag} {H : Hp} {v : V} {r : Row} (h : Is K H v (dRow r)) : ∃ t u, v = .ref t ∧ SqT K H t [.int r.f, .int r.l, u] ∧ Is K H u (dRJ r.j) := by
  obtain ⟨t, xs, rfl, s, a⟩ := h.tup'
  cases a with
  | cons h1 a => cases a with
    | cons h2 a => cases a with
      | cons h3 a =>
        cases a; cases h1; cases h2
        exact ⟨t, _, rfl, s, h3⟩
theorem ins_len (x y : Int) (F : Fr) : (ins x y F).length ≤ F.length := by
  unfold ins
  exact Nat.le_trans (List.length_filter_le _ _) (by rw [List.length_map]; exact Nat.le_refl _)
/-- the promises of the small defs -/
def spBetween (K : PySem.W.Frag) : Sp := fun vs H Q _ => ∃ (L : Addr) (xs : List V) (F : Fr) (x y : Int), vs = [.ref L, .int x, .int y] ∧ H L = some (.lst xs) ∧ IsA K H xs (F.map dPt) ∧ F.length ≤ 50000 ∧
  ∀ M ys H', Same H H' → H M = none → H' M = some (.lst ys) → IsA K H' ys ((ins x y F).map dPt) → Q (.ref M) H'
def spOutside (K : PySem.W.Frag) : Sp := fun vs H Q _ => ∃ (L : Addr) (xs : List V) (F : Fr) (x y : Int), vs = [.ref L, .int x, .int y] ∧ H L = some (.lst xs) ∧ IsA K H xs (F.map dPt) ∧ F.length ≤ 40000 ∧ F ≠ [] ∧
  ∀ M ys H', Same H H' → H M = none → H' M = some (.lst ys) → IsA K H' ys ((ins (F.headD (0, 0)).1 x F ++ ins y (F.getLastD (0, 0)).2 F).map dPt) → Q (.ref M) H'
def spLen (K : PySem.W.Frag) : Sp := fun vs H Q _ => ∃ (L : Addr) (xs : List V) (F : Fr) (x y : Int), vs = [.ref L, .int x, .int y] ∧ H L = some (.lst xs) ∧ IsA K H xs (F.map dPt) ∧ F.length ≤ 40000 ∧ ∀ H', Same H H' → Q (.int (lenF x y F)) H'
def spAllTime (K : PySem.W.Frag) : Sp := fun vs H Q _ => ∃ (L : Addr) (xs : List V) (js : List RJ), vs = [.ref L] ∧ H L = some (.lst xs) ∧ IsA K H xs (js.map dRJ) ∧ js.length ≤ 1000 ∧
  ∀ (b e : Int) M ys H', Same H H' → (js = [] → b = 0 ∧ e = 0) → (js ≠ [] → (∃ j ∈ js, j.c = b) ∧ (∃ j ∈ js, j.d = e) ∧ ∀ j ∈ js, b ≤ j.c ∧ j.d ≤ e) → H M = none → H' M = some (.lst ys) → IsA K H' ys ([(b, e)].map dPt) → Q (.ref M) H'
def spWithR (K : PySem.W.Frag) : Sp := fun vs H Q _ => ∃ (J : Addr) (xs : List V) (js : List Job), vs = [.ref J] ∧ SqT K H J xs ∧ IsA K H xs (js.map dJob) ∧ (∀ j ∈ js, JobOk j) ∧ js.length ≤ 1000 ∧
  ∀ M ys H', Same H H' → H M = none → H' M = some (.lst ys) → IsA K H' ys ((js.map toRJ).map dRJ) → Q (.ref M) H'
def spWindows (K : PySem.W.Frag) : Sp := fun vs H Q _ => ∃ (L M : Addr) (xs zs : List V) (js : List RJ) (F : Fr), vs = [.ref L, .ref M] ∧ H L = some (.lst xs) ∧ IsA K H xs (js.map dRJ) ∧ js.length ≤ 1000 ∧ H M = some (.lst zs) ∧ IsA K H zs (F.map dPt) ∧ F.length ≤ 40000 ∧
  (∀ j ∈ js, ins j.c j.d F ≠ []) ∧ ∀ N ys H', Same H H' → H N = none → H' N = some (.lst ys) → IsA K H' ys ((js.map (rowOf F)).map dRow) → Q (.ref N) H'
def spLies (K : PySem.W.Frag) : Sp := fun vs H Q _ => ∃ (v : V) (r : Row) (a b : Int), vs = [v, .int a, .int b] ∧ Is K H v (dRow r) ∧ Q (.bl (inR a b r)) H
def spDens (K : PySem.W.Frag) : Sp := fun vs H Q _ => ∃ (W L : Addr) (ws xs : List V) (rs : List Row) (F : Fr) (a b : Int), vs = [.ref W, .ref L, .int a, .int b] ∧ H W = some (.lst ws) ∧ IsA K H ws (rs.map dRow) ∧ rs.length ≤ 12 ∧ H L = some (.lst xs) ∧ IsA K H xs (F.map dPt) ∧ F.length ≤ 40000 ∧
  (∀ r ∈ rs, Sz 100 r.j.w) ∧ (works rs a b ≠ [] → lenF a b F ≠ 0) ∧ (lenF a b F).natAbs < 2 ^ 100 ∧ ∀ v H', Same H H' → Is K H' v (rat2 (dens rs F a b)) → Q v H'
theorem fold_min : ∀ (n : Int) (r : List Int), r.foldl min n ∈ n :: r ∧ ∀ x ∈ n :: r, r.foldl min n ≤ x
  | n, [] => ⟨List.mem_cons_self .., fun x hx => by rw [List.mem_singleton.mp hx]; exact Int.le_refl _⟩
  | n, m :: r => by
    obtain ⟨h1, h2⟩ := fold_min (min n m) r
    show r.foldl min (min n m) ∈ _ ∧ _
    refine ⟨?_, fun x hx => ?_⟩
    · rcases List.mem_cons.mp h1 with h | h
      · rw [h]
        by_cases e : n ≤ m
        · rw [Int.min_eq_left e]; exact List.mem_cons_self ..
        · rw [Int.min_eq_right (by omega)]; exact List.mem_cons_of_mem _ (List.mem_cons_self ..)
      · exact List.mem_cons_of_mem _ (List.mem_cons_of_mem _ h)
    · have h0 := h2 (min n m) (List.mem_cons_self ..)
      show r.foldl min (min n m) ≤ x
      rcases List.mem_cons.mp hx with rfl | hx
      · omega
      · rcases List.mem_cons.mp hx with rfl | hx
        · omega
        · exact h2 x (List.mem_cons_of_mem _ hx)
theorem fold_max : ∀ (n : Int) (r : List Int), r.foldl max n ∈ n :: r ∧ ∀ x ∈ n :: r, x ≤ r.foldl max n
  | n, [] => ⟨List.mem_cons_self .., fun x hx => by rw [List.mem_singleton.mp hx]; exact Int.le_refl _⟩
  | n, m :: r => by
    obtain ⟨h1, h2⟩ := fold_max (max n m) r
    show r.foldl max (max n m) ∈ _ ∧ _
    refine ⟨?_, fun x hx => ?_⟩
    · rcases List.mem_cons.mp h1 with h | h
      · rw [h]
        by_cases e : m ≤ n
        · rw [Int.max_eq_left e]; exact List.mem_cons_self ..
        · rw [Int.max_eq_right (by omega)]; exact List.mem_cons_of_mem _ (List.mem_cons_self ..)
      · exact List.mem_cons_of_mem _ (List.mem_cons_of_mem _ h)
    · have h0 := h2 (max n m) (List.mem_cons_self ..)
      show x ≤ r.foldl max (max n m)
      rcases List.mem_cons.mp hx with rfl | hx
      · omega
      · rcases List.mem_cons.mp hx with rfl | hx
        · omega
        · exact h2 x (List.mem_cons_of_mem _ hx)
theorem lay_rats : ∀ qs : List Rat, PyData.canLayAll0 (qs.map rat2) = true
  | [] => by rw [List.map_nil, PyData.canLayAll0]
  | q :: r => by rw [List.map_cons, PyData.canLayAll0, lay_rat2, lay_rats r]; rfl
theorem deep_rats : ∀ qs : List Rat, PyData.depthAll (qs.map rat2) ≤ 4
  | [] => by simp [PyData.depthAll]
  | q :: r => by
    have := deep_rats r
    rw [List.map_cons, PyData.depthAll, depth_rat2]
    omega
theorem shaped_rats {qs : List Rat} (h : qs.length ≤ 1000) : SeqAt.shaped (.list (qs.map rat2)) = true := by
  unfold SeqAt.shaped
  have := deep_rats qs
  rw [PyData.canLay0, lay_rats, PyData.depth]
  simp
  omega
theorem eqv_nilR (qs : List Rat) : PyData.eqv (.list (qs.map rat2)) (.list []) = decide (qs = []) := by
  cases qs with
  | nil => simp [PyData.eqv, PyData.eqvAll]
  | cons p ps => simp [PyData.eqv, PyData.eqvAll]
/-! ### the densest pair -/
structure BestP (rs : List Row) (F : Fr) (v : Rat) (a b : Int) : Prop where
  pos : 0 < v
  val : v = dens rs F a b
  fa : a ∈ rs.map (·.f)
  fb : b ∈ rs.map (·.l)
  top : ∀ a' ∈ rs.map (·.f), ∀ b' ∈ rs.map (·.l), dens rs F a' b' ≤ v ∧ (dens rs F a' b' = v → a < a' ∨ (a = a' ∧ b' ≤ b))
structure DoneP (rs : List Row) (F : Fr) (P : Int → Int → Prop) (v : Rat) (a b : Int) : Prop where
  up : ∀ a' b', P a' b' → dens rs F a' b' ≤ v ∧ (dens rs F a' b' = v → 0 < v → a < a' ∨ (a = a' ∧ b' ≤ b))
  at' : (v = 0 ∧ a = 0 ∧ b = 0) ∨ (0 < v ∧ P a b ∧ v = dens rs F a b)
theorem DoneP.none {rs : List Row} {F : Fr} : DoneP rs F (fun _ _ => False) 0 0 0 := ⟨fun _ _ h => h.elim, .inl ⟨rfl, rfl, rfl⟩⟩
theorem DoneP.same {rs : List Row} {F : Fr} {P R : Int → Int → Prop} {v : Rat} {a b : Int} (h : DoneP rs F P v a b) (e : ∀ x y, P x y ↔ R x y) : DoneP rs F R v a b :=
  ⟨fun a' b' r => h.up a' b' ((e _ _).mpr r), h.at'.imp id fun ⟨x, y, z⟩ => ⟨x, (e _ _).mp y, z⟩⟩
theorem DoneP.nn {rs : List Row} {F : Fr} {P : Int → Int → Prop} {v : Rat} {a b : Int} (h : DoneP rs F P v a b) : 0 ≤ v := by
  rcases h.at' with ⟨e, _⟩ | ⟨e, _⟩
  · rw [e]; exact Rat.le_refl
  · exact Rat.le_of_lt e
theorem DoneP.yes {rs : List Row} {F : Fr} {P : Int → Int → Prop} {v : Rat} {a b x y : Int} (h : DoneP rs F P v a b) (l : v < dens rs F x y) : DoneP rs F (fun p q => P p q ∨ (p = x ∧ q = y)) (dens rs F x y) x y := by
  have n := h.nn
  refine ⟨fun a' b' r => ?_, .inr ⟨by grind, .inr ⟨rfl, rfl⟩, rfl⟩⟩
  rcases r with r | ⟨rfl, rfl⟩
  · have := (h.up a' b' r).1
    exact ⟨by grind, fun e => by grind⟩
  · exact ⟨Rat.le_refl, fun _ _ => .inr ⟨rfl, Int.le_refl _⟩⟩
theorem DoneP.no {rs : List Row} {F : Fr} {P : Int → Int → Prop} {v : Rat} {a b x y : Int} (h : DoneP rs F P v a b) (l : ¬ v < dens rs F x y) (later : P a b → a < x ∨ (a = x ∧ y ≤ b)) : DoneP rs F (fun p q => P p q ∨ (p = x ∧ q = y)) v a b := by
  refine ⟨fun a' b' r => ?_, h.at'.imp id fun ⟨x, y, z⟩ => ⟨x, .inl y, z⟩⟩
  rcases r with r | ⟨rfl, rfl⟩
  · exact h.up a' b' r
  · refine ⟨by grind, fun _ p => ?_⟩
    rcases h.at' with ⟨e, _⟩ | ⟨_, q, _⟩
    · rw [e] at p; exact absurd p (by grind)
    · exact later q
theorem dens_sz {rs : List Row} {F : Fr} {a b : Int} (hz : ∀ r ∈ rs, Sz 100 r.j.w) (hl : rs.length ≤ 12) (hb : (lenF a b F).natAbs < 2 ^ 100) (hn : works rs a b ≠ [] → lenF a b F ≠ 0) : Sz 1400 (dens rs F a b) := by
  unfold dens
  split
  · exact Sz.zero.mono (by decide)
  · rename_i ne
    have wl : (works rs a b).length ≤ 12 := by
      unfold works
      rw [List.length_map]
      exact Nat.le_trans (List.length_filter_le _ _) hl
    have wz : ∀ q ∈ works rs a b, Sz 100 q := fun q hq => by
      unfold works at hq
      obtain ⟨r, hr, rfl⟩ := List.mem_map.mp hq
      exact hz r (List.mem_filter.mp hr).1
    have h1 := sumL_sz wz (Sz.zero.mono (show 1 ≤ 1 by decide))
    have e13 := Nat.mul_le_mul_right (100 + 1) wl
    have e0 : sumL 0 (works rs a b) = rsum (works rs a b) := by
      unfold sumL
      rw [foldl_rsum]
      grind
    rw [e0] at h1
    have zl : Sz 100 (lenF a b F : Rat) := sz_int hb (by decide)
    exact (h1.div zl (fun z => hn ne (Rat.intCast_eq_zero_iff.mp z))).mono (by omega)
def spDensest (K : PySem.W.Frag) : Sp := fun vs H Q _ => ∃ (W L : Addr) (ws xs : List V) (rs : List Row) (F : Fr), vs = [.ref W, .ref L] ∧ H W = some (.lst ws) ∧ IsA K H ws (rs.map dRow) ∧ rs.length ≤ 12 ∧ H L = some (.lst xs) ∧ IsA K H xs (F.map dPt) ∧ F.length ≤ 40000 ∧
  (∀ r ∈ rs, Sz 100 r.j.w) ∧ (∀ a b, works rs a b ≠ [] → lenF a b F ≠ 0) ∧ (∀ a b, (lenF a b F).natAbs < 2 ^ 100) ∧ (rs = [] ∨ ∃ a ∈ rs.map (·.f), ∃ b ∈ rs.map (·.l), 0 < dens rs F a b) ∧
  ∀ t u v a b H', Same H H' → (rs = [] → v = 0 ∧ a = 0 ∧ b = 0) → (rs ≠ [] → BestP rs F v a b) → SqT K H' t [u, .int a, .int b] → Is K H' u (rat2 v) → Q (.ref t) H'
end Z

namespace Z
open PySem PySem.Spec PyProof.Rows L2
/-! ### sorted free time -/
structure FOkM (M : Int) (F : Fr) : Prop where
  bd : ∀ t ∈ F, 0 ≤ t.1 ∧ t.1 < t.2 ∧ t.2 ≤ M
  pw : F.Pairwise fun t u => t.2 ≤ u.1
abbrev FOk (F : Fr) : Prop := FOkM 10000 F
theorem mem_ins {x y : Int} {F : Fr} {t : Int × Int} : t ∈ ins x y F ↔ ∃ u ∈ F, cl x y u = t ∧ t.1 < t.2 := by
  unfold ins
  rw [List.mem_filter, List.mem_map]
  constructor
  · rintro ⟨⟨u, hu, e⟩, h⟩
    exact ⟨u, hu, e, of_decide_eq_true h⟩
  · rintro ⟨u, hu, e, h⟩
    exact ⟨⟨u, hu, e⟩, decide_eq_true h⟩
theorem cl_1 (x y : Int) (t : Int × Int) : (cl x y t).1 = mx t.1 x := rfl
theorem cl_2 (x y : Int) (t : Int × Int) : (cl x y t).2 = mn t.2 y := rfl
theorem mx_le {i j k : Int} : mx i j ≤ k ↔ i ≤ k ∧ j ≤ k := by unfold mx; split <;> omega
theorem le_mx1 (i j : Int) : i ≤ mx i j := by unfold mx; split <;> omega
theorem le_mx2 (i j : Int) : j ≤ mx i j := by unfold mx; split <;> omega
theorem mn_le1 (i j : Int) : mn i j ≤ i := by unfold mn; split <;> omega
theorem mn_le2 (i j : Int) : mn i j ≤ j := by unfold mn; split <;> omega
theorem le_mn {i j k : Int} : k ≤ mn i j ↔ k ≤ i ∧ k ≤ j := by unfold mn; split <;> omega
theorem FOkM.ins {M : Int} {F : Fr} (h : FOkM M F) (x y : Int) : FOkM M (ins x y F) ∧ ∀ t ∈ Z.ins x y F, x ≤ t.1 ∧ t.2 ≤ y := by
  refine ⟨⟨fun t ht => ?_, ?_⟩, fun t ht => ?_⟩
  · obtain ⟨u, hu, e, lt⟩ := mem_ins.mp ht
    have b := h.bd u hu
    subst e
    rw [cl_1, cl_2] at *
    have := le_mx1 u.1 x
    have := mn_le1 u.2 y
    omega
  · unfold Z.ins
    refine List.Pairwise.filter _ ?_
    rw [List.pairwise_map]
    refine h.pw.imp fun {t u} htu => ?_
    show mn t.2 y ≤ mx u.1 x
    have := le_mx1 u.1 x
    have := mn_le1 t.2 y
    omega
  · obtain ⟨u, hu, e, lt⟩ := mem_ins.mp ht
    subst e
    exact ⟨le_mx2 _ _, mn_le2 _ _⟩
theorem head_le {M : Int} : ∀ {F : Fr}, FOkM M F → ∀ t ∈ F, (F.headD (0, 0)).1 ≤ t.1
  | [], _, _, h => nomatch h
  | a :: r, h, t, ht => by
    show a.1 ≤ t.1
    rcases List.mem_cons.mp ht with rfl | ht
    · exact Int.le_refl _
    · have h1 := (List.pairwise_cons.mp h.pw).1 t ht
      have h2 := h.bd a (List.mem_cons_self ..)
      omega
theorem FOkM.tl {M : Int} {a : Int × Int} {r : Fr} (h : FOkM M (a :: r)) : FOkM M r := ⟨fun t ht => h.bd t (List.mem_cons_of_mem _ ht), (List.pairwise_cons.mp h.pw).2⟩
theorem le_last {M : Int} : ∀ {F : Fr}, FOkM M F → ∀ t ∈ F, t.2 ≤ (F.getLastD (0, 0)).2
  | [], _, _, h => nomatch h
  | [a], _, t, ht => by rw [List.mem_singleton.mp ht]; exact Int.le_refl _
  | a :: b :: r, h, t, ht => by
    have ih := le_last h.tl
    show t.2 ≤ ((b :: r).getLastD (0, 0)).2
    rcases List.mem_cons.mp ht with rfl | ht
    · have h1 := (List.pairwise_cons.mp h.pw).1 b (List.mem_cons_self ..)
      have h2 := h.bd b (List.mem_cons_of_mem _ (List.mem_cons_self ..))
      have h3 := ih b (List.mem_cons_self ..)
      omega
    · exact ih t ht
theorem head_mem {F : Fr} (h : F ≠ []) : F.headD (0, 0) ∈ F := by
  cases F with
  | nil => exact absurd rfl h
  | cons a r => exact List.mem_cons_self ..
theorem last_mem : ∀ {F : Fr}, F ≠ [] → F.getLastD (0, 0) ∈ F
  | [], h => absurd rfl h
  | [a], _ => List.mem_cons_self ..
  | a :: b :: r, _ => List.mem_cons_of_mem _ (last_mem (F := b :: r) (by simp))
theorem sum_ge : ∀ {F : Fr}, (∀ t ∈ F, t.1 < t.2) → (F.length : Int) ≤ sumF F
  | [], _ => by decide
  | a :: r, h => by
    have ih := sum_ge (F := r) fun t ht => h t (List.mem_cons_of_mem _ ht)
    have := h a (List.mem_cons_self ..)
    have e : sumF (a :: r) = a.2 - a.1 + sumF r := by unfold sumF; rw [List.map_cons, List.sum_cons]
    rw [e, List.length_cons]
    omega
theorem sum_le_of {M : Int} : ∀ {F : Fr} {x y : Int}, FOkM M F → (∀ t ∈ F, x ≤ t.1 ∧ t.2 ≤ y) → x ≤ y → sumF F ≤ y - x
  | [], x, y, _, _, h => by show (0 : Int) ≤ _; omega
  | a :: r, x, y, h, hb, hxy => by
    have ha := hb a (List.mem_cons_self ..)
    have hl := h.bd a (List.mem_cons_self ..)
    have ih := sum_le_of (F := r) (x := a.2) (y := y) h.tl (fun t ht => ⟨(List.pairwise_cons.mp h.pw).1 t ht, (hb t (List.mem_cons_of_mem _ ht)).2⟩) (by omega)
    have e : sumF (a :: r) = a.2 - a.1 + sumF r := by unfold sumF; rw [List.map_cons, List.sum_cons]
    rw [e]
    omega
theorem FOkM.len {F : Fr} (h : FOkM 10000 F) : F.length ≤ 10000 := by
  have h1 := sum_ge fun t ht => (h.bd t ht).2.1
  have h2 := sum_le_of (x := 0) (y := 10000) h (fun t ht => ⟨(h.bd t ht).1, (h.bd t ht).2.2⟩) (by decide)
  omega
theorem FOkM.lenF {M : Int} {F : Fr} (h : FOkM M F) (a b : Int) (m0 : 0 ≤ M := by decide) : 0 ≤ lenF a b F ∧ lenF a b F ≤ M ∧ (Z.ins a b F ≠ [] → 0 < lenF a b F) := by
  obtain ⟨h1, _⟩ := h.ins a b
  have g := sum_ge fun t ht => (h1.bd t ht).2.1
  have l := sum_le_of (x := 0) (y := M) h1 (fun t ht => ⟨(h1.bd t ht).1, (h1.bd t ht).2.2⟩) m0
  unfold Z.lenF
  refine ⟨by omega, by omega, fun ne => ?_⟩
  have := List.length_pos_iff.mpr ne
  omega
/-! ### open jobs -/
structure StOkM (M : Int) (os : List RJ) (F : Fr) : Prop where
  f : FOkM M F
  m0 : 0 ≤ M
  ne : ∀ j ∈ os, ins j.c j.d F ≠ []
  w : ∀ j ∈ os, 0 < j.w ∧ Sz 100 j.w
  nm : ∀ j ∈ os, PyData.strOk j.n = true
  len : os.length ≤ 12
abbrev StOk (os : List RJ) (F : Fr) : Prop := StOkM 10000 os F
theorem row_facts {M : Int} {os : List RJ} {F : Fr} (h : StOkM M os F) {j : RJ} (hj : j ∈ os) : (rowOf F j).f < (rowOf F j).l ∧ j.c ≤ (rowOf F j).f ∧ (rowOf F j).l ≤ j.d := by
  obtain ⟨g1, g2⟩ := h.f.ins j.c j.d
  have ne := h.ne j hj
  have hm := head_mem ne
  have h1 := g1.bd _ hm
  have h2 := le_last g1 _ hm
  have h3 := g2 _ hm
  have h4 := g2 _ (last_mem ne)
  show ((ins j.c j.d F).headD (0, 0)).1 < ((ins j.c j.d F).getLastD (0, 0)).2 ∧ _ ∧ _
  exact ⟨by omega, h3.1, h4.2⟩
theorem ins_of_in {M : Int} {os : List RJ} {F : Fr} (h : StOkM M os F) {j : RJ} (hj : j ∈ os) {a b : Int} (hi : inR a b (rowOf F j) = true) : ins a b F ≠ [] := by
  obtain ⟨g1, g2⟩ := h.f.ins j.c j.d
  have ne := h.ne j hj
  have hm := head_mem ne
  have h2 := le_last g1 _ hm
  obtain ⟨u, hu, e, lt⟩ := mem_ins.mp hm
  unfold inR at hi
  rw [Bool.and_eq_true] at hi
  have i1 : a ≤ ((ins j.c j.d F).headD (0, 0)).1 := of_decide_eq_true hi.1
  have i2 : ((ins j.c j.d F).getLastD (0, 0)).2 ≤ b := of_decide_eq_true hi.2
  rw [← e] at i1 lt h2
  rw [cl_1, cl_2] at lt
  rw [cl_1] at i1
  rw [cl_2] at h2
  intro z
  have : cl a b u ∈ ins a b F := mem_ins.mpr ⟨u, hu, rfl, by
    rw [cl_1, cl_2]
    have q1 := le_mx1 u.1 j.c
    have q2 := mn_le1 u.2 j.d
    have : mx u.1 a ≤ mx u.1 j.c := mx_le.mpr ⟨q1, i1⟩
    have : mn u.2 j.d ≤ mn u.2 b := le_mn.mpr ⟨q2, by omega⟩
    omega⟩
  rw [z] at this
  cases this
theorem works_in {os : List RJ} {F : Fr} {a b : Int} (h : works (os.map (rowOf F)) a b ≠ []) : ∃ j ∈ os, inR a b (rowOf F j) = true := by
  unfold works at h
  cases hf : (os.map (rowOf F)).filter (inR a b) with
  | nil => rw [hf] at h; exact absurd rfl h
  | cons r l =>
    have : r ∈ (os.map (rowOf F)).filter (inR a b) := by rw [hf]; exact List.mem_cons_self ..
    obtain ⟨h1, h2⟩ := List.mem_filter.mp this
    obtain ⟨j, hj, rfl⟩ := List.mem_map.mp h1
    exact ⟨j, hj, h2⟩
theorem works_pos : ∀ {qs : List Rat}, qs ≠ [] → (∀ q ∈ qs, 0 < q) → 0 < rsum qs
  | [], h, _ => absurd rfl h
  | [q], _, hq => by
    have := hq q (List.mem_cons_self ..)
    show 0 < q + 0
    grind
  | q :: p :: r, _, hq => by
    have h1 := hq q (List.mem_cons_self ..)
    have h2 := works_pos (qs := p :: r) (by simp) fun x hx => hq x (List.mem_cons_of_mem _ hx)
    show 0 < q + rsum (p :: r)
    grind
theorem works_w {M : Int} {os : List RJ} {F : Fr} (h : StOkM M os F) (a b : Int) : ∀ q ∈ works (os.map (rowOf F)) a b, 0 < q := fun q hq => by
  unfold works at hq
  obtain ⟨r, hr, rfl⟩ := List.mem_map.mp hq
  obtain ⟨j, hj, rfl⟩ := List.mem_map.mp (List.mem_filter.mp hr).1
  exact (h.w j hj).1
theorem dens_pos {M : Int} {os : List RJ} {F : Fr} (h : StOkM M os F) {a b : Int} (hw : works (os.map (rowOf F)) a b ≠ []) : 0 < dens (os.map (rowOf F)) F a b := by
  obtain ⟨j, hj, hi⟩ := works_in hw
  have l := (h.f.lenF a b h.m0).2.2 (ins_of_in h hj hi)
  have p := works_pos hw (works_w h a b)
  unfold dens
  rw [if_neg hw]
  rw [Rat.div_def]
  exact Rat.mul_pos p (Rat.inv_pos.mpr (Rat.intCast_pos.mpr l))
theorem own_in {os : List RJ} {F : Fr} {j : RJ} (hj : j ∈ os) : works (os.map (rowOf F)) (rowOf F j).f (rowOf F j).l ≠ [] := by
  intro z
  unfold works at z
  have z := List.map_eq_nil_iff.mp z
  have : rowOf F j ∈ (os.map (rowOf F)).filter (inR (rowOf F j).f (rowOf F j).l) := List.mem_filter.mpr ⟨List.mem_map_of_mem hj, by unfold inR; rw [decide_eq_true (Int.le_refl _), decide_eq_true (Int.le_refl _)]; rfl⟩
  rw [z] at this
  cases this
/-! ### a round -/
def restR (os : List RJ) (F : Fr) (a b : Int) : List RJ := ((os.map (rowOf F)).filter fun r => !inR a b r).map (·.j)
def outR (F : Fr) (a b : Int) : Fr := ins (F.headD (0, 0)).1 a F ++ ins b (F.getLastD (0, 0)).2 F
def namesR (os : List RJ) (F : Fr) (a b : Int) : List Str := ((os.map (rowOf F)).filter (inR a b)).map (·.j.n)
theorem rest_mem {os : List RJ} {F : Fr} {a b : Int} {j : RJ} (h : j ∈ restR os F a b) : j ∈ os ∧ inR a b (rowOf F j) = false := by
  unfold restR at h
  obtain ⟨r, hr, rfl⟩ := List.mem_map.mp h
  obtain ⟨h1, h2⟩ := List.mem_filter.mp hr
  obtain ⟨j, hj, rfl⟩ := List.mem_map.mp h1
  show j ∈ os ∧ inR a b (rowOf F j) = false
  refine ⟨hj, ?_⟩
  cases e : inR a b (rowOf F j) with
  | false => rfl
  | true => rw [e] at h2; exact absurd h2 (by decide)
theorem rest_len {os : List RJ} {F : Fr} {a b : Int} (h : works (os.map (rowOf F)) a b ≠ []) : (restR os F a b).length < os.length := by
  obtain ⟨j, hj, hi⟩ := works_in h
  unfold restR
  rw [List.length_map]
  have h1 : ((os.map (rowOf F)).filter fun r => !inR a b r).length < (os.map (rowOf F)).length := by
    refine List.length_filter_lt_length_iff_exists.mpr ⟨rowOf F j, List.mem_map_of_mem hj, ?_⟩
    rw [hi]
    decide
  rwa [List.length_map] at h1
theorem out_ok {M : Int} {F : Fr} (h : FOkM M F) {a b : Int} (ab : a ≤ b) : FOkM M (outR F a b) := by
  obtain ⟨h1, h2⟩ := h.ins (F.headD (0, 0)).1 a
  obtain ⟨h3, h4⟩ := h.ins b (F.getLastD (0, 0)).2
  refine ⟨fun t ht => ?_, List.pairwise_append.mpr ⟨h1.pw, h3.pw, fun t ht u hu => ?_⟩⟩
  · rcases List.mem_append.mp ht with ht | ht
    · exact h1.bd t ht
    · exact h3.bd t ht
  · have := (h2 t ht).2
    have := (h4 u hu).1
    omega
theorem next_ok {M : Int} {os : List RJ} {F : Fr} (h : StOkM M os F) {a b : Int} (ab : a ≤ b) : StOkM M (restR os F a b) (outR F a b) := by
  refine ⟨out_ok h.f ab, h.m0, fun j hj => ?_, fun j hj => h.w j (rest_mem hj).1, fun j hj => h.nm j (rest_mem hj).1, ?_⟩
  · obtain ⟨ho, hi⟩ := rest_mem hj
    have ne := h.ne j ho
    have cases2 : (rowOf F j).f < a ∨ b < (rowOf F j).l := by
      unfold inR at hi
      rw [Bool.and_eq_false_iff] at hi
      rcases hi with hi | hi
      · exact .inl (by have := of_decide_eq_false hi; omega)
      · exact .inr (by have := of_decide_eq_false hi; omega)
    intro z
    have none : ∀ t, t ∈ ins j.c j.d (outR F a b) → False := fun t ht => by rw [z] at ht; cases ht
    rcases cases2 with c | c
    · obtain ⟨u, hu, e, lt⟩ := mem_ins.mp (head_mem ne)
      have c : ((ins j.c j.d F).headD (0, 0)).1 < a := c
      rw [← e] at c lt
      rw [cl_1] at c
      rw [cl_1, cl_2] at lt
      have hb := h.f.bd u hu
      have hh := head_le h.f u hu
      have q1 := le_mx1 u.1 j.c
      have q2 := mn_le1 u.2 j.d
      have q3 := mn_le2 u.2 j.d
      have e1 : cl (F.headD (0, 0)).1 a u = (u.1, mn u.2 a) := by
        unfold cl
        rw [show mx u.1 (F.headD (0, 0)).1 = u.1 by unfold mx; rw [if_neg (by omega)]]
      have m1 : (u.1, mn u.2 a) ∈ outR F a b := List.mem_append_left _ (mem_ins.mpr ⟨u, hu, e1, by show u.1 < mn u.2 a; unfold mn; split <;> omega⟩)
      exact none (cl j.c j.d (u.1, mn u.2 a)) (mem_ins.mpr ⟨_, m1, rfl, by
        rw [cl_1, cl_2]
        show mx u.1 j.c < mn (mn u.2 a) j.d
        have : mx u.1 j.c + 1 ≤ mn (mn u.2 a) j.d := le_mn.mpr ⟨le_mn.mpr ⟨by omega, by omega⟩, by omega⟩
        omega⟩)
    · obtain ⟨u, hu, e, lt⟩ := mem_ins.mp (last_mem ne)
      have c : b < ((ins j.c j.d F).getLastD (0, 0)).2 := c
      rw [← e] at c lt
      rw [cl_2] at c
      rw [cl_1, cl_2] at lt
      have hb := h.f.bd u hu
      have hh := le_last h.f u hu
      have q1 := le_mx1 u.1 j.c
      have q2 := mn_le1 u.2 j.d
      have q4 := le_mx2 u.1 j.c
      have e1 : cl b (F.getLastD (0, 0)).2 u = (mx u.1 b, u.2) := by
        unfold cl
        rw [show mn u.2 (F.getLastD (0, 0)).2 = u.2 by unfold mn; rw [if_neg (by omega)]]
      have m1 : (mx u.1 b, u.2) ∈ outR F a b := List.mem_append_right _ (mem_ins.mpr ⟨u, hu, e1, by show mx u.1 b < u.2; unfold mx; split <;> omega⟩)
      exact none (cl j.c j.d (mx u.1 b, u.2)) (mem_ins.mpr ⟨_, m1, rfl, by
        rw [cl_1, cl_2]
        show mx (mx u.1 b) j.c < mn u.2 j.d
        have : mx (mx u.1 b) j.c ≤ mn u.2 j.d - 1 := mx_le.mpr ⟨mx_le.mpr ⟨by omega, by omega⟩, by omega⟩
        omega⟩)
  · have : (restR os F a b).length ≤ os.length := by
      unfold restR
      rw [List.length_map]
      exact Nat.le_trans (List.length_filter_le _ _) (by rw [List.length_map]; exact Nat.le_refl _)
    have := h.len
    omega
/-- what a round tells -/
structure Rd where
  v : Rat
  ns : List Str
  ts : Fr
  a : Int
  b : Int
inductive Rounds : List RJ → Fr → List Rd → Prop
  | nil (F : Fr) : Rounds [] F []
  | cons {os : List RJ} {F : Fr} {v : Rat} {a b : Int} {l : List Rd} : os ≠ [] → BestP (os.map (rowOf F)) F v a b → Rounds (restR os F a b) (outR F a b) l → Rounds os F (⟨v, namesR os F a b, ins a b F, a, b⟩ :: l)
theorem BestP.uniq {rs : List Row} {F : Fr} {v v' : Rat} {a b a' b' : Int} (h : BestP rs F v a b) (h' : BestP rs F v' a' b') : v = v' ∧ a = a' ∧ b = b' := by
  have t1 := h.top a' h'.fa b' h'.fb
  have t2 := h'.top a h.fa b h.fb
  rw [← h'.val] at t1
  rw [← h.val] at t2
  have e : v = v' := Rat.le_antisymm t2.1 t1.1
  have c1 := t1.2 e.symm
  have c2 := t2.2 e
  refine ⟨e, ?_, ?_⟩ <;> omega
theorem Rounds.uniq : ∀ {os : List RJ} {F : Fr} {l m : List Rd}, Rounds os F l → Rounds os F m → l = m
  | _, _, _, _, .nil _, .nil _ => rfl
  | _, _, _, _, .nil _, .cons h _ _ => absurd rfl h
  | _, _, _, _, .cons h _ _, .nil _ => absurd rfl h
  | _, _, _, _, .cons _ b1 r1, .cons _ b2 r2 => by
    obtain ⟨e1, e2, e3⟩ := b1.uniq b2
    subst e1 e2 e3
    rw [r1.uniq r2]
theorem BestP.works {os : List RJ} {F : Fr} {v : Rat} {a b : Int} (h : BestP (os.map (rowOf F)) F v a b) : Z.works (os.map (rowOf F)) a b ≠ [] := fun z => by
  have p := h.pos
  rw [h.val] at p
  unfold dens at p
  rw [if_pos z] at p
  exact absurd p (by grind)
/-- the rounds of jobs -/
def RoundsOf (os : List RJ) (l : List Rd) : Prop := (os = [] ∧ l = []) ∨ ∃ B E : Int, (∀ j ∈ os, B ≤ j.c ∧ j.d ≤ E) ∧ (∃ j ∈ os, j.c = B) ∧ (∃ j ∈ os, j.d = E) ∧ Rounds os [(B, E)] l
theorem RoundsOf.uniq {os : List RJ} {l m : List Rd} (h : RoundsOf os l) (h' : RoundsOf os m) : l = m := by
  rcases h with ⟨e, rfl⟩ | ⟨B, E, h1, ⟨j, hj, ej⟩, ⟨i, hi, ei⟩, hr⟩
  · rcases h' with ⟨_, rfl⟩ | ⟨B, E, h1, ⟨j, hj, ej⟩, _⟩
    · rfl
    · rw [e] at hj; cases hj
  · rcases h' with ⟨e, _⟩ | ⟨B', E', h1', ⟨j', hj', ej'⟩, ⟨i', hi', ei'⟩, hr'⟩
    · rw [e] at hj; cases hj
    · have a1 := (h1 j' hj').1
      have a2 := (h1' j hj).1
      have a3 := (h1 i' hi').2
      have a4 := (h1' i hi).2
      obtain rfl : B = B' := by omega
      obtain rfl : E = E' := by omega
      exact hr.uniq hr'
/-- jobs as they come -/
structure OsOk (os : List RJ) : Prop where
  w : ∀ j ∈ os, 0 < j.w ∧ Sz 100 j.w
  t : ∀ j ∈ os, 0 ≤ j.c ∧ j.c < j.d ∧ j.d ≤ 10000
  nm : ∀ j ∈ os, PyData.strOk j.n = true
  len : os.length ≤ 12
theorem OsOk.st {os : List RJ} (h : OsOk os) {B E : Int} (hb : ∀ j ∈ os, B ≤ j.c ∧ j.d ≤ E) (h1 : ∃ j ∈ os, j.c = B) (h2 : ∃ j ∈ os, j.d = E) : StOk os [(B, E)] := by
  obtain ⟨j, hj, ej⟩ := h1
  obtain ⟨i, hi, ei⟩ := h2
  have t1 := h.t j hj
  have t2 := h.t i hi
  have b1 := hb j hj
  refine ⟨⟨fun t ht => ?_, List.pairwise_singleton _ _⟩, by decide, fun x hx z => ?_, h.w, h.nm, h.len⟩
  · rw [List.mem_singleton.mp ht]
    show 0 ≤ B ∧ B < E ∧ E ≤ 10000
    omega
  · have tx := h.t x hx
    have bx := hb x hx
    have : cl x.c x.d (B, E) ∈ ins x.c x.d [(B, E)] := mem_ins.mpr ⟨_, List.mem_cons_self .., rfl, by
      rw [cl_1, cl_2]
      show mx B x.c < mn E x.d
      have : mx B x.c ≤ mn E x.d - 1 := mx_le.mpr ⟨by have : B + 1 ≤ mn E x.d := le_mn.mpr ⟨by omega, by omega⟩; omega, by have : x.c + 1 ≤ mn E x.d := le_mn.mpr ⟨by omega, by omega⟩; omega⟩
      omega⟩
    rw [z] at this
    cases this
def dRd (r : Rd) : PyData := .tuple [rat2 r.v, .tuple (r.ns.map PyData.str), .tuple (r.ts.map dPt)]
def spRoundsOf (K : PySem.W.Frag) : Sp := fun vs H Q _ => ∃ (L : Addr) (xs : List V) (os : List RJ), vs = [.ref L] ∧ H L = some (.lst xs) ∧ IsA K H xs (os.map dRJ) ∧ OsOk os ∧
  ∀ l M ys H', Same H H' → RoundsOf os l → l.length ≤ 12 → H M = none → H' M = some (.lst ys) → IsA K H' ys (l.map dRd) → Q (.ref M) H'
def spRounds (K : PySem.W.Frag) : Sp := fun vs H Q _ => ∃ (J : Addr) (xs : List V) (js : List Job), vs = [.ref J] ∧ SqT K H J xs ∧ IsA K H xs (js.map dJob) ∧ (∀ j ∈ js, JobOk j) ∧ OsOk (js.map toRJ) ∧
  ∀ l M ys H', Same H H' → RoundsOf (js.map toRJ) l → l.length ≤ 12 → H M = none → H' M = some (.lst ys) → IsA K H' ys (l.map dRd) → Q (.ref M) H'
theorem depth_dRJ (j : RJ) : (dRJ j).depth = (dPc ⟨0, 0, j.n, 0⟩).depth := by
  unfold dRJ dPc
  simp [PyData.depth, PyData.depthAll, depth_rat2]
theorem lay_dRJ {j : RJ} (h : PyData.strOk j.n = true) : (dRJ j).canLay0 = true := by
  unfold dRJ
  rw [PyData.canLay0, PyData.canLayAll0, PyData.canLayAll0, PyData.canLayAll0, PyData.canLayAll0, PyData.canLayAll0, PyData.canLay0, PyData.canLay0, PyData.canLay0, h, lay_rat2]
  rfl
theorem lay_dRJs : ∀ {os : List RJ}, (∀ j ∈ os, PyData.strOk j.n = true) → PyData.canLayAll0 (os.map dRJ) = true
  | [], _ => by rw [List.map_nil, PyData.canLayAll0]
  | j :: r, h => by
    rw [List.map_cons, PyData.canLayAll0, lay_dRJ (h j (List.mem_cons_self ..)), lay_dRJs fun x hx => h x (List.mem_cons_of_mem _ hx)]
    rfl
theorem deep_dRJs : ∀ os : List RJ, PyData.depthAll (os.map dRJ) ≤ 6
  | [] => by simp [PyData.depthAll]
  | j :: r => by
    have := deep_dRJs r
    have e : (dRJ j).depth ≤ 6 := by
      unfold dRJ
      simp [PyData.depth, PyData.depthAll, depth_rat2]
    rw [List.map_cons, PyData.depthAll]
    omega
theorem shaped_rjs {os : List RJ} (h : ∀ j ∈ os, PyData.strOk j.n = true) (hl : os.length ≤ 1000) : SeqAt.shaped (.list (os.map dRJ)) = true := by
  unfold SeqAt.shaped
  have := deep_dRJs os
  rw [PyData.canLay0, lay_dRJs h, PyData.depth]
  simp
  omega
theorem eqv_nilJ (os : List RJ) : PyData.eqv (.list (os.map dRJ)) (.list []) = decide (os = []) := by
  cases os with
  | nil => simp [PyData.eqv, PyData.eqvAll]
  | cons p ps => simp [PyData.eqv, PyData.eqvAll]
/-! ### the law's own rows -/
structure LR where
  f : Int
  l : Int
  j : Job
def dLR (r : LR) : PyData := .tuple [.int r.f, .int r.l, dJob r.j]
def toRow (r : LR) : Row := ⟨r.f, r.l, toRJ r.j⟩
def loads (ls : List LR) (a b : Int) : List Int := (ls.filter fun r => inR a b (toRow r)).map (·.j.w)
theorem works_loads (ls : List LR) (a b : Int) : works (ls.map toRow) a b = (loads ls a b).map fun (z : Int) => (z : Rat) := by
  unfold works loads
  rw [List.filter_map, List.map_map, List.map_map]
  rfl
theorem rsum_ints : ∀ ns : List Int, rsum (ns.map fun (z : Int) => (z : Rat)) = ((ns.sum : Int) : Rat)
  | [] => rfl
  | n :: r => by
    show (n : Rat) + rsum (r.map fun (z : Int) => (z : Rat)) = _
    rw [rsum_ints r, List.sum_cons, Rat.intCast_add]
theorem sum_pos : ∀ {ns : List Int}, (∀ n ∈ ns, 1 ≤ n ∧ n ≤ 10000) → (ns = [] → ns.sum = 0) ∧ (ns ≠ [] → 0 < ns.sum) ∧ 0 ≤ ns.sum ∧ ns.sum ≤ 10000 * ns.length
  | [], _ => ⟨fun _ => rfl, fun h => absurd rfl h, by decide, by decide⟩
  | n :: r, h => by
    obtain ⟨_, _, h3, h4⟩ := sum_pos (ns := r) fun x hx => h x (List.mem_cons_of_mem _ hx)
    have := h n (List.mem_cons_self ..)
    rw [List.sum_cons, List.length_cons]
    exact ⟨fun z => (nomatch z), fun _ => by omega, by omega, by omega⟩
theorem dens_ints {ls : List LR} {F : Fr} {a b : Int} : dens (ls.map toRow) F a b = if loads ls a b = [] then 0 else (((loads ls a b).sum : Int) : Rat) / (lenF a b F : Rat) := by
  unfold dens
  rw [works_loads, rsum_ints]
  by_cases h : loads ls a b = []
  · rw [if_pos h, if_pos (by rw [h]; rfl)]
  · rw [if_neg h, if_neg (fun z => h (List.map_eq_nil_iff.mp z))]
theorem DoneP.keep {rs : List Row} {F : Fr} {P : Int → Int → Prop} {v : Rat} {a b x y : Int} (h : DoneP rs F P v a b) (l : dens rs F x y ≤ v) (later : dens rs F x y = v → 0 < v → a < x ∨ (a = x ∧ y ≤ b)) : DoneP rs F (fun p q => P p q ∨ (p = x ∧ q = y)) v a b := by
  refine ⟨fun a' b' r => ?_, h.at'.imp id fun ⟨x, y, z⟩ => ⟨x, .inl y, z⟩⟩
  rcases r with r | ⟨rfl, rfl⟩
  · exact h.up a' b' r
  · exact ⟨l, later⟩
theorem DoneP.tie {rs : List Row} {F : Fr} {P : Int → Int → Prop} {v : Rat} {a b y : Int} (h : DoneP rs F P v a b) (p : 0 < v) (e : dens rs F a y = v) (l : b < y) : DoneP rs F (fun p q => P p q ∨ (p = a ∧ q = y)) v a y := by
  refine ⟨fun a' b' r => ?_, .inr ⟨p, .inr ⟨rfl, rfl⟩, e.symm⟩⟩
  rcases r with r | ⟨rfl, rfl⟩
  · obtain ⟨h1, h2⟩ := h.up a' b' r
    exact ⟨h1, fun e p => by have := h2 e p; omega⟩
  · exact ⟨by rw [e]; exact Rat.le_refl, fun _ _ => .inr ⟨rfl, Int.le_refl _⟩⟩
theorem frac_lt {p q r s : Int} (hq : 0 < q) (hs : 0 < s) : (p : Rat) / (q : Rat) < (r : Rat) / (s : Rat) ↔ p * s < r * q := by
  have hq' : (0 : Rat) < (q : Rat) := Rat.intCast_pos.mpr hq
  have hs' : (0 : Rat) < (s : Rat) := Rat.intCast_pos.mpr hs
  have e1 : (p : Rat) / (q : Rat) * ((q : Rat) * (s : Rat)) = ((p * s : Int) : Rat) := by rw [Rat.intCast_mul]; grind
  have e2 : (r : Rat) / (s : Rat) * ((q : Rat) * (s : Rat)) = ((r * q : Int) : Rat) := by rw [Rat.intCast_mul]; grind
  have hqs := Rat.mul_pos hq' hs'
  constructor
  · intro h
    have := Rat.mul_lt_mul_of_pos_right h hqs
    rw [e1, e2] at this
    exact Rat.intCast_lt_intCast.mp this
  · intro h
    rcases Rat.le_total (a := (r : Rat) / (s : Rat)) (b := (p : Rat) / (q : Rat)) with z | z
    · have := Rat.mul_le_mul_of_nonneg_right z (Rat.le_of_lt hqs)
      rw [e1, e2] at this
      have := Rat.intCast_le_intCast.mp this
      omega
    · by_cases e : (p : Rat) / (q : Rat) = (r : Rat) / (s : Rat)
      · rw [e, e2] at e1
        have := Rat.intCast_inj.mp e1
        omega
      · grind
theorem frac_eq {p q r s : Int} (hq : 0 < q) (hs : 0 < s) : (p : Rat) / (q : Rat) = (r : Rat) / (s : Rat) ↔ p * s = r * q := by
  have h1 := frac_lt (p := p) (r := r) hq hs
  have h2 := frac_lt (p := r) (r := p) hs hq
  constructor
  · intro e
    rw [e] at h1 h2
    have a : p * s < r * q → False := fun z => absurd (h1.mpr z) (by grind)
    have b : r * q < p * s → False := fun z => absurd (h2.mpr z) (by grind)
    by_cases c : p * s < r * q
    · exact (a c).elim
    · by_cases d : r * q < p * s
      · exact (b d).elim
      · omega
  · intro e
    rcases Rat.le_total (a := (r : Rat) / (s : Rat)) (b := (p : Rat) / (q : Rat)) with z | z
    · by_cases c : (r : Rat) / (s : Rat) < (p : Rat) / (q : Rat)
      · have := h2.mp c; omega
      · grind
    · by_cases c : (p : Rat) / (q : Rat) < (r : Rat) / (s : Rat)
      · have := h1.mp c; omega
      · grind
def spDensestL (K : PySem.W.Frag) : Sp := fun vs H Q _ => ∃ (L W : Addr) (xs ws : List V) (ls : List LR) (F : Fr), vs = [.ref L, .ref W] ∧ H W = some (.lst ws) ∧ IsA K H ws (ls.map dLR) ∧ ls.length ≤ 12 ∧ H L = some (.lst xs) ∧ IsA K H xs (F.map dPt) ∧ F.length ≤ 40000 ∧
  (∀ r ∈ ls, 1 ≤ r.j.w ∧ r.j.w ≤ 10000) ∧ (∀ a b, 0 ≤ lenF a b F ∧ lenF a b F ≤ 2000000000) ∧ (∀ a b, loads ls a b ≠ [] → 0 < lenF a b F) ∧ (∃ a ∈ ls.map (·.f), ∃ b ∈ ls.map (·.l), loads ls a b ≠ []) ∧
  ∀ t (ld ln a b : Int) H', Same H H' → 0 < ld → 0 < ln → ld ≤ 120000 → ln ≤ 2000000000 → BestP (ls.map toRow) F ((ld : Rat) / (ln : Rat)) a b → SqT K H' t [.int ld, .int ln, .int a, .int b] → Q (.ref t) H'
theorem lr_at {K : PySem.W.Frag} {H : Hp} {v : V} {r : LR} (h : Is K H v (dLR r)) : ∃ t u, v = .ref t ∧ SqT K H t [.int r.f, .int r.l, u] ∧ Is K H u (dJob r.j) := by
  obtain ⟨t, xs, rfl, s, a⟩ := h.tup'
  cases a with
  | cons h1 a => cases a with
    | cons h2 a => cases a with
      | cons h3 a =>
        cases a; cases h1; cases h2
        exact ⟨t, _, rfl, s, h3⟩
/-! ### the same rounds within a part of the time -/
theorem ins_comp (x y x' y' : Int) : ∀ F : Fr, ins x y (ins x' y' F) = ins (mx x' x) (mn y' y) F
  | [] => rfl
  | t :: r => by
    have ih := ins_comp x y x' y' r
    have m1 : ∀ a b c : Int, mx a (mx b c) = mx (mx a b) c := fun a b c => by unfold mx; (repeat' split) <;> omega
    have m2 : ∀ a b c : Int, mn a (mn b c) = mn (mn a b) c := fun a b c => by unfold mn; (repeat' split) <;> omega
    have e : cl (mx x' x) (mn y' y) t = cl x y (cl x' y' t) := by
      show (mx t.1 (mx x' x), mn t.2 (mn y' y)) = (mx (mx t.1 x') x, mn (mn t.2 y') y)
      rw [m1, m2]
    have c1 : ∀ (x y : Int) (t : Int × Int) (r : Fr), ins x y (t :: r) = (if (cl x y t).1 < (cl x y t).2 then [cl x y t] else []) ++ ins x y r := fun x y t r => by
      unfold ins
      rw [List.map_cons, List.filter_cons]
      by_cases h : (cl x y t).1 < (cl x y t).2
      · rw [if_pos h, if_pos (by exact decide_eq_true h)]; rfl
      · rw [if_neg h, if_neg (by rw [decide_eq_false h]; decide)]; rfl
    rw [c1 x' y' t r, c1 (mx x' x) (mn y' y) t r, e, ← ih]
    by_cases h : (cl x' y' t).1 < (cl x' y' t).2
    · rw [if_pos h]
      exact c1 x y _ _
    · rw [if_neg h]
      have : ¬ (cl x y (cl x' y' t)).1 < (cl x y (cl x' y' t)).2 := by
        rw [cl_1, cl_2]
        have := le_mx1 (cl x' y' t).1 x
        have := mn_le1 (cl x' y' t).2 y
        omega
      rw [if_neg this]
      rfl
theorem ins_same {F : Fr} {x y x' y' : Int} (h : ∀ t ∈ F, mx t.1 x = mx t.1 x' ∧ mn t.2 y = mn t.2 y') : ins x y F = ins x' y' F := by
  unfold ins
  congr 1
  refine List.map_congr_left fun t ht => ?_
  unfold cl
  rw [(h t ht).1, (h t ht).2]
theorem mx_eq {i j : Int} (h : j ≤ i) : mx i j = i := by unfold mx; rw [if_neg (by omega)]
theorem mx_eq' {i j : Int} (h : i ≤ j) : mx i j = j := by unfold mx; split <;> omega
theorem mn_eq {i j : Int} (h : i ≤ j) : mn i j = i := by unfold mn; rw [if_neg (by omega)]
theorem mn_eq' {i j : Int} (h : j ≤ i) : mn i j = j := by unfold mn; split <;> omega
theorem out_norm {M : Int} {F : Fr} (h : FOkM M F) {x y : Int} (hb : ∀ t ∈ F, x ≤ t.1 ∧ t.2 ≤ y) (a b : Int) : outR F a b = ins x a F ++ ins b y F := by
  unfold outR
  rw [ins_same (x := (F.headD (0, 0)).1) (x' := x) (y := a) (y' := a) fun t ht => ⟨by rw [mx_eq (head_le h t ht), mx_eq (hb t ht).1], rfl⟩,
    ins_same (x := b) (x' := b) (y := (F.getLastD (0, 0)).2) (y' := y) fun t ht => ⟨rfl, by rw [mn_eq (le_last h t ht), mn_eq (hb t ht).2]⟩]
theorem row_same {F : Fr} {B E : Int} {j : RJ} (hb : B ≤ j.c ∧ j.d ≤ E) : rowOf (ins B E F) j = rowOf F j := by
  unfold rowOf
  rw [ins_comp, mx_eq' hb.1, mn_eq' hb.2]
theorem part_same {M : Int} {B E : Int} (b0 : 0 ≤ B) (eM : E ≤ M) : ∀ {os : List RJ} {F : Fr} {l : List Rd}, Rounds os F l → StOkM M os F → (∀ j ∈ os, B ≤ j.c ∧ j.d ≤ E) → Rounds os (ins B E F) l
  | _, _, _, .nil _, _, _ => .nil _
  | os, F, _, .cons (v := v) (a := a) (b := b) (l := l) ne best r, st, hb => by
    have er : os.map (rowOf (ins B E F)) = os.map (rowOf F) := List.map_congr_left fun j hj => row_same (hb j hj)
    have bdf : ∀ x ∈ (os.map (rowOf F)).map (·.f), B ≤ x := fun x hx => by
      obtain ⟨r, hr, rfl⟩ := List.mem_map.mp hx
      obtain ⟨j, hj, rfl⟩ := List.mem_map.mp hr
      have := (row_facts st hj).2.1
      have := (hb j hj).1
      omega
    have bdl : ∀ x ∈ (os.map (rowOf F)).map (·.l), x ≤ E := fun x hx => by
      obtain ⟨r, hr, rfl⟩ := List.mem_map.mp hx
      obtain ⟨j, hj, rfl⟩ := List.mem_map.mp hr
      have := (row_facts st hj).2.2
      have := (hb j hj).2
      omega
    have ei : ∀ x y, B ≤ x → y ≤ E → ins x y (ins B E F) = ins x y F := fun x y h1 h2 => by rw [ins_comp, mx_eq' h1, mn_eq' h2]
    have ed : ∀ x ∈ (os.map (rowOf F)).map (·.f), ∀ y ∈ (os.map (rowOf F)).map (·.l), dens (os.map (rowOf F)) (ins B E F) x y = dens (os.map (rowOf F)) F x y := fun x hx y hy => by
      unfold dens lenF
      rw [ei x y (bdf x hx) (bdl y hy)]
    have best2 : BestP (os.map (rowOf (ins B E F))) (ins B E F) v a b := by
      rw [er]
      exact ⟨best.pos, by rw [ed a best.fa b best.fb]; exact best.val, best.fa, best.fb, fun a' ha b' hb' => by rw [ed a' ha b' hb']; exact best.top a' ha b' hb'⟩
    have ha := bdf a best.fa
    have hbb := bdl b best.fb
    have ab : a ≤ b := by
      obtain ⟨j, hj, hi⟩ := works_in best.works
      have rf := row_facts st hj
      unfold inR at hi
      rw [Bool.and_eq_true] at hi
      have := of_decide_eq_true hi.1
      have := of_decide_eq_true hi.2
      omega
    have e1 : namesR os (ins B E F) a b = namesR os F a b := by unfold namesR; rw [er]
    have e2 : restR os (ins B E F) a b = restR os F a b := by unfold restR; rw [er]
    obtain ⟨g1, g2⟩ := st.f.ins B E
    have e3 : outR (ins B E F) a b = ins B E (outR F a b) := by
      rw [out_norm g1 g2, out_norm st.f (x := 0) (y := M) (fun t ht => ⟨(st.f.bd t ht).1, (st.f.bd t ht).2.2⟩)]
      have app : ∀ X Y : Fr, ins B E (X ++ Y) = ins B E X ++ ins B E Y := fun X Y => by unfold ins; rw [List.map_append, List.filter_append]
      rw [app, ins_comp, ins_comp, ins_comp, ins_comp, mx_eq (Int.le_refl B), mn_eq' (show a ≤ E by omega), mx_eq' (show B ≤ b by omega), mn_eq (Int.le_refl E), mx_eq' b0, mn_eq (show a ≤ E by omega), mx_eq (show B ≤ b by omega), mn_eq' eM]
    have := part_same b0 eM r (next_ok st ab) fun j hj => hb j (rest_mem hj).1
    rw [← e1, ← ei a b ha hbb]
    refine .cons ne best2 ?_
    rw [e2, e3]
    exact this
theorem bounds_ex {os : List RJ} (h : os ≠ []) : ∃ B E : Int, (∀ j ∈ os, B ≤ j.c ∧ j.d ≤ E) ∧ (∃ j ∈ os, j.c = B) ∧ ∃ j ∈ os, j.d = E := by
  cases hm : os.map (·.c) with
  | nil => exact absurd (List.map_eq_nil_iff.mp hm) h
  | cons n r =>
    cases hd : os.map (·.d) with
    | nil => exact absurd (List.map_eq_nil_iff.mp hd) h
    | cons n' r' =>
      obtain ⟨m1, m2⟩ := fold_min n r
      obtain ⟨m3, m4⟩ := fold_max n' r'
      rw [← hm] at m1 m2
      rw [← hd] at m3 m4
      obtain ⟨j, hj, ej⟩ := List.mem_map.mp m1
      obtain ⟨i, hi, ei⟩ := List.mem_map.mp m3
      exact ⟨_, _, fun x hx => ⟨m2 _ (List.mem_map_of_mem hx), m4 _ (List.mem_map_of_mem hx)⟩, ⟨j, hj, ej⟩, i, hi, ei⟩
/-- from all time on -/
theorem rounds_all {os : List RJ} (ok : OsOk os) {l : List Rd} (hr : Rounds os [(0, 1000000000)] l) : RoundsOf os l := by
  by_cases ne : os = []
  · subst ne
    cases hr
    · exact .inl ⟨rfl, rfl⟩
    · rename_i h _ _
      exact absurd rfl h
  · obtain ⟨B, E, h1, h2, h3⟩ := bounds_ex ne
    refine .inr ⟨B, E, h1, h2, h3, ?_⟩
    obtain ⟨j, hj, ej⟩ := h2
    obtain ⟨i, hi, ei⟩ := h3
    have t1 := ok.t j hj
    have t2 := ok.t i hi
    have b1 := h1 j hj
    have st : StOkM 1000000000 os [(0, 1000000000)] := by
      refine ⟨⟨fun t ht => ?_, List.pairwise_singleton _ _⟩, by decide, fun x hx z => ?_, ok.w, ok.nm, ok.len⟩
      · rw [List.mem_singleton.mp ht]; decide
      · have tx := ok.t x hx
        have : cl x.c x.d (0, 1000000000) ∈ ins x.c x.d [(0, 1000000000)] := mem_ins.mpr ⟨_, List.mem_cons_self .., rfl, by
          rw [cl_1, cl_2]
          show mx 0 x.c < mn 1000000000 x.d
          rw [mx_eq' tx.1, mn_eq' (by omega)]
          exact tx.2.1⟩
        rw [z] at this
        cases this
    have := part_same (B := B) (E := E) (by omega) (by omega) hr st h1
    have e : ins B E [(0, 1000000000)] = [(B, E)] := by
      have ec : cl B E (0, 1000000000) = (B, E) := by
        unfold cl
        rw [mx_eq' (show (0 : Int) ≤ B by omega), mn_eq' (show E ≤ 1000000000 by omega)]
      unfold ins
      rw [List.map_cons, ec, List.map_nil, List.filter_cons_of_pos (by exact decide_eq_true (show B < E by omega))]
      rfl
    rwa [e] at this
def dRd5 (r : Rd) : PyData := .tuple [rat2 r.v, .tuple (r.ns.map PyData.str), .tuple (r.ts.map dPt), .int r.a, .int r.b]
def spRoundsL (K : PySem.W.Frag) : Sp := fun vs H Q _ => ∃ (J : Addr) (xs : List V) (js : List Job), vs = [.ref J] ∧ SqT K H J xs ∧ IsA K H xs (js.map dJob) ∧ (∀ j ∈ js, JobOk j) ∧ OsOk (js.map toRJ) ∧ (js.map (·.n)).Nodup ∧
  ∀ l M ys H', Same H H' → RoundsOf (js.map toRJ) l → l.length ≤ 12 → H M = none → H' M = some (.lst ys) → IsA K H' ys (l.map dRd5) → Q (.ref M) H'
end Z

namespace Z
open PySem PySem.Spec PyProof.Rows L2
/-! ### rounds of jobs with names that differ -/
theorem inV_strs (x : Str) : ∀ xs : List Str, inV (.str x) (xs.map V.str) = decide (x ∈ xs)
  | [] => by simp [inV]
  | y :: xs => by
    have h := inV_strs x xs
    have ee : eqV (.str y) (.str x) = decide (y = x) := by
      show (y == x) = _
      by_cases h : y = x
      · subst h; simp
      · rw [decide_eq_false h]
        exact beq_eq_false_iff_ne.mpr h
    unfold inV at h ⊢
    rw [List.map_cons, List.any_cons, h, ee]
    by_cases e : y = x
    · subst e; simp
    · rw [decide_eq_false e, Bool.false_or]
      refine decide_eq_decide.mpr ⟨fun h => List.mem_cons_of_mem _ h, fun h => ?_⟩
      rcases List.mem_cons.mp h with h | h
      · exact absurd h.symm e
      · exact h
theorem flat_strs2 (xs : List Str) : (xs.map V.str).all flatV = true := by
  rw [List.all_eq_true]
  intro v hv
  obtain ⟨x, _, rfl⟩ := List.mem_map.mp hv
  rfl
def rowL (F : Fr) (j : Job) : LR := ⟨(rowOf F (toRJ j)).f, (rowOf F (toRJ j)).l, j⟩
theorem rowsL (F : Fr) (os : List Job) : (os.map (rowL F)).map toRow = (os.map toRJ).map (rowOf F) := by
  rw [List.map_map, List.map_map]; rfl
theorem nd_inj : ∀ {l : List Job}, (l.map (·.n)).Nodup → ∀ {x y : Job}, x ∈ l → y ∈ l → x.n = y.n → x = y
  | z :: r, nd, x, y, hx, hy, e => by
    rw [List.map_cons, List.nodup_cons] at nd
    have mm : ∀ {j : Job}, j ∈ r → j.n ∈ r.map (·.n) := fun h => List.mem_map.mpr ⟨_, h, rfl⟩
    rcases List.mem_cons.mp hx with ex | hx' <;> rcases List.mem_cons.mp hy with ey | hy'
    · rw [ex, ey]
    · exact absurd (by rw [← ex, e]; exact mm hy') nd.1
    · exact absurd (by rw [← ey, ← e]; exact mm hx') nd.1
    · exact nd_inj nd.2 hx' hy' e
def nmL (ls : List LR) (a b : Int) : List Str := (ls.filter fun r => inR a b (toRow r)).map (·.j.n)
theorem namesL (os : List Job) (F : Fr) (a b : Int) : nmL (os.map (rowL F)) a b = namesR (os.map toRJ) F a b := by
  unfold namesR nmL
  rw [← rowsL, List.filter_map (f := toRow), List.map_map]
  rfl
theorem name_in {os : List Job} {F : Fr} {a b : Int} (nd : (os.map (·.n)).Nodup) {j : Job} (hj : j ∈ os) : j.n ∈ namesR (os.map toRJ) F a b ↔ inR a b (rowOf F (toRJ j)) = true := by
  rw [← namesL]
  constructor
  · intro h
    obtain ⟨r, hr, e⟩ := List.mem_map.mp h
    obtain ⟨h1, h2⟩ := List.mem_filter.mp hr
    obtain ⟨i, hi, rfl⟩ := List.mem_map.mp h1
    have : i = j := nd_inj nd hi hj e
    subst this
    exact h2
  · intro h
    exact List.mem_map.mpr ⟨rowL F j, List.mem_filter.mpr ⟨List.mem_map_of_mem hj, h⟩, rfl⟩
def restL (os : List Job) (F : Fr) (a b : Int) : List Job := os.filter fun j => !decide (j.n ∈ namesR (os.map toRJ) F a b)
theorem rest_names {os : List Job} {F : Fr} {a b : Int} (nd : (os.map (·.n)).Nodup) : (restL os F a b).map toRJ = restR (os.map toRJ) F a b := by
  unfold restR restL
  rw [List.map_map, List.filter_map, List.map_map]
  show _ = (os.filter _).map toRJ
  congr 1
  refine List.filter_congr fun j hj => ?_
  show _ = !inR a b (rowOf F (toRJ j))
  congr 1
  by_cases h : inR a b (rowOf F (toRJ j)) = true
  · rw [h]; exact decide_eq_true ((name_in nd hj).mpr h)
  · rw [Bool.eq_false_iff.mpr h]
    exact decide_eq_false fun z => h ((name_in nd hj).mp z)
theorem restL_sub {os : List Job} {F : Fr} {a b : Int} : ∀ j ∈ restL os F a b, j ∈ os := fun j hj => (List.mem_filter.mp hj).1
theorem restL_nd {os : List Job} {F : Fr} {a b : Int} (nd : (os.map (·.n)).Nodup) : ((restL os F a b).map (·.n)).Nodup :=
  List.Sublist.nodup (List.Sublist.map (·.n) (List.filter_sublist (p := fun j : Job => !decide (j.n ∈ namesR (os.map toRJ) F a b)) (l := os))) nd
theorem out_len {F : Fr} {a b : Int} : (outR F a b).length ≤ 2 * F.length := by
  unfold outR
  rw [List.length_append]
  have h1 := ins_len (F.headD (0, 0)).1 a F
  have h2 := ins_len b (F.getLastD (0, 0)).2 F
  omega
theorem all_st {os : List RJ} (ok : OsOk os) : StOkM 1000000000 os [(0, 1000000000)] := by
  refine ⟨⟨fun t ht => ?_, List.pairwise_singleton _ _⟩, by decide, fun x hx z => ?_, ok.w, ok.nm, ok.len⟩
  · rw [List.mem_singleton.mp ht]; decide
  · have tx := ok.t x hx
    have : cl x.c x.d (0, 1000000000) ∈ ins x.c x.d [(0, 1000000000)] := mem_ins.mpr ⟨_, List.mem_cons_self .., rfl, by
      rw [cl_1, cl_2]
      show mx 0 x.c < mn 1000000000 x.d
      rw [mx_eq' tx.1, mn_eq' (by omega)]
      exact tx.2.1⟩
    rw [z] at this
    cases this
theorem out_all {F : Fr} (h : FOkM 1000000000 F) (a b : Int) : ins 0 a F ++ ins b 1000000000 F = outR F a b :=
  (out_norm h (fun t ht => ⟨(h.bd t ht).1, (h.bd t ht).2.2⟩) a b).symm
theorem loads_works {os : List Job} {F : Fr} {a b : Int} (h : loads (os.map (rowL F)) a b ≠ []) : works ((os.map toRJ).map (rowOf F)) a b ≠ [] := fun z => by
  rw [← rowsL, works_loads] at z
  exact h (List.map_eq_nil_iff.mp z)
theorem works_loads' {os : List Job} {F : Fr} {a b : Int} (h : works ((os.map toRJ).map (rowOf F)) a b ≠ []) : loads (os.map (rowL F)) a b ≠ [] := fun z => by
  rw [← rowsL, works_loads, z] at h
  exact h rfl
theorem nmL_len (ls : List LR) (a b : Int) : (nmL ls a b).length ≤ ls.length := by
  unfold nmL; rw [List.length_map]; exact List.length_filter_le _ _
theorem strs_are {K : PySem.W.Frag} {H : Hp} : ∀ ns : List Str, IsA K H (ns.map V.str) (ns.map PyData.str)
  | [] => .nil
  | _ :: r => .cons (.str _) (strs_are r)
/-! ### lists as they are drawn -/
theorem nd_of {js : List Job} (h : JobsOk js) : (js.map (·.n)).Nodup := by
  rw [List.nodup_iff_pairwise_ne, List.pairwise_map, List.pairwise_iff_getElem]
  intro i j hi hj l e
  have h1 := h.nm i js[i] (List.getElem?_eq_getElem hi)
  have h2 := h.nm j js[j] (List.getElem?_eq_getElem hj)
  rw [e] at h1
  have := h1.inj h2
  omega
theorem os_of {js : List Job} (h : JobsOk js) (hl : js.length ≤ 12) : OsOk (js.map toRJ) := by
  refine ⟨fun j hj => ?_, fun j hj => ?_, fun j hj => ?_, by rw [List.length_map]; exact hl⟩ <;> obtain ⟨i, hi, rfl⟩ := List.mem_map.mp hj
  · have o := h.ok i hi
    have := o.w0
    have := o.w1
    exact ⟨by show (0 : Rat) < (i.w : Rat); exact Rat.intCast_pos.mpr (by omega), sz_int (Nat.lt_of_lt_of_le (show i.w.natAbs < 2 ^ 20 by omega) (Nat.pow_le_pow_right (by decide) (by decide))) (by decide)⟩
  · have o := h.ok i hi
    exact ⟨o.c0, o.cd, o.d1⟩
  · obtain ⟨k, hk⟩ := List.getElem?_of_mem hi
    exact nm_str (h.nm k i hk)
theorem plain_strs : ∀ ns : List Str, plainDs (ns.map PyData.str) = true
  | [] => by rw [List.map_nil, plainDs]
  | n :: ns => by simp [plainDs, plainD, plain_strs ns]
theorem plain_pts : ∀ ts : Fr, plainDs (ts.map dPt) = true
  | [] => by rw [List.map_nil, plainDs]
  | n :: ns => by
    rw [List.map_cons, plainDs, plain_pts ns]
    unfold dPt
    rw [plainD, plainDs, plainDs, plainDs, plainD, plainD]; rfl
theorem dep_strs : ∀ ns : List Str, depDs (ns.map PyData.str) = 0
  | [] => by simp [depDs]
  | n :: ns => by simp [depDs, depD, dep_strs ns]
theorem dep_pts : ∀ ts : Fr, depDs (ts.map dPt) ≤ 1
  | [] => by simp [depDs]
  | n :: ns => by
    have := dep_pts ns
    rw [List.map_cons, depDs]
    have e : depD (dPt n) = 1 := by simp [dPt, depD, depDs]
    omega
theorem plain_rds : ∀ {l : List Rd}, (∀ r ∈ l, r.ns.length ≤ 1000 ∧ r.ts.length ≤ 1000) → plainDs (l.map dRd) = true
  | [], _ => by rw [List.map_nil, plainDs]
  | r :: l, h => by
    rw [List.map_cons, plainDs, plain_rds fun x hx => h x (List.mem_cons_of_mem _ hx)]
    obtain ⟨h1, h2⟩ := h r (List.mem_cons_self ..)
    unfold dRd
    rw [plainD, plainDs, plainDs, plainDs, plainDs, plain_rat2, plainD, plainD, plain_strs, plain_pts, List.length_map, List.length_map, decide_eq_true h1, decide_eq_true h2]
    rfl
theorem dep_rds : ∀ l : List Rd, depDs (l.map dRd) ≤ 3
  | [] => by simp [depDs]
  | r :: l => by
    have := dep_rds l
    have h1 := dep_strs r.ns
    have h2 := dep_pts r.ts
    rw [List.map_cons, depDs]
    have e : depD (dRd r) ≤ 3 := by
      unfold dRd
      rw [depD, depDs, depDs, depDs, depDs, dep_rat2, depD, depD]
      omega
    omega
theorem ins_cons (x y : Int) (t : Int × Int) (r : Fr) : ins x y (t :: r) = (if (cl x y t).1 < (cl x y t).2 then [cl x y t] else []) ++ ins x y r := by
  unfold ins
  rw [List.map_cons, List.filter_cons]
  by_cases h : (cl x y t).1 < (cl x y t).2
  · rw [if_pos h, if_pos (by exact decide_eq_true h)]; rfl
  · rw [if_neg h, if_neg (by rw [decide_eq_false h]; decide)]; rfl
theorem out_len1 {M x y a b : Int} (ab : a ≤ b) : ∀ {F : Fr}, FOkM M F → (ins x a F ++ ins b y F).length ≤ F.length + 1
  | [], _ => by show 0 ≤ 1; decide
  | t :: r, h => by
    have ih := out_len1 (x := x) (y := y) ab h.tl
    have l1 := ins_len b y r
    rw [List.length_append] at ih ⊢
    rw [ins_cons, ins_cons, List.length_append, List.length_append, List.length_cons]
    by_cases h1 : (cl x a t).1 < (cl x a t).2 <;> by_cases h2 : (cl b y t).1 < (cl b y t).2
    · have e0 : ins x a r = [] := by
        rw [List.eq_nil_iff_forall_not_mem]
        intro u hu
        obtain ⟨v, hv, rfl, hlt⟩ := mem_ins.mp hu
        rw [cl_1, cl_2] at hlt h2
        have p := (List.pairwise_cons.mp h.pw).1 v hv
        have e1 := le_mx1 v.1 x
        have e2 := mn_le2 v.2 a
        have e3 := le_mx2 t.1 b
        have e4 := mn_le1 t.2 y
        omega
      rw [if_pos h1, if_pos h2, e0]
      show 1 + 0 + (1 + _) ≤ _
      omega
    · rw [if_pos h1, if_neg h2]
      show 1 + _ + (0 + _) ≤ _
      omega
    · rw [if_neg h1, if_pos h2]
      show 0 + _ + (1 + _) ≤ _
      omega
    · rw [if_neg h1, if_neg h2]
      show 0 + _ + (0 + _) ≤ _
      omega
theorem best_ab {M : Int} {os : List RJ} {F : Fr} {v : Rat} {a b : Int} (st : StOkM M os F) (h : BestP (os.map (rowOf F)) F v a b) : a ≤ b := by
  obtain ⟨j, hj, hi⟩ := works_in h.works
  have rf := row_facts st hj
  unfold inR at hi
  rw [Bool.and_eq_true] at hi
  have := of_decide_eq_true hi.1
  have := of_decide_eq_true hi.2
  omega
theorem rounds_sz {m : Nat} {M : Int} : ∀ {os : List RJ} {F : Fr} {l : List Rd}, Rounds os F l → StOkM M os F → F.length + os.length ≤ m → ∀ r ∈ l, r.ns.length ≤ os.length ∧ r.ts.length ≤ m
  | _, _, _, .nil _, _, _, r, hr => by cases hr
  | os, F, _, .cons (v := v) (a := a) (b := b) (l := l) ne best rest, st, hm, r, hr => by
    have ab := best_ab st best
    rcases List.mem_cons.mp hr with rfl | hr
    · refine ⟨?_, ?_⟩
      · show (namesR os F a b).length ≤ _
        unfold namesR
        rw [List.length_map]
        exact Nat.le_trans (List.length_filter_le _ _) (by rw [List.length_map]; exact Nat.le_refl _)
      · show (ins a b F).length ≤ m
        have := ins_len a b F
        omega
    · have rl := rest_len best.works
      have ol := out_len1 (x := (F.headD (0, 0)).1) (y := (F.getLastD (0, 0)).2) ab st.f
      have := rounds_sz (m := m) rest (next_ok st ab) (by unfold outR; omega) r hr
      omega
theorem roundsOf_sz {os : List RJ} (ok : OsOk os) {l : List Rd} (h : RoundsOf os l) : ∀ r ∈ l, r.ns.length ≤ 1000 ∧ r.ts.length ≤ 1000 := fun r hr => by
  have l12 := ok.len
  rcases h with ⟨_, rfl⟩ | ⟨B, E, h1, h2, h3, h⟩
  · cases hr
  · have := rounds_sz h (ok.st h1 h2 h3) (Nat.le_refl _) r hr
    have e : ([(B, E)] : Fr).length = 1 := rfl
    omega
end Z

namespace Z
open PySem PySem.Spec PyProof.Rows L2
/-! ### speeds and peaks -/
def spAllTimeT (K : PySem.W.Frag) : Sp := fun vs H Q _ => ∃ (J : Addr) (xs : List V) (js : List Job), vs = [.ref J] ∧ SqT K H J xs ∧ IsA K H xs (js.map dJob) ∧ (∀ j ∈ js, JobOk j) ∧ js.length ≤ 1000 ∧
  ∀ (b e : Int) M ys H', Same H H' → (js = [] → b = 0 ∧ e = 0) → (js ≠ [] → (∃ j ∈ js, j.c = b) ∧ (∃ j ∈ js, j.d = e) ∧ ∀ j ∈ js, b ≤ j.c ∧ j.d ≤ e) → H M = none → H' M = some (.lst ys) → IsA K H' ys ([(b, e)].map dPt) → Q (.ref M) H'
def PeakP (js : List Job) (v : Rat) (a b : Int) : Prop := ∃ B E : Int, (∀ j ∈ js, B ≤ j.c ∧ j.d ≤ E) ∧ (∃ j ∈ js, j.c = B) ∧ (∃ j ∈ js, j.d = E) ∧ BestP ((js.map toRJ).map (rowOf [(B, E)])) [(B, E)] v a b
def spPeak (K : PySem.W.Frag) : Sp := fun vs H Q _ => ∃ (J : Addr) (xs : List V) (js : List Job), vs = [.ref J] ∧ SqT K H J xs ∧ IsA K H xs (js.map dJob) ∧ (∀ j ∈ js, JobOk j) ∧ OsOk (js.map toRJ) ∧
  ∀ t u v a b H', Same H H' → (js = [] → v = 0 ∧ a = 0 ∧ b = 0) → (js ≠ [] → PeakP js v a b) → SqT K H' t [u, .int a, .int b] → Is K H' u (rat2 v) → Q (.ref t) H'
/-- the speeds of the rounds with this name -/
def ofN (l : List Rd) (n : Str) : List Rat := (l.filter fun r => decide (n ∈ r.ns)).map (·.v)
def vOf (l : List Rd) (n : Str) : Rat := (ofN l n).getLast?.getD 0
def spSpeeds (K : PySem.W.Frag) : Sp := fun vs H Q _ => ∃ (J : Addr) (xs : List V) (js : List Job), vs = [.ref J] ∧ SqT K H J xs ∧ IsA K H xs (js.map dJob) ∧ (∀ j ∈ js, JobOk j) ∧ OsOk (js.map toRJ) ∧
  ∀ l v H', Same H H' → RoundsOf (js.map toRJ) l → l.length ≤ 12 → Is K H' v (.tuple ((js.map fun j => vOf l j.n).map rat2)) → Q v H'
theorem lenF_zero (x y : Int) : 0 ≤ lenF x y [(0, 0)] ∧ lenF x y [(0, 0)] ≤ 10000 ∧ (Z.ins x y [(0, 0)] ≠ [] → 0 < lenF x y [(0, 0)]) := by
  have e : Z.ins x y [(0, 0)] = [] := by
    rw [List.eq_nil_iff_forall_not_mem]
    intro t ht
    obtain ⟨u, hu, rfl, hlt⟩ := mem_ins.mp ht
    rw [List.mem_singleton.mp hu, cl_1, cl_2] at hlt
    change mx 0 x < mn 0 y at hlt
    have := le_mx1 0 x
    have := mn_le1 0 y
    omega
  unfold lenF
  rw [e]
  exact ⟨by decide, by decide, fun h => absurd rfl h⟩
theorem ofN_cons (r : Rd) (l : List Rd) (n : Str) : ofN (r :: l) n = if n ∈ r.ns then r.v :: ofN l n else ofN l n := by
  unfold ofN
  rw [List.filter_cons]
  by_cases h : n ∈ r.ns
  · rw [if_pos (by exact decide_eq_true h), if_pos h]; rfl
  · rw [if_neg (by rw [decide_eq_false h]; decide), if_neg h]
theorem ofN_push (l : List Rd) (r : Rd) (n : Str) : ofN (l ++ [r]) n = ofN l n ++ if n ∈ r.ns then [r.v] else [] := by
  unfold ofN
  rw [List.filter_append, List.map_append]
  congr 1
  by_cases h : n ∈ r.ns
  · rw [if_pos h, List.filter_cons_of_pos (by exact decide_eq_true h)]; rfl
  · rw [if_neg h, List.filter_cons_of_neg (by rw [decide_eq_false h]; decide)]; rfl
theorem restR_eq (os : List RJ) (F : Fr) (a b : Int) : restR os F a b = os.filter fun j => !inR a b (rowOf F j) := by
  unfold restR
  rw [List.filter_map, List.map_map]
  show List.map (fun j => (rowOf F j).j) _ = _
  exact List.map_id _
theorem namesR_mem {os : List RJ} {F : Fr} {a b : Int} {n : Str} : n ∈ namesR os F a b ↔ ∃ j ∈ os, inR a b (rowOf F j) = true ∧ j.n = n := by
  unfold namesR
  constructor
  · intro h
    obtain ⟨r, hr, e⟩ := List.mem_map.mp h
    obtain ⟨h1, h2⟩ := List.mem_filter.mp hr
    obtain ⟨j, hj, rfl⟩ := List.mem_map.mp h1
    exact ⟨j, hj, h2, e⟩
  · rintro ⟨j, hj, hi, rfl⟩
    exact List.mem_map.mpr ⟨rowOf F j, List.mem_filter.mpr ⟨List.mem_map_of_mem hj, hi⟩, rfl⟩
theorem ndR_inj : ∀ {l : List RJ}, (l.map (·.n)).Nodup → ∀ {x y : RJ}, x ∈ l → y ∈ l → x.n = y.n → x = y
  | z :: r, nd, x, y, hx, hy, e => by
    rw [List.map_cons, List.nodup_cons] at nd
    have mm : ∀ {j : RJ}, j ∈ r → j.n ∈ r.map (·.n) := fun h => List.mem_map.mpr ⟨_, h, rfl⟩
    rcases List.mem_cons.mp hx with ex | hx' <;> rcases List.mem_cons.mp hy with ey | hy'
    · rw [ex, ey]
    · exact absurd (by rw [← ex, e]; exact mm hy') nd.1
    · exact absurd (by rw [← ey, ← e]; exact mm hx') nd.1
    · exact ndR_inj nd.2 hx' hy' e
/-- each job is in exactly one round -/
theorem ofN_one : ∀ {os : List RJ} {F : Fr} {l : List Rd}, Rounds os F l → (os.map (·.n)).Nodup → (∀ j ∈ os, ∃ v, ofN l j.n = [v]) ∧ ∀ n, n ∉ os.map (·.n) → ofN l n = []
  | _, _, _, .nil _, _ => ⟨fun j hj => (by cases hj), fun n _ => rfl⟩
  | os, F, _, .cons (v := v) (a := a) (b := b) (l := l) ne best rest, nd => by
    have nd2 : ((restR os F a b).map (·.n)).Nodup := by
      rw [restR_eq]
      exact List.Sublist.nodup (List.Sublist.map (·.n) (List.filter_sublist (p := fun j : RJ => !inR a b (rowOf F j)) (l := os))) nd
    obtain ⟨h1, h2⟩ := ofN_one rest nd2
    refine ⟨fun j hj => ?_, fun n hn => ?_⟩
    · rw [ofN_cons]
      by_cases hi : inR a b (rowOf F j) = true
      · rw [if_pos (namesR_mem.mpr ⟨j, hj, hi, rfl⟩), h2 j.n (fun z => ?_)]
        · exact ⟨v, rfl⟩
        · obtain ⟨i, hi2, e⟩ := List.mem_map.mp z
          obtain ⟨m1, m2⟩ := rest_mem hi2
          have := ndR_inj nd m1 hj e
          subst this
          rw [hi] at m2
          cases m2
      · rw [if_neg (fun z => ?_)]
        · refine h1 j ?_
          rw [restR_eq]
          exact List.mem_filter.mpr ⟨hj, by rw [Bool.eq_false_iff.mpr hi]; rfl⟩
        · obtain ⟨i, hi2, hin, e⟩ := namesR_mem.mp z
          have := ndR_inj nd hi2 hj e
          subst this
          exact hi hin
    · rw [ofN_cons, if_neg (fun z => ?_)]
      · refine h2 n fun z => hn ?_
        obtain ⟨i, hi2, e⟩ := List.mem_map.mp z
        exact List.mem_map.mpr ⟨i, (rest_mem hi2).1, e⟩
      · obtain ⟨i, hi2, _, e⟩ := namesR_mem.mp z
        exact hn (List.mem_map.mpr ⟨i, hi2, e⟩)
theorem one_of {js : List Job} (nd : (js.map (·.n)).Nodup) {l : List Rd} (h : RoundsOf (js.map toRJ) l) {j : Job} (hj : j ∈ js) : ofN l j.n = [vOf l j.n] := by
  have nd2 : ((js.map toRJ).map (·.n)).Nodup := by rw [List.map_map]; exact nd
  rcases h with ⟨e, _⟩ | ⟨B, E, _, _, _, h⟩
  · rw [List.map_eq_nil_iff.mp e] at hj; cases hj
  · obtain ⟨v, hv⟩ := (ofN_one h nd2).1 (toRJ j) (List.mem_map_of_mem hj)
    change ofN l j.n = [v] at hv
    unfold vOf
    rw [hv]
    rfl
/-- the first round is the peak -/
theorem peak_first {js : List Job} {v : Rat} {a b : Int} (h : PeakP js v a b) {l : List Rd} (hl : RoundsOf (js.map toRJ) l) (ne : js ≠ []) : ∃ r t, l = r :: t ∧ r.v = v ∧ r.a = a ∧ r.b = b := by
  obtain ⟨B, E, h1, ⟨x, hx, ex⟩, ⟨y, hy, ey⟩, best⟩ := h
  rcases hl with ⟨e, _⟩ | ⟨B', E', h1', ⟨x', hx', ex'⟩, ⟨y', hy', ey'⟩, hr⟩
  · exact absurd (List.map_eq_nil_iff.mp e) ne
  · obtain ⟨i, hi, rfl⟩ := List.mem_map.mp hx'
    obtain ⟨k, hk, rfl⟩ := List.mem_map.mp hy'
    have a1 := (h1' (toRJ x) (List.mem_map_of_mem hx)).1
    have a2 := (h1' (toRJ y) (List.mem_map_of_mem hy)).2
    have a3 := (h1 i hi).1
    have a4 := (h1 k hk).2
    change B' ≤ x.c at a1
    change y.d ≤ E' at a2
    change i.c = B' at ex'
    change k.d = E' at ey'
    obtain rfl : B = B' := by omega
    obtain rfl : E = E' := by omega
    have ne2 : js.map toRJ ≠ [] := fun z => ne (List.map_eq_nil_iff.mp z)
    generalize js.map toRJ = os at hr best ne2
    cases hr with
    | nil => exact absurd rfl ne2
    | cons _ best' _ =>
      obtain ⟨e1, e2, e3⟩ := best'.uniq best
      exact ⟨_, _, rfl, e1, e2, e3⟩
/-- the work of the jobs whose windows lie between -/
def loadJ (js : List Job) (a b : Int) : List Int := (js.filter fun j => decide (a ≤ j.c) && decide (j.d ≤ b)).map (·.w)
theorem row_all {B E : Int} {j : Job} (h : B ≤ j.c ∧ j.d ≤ E) (cd : j.c < j.d) : rowOf [(B, E)] (toRJ j) = ⟨j.c, j.d, toRJ j⟩ := by
  have e : ins j.c j.d [(B, E)] = [(j.c, j.d)] := by
    rw [ins_cons]
    have : cl j.c j.d (B, E) = (j.c, j.d) := by
      unfold cl
      rw [mx_eq' h.1, mn_eq' h.2]
    rw [this, if_pos cd]
    rfl
  show (⟨((ins j.c j.d [(B, E)]).headD (0, 0)).1, ((ins j.c j.d [(B, E)]).getLastD (0, 0)).2, toRJ j⟩ : Row) = _
  rw [e]
  rfl
theorem works_all {B E : Int} {js : List Job} (h : ∀ j ∈ js, B ≤ j.c ∧ j.d ≤ E) (hj : ∀ j ∈ js, JobOk j) (a b : Int) : works ((js.map toRJ).map (rowOf [(B, E)])) a b = (loadJ js a b).map fun (z : Int) => (z : Rat) := by
  unfold works loadJ
  rw [List.map_map, List.filter_map, List.map_map, List.map_map]
  have e : js.filter ((inR a b) ∘ (rowOf [(B, E)] ∘ toRJ)) = js.filter fun j => decide (a ≤ j.c) && decide (j.d ≤ b) := by
    refine List.filter_congr fun j hm => ?_
    show inR a b (rowOf [(B, E)] (toRJ j)) = _
    rw [row_all (h j hm) (hj j hm).cd]
    rfl
  rw [e]
  refine List.map_congr_left fun j hm => ?_
  rfl
theorem peak_work {js : List Job} (hj : ∀ j ∈ js, JobOk j) {v : Rat} {a b : Int} (h : PeakP js v a b) : v.num * (b - a) = (loadJ js a b).sum * (v.den : Int) := by
  obtain ⟨B, E, h1, _, _, best⟩ := h
  have hw : works ((js.map toRJ).map (rowOf [(B, E)])) a b ≠ [] := best.works
  obtain ⟨z, hz, ha⟩ := List.mem_map.mp best.fa
  obtain ⟨q, hq, hb⟩ := List.mem_map.mp best.fb
  obtain ⟨i', hi', rfl⟩ := List.mem_map.mp hz
  obtain ⟨i, hi, rfl⟩ := List.mem_map.mp hi'
  obtain ⟨k', hk', rfl⟩ := List.mem_map.mp hq
  obtain ⟨k, hk, rfl⟩ := List.mem_map.mp hk'
  rw [row_all (h1 i hi) (hj i hi).cd] at ha
  rw [row_all (h1 k hk) (hj k hk).cd] at hb
  change i.c = a at ha
  change k.d = b at hb
  have b1 := (h1 i hi).1
  have b2 := (h1 k hk).2
  have ab : a < b := by
    rw [works_all h1 hj] at hw
    cases hl : loadJ js a b with
    | nil => rw [hl] at hw; exact absurd rfl hw
    | cons n r =>
      have : n ∈ loadJ js a b := by rw [hl]; exact List.mem_cons_self ..
      obtain ⟨j, hm, _⟩ := List.mem_map.mp this
      obtain ⟨hm, hc⟩ := List.mem_filter.mp hm
      rw [Bool.and_eq_true] at hc
      have c1 := of_decide_eq_true hc.1
      have c2 := of_decide_eq_true hc.2
      have := (hj j hm).cd
      omega
  have el : lenF a b [(B, E)] = b - a := by
    unfold lenF
    rw [ins_cons]
    have : cl a b (B, E) = (a, b) := by
      unfold cl
      rw [mx_eq' (by omega), mn_eq' (by omega)]
    rw [this, if_pos ab]
    show (b - a) + 0 = b - a
    omega
  have ev := best.val
  unfold dens at ev
  rw [if_neg hw, el, works_all h1 hj, rsum_ints] at ev
  have e2 : v = (v.num : Rat) / ((v.den : Int) : Rat) := by
    rw [← Rat.divInt_eq_div]
    exact (Rat.num_divInt_den v).symm
  rw [e2] at ev
  have := (frac_eq (p := v.num) (q := (v.den : Int)) (r := (loadJ js a b).sum) (s := b - a) (by have := v.den_pos; omega) (by omega)).mp ev
  exact this
theorem strs_eq {K : PySem.W.Frag} {H : Hp} : ∀ {xs : List V} {ns : List Str}, IsA K H xs (ns.map PyData.str) → xs = ns.map V.str
  | [], [], _ => rfl
  | _ :: _, [], h => by cases h
  | [], _ :: _, h => by cases h
  | x :: xs, n :: ns, h => by
    cases h with
    | cons h1 h2 =>
      cases h1
      rw [List.map_cons, strs_eq h2]
theorem rd_at {K : PySem.W.Frag} {H : Hp} {v : V} {r : Rd} (h : Is K H v (dRd r)) : ∃ t u T w, v = .ref t ∧ SqT K H t [u, .ref T, w] ∧ Is K H u (rat2 r.v) ∧ SqT K H T (r.ns.map V.str) := by
  obtain ⟨t, xs, rfl, s, a⟩ := h.tup'
  cases a with
  | cons h1 a => cases a with
    | cons h2 a => cases a with
      | cons h3 a =>
        cases a
        obtain ⟨T, cs, rfl, sT, aT⟩ := h2.tup'
        rw [strs_eq aT] at sT
        exact ⟨t, _, T, _, rfl, s, h1, sT⟩
theorem rd5_at {K : PySem.W.Frag} {H : Hp} {v : V} {r : Rd} (h : Is K H v (dRd5 r)) : ∃ t u T w, v = .ref t ∧ SqT K H t [u, .ref T, w, .int r.a, .int r.b] ∧ Is K H u (rat2 r.v) ∧ SqT K H T (r.ns.map V.str) := by
  obtain ⟨t, xs, rfl, s, a⟩ := h.tup'
  cases a with
  | cons h1 a => cases a with
    | cons h2 a => cases a with
      | cons h3 a => cases a with
        | cons h4 a => cases a with
          | cons h5 a =>
            cases a; cases h4; cases h5
            obtain ⟨T, cs, rfl, sT, aT⟩ := h2.tup'
            rw [strs_eq aT] at sT
            exact ⟨t, _, T, _, rfl, s, h1, sT⟩
/-- a dict of the speeds -/
def SpdD (K : PySem.W.Frag) (H : Hp) (kvs : List (Key × V)) (f : Str → Option Rat) : Prop := ∀ n : Str, match valV kvs (Sum.inr n) with
  | none => f n = none
  | some u => ∃ q, f n = some q ∧ Is K H u (rat2 q)
theorem SpdD.tm {K : PySem.W.Frag} {H H' : Hp} {kvs : List (Key × V)} {f : Str → Option Rat} (h : SpdD K H kvs f) (e : Tm H H') : SpdD K H' kvs f := fun n => by
  have z := h n
  split at z
  · next e0 => exact z
  · next u e0 =>
    obtain ⟨q, h1, h2⟩ := z
    exact ⟨q, h1, h2.to e⟩
theorem plain_rats : ∀ qs : List Rat, plainDs (qs.map rat2) = true
  | [] => by rw [List.map_nil, plainDs]
  | q :: qs => by rw [List.map_cons, plainDs, plain_rats qs, plain_rat2]; rfl
theorem dep_rats : ∀ qs : List Rat, depDs (qs.map rat2) ≤ 1
  | [] => by simp [depDs]
  | q :: qs => by
    have := dep_rats qs
    rw [List.map_cons, depDs, dep_rat2]
    omega
theorem plain_ratT {qs : List Rat} (h : qs.length ≤ 1000) : plainD (.tuple (qs.map rat2)) = true ∧ depD (.tuple (qs.map rat2)) < 5 := by
  have := dep_rats qs
  refine ⟨?_, by rw [depD]; omega⟩
  rw [plainD, plain_rats, List.length_map, decide_eq_true h]
  rfl
def dPeak (v : Rat) (a b : Int) : PyData := .tuple [rat2 v, .int a, .int b]
theorem plain_peak (v : Rat) (a b : Int) : plainD (dPeak v a b) = true ∧ depD (dPeak v a b) < 5 := by
  unfold dPeak
  refine ⟨?_, ?_⟩
  · rw [plainD, plainDs, plainDs, plainDs, plainDs, plain_rat2, plainD, plainD]; rfl
  · simp [depD, depDs, dep_rat2]
theorem peak_bd {js : List Job} (hj : ∀ j ∈ js, JobOk j) {v : Rat} {a b : Int} (h : PeakP js v a b) : 0 ≤ a ∧ a ≤ 10000 ∧ 0 ≤ b ∧ b ≤ 10000 := by
  obtain ⟨B, E, h1, _, _, best⟩ := h
  obtain ⟨z, hz, ha⟩ := List.mem_map.mp best.fa
  obtain ⟨q, hq, hb⟩ := List.mem_map.mp best.fb
  obtain ⟨i', hi', rfl⟩ := List.mem_map.mp hz
  obtain ⟨i, hi, rfl⟩ := List.mem_map.mp hi'
  obtain ⟨k', hk', rfl⟩ := List.mem_map.mp hq
  obtain ⟨k, hk, rfl⟩ := List.mem_map.mp hk'
  rw [row_all (h1 i hi) (hj i hi).cd] at ha
  rw [row_all (h1 k hk) (hj k hk).cd] at hb
  change i.c = a at ha
  change k.d = b at hb
  have o1 := hj i hi
  have o2 := hj k hk
  have := o1.c0
  have := o1.cd
  have := o1.d1
  have := o2.c0
  have := o2.cd
  have := o2.d1
  omega
theorem loadJ_bd {js : List Job} (hj : ∀ j ∈ js, JobOk j) (hl : js.length ≤ 12) (a b : Int) : 0 ≤ (loadJ js a b).sum ∧ (loadJ js a b).sum ≤ 120000 := by
  have h := sum_pos (ns := loadJ js a b) fun n hn => by
    obtain ⟨j, hm, rfl⟩ := List.mem_map.mp hn
    have o := hj j (List.mem_filter.mp hm).1
    exact ⟨o.w0, o.w1⟩
  have : (loadJ js a b).length ≤ 12 := by
    unfold loadJ
    rw [List.length_map]
    exact Nat.le_trans (List.length_filter_le _ _) hl
  have := h.2.2
  omega
end Z

namespace Z
open PySem PySem.Spec PyProof.Rows L2
/-! ### the speeds of rounds fall: free time adds up -/
/-- what of an interval lies between x and y -/
def lc (x y : Int) (t : Int × Int) : Int := if mn t.2 y - mx t.1 x > 0 then mn t.2 y - mx t.1 x else 0
theorem lenF_nil (x y : Int) : lenF x y [] = 0 := rfl
theorem sumF_append (F G : Fr) : sumF (F ++ G) = sumF F + sumF G := by
  unfold sumF
  rw [List.map_append, List.sum_append]
theorem lenF_cons (x y : Int) (t : Int × Int) (r : Fr) : lenF x y (t :: r) = lc x y t + lenF x y r := by
  unfold lenF
  rw [ins_cons, sumF_append]
  congr 1
  unfold lc
  by_cases h : (cl x y t).1 < (cl x y t).2
  · rw [if_pos h]
    rw [cl_1, cl_2] at h
    rw [if_pos (by omega)]
    show (mn t.2 y - mx t.1 x) + 0 = _
    omega
  · rw [if_neg h]
    rw [cl_1, cl_2] at h
    rw [if_neg (by omega)]
    rfl
theorem lenF_append (x y : Int) : ∀ F G : Fr, lenF x y (F ++ G) = lenF x y F + lenF x y G
  | [], G => by rw [List.nil_append, lenF_nil]; omega
  | t :: r, G => by rw [List.cons_append, lenF_cons, lenF_cons, lenF_append x y r G]; omega
theorem lc_add {x y z : Int} {t : Int × Int} (xy : x ≤ y) (yz : y ≤ z) (ht : t.1 ≤ t.2) : lc x z t = lc x y t + lc y z t := by
  unfold lc mx mn
  (repeat' split) <;> omega
theorem lc_nn (x y : Int) (t : Int × Int) : 0 ≤ lc x y t := by
  unfold lc
  split <;> omega
theorem lenF_nn (x y : Int) : ∀ F : Fr, 0 ≤ lenF x y F
  | [] => by rw [lenF_nil]; decide
  | t :: r => by
    rw [lenF_cons]
    have := lc_nn x y t
    have := lenF_nn x y r
    omega
theorem lenF_add {x y z : Int} (xy : x ≤ y) (yz : y ≤ z) : ∀ {F : Fr}, (∀ t ∈ F, t.1 < t.2) → lenF x z F = lenF x y F + lenF y z F
  | [], _ => rfl
  | t :: r, h => by
    have ht := h t (List.mem_cons_self ..)
    rw [lenF_cons, lenF_cons, lenF_cons, lc_add xy yz (by omega), lenF_add xy yz fun u hu => h u (List.mem_cons_of_mem _ hu)]
    omega
theorem lenF_none {x y : Int} (h : y ≤ x) : ∀ {F : Fr}, (∀ t ∈ F, t.1 < t.2) → lenF x y F = 0
  | [], _ => rfl
  | t :: r, hF => by
    have ht := hF t (List.mem_cons_self ..)
    rw [lenF_cons, lenF_none h fun u hu => hF u (List.mem_cons_of_mem _ hu)]
    unfold lc mx mn
    (repeat' split) <;> omega
theorem FOkM.lt {M : Int} {F : Fr} (h : FOkM M F) : ∀ t ∈ F, t.1 < t.2 := fun t ht => (h.bd t ht).2.1
theorem lenF_mono {x y x' y' : Int} (hx : x ≤ x') (hy : y' ≤ y) {F : Fr} (h : ∀ t ∈ F, t.1 < t.2) : lenF x' y' F ≤ lenF x y F := by
  by_cases e : x' ≤ y'
  · rw [lenF_add (x := x) (y := x') (z := y) hx (by omega) h, lenF_add (x := x') (y := y') (z := y) e hy h]
    have := lenF_nn x x' F
    have := lenF_nn y' y F
    omega
  · rw [lenF_none (by omega) h]
    exact lenF_nn ..
theorem lenF_ins (x y x' y' : Int) (F : Fr) : lenF x y (ins x' y' F) = lenF (mx x' x) (mn y' y) F := by
  unfold lenF
  rw [ins_comp]
/-- what is left when the time between a and b is taken out -/
theorem lenF_out {M : Int} {F : Fr} (h : FOkM M F) (m0 : 0 ≤ M) (a b x y : Int) : lenF x y (outR F a b) = lenF x (mn a y) F + lenF (mx b x) y F := by
  rw [out_norm h (fun t ht => ⟨(h.bd t ht).1, (h.bd t ht).2.2⟩) a b, lenF_append, lenF_ins, lenF_ins]
  have e1 : lenF (mx 0 x) (mn a y) F = lenF x (mn a y) F := by
    unfold lenF
    rw [ins_same (x := mx 0 x) (x' := x) (y := mn a y) (y' := mn a y) fun t ht => ⟨?_, rfl⟩]
    have := (h.bd t ht).1
    unfold mx
    (repeat' split) <;> omega
  have e2 : lenF (mx b x) (mn M y) F = lenF (mx b x) y F := by
    unfold lenF
    rw [ins_same (x := mx b x) (x' := mx b x) (y := mn M y) (y' := y) fun t ht => ⟨rfl, ?_⟩]
    have := (h.bd t ht).2.2
    unfold mn
    (repeat' split) <;> omega
  rw [e1, e2]
end Z

namespace Z
open PySem PySem.Spec PyProof.Rows L2
/-! ### the densest pair bounds all pairs -/
/-- the work of the jobs that keep p -/
def wsum (os : List RJ) (p : RJ → Bool) : Rat := rsum ((os.filter p).map (·.w))
theorem wsum_cons (j : RJ) (os : List RJ) (p : RJ → Bool) : wsum (j :: os) p = (if p j then j.w else 0) + wsum os p := by
  unfold wsum
  rw [List.filter_cons]
  cases p j with
  | true => rfl
  | false =>
    show rsum _ = 0 + rsum _
    rw [Rat.zero_add]
    rfl
theorem wsum_nn {os : List RJ} (h : ∀ j ∈ os, 0 < j.w) (p : RJ → Bool) : 0 ≤ wsum os p := by
  induction os with
  | nil => exact Rat.le_refl
  | cons j r ih =>
    rw [wsum_cons]
    have h1 := h j (List.mem_cons_self ..)
    have h2 := ih fun i hi => h i (List.mem_cons_of_mem _ hi)
    split <;> grind
theorem wsum_two {os : List RJ} (h : ∀ j ∈ os, 0 < j.w) {p q r : RJ → Bool} (hp : ∀ j ∈ os, p j = true → r j = true) (hq : ∀ j ∈ os, q j = true → r j = true) (hd : ∀ j ∈ os, p j = true → q j = true → False) : wsum os p + wsum os q ≤ wsum os r := by
  induction os with
  | nil =>
    show (0 : Rat) + 0 ≤ 0
    grind
  | cons j t ih =>
    rw [wsum_cons, wsum_cons, wsum_cons]
    have h1 := h j (List.mem_cons_self ..)
    have h2 := ih (fun i hi => h i (List.mem_cons_of_mem _ hi)) (fun i hi => hp i (List.mem_cons_of_mem _ hi)) (fun i hi => hq i (List.mem_cons_of_mem _ hi)) (fun i hi => hd i (List.mem_cons_of_mem _ hi))
    have a1 := hp j (List.mem_cons_self ..)
    have a2 := hq j (List.mem_cons_self ..)
    have a3 := hd j (List.mem_cons_self ..)
    cases e1 : p j <;> cases e2 : q j <;> cases e3 : r j <;> simp_all <;> grind
theorem wsum_mono {os : List RJ} (h : ∀ j ∈ os, 0 < j.w) {p r : RJ → Bool} (hp : ∀ j ∈ os, p j = true → r j = true) : wsum os p ≤ wsum os r := by
  induction os with
  | nil => exact Rat.le_refl
  | cons j t ih =>
    rw [wsum_cons, wsum_cons]
    have h1 := h j (List.mem_cons_self ..)
    have h2 := ih (fun i hi => h i (List.mem_cons_of_mem _ hi)) (fun i hi => hp i (List.mem_cons_of_mem _ hi))
    have a1 := hp j (List.mem_cons_self ..)
    cases e1 : p j <;> cases e3 : r j <;> simp_all <;> grind
theorem works_w0 (os : List RJ) (F : Fr) (x y : Int) : rsum (works (os.map (rowOf F)) x y) = wsum os fun j => inR x y (rowOf F j) := by
  unfold works wsum
  rw [List.filter_map, List.map_map]
  rfl
theorem works_rest (os : List RJ) (F G : Fr) (a b x y : Int) : rsum (works ((restR os F a b).map (rowOf G)) x y) = wsum os fun j => inR x y (rowOf G j) && !inR a b (rowOf F j) := by
  rw [works_w0]
  unfold wsum
  rw [restR_eq, List.filter_filter]
theorem div_le_mul {W v : Rat} {L : Int} (h : 0 < L) (e : W / (L : Rat) ≤ v) : W ≤ v * (L : Rat) := by
  have hL : (0 : Rat) < (L : Rat) := Rat.intCast_pos.mpr h
  have h1 := Rat.mul_le_mul_of_nonneg_right e (Rat.le_of_lt hL)
  rwa [Rat.div_mul_cancel (show (L : Rat) ≠ 0 by grind)] at h1
theorem cast_le {x y : Int} (h : x ≤ y) : (x : Rat) ≤ (y : Rat) := Rat.intCast_le_intCast.mpr h
/-- no pair of times holds more work than the densest pair's speed does -/
theorem best_all {M : Int} {os : List RJ} {F : Fr} (st : StOkM M os F) {v : Rat} {a b : Int} (best : BestP (os.map (rowOf F)) F v a b) (x y : Int) : wsum os (fun j => inR x y (rowOf F j)) ≤ v * (lenF x y F : Rat) := by
  rw [← works_w0]
  have nn : (0 : Rat) ≤ (lenF x y F : Rat) := cast_le (lenF_nn x y F)
  have vp := best.pos
  by_cases e : works (os.map (rowOf F)) x y = []
  · rw [e]
    show (0 : Rat) ≤ _
    exact Rat.mul_nonneg (Rat.le_of_lt vp) nn
  · -- the rows between
    let S := (os.map (rowOf F)).filter (inR x y)
    have neS : S ≠ [] := fun z => e (by unfold works; rw [show (os.map (rowOf F)).filter (inR x y) = [] from z]; rfl)
    cases hf : S.map (·.f) with
    | nil => exact absurd (List.map_eq_nil_iff.mp hf) neS
    | cons n r =>
      cases hg : S.map (·.l) with
      | nil => exact absurd (List.map_eq_nil_iff.mp hg) neS
      | cons n' r' =>
        obtain ⟨m1, m2⟩ := fold_min n r
        obtain ⟨m3, m4⟩ := fold_max n' r'
        rw [← hf] at m1 m2
        rw [← hg] at m3 m4
        generalize r.foldl min n = a' at m1 m2
        generalize r'.foldl max n' = b' at m3 m4
        obtain ⟨r1, hr1, e1⟩ := List.mem_map.mp m1
        obtain ⟨r2, hr2, e2⟩ := List.mem_map.mp m3
        obtain ⟨hm1, hi1⟩ := List.mem_filter.mp hr1
        obtain ⟨hm2, hi2⟩ := List.mem_filter.mp hr2
        have i1 : x ≤ r1.f := by
          unfold inR at hi1
          rw [Bool.and_eq_true] at hi1
          exact of_decide_eq_true hi1.1
        have i2 : r2.l ≤ y := by
          unfold inR at hi2
          rw [Bool.and_eq_true] at hi2
          exact of_decide_eq_true hi2.2
        have ew : works (os.map (rowOf F)) a' b' = works (os.map (rowOf F)) x y := by
          unfold works
          congr 1
          refine List.filter_congr fun q hq => ?_
          by_cases z : inR x y q = true
          · rw [z]
            have qS : q ∈ S := List.mem_filter.mpr ⟨hq, z⟩
            have l1 := m2 _ (List.mem_map_of_mem (f := Row.f) qS)
            have l2 := m4 _ (List.mem_map_of_mem (f := Row.l) qS)
            unfold inR
            rw [decide_eq_true l1, decide_eq_true l2]
            rfl
          · rw [Bool.eq_false_iff.mpr z]
            refine Bool.eq_false_iff.mpr fun z2 => z ?_
            unfold inR at z2 ⊢
            rw [Bool.and_eq_true] at z2 ⊢
            have l1 := of_decide_eq_true z2.1
            have l2 := of_decide_eq_true z2.2
            exact ⟨decide_eq_true (by omega), decide_eq_true (by omega)⟩
        have top := (best.top a' (List.mem_map.mpr ⟨r1, hm1, e1⟩) b' (List.mem_map.mpr ⟨r2, hm2, e2⟩)).1
        unfold dens at top
        rw [if_neg (by rw [ew]; exact e), ew] at top
        have pos : 0 < lenF a' b' F := by
          obtain ⟨j, hj, hi⟩ := works_in (F := F) (os := os) (a := a') (b := b') (by rw [ew]; exact e)
          exact (st.f.lenF a' b' st.m0).2.2 (ins_of_in st hj hi)
        have h1 := div_le_mul pos top
        have h2 : (lenF a' b' F : Rat) ≤ (lenF x y F : Rat) := cast_le (lenF_mono (by omega) (by omega) st.f.lt)
        have h3 := Rat.mul_le_mul_of_nonneg_left h2 (Rat.le_of_lt vp)
        exact Rat.le_trans h1 h3
/-- the densest pair itself holds just that -/
theorem best_own {M : Int} {os : List RJ} {F : Fr} (st : StOkM M os F) {v : Rat} {a b : Int} (best : BestP (os.map (rowOf F)) F v a b) : 0 < lenF a b F ∧ wsum os (fun j => inR a b (rowOf F j)) = v * (lenF a b F : Rat) := by
  have e := best.works
  have pos : 0 < lenF a b F := by
    obtain ⟨j, hj, hi⟩ := works_in e
    exact (st.f.lenF a b st.m0).2.2 (ins_of_in st hj hi)
  refine ⟨pos, ?_⟩
  have ev := best.val
  unfold dens at ev
  rw [if_neg e, works_w0] at ev
  rw [ev, Rat.div_mul_cancel]
  have : (0 : Rat) < (lenF a b F : Rat) := Rat.intCast_pos.mpr pos
  grind
end Z

namespace Z
open PySem PySem.Spec PyProof.Rows L2
/-! ### the next round is not faster -/
theorem ins_append (x y : Int) (F G : Fr) : ins x y (F ++ G) = ins x y F ++ ins x y G := by
  unfold ins
  rw [List.map_append, List.filter_append]
theorem mem_out {M : Int} {F : Fr} (h : FOkM M F) (a b c d : Int) {t : Int × Int} : t ∈ ins c d (outR F a b) ↔ t ∈ ins (mx 0 c) (mn a d) F ∨ t ∈ ins (mx b c) (mn M d) F := by
  rw [out_norm h (fun t ht => ⟨(h.bd t ht).1, (h.bd t ht).2.2⟩) a b, ins_append, List.mem_append, ins_comp, ins_comp]
structure Ends (F : Fr) (c d f l : Int) : Prop where
  hf : ∃ u ∈ F, mx u.1 c = f ∧ f < mn u.2 d
  hl : ∃ u ∈ F, mn u.2 d = l ∧ mx u.1 c < l
  lo : ∀ u ∈ F, mx u.1 c < mn u.2 d → f ≤ mx u.1 c
  up : ∀ u ∈ F, mx u.1 c < mn u.2 d → mn u.2 d ≤ l
theorem ends_of {M : Int} {F : Fr} (h : FOkM M F) {j : RJ} (ne : ins j.c j.d F ≠ []) : Ends F j.c j.d (rowOf F j).f (rowOf F j).l := by
  have hi := (h.ins j.c j.d).1
  have mem : ∀ u ∈ F, mx u.1 j.c < mn u.2 j.d → (mx u.1 j.c, mn u.2 j.d) ∈ ins j.c j.d F := fun u hu hlt => mem_ins.mpr ⟨u, hu, rfl, hlt⟩
  refine ⟨?_, ?_, fun u hu hlt => head_le hi _ (mem u hu hlt), fun u hu hlt => le_last hi _ (mem u hu hlt)⟩
  · obtain ⟨u, hu, e, hlt⟩ := mem_ins.mp (head_mem ne)
    refine ⟨u, hu, ?_, ?_⟩
    · exact congrArg Prod.fst e
    · rw [← e, cl_1, cl_2] at hlt
      have : mx u.1 j.c = (rowOf F j).f := congrArg Prod.fst e
      omega
  · obtain ⟨u, hu, e, hlt⟩ := mem_ins.mp (last_mem ne)
    refine ⟨u, hu, ?_, ?_⟩
    · exact congrArg Prod.snd e
    · rw [← e, cl_1, cl_2] at hlt
      have : mn u.2 j.d = (rowOf F j).l := congrArg Prod.snd e
      omega
theorem out_pt {M : Int} {F : Fr} (h : FOkM M F) {a b c d : Int} {f l : Int} (e : Ends (outR F a b) c d f l) {u : Int × Int} (hu : u ∈ F) :
    (mx u.1 c < mn (mn u.2 d) a → f ≤ mx u.1 c ∧ mn (mn u.2 d) a ≤ l) ∧ (mx (mx u.1 c) b < mn u.2 d → f ≤ mx (mx u.1 c) b ∧ mn u.2 d ≤ l) := by
  have ud := h.bd u hu
  have em : ∀ t ∈ ins c d (outR F a b), f ≤ t.1 ∧ t.2 ≤ l := fun t ht => by
    obtain ⟨w, hw, rfl, hlt⟩ := mem_ins.mp ht
    rw [cl_1, cl_2] at *
    exact ⟨e.lo w hw hlt, e.up w hw hlt⟩
  refine ⟨fun hlt => ?_, fun hlt => ?_⟩
  · have e1 : mx u.1 (mx 0 c) = mx u.1 c := by unfold mx; (repeat' split) <;> omega
    have e2 : mn u.2 (mn a d) = mn (mn u.2 d) a := by unfold mn; (repeat' split) <;> omega
    have hm : cl (mx 0 c) (mn a d) u ∈ ins c d (outR F a b) := (mem_out h a b c d).mpr (.inl (mem_ins.mpr ⟨u, hu, rfl, by rw [cl_1, cl_2, e1, e2]; exact hlt⟩))
    have := em _ hm
    rw [cl_1, cl_2, e1, e2] at this
    exact this
  · have e1 : mx u.1 (mx b c) = mx (mx u.1 c) b := by unfold mx; (repeat' split) <;> omega
    have e2 : mn u.2 (mn M d) = mn u.2 d := by unfold mn; (repeat' split) <;> omega
    have hm : cl (mx b c) (mn M d) u ∈ ins c d (outR F a b) := (mem_out h a b c d).mpr (.inr (mem_ins.mpr ⟨u, hu, rfl, by rw [cl_1, cl_2, e1, e2]; exact hlt⟩))
    have := em _ hm
    rw [cl_1, cl_2, e1, e2] at this
    exact this
/-- where a window's free part lies before and behind -/
structure Moves (a b fF lF fG lG : Int) : Prop where
  f1 : fF < a → fG ≤ fF
  f2 : b ≤ fF → fG ≤ fF
  l1 : lF ≤ a → lF ≤ lG
  l2 : b < lF → lF ≤ lG
theorem moves_of {M : Int} {F : Fr} (h : FOkM M F) {a b c d fF lF fG lG : Int} (e : Ends F c d fF lF) (e' : Ends (outR F a b) c d fG lG) : Moves a b fF lF fG lG := by
  obtain ⟨u, hu, u1, u2⟩ := e.hf
  obtain ⟨w, hw, w1, w2⟩ := e.hl
  have pu := out_pt h e' hu
  have pw := out_pt h e' hw
  rw [u1] at pu
  rw [w1] at pw
  generalize mn u.2 d = ul at *
  generalize mx w.1 c = wf at *
  unfold mx mn at *
  refine ⟨fun z => ?_, fun z => ?_, fun z => ?_, fun z => ?_⟩
  · exact (pu.1 (by split <;> omega)).1
  · have := (pu.2 (by split <;> omega)).1
    split at this <;> omega
  · have := (pw.1 (by split <;> omega)).2
    split at this <;> omega
  · exact (pw.2 (by split <;> omega)).2
end Z

namespace Z
open PySem PySem.Spec PyProof.Rows L2
theorem inR_iff {a b : Int} {r : Row} : inR a b r = true ↔ a ≤ r.f ∧ r.l ≤ b := by
  unfold inR
  rw [Bool.and_eq_true, decide_eq_true_iff, decide_eq_true_iff]
/-- the jobs that are left and lie between x and y then -/
def leftIn (F : Fr) (a b x y : Int) (j : RJ) : Bool := inR x y (rowOf (outR F a b) j) && !inR a b (rowOf F j)
theorem left_iff {F : Fr} {a b x y : Int} {j : RJ} : leftIn F a b x y j = true ↔ (x ≤ (rowOf (outR F a b) j).f ∧ (rowOf (outR F a b) j).l ≤ y) ∧ inR a b (rowOf F j) = false := by
  unfold leftIn
  rw [Bool.and_eq_true, inR_iff, Bool.not_eq_true']
theorem left_mem {os : List RJ} {F : Fr} {a b x y : Int} {j : RJ} (hj : j ∈ os) (h : leftIn F a b x y j = true) : j ∈ restR os F a b := by
  rw [restR_eq]
  exact List.mem_filter.mpr ⟨hj, by rw [(left_iff.mp h).2]; rfl⟩
section
variable {M : Int} {os : List RJ} {F : Fr} {v : Rat} {a b : Int}
theorem left_moves (st : StOkM M os F) (ab : a ≤ b) {j : RJ} (hj : j ∈ os) {x y : Int} (h : leftIn F a b x y j = true) : Ends F j.c j.d (rowOf F j).f (rowOf F j).l ∧ Ends (outR F a b) j.c j.d (rowOf (outR F a b) j).f (rowOf (outR F a b) j).l ∧ Moves a b (rowOf F j).f (rowOf F j).l (rowOf (outR F a b) j).f (rowOf (outR F a b) j).l := by
  have e1 := ends_of st.f (st.ne j hj)
  have e2 := ends_of (next_ok st ab).f ((next_ok st ab).ne j (left_mem hj h))
  exact ⟨e1, e2, moves_of st.f e1 e2⟩
theorem fall_A (st : StOkM M os F) (best : BestP (os.map (rowOf F)) F v a b) {x y : Int} (xb : x ≤ b) (ay : a ≤ y) : wsum os (leftIn F a b x y) ≤ v * (lenF x y (outR F a b) : Rat) := by
  have ab := best_ab st best
  have w0 : ∀ j ∈ os, 0 < j.w := fun j hj => (st.w j hj).1
  have h2 := wsum_two (p := leftIn F a b x y) (q := fun j => inR a b (rowOf F j)) (r := fun j => inR (mn x a) (mx y b) (rowOf F j)) w0 (fun j hj hp => ?_) (fun j hj hq => ?_) (fun j hj hp hq => ?_)
  · have h3 := best_all st best (mn x a) (mx y b)
    obtain ⟨_, h4⟩ := best_own st best
    have xa : mn x a ≤ a := mn_le2 x a
    have yb : b ≤ mx y b := le_mx2 y b
    have lt := st.f.lt
    have e1 : lenF (mn x a) (mx y b) F = lenF (mn x a) a F + (lenF a b F + lenF b (mx y b) F) := by
      rw [lenF_add (x := mn x a) (y := a) (z := mx y b) xa (by omega) lt, lenF_add (x := a) (y := b) (z := mx y b) ab yb lt]
    have e2 : lenF (mn x a) a F = lenF x a F := by
      by_cases z : x ≤ a
      · rw [mn_eq z]
      · rw [mn_eq' (by omega), lenF_none (Int.le_refl a) lt, lenF_none (by omega) lt]
    have e3 : lenF b (mx y b) F = lenF b y F := by
      by_cases z : b ≤ y
      · rw [mx_eq z]
      · rw [mx_eq' (by omega), lenF_none (Int.le_refl b) lt, lenF_none (by omega) lt]
    have e4 : lenF x y (outR F a b) = lenF x a F + lenF b y F := by
      rw [lenF_out st.f st.m0, mn_eq ay, mx_eq xb]
    rw [e1, e2, e3, Rat.intCast_add, Rat.intCast_add] at h3
    rw [e4, Rat.intCast_add]
    grind
  · obtain ⟨_, _, m⟩ := left_moves st ab hj hp
    have hp := (left_iff.mp hp).1
    refine inR_iff.mpr ⟨?_, ?_⟩
    · by_cases z : (rowOf F j).f < a
      · have := m.f1 z
        have := mn_le1 x a
        omega
      · have := mn_le2 x a
        omega
    · by_cases z : b < (rowOf F j).l
      · have := m.l2 z
        have := le_mx1 y b
        omega
      · have := le_mx2 y b
        omega
  · obtain ⟨q1, q2⟩ := inR_iff.mp hq
    have := mn_le2 x a
    have := le_mx2 y b
    exact inR_iff.mpr ⟨by omega, by omega⟩
  · rw [(left_iff.mp hp).2] at hq
    cases hq
theorem wsum_none {os : List RJ} {p : RJ → Bool} (h : ∀ j ∈ os, p j = false) : wsum os p = 0 := by
  unfold wsum
  rw [List.filter_eq_nil_iff.mpr fun j hj => by rw [h j hj]; decide]
  rfl
theorem lenF_zero_of {x y : Int} {F : Fr} (h : ¬ lenF x y F = 0) : ∃ u ∈ F, mx u.1 x < mn u.2 y := by
  have : ins x y F ≠ [] := fun z => h (by unfold lenF; rw [z]; rfl)
  obtain ⟨t, ht⟩ := List.exists_mem_of_ne_nil _ this
  obtain ⟨u, hu, rfl, hlt⟩ := mem_ins.mp ht
  exact ⟨u, hu, hlt⟩
/-- what is left is nowhere denser -/
theorem fall_all (st : StOkM M os F) (best : BestP (os.map (rowOf F)) F v a b) (x y : Int) : wsum os (leftIn F a b x y) ≤ v * (lenF x y (outR F a b) : Rat) := by
  have ab := best_ab st best
  have w0 : ∀ j ∈ os, 0 < j.w := fun j hj => (st.w j hj).1
  have lt := st.f.lt
  have vp := best.pos
  have stG := next_ok st ab
  have rfG : ∀ {j : RJ} {x y : Int}, j ∈ os → leftIn F a b x y j = true → (rowOf (outR F a b) j).f < (rowOf (outR F a b) j).l ∧ j.c ≤ (rowOf (outR F a b) j).f ∧ (rowOf (outR F a b) j).l ≤ j.d := fun hj h => row_facts stG (left_mem hj h)
  by_cases xy : x ≤ y
  · by_cases ay : a ≤ y
    · by_cases xb : x ≤ b
      · exact fall_A st best xb ay
      · -- behind
        have eG : lenF x y (outR F a b) = lenF x y F := by
          rw [lenF_out st.f st.m0, mn_eq ay, lenF_none (by omega) lt, mx_eq' (by omega)]
          omega
        rw [eG]
        by_cases z : lenF b x F = 0
        · have h1 := wsum_mono (p := leftIn F a b x y) (r := leftIn F a b b y) w0 fun j hj h => by
            obtain ⟨h1, h2⟩ := left_iff.mp h
            exact left_iff.mpr ⟨⟨by omega, h1.2⟩, h2⟩
          have h2 := fall_A st best (Int.le_refl b) ay
          have e2 : lenF b y (outR F a b) = lenF x y F := by
            rw [lenF_out st.f st.m0, mn_eq ay, lenF_none ab lt, mx_eq (Int.le_refl b), lenF_add (x := b) (y := x) (z := y) (by omega) xy lt]
            omega
          rw [e2] at h2
          exact Rat.le_trans h1 h2
        · obtain ⟨u, hu, hlt⟩ := lenF_zero_of z
          refine Rat.le_trans (wsum_mono (r := fun j => inR x y (rowOf F j)) w0 fun j hj h => ?_) (best_all st best x y)
          obtain ⟨e1, e2, m⟩ := left_moves st ab hj h
          obtain ⟨h1, h2⟩ := (left_iff.mp h).1
          obtain ⟨r1, r2, r3⟩ := rfG hj h
          have rF := row_facts st hj
          have hx : x ≤ (rowOf F j).f := by
            by_cases k : b ≤ (rowOf F j).f
            · have := m.f2 k; omega
            · have p := (out_pt st.f e2 hu).2
              have q : mx (mx u.1 j.c) b < mn u.2 j.d := by
                unfold mx mn at *
                (repeat' split at hlt) <;> (repeat' split) <;> omega
              have := (p q).1
              unfold mx mn at *
              (repeat' split at hlt) <;> (repeat' split at this) <;> omega
          refine inR_iff.mpr ⟨hx, ?_⟩
          have := m.l2 (by omega)
          omega
    · -- in front
      have eG : lenF x y (outR F a b) = lenF x y F := by
        have hb : b ≤ mx b x := le_mx1 b x
        rw [lenF_out st.f st.m0, mn_eq' (by omega), lenF_none (x := mx b x) (by omega) lt]
        omega
      rw [eG]
      by_cases z : lenF y a F = 0
      · have h1 := wsum_mono (p := leftIn F a b x y) (r := leftIn F a b x a) w0 fun j hj h => by
          obtain ⟨h1, h2⟩ := left_iff.mp h
          exact left_iff.mpr ⟨⟨h1.1, by omega⟩, h2⟩
        have h2 := fall_A st best (x := x) (y := a) (by omega) (Int.le_refl a)
        have e2 : lenF x a (outR F a b) = lenF x y F := by
          have hb : b ≤ mx b x := le_mx1 b x
          rw [lenF_out st.f st.m0, mn_eq (Int.le_refl a), lenF_none (x := mx b x) (by omega) lt, lenF_add (x := x) (y := y) (z := a) xy (by omega) lt]
          omega
        rw [e2] at h2
        exact Rat.le_trans h1 h2
      · obtain ⟨u, hu, hlt⟩ := lenF_zero_of z
        refine Rat.le_trans (wsum_mono (r := fun j => inR x y (rowOf F j)) w0 fun j hj h => ?_) (best_all st best x y)
        obtain ⟨e1, e2, m⟩ := left_moves st ab hj h
        obtain ⟨h1, h2⟩ := (left_iff.mp h).1
        obtain ⟨r1, r2, r3⟩ := rfG hj h
        have rF := row_facts st hj
        have hy : (rowOf F j).l ≤ y := by
          by_cases k : (rowOf F j).l ≤ a
          · have := m.l1 k; omega
          · have p := (out_pt st.f e2 hu).1
            have q : mx u.1 j.c < mn (mn u.2 j.d) a := by
              unfold mx mn at *
              (repeat' split at hlt) <;> (repeat' split) <;> omega
            have := (p q).2
            unfold mx mn at *
            (repeat' split at hlt) <;> (repeat' split at this) <;> omega
        refine inR_iff.mpr ⟨?_, hy⟩
        have := m.f1 (by omega)
        omega
  · rw [wsum_none fun j hj => ?_]
    · exact Rat.mul_nonneg (Rat.le_of_lt vp) (cast_le (lenF_nn ..))
    · refine Bool.eq_false_iff.mpr fun h => ?_
      have := rfG hj h
      have := (left_iff.mp h).1
      omega
/-- the next round is not faster -/
theorem falls (st : StOkM M os F) (best : BestP (os.map (rowOf F)) F v a b) {v' : Rat} {a' b' : Int} (next : BestP ((restR os F a b).map (rowOf (outR F a b))) (outR F a b) v' a' b') : v' ≤ v := by
  have ab := best_ab st best
  obtain ⟨pos, e⟩ := best_own (next_ok st ab) next
  have h := fall_all st best a' b'
  rw [← works_w0, works_rest] at e
  change wsum os (leftIn F a b a' b') = _ at e
  rw [e] at h
  have hp : (0 : Rat) < (lenF a' b' (outR F a b) : Rat) := Rat.intCast_pos.mpr pos
  exact Rat.le_of_mul_le_mul_right h hp
end
end Z

namespace Z
open PySem PySem.Spec PyProof.Rows L2
/-! ### what all rounds are like -/
theorem rounds_head {os : List RJ} {F : Fr} {r : Rd} {l : List Rd} (h : Rounds os F (r :: l)) : BestP (os.map (rowOf F)) F r.v r.a r.b := by
  cases h with
  | cons _ best _ => exact best
theorem rounds_fall {M : Int} : ∀ {os : List RJ} {F : Fr} {l : List Rd}, Rounds os F l → StOkM M os F → l.Pairwise fun r s => s.v ≤ r.v
  | _, _, _, .nil _, _ => .nil
  | os, F, _, .cons (v := v) (a := a) (b := b) (l := l) ne best rest, st => by
    have ih := rounds_fall rest (next_ok st (best_ab st best))
    refine List.pairwise_cons.mpr ⟨fun s hs => ?_, ih⟩
    show s.v ≤ v
    cases l with
    | nil => cases hs
    | cons r2 l2 =>
      have h1 := falls st best (rounds_head rest)
      rcases List.mem_cons.mp hs with rfl | hs
      · exact h1
      · exact Rat.le_trans ((List.pairwise_cons.mp ih).1 s hs) h1
/-- what a round takes and what it leaves -/
theorem lenF_split {M : Int} {F : Fr} (h : FOkM M F) (m0 : 0 ≤ M) {a b : Int} (ab : a ≤ b) (c d : Int) : lenF c d F = lenF c d (ins a b F) + lenF c d (outR F a b) := by
  have lt := h.lt
  rw [lenF_ins, lenF_out h m0]
  by_cases cd : c ≤ d
  · by_cases h1 : d ≤ a
    · rw [mn_eq' h1, lenF_none (x := mx a c) (by have := le_mx1 a c; have := mn_le2 b d; omega) lt, lenF_none (x := mx b c) (by have := le_mx1 b c; omega) lt]
      omega
    · by_cases h2 : b ≤ c
      · rw [lenF_none (x := mx a c) (by have := le_mx2 a c; have := mn_le1 b d; omega) lt, lenF_none (y := mn a d) (by have := mn_le1 a d; omega) lt, mx_eq' h2]
        omega
      · rw [mn_eq (show a ≤ d by omega), mx_eq (show c ≤ b by omega)]
        by_cases h3 : c ≤ a
        · rw [mx_eq h3]
          by_cases h4 : b ≤ d
          · rw [mn_eq h4, lenF_add (x := c) (y := a) (z := d) h3 (by omega) lt, lenF_add (x := a) (y := b) (z := d) ab h4 lt]
            omega
          · rw [mn_eq' (by omega), lenF_none (x := b) (y := d) (by omega) lt, lenF_add (x := c) (y := a) (z := d) h3 (by omega) lt]
            omega
        · rw [mx_eq' (by omega), lenF_none (x := c) (y := a) (by omega) lt]
          by_cases h4 : b ≤ d
          · rw [mn_eq h4, lenF_add (x := c) (y := b) (z := d) (by omega) h4 lt]
            omega
          · rw [mn_eq' (by omega), lenF_none (x := b) (y := d) (by omega) lt]
            omega
  · rw [lenF_none (x := c) (by omega) lt, lenF_none (x := mx a c) (by have := le_mx2 a c; have := mn_le2 b d; omega) lt, lenF_none (y := mn a d) (by have := mn_le2 a d; omega) lt, lenF_none (x := mx b c) (by have := le_mx2 b c; omega) lt]
    omega
/-- the time that the rounds with p take between c and d -/
def took (l : List Rd) (p : Rd → Bool) (c d : Int) : Int := ((l.filter p).map fun r => lenF c d r.ts).sum
theorem took_cons (r : Rd) (l : List Rd) (p : Rd → Bool) (c d : Int) : took (r :: l) p c d = (if p r then lenF c d r.ts else 0) + took l p c d := by
  unfold took
  rw [List.filter_cons]
  cases p r with
  | true => rfl
  | false =>
    show _ = 0 + _
    rw [Int.zero_add]
    rfl
theorem took_le {M : Int} : ∀ {os : List RJ} {F : Fr} {l : List Rd}, Rounds os F l → StOkM M os F → ∀ p c d, 0 ≤ took l p c d ∧ took l p c d ≤ lenF c d F
  | _, F, _, .nil _, _, p, c, d => ⟨Int.le_refl 0, lenF_nn c d F⟩
  | os, F, _, .cons (v := v) (a := a) (b := b) (l := l) ne best rest, st, p, c, d => by
    have ab := best_ab st best
    obtain ⟨i1, i2⟩ := took_le rest (next_ok st ab) p c d
    rw [took_cons, lenF_split st.f st.m0 ab c d]
    have nn := lenF_nn c d (ins a b F)
    show 0 ≤ (if p _ then lenF c d (ins a b F) else 0) + _ ∧ (if p _ then lenF c d (ins a b F) else 0) + _ ≤ _
    split <;> omega
/-- a job that is in the round has no time left -/
theorem gone {M : Int} {os : List RJ} {F : Fr} (st : StOkM M os F) {a b : Int} (ab : a ≤ b) {j : RJ} (hj : j ∈ os) (hi : inR a b (rowOf F j) = true) : lenF j.c j.d (outR F a b) = 0 := by
  obtain ⟨h1, h2⟩ := inR_iff.mp hi
  have e := ends_of st.f (st.ne j hj)
  rw [lenF_out st.f st.m0]
  have z : ∀ x y : Int, j.c ≤ x → y ≤ j.d → (y ≤ (rowOf F j).f ∨ (rowOf F j).l ≤ x) → lenF x y F = 0 := fun x y hx hy ho => by
    by_cases k : lenF x y F = 0
    · exact k
    · obtain ⟨u, hu, hlt⟩ := lenF_zero_of k
      have g : mx u.1 j.c < mn u.2 j.d := by unfold mx mn at *; (repeat' split at hlt) <;> (repeat' split) <;> omega
      have l1 := e.lo u hu g
      have l2 := e.up u hu g
      unfold mx mn at *
      (repeat' split at hlt) <;> (repeat' split at l1) <;> (repeat' split at l2) <;> omega
  have rf := row_facts st hj
  rw [z j.c (mn a j.d) (Int.le_refl _) (mn_le2 a j.d) (.inl (by have := mn_le1 a j.d; omega)), z (mx b j.c) j.d (le_mx2 b j.c) (Int.le_refl _) (.inr (by have := le_mx1 b j.c; omega))]
  rfl
theorem ofN_mem {l : List Rd} {n : Str} {v : Rat} (h : v ∈ ofN l n) : ∃ r ∈ l, r.v = v := by
  obtain ⟨r, hr, e⟩ := List.mem_map.mp h
  exact ⟨r, (List.mem_filter.mp hr).1, e⟩
/-- at all times of a job's window the machine is at least as fast as its own round -/
theorem covers {M : Int} : ∀ {os : List RJ} {F : Fr} {l : List Rd}, Rounds os F l → StOkM M os F → (os.map (·.n)).Nodup → ∀ j ∈ os, ∀ v, ofN l j.n = [v] → took l (fun r => decide (v ≤ r.v)) j.c j.d = lenF j.c j.d F
  | _, _, _, .nil _, _, _, j, hj, _, _ => by cases hj
  | os, F, _, .cons (v := v0) (a := a) (b := b) (l := l) ne best rest, st, nd, j, hj, v, hv => by
    have ab := best_ab st best
    have fall := rounds_fall (.cons ne best rest) st
    have nd2 : ((restR os F a b).map (·.n)).Nodup := by
      rw [restR_eq]
      exact List.Sublist.nodup (List.Sublist.map (·.n) (List.filter_sublist (p := fun j : RJ => !inR a b (rowOf F j)) (l := os))) nd
    rw [took_cons, lenF_split st.f st.m0 ab j.c j.d]
    show (if decide (v ≤ v0) = true then lenF j.c j.d (ins a b F) else 0) + _ = _
    rw [ofN_cons] at hv
    by_cases hi : inR a b (rowOf F j) = true
    · have g := gone st ab hj hi
      have t := took_le rest (next_ok st ab) (fun r => decide (v ≤ r.v)) j.c j.d
      rw [if_pos (namesR_mem.mpr ⟨j, hj, hi, rfl⟩)] at hv
      have e : v = v0 := (List.cons.inj hv).1.symm
      rw [if_pos (decide_eq_true (by rw [e]; exact Rat.le_refl))]
      omega
    · have hj2 : j ∈ restR os F a b := by
        rw [restR_eq]
        exact List.mem_filter.mpr ⟨hj, by rw [Bool.eq_false_iff.mpr hi]; rfl⟩
      rw [if_neg (fun z => by
        obtain ⟨i, hi2, hin, e⟩ := namesR_mem.mp z
        have := ndR_inj nd hi2 hj e
        subst this
        exact hi hin)] at hv
      obtain ⟨r, hr, e⟩ := ofN_mem (l := l) (n := j.n) (v := v) (by rw [hv]; exact List.mem_singleton_self _)
      have le : v ≤ v0 := by rw [← e]; exact (List.pairwise_cons.mp fall).1 r hr
      rw [if_pos (decide_eq_true le), covers rest (next_ok st ab) nd2 j hj2 v hv]
end Z

namespace Z
open PySem PySem.Spec PyProof.Rows L2
/-! ### works, names and times of all rounds -/
theorem names_work {os0 os : List RJ} {p : RJ → Bool} (e : os = os0.filter p) (nd : (os0.map (·.n)).Nodup) (F : Fr) (a b : Int) : wsum os0 (fun j => decide (j.n ∈ namesR os F a b)) = wsum os fun j => inR a b (rowOf F j) := by
  unfold wsum
  have h : os.filter (fun j => inR a b (rowOf F j)) = os0.filter fun j => decide (j.n ∈ namesR os F a b) := by
    conv => lhs; rw [e, List.filter_filter]
    refine List.filter_congr fun j hj => ?_
    by_cases z : j.n ∈ namesR os F a b
    · rw [decide_eq_true z]
      obtain ⟨i, hi, hin, en⟩ := namesR_mem.mp z
      rw [e] at hi
      obtain ⟨hi0, hp⟩ := List.mem_filter.mp hi
      have := ndR_inj nd hi0 hj en
      subst this
      rw [hin, hp]
      rfl
    · rw [decide_eq_false z]
      refine Bool.eq_false_iff.mpr fun y => z ?_
      rw [Bool.and_eq_true] at y
      exact namesR_mem.mpr ⟨j, by rw [e]; exact List.mem_filter.mpr ⟨hj, y.2⟩, y.1, rfl⟩
  rw [h]
/-- a round's speed times its time is the work of its jobs -/
theorem round_work {M : Int} {os0 : List RJ} (nd : (os0.map (·.n)).Nodup) : ∀ {os : List RJ} {F : Fr} {l : List Rd}, Rounds os F l → StOkM M os F → (∃ p, os = os0.filter p) → ∀ r ∈ l, 0 < sumF r.ts ∧ wsum os0 (fun j => decide (j.n ∈ r.ns)) = r.v * (sumF r.ts : Rat)
  | _, _, _, .nil _, _, _, r, hr => by cases hr
  | os, F, _, .cons (v := v) (a := a) (b := b) (l := l) ne best rest, st, ⟨p, e⟩, r, hr => by
    rcases List.mem_cons.mp hr with rfl | hr
    · obtain ⟨h1, h2⟩ := best_own st best
      refine ⟨h1, ?_⟩
      show wsum os0 (fun j => decide (j.n ∈ namesR os F a b)) = _
      rw [names_work e nd]
      exact h2
    · refine round_work nd rest (next_ok st (best_ab st best)) ⟨fun j => !inR a b (rowOf F j) && p j, ?_⟩ r hr
      rw [restR_eq]
      conv => lhs; rw [e, List.filter_filter]
/-- each job is in one round -/
theorem names_perm : ∀ {os : List RJ} {F : Fr} {l : List Rd}, Rounds os F l → List.Perm (l.flatMap (·.ns)) (os.map (·.n))
  | _, _, _, .nil _ => List.Perm.refl _
  | os, F, _, .cons (v := v) (a := a) (b := b) (l := l) ne best rest => by
    have ih := names_perm rest
    rw [List.flatMap_cons]
    show List.Perm (namesR os F a b ++ _) _
    have e1 : namesR os F a b = (os.filter fun j => inR a b (rowOf F j)).map (·.n) := by
      unfold namesR
      rw [List.filter_map, List.map_map]
      rfl
    rw [restR_eq] at ih
    have h := (List.filter_append_perm (fun j => inR a b (rowOf F j)) os).map (·.n)
    rw [List.map_append, ← e1] at h
    exact (List.Perm.append_left _ ih).trans h
def Apart (t u : Int × Int) : Prop := t.2 ≤ u.1 ∨ u.2 ≤ t.1
theorem spans_in {M : Int} : ∀ {os : List RJ} {F : Fr} {l : List Rd}, Rounds os F l → StOkM M os F → ∀ t ∈ l.flatMap (·.ts), t.1 < t.2 ∧ ∃ u ∈ F, u.1 ≤ t.1 ∧ t.2 ≤ u.2
  | _, _, _, .nil _, _, t, ht => by cases ht
  | os, F, _, .cons (v := v) (a := a) (b := b) (l := l) ne best rest, st, t, ht => by
    rw [List.flatMap_cons] at ht
    rcases List.mem_append.mp ht with ht | ht
    · obtain ⟨u, hu, rfl, hlt⟩ := mem_ins.mp ht
      refine ⟨hlt, u, hu, ?_, ?_⟩
      · rw [cl_1]; exact le_mx1 ..
      · rw [cl_2]; exact mn_le1 ..
    · obtain ⟨h1, w, hw, h2, h3⟩ := spans_in rest (next_ok st (best_ab st best)) t ht
      refine ⟨h1, ?_⟩
      unfold outR at hw
      rcases List.mem_append.mp hw with hw | hw
      all_goals
        obtain ⟨u, hu, rfl, hlt⟩ := mem_ins.mp hw
        rw [cl_1] at h2
        rw [cl_2] at h3
        refine ⟨u, hu, ?_, ?_⟩
        · exact Int.le_trans (le_mx1 ..) h2
        · exact Int.le_trans h3 (mn_le1 ..)
/-- the times of the rounds do not overlap -/
theorem spans_apart {M : Int} : ∀ {os : List RJ} {F : Fr} {l : List Rd}, Rounds os F l → StOkM M os F → (l.flatMap (·.ts)).Pairwise Apart
  | _, _, _, .nil _, _ => .nil
  | os, F, _, .cons (v := v) (a := a) (b := b) (l := l) ne best rest, st => by
    have ab := best_ab st best
    rw [List.flatMap_cons]
    refine List.pairwise_append.mpr ⟨?_, spans_apart rest (next_ok st ab), fun t ht u hu => ?_⟩
    · exact ((st.f.ins a b).1.pw).imp fun h => .inl h
    · obtain ⟨t0, _, rfl, _⟩ := mem_ins.mp ht
      obtain ⟨_, w, hw, h2, h3⟩ := spans_in rest (next_ok st ab) u hu
      unfold outR at hw
      unfold Apart
      rw [cl_1, cl_2]
      have q1 := le_mx2 t0.1 a
      have q2 := mn_le2 t0.2 b
      rcases List.mem_append.mp hw with hw | hw <;> obtain ⟨w0, _, rfl, _⟩ := mem_ins.mp hw
      · rw [cl_2] at h3
        have := mn_le2 w0.2 a
        exact .inr (by omega)
      · rw [cl_1] at h2
        have := le_mx2 w0.1 b
        exact .inl (by omega)
end Z

namespace Z
open PySem PySem.Spec PyProof.Rows L2
/-! ### what a job's own speed is exceeded for -/
theorem rdt_at {K : PySem.W.Frag} {H : Hp} {v : V} {r : Rd} (h : Is K H v (dRd r)) : ∃ t u T T2 cs, v = .ref t ∧ SqT K H t [u, .ref T, .ref T2] ∧ Is K H u (rat2 r.v) ∧ SqT K H T (r.ns.map V.str) ∧ SqT K H T2 cs ∧ IsA K H cs (r.ts.map dPt) := by
  obtain ⟨t, xs, rfl, s, a⟩ := h.tup'
  cases a with
  | cons h1 a => cases a with
    | cons h2 a => cases a with
      | cons h3 a =>
        cases a
        obtain ⟨T, cs, rfl, sT, aT⟩ := h2.tup'
        obtain ⟨T2, cs2, rfl, sT2, aT2⟩ := h3.tup'
        rw [strs_eq aT] at sT
        exact ⟨t, _, T, T2, cs2, rfl, s, h1, sT, sT2, aT2⟩
def lcs (c d : Int) (ts : Fr) : List Int := ts.map (lc c d)
theorem lcs_sum (c d : Int) : ∀ ts : Fr, (lcs c d ts).sum = lenF c d ts
  | [] => rfl
  | t :: r => by
    rw [lenF_cons, ← lcs_sum c d r]
    rfl
theorem lc_max (c d : Int) (t : Int × Int) : mx 0 (mn t.2 d - mx t.1 c) = lc c d t := by
  unfold lc
  rfl
theorem took_push (l : List Rd) (r : Rd) (p : Rd → Bool) (c d : Int) : took (l ++ [r]) p c d = took l p c d + if p r then lenF c d r.ts else 0 := by
  unfold took
  rw [List.filter_append, List.map_append, List.sum_append]
  congr 1
  cases h : p r with
  | true => rw [List.filter_cons_of_pos h]; show lenF c d r.ts + 0 = _; rw [Int.add_zero]; rfl
  | false => rw [List.filter_cons_of_neg (by rw [h]; decide)]; rfl
def spCovered (K : PySem.W.Frag) : Sp := fun vs H Q _ => ∃ (L : Addr) (x : V) (xs : List V) (l : List Rd) (j : Job) (v : Rat), vs = [.ref L, x] ∧ H L = some (.lst xs) ∧ IsA K H xs (l.map dRd) ∧ Is K H x (dJob j) ∧ ofN l j.n = [v] ∧ l.length ≤ 12 ∧ (∀ r ∈ l, r.ts.length ≤ 1000 ∧ Sz 1400 r.v) ∧
  ∀ H', Same H H' → Q (.int (took l (fun r => decide (v ≤ r.v)) j.c j.d)) H'
end Z
namespace Z
open PySem PySem.Spec PyProof.Rows L2
theorem rounds_vsz : ∀ {os : List RJ} {F : Fr} {l : List Rd}, Rounds os F l → StOk os F → ∀ r ∈ l, Sz 1400 r.v
  | _, _, _, .nil _, _, r, hr => by cases hr
  | os, F, _, .cons (v := v) (a := a) (b := b) (l := l) ne best rest, st, r, hr => by
    rcases List.mem_cons.mp hr with rfl | hr
    · show Sz 1400 v
      rw [best.val]
      have lb := st.f.lenF a b
      refine dens_sz (fun r hr => ?_) (by rw [List.length_map]; exact st.len) (Nat.lt_of_le_of_lt (show _ ≤ 10000 by omega) (by decide)) fun hw => ?_
      · obtain ⟨j, hj, rfl⟩ := List.mem_map.mp hr
        exact (st.w j hj).2
      · have := (best_own st best).1
        omega
    · exact rounds_vsz rest (next_ok st (best_ab st best)) r hr
theorem rounds_tl : ∀ {os : List RJ} {F : Fr} {l : List Rd}, Rounds os F l → StOk os F → ∀ r ∈ l, sumF r.ts ≤ 10000
  | _, _, _, .nil _, _, r, hr => by cases hr
  | os, F, _, .cons (v := v) (a := a) (b := b) (l := l) ne best rest, st, r, hr => by
    rcases List.mem_cons.mp hr with rfl | hr
    · exact (st.f.lenF a b).2.1
    · exact rounds_tl rest (next_ok st (best_ab st best)) r hr
/-- all that the law asks of the rounds of a list -/
structure RdsOk (js : List Job) (l : List Rd) : Prop where
  len : l.length ≤ 12
  sz : ∀ r ∈ l, r.ns.length ≤ 1000 ∧ r.ts.length ≤ 1000 ∧ Sz 1400 r.v
  tl : ∀ r ∈ l, sumF r.ts ≤ 10000
  fall : l.Pairwise fun r s => s.v ≤ r.v
  work : ∀ r ∈ l, 0 < sumF r.ts ∧ wsum (js.map toRJ) (fun j => decide (j.n ∈ r.ns)) = r.v * (sumF r.ts : Rat)
  names : List.Perm (l.flatMap (·.ns)) (js.map (·.n))
  apart : (l.flatMap (·.ts)).Pairwise Apart
  pos : ∀ t ∈ l.flatMap (·.ts), t.1 < t.2
  cov : ∀ j ∈ js, ∃ v, ofN l j.n = [v] ∧ took l (fun r => decide (v ≤ r.v)) j.c j.d = j.d - j.c
theorem rds_ok {js : List Job} (hj : ∀ j ∈ js, JobOk j) (ok : OsOk (js.map toRJ)) (nd : (js.map (·.n)).Nodup) {l : List Rd} (hl : l.length ≤ 12) (h : RoundsOf (js.map toRJ) l) : RdsOk js l := by
  have nd2 : ((js.map toRJ).map (·.n)).Nodup := by rw [List.map_map]; exact nd
  have sz := roundsOf_sz ok h
  rcases h with ⟨e, rfl⟩ | ⟨B, E, h1, h2, h3, hr⟩
  · have e0 : js = [] := List.map_eq_nil_iff.mp e
    subst e0
    exact ⟨hl, fun r hr => (by cases hr), fun r hr => (by cases hr), .nil, fun r hr => (by cases hr), List.Perm.refl _, .nil, fun t ht => (by cases ht), fun j hj => (by cases hj)⟩
  · have st := ok.st h1 h2 h3
    refine ⟨hl, fun r hr2 => ⟨(sz r hr2).1, (sz r hr2).2, rounds_vsz hr st r hr2⟩, rounds_tl hr st, rounds_fall hr st, round_work nd2 hr st ⟨fun _ => true, (List.filter_eq_self.mpr fun _ _ => rfl).symm⟩, ?_, spans_apart hr st, fun t ht => (spans_in hr st t ht).1, fun j hm => ?_⟩
    · have := names_perm hr
      rw [List.map_map] at this
      exact this
    · obtain ⟨v, hv⟩ := (ofN_one hr nd2).1 (toRJ j) (List.mem_map_of_mem hm)
      refine ⟨v, hv, ?_⟩
      have c := covers hr st nd2 (toRJ j) (List.mem_map_of_mem hm) v hv
      have b := h1 (toRJ j) (List.mem_map_of_mem hm)
      change B ≤ j.c ∧ j.d ≤ E at b
      have el : lenF j.c j.d [(B, E)] = j.d - j.c := by
        rw [lenF_cons, lenF_nil]
        have := (hj j hm).cd
        unfold lc
        rw [mx_eq' b.1, mn_eq' b.2, if_pos (show j.d - j.c > 0 by omega)]
        omega
      rw [← el]
      exact c
end Z
namespace Z
open PySem PySem.Spec PyProof.Rows L2
def workJ (js : List Job) (ns : List Str) : List Int := (js.filter fun j => decide (j.n ∈ ns)).map (·.w)
theorem workJ_sum (js : List Job) (ns : List Str) : wsum (js.map toRJ) (fun j => decide (j.n ∈ ns)) = (((workJ js ns).sum : Int) : Rat) := by
  rw [← rsum_ints]
  unfold wsum workJ
  rw [List.filter_map, List.map_map, List.map_map]
  rfl
theorem num_eq {v : Rat} {W L : Int} (h : (W : Rat) = v * (L : Rat)) (hL : 0 < L) : v.num * L = W * (v.den : Int) := by
  have e2 : v = (v.num : Rat) / ((v.den : Int) : Rat) := by
    rw [← Rat.divInt_eq_div]
    exact (Rat.num_divInt_den v).symm
  have hL' : (0 : Rat) < (L : Rat) := Rat.intCast_pos.mpr hL
  have e1 : v = (W : Rat) / (L : Rat) := by
    rw [h, Rat.div_def, Rat.mul_assoc, Rat.mul_inv_cancel _ (by grind), Rat.mul_one]
  rw [e2] at e1
  exact (frac_eq (by have := v.den_pos; omega) hL).mp e1
theorem workJ_bd {js : List Job} (hj : ∀ j ∈ js, JobOk j) (hl : js.length ≤ 12) (ns : List Str) : 0 ≤ (workJ js ns).sum ∧ (workJ js ns).sum ≤ 120000 := by
  have h := sum_pos (ns := workJ js ns) fun n hn => by
    obtain ⟨j, hm, rfl⟩ := List.mem_map.mp hn
    have o := hj j (List.mem_filter.mp hm).1
    exact ⟨o.w0, o.w1⟩
  have : (workJ js ns).length ≤ 12 := by
    unfold workJ
    rw [List.length_map]
    exact Nat.le_trans (List.length_filter_le _ _) hl
  have := h.2.2
  omega
theorem names_len {js : List Job} {l : List Rd} (R : RdsOk js l) (i : Nat) : ((l.take i).flatMap (·.ns)).length ≤ js.length := by
  have h := R.names.length_eq
  rw [List.length_map] at h
  have e : l.flatMap (·.ns) = (l.take i).flatMap (·.ns) ++ (l.drop i).flatMap (·.ns) := by
    conv => lhs; rw [← List.take_append_drop i l, List.flatMap_append]
  rw [e, List.length_append] at h
  omega
end Z

namespace Z
open PySem PySem.Spec PyProof.Rows L2
/-! ### sorted of pairs, wherever they stand -/
def rSortedPT (K : PySem.W.Frag) : List V → Hp → VK → Prop := fun vs H Q => ∃ (a : Addr) (xs : List V) (k : V → Int × Int), vs = [V.ref a] ∧ SqL K H a xs ∧ (∀ x ∈ xs, ∃ t, x = V.ref t ∧ SqT K H t [.int (k x).1, .int (k x).2]) ∧
  ∀ ys p, SrtO.Srtd (ltP k) ys → ys.Perm xs → H p = none → Q (.ref p) (upd H p (.lst ys))
section
variable {X : Cx}
theorem cr_sortedPT : CallR X (.builtin "sorted") (rSortedPT X.K) := by
  intro pins s σ H vs us Q I r h
  obtain ⟨a, xs, k, rfl, hs, hx, q⟩ := h
  obtain ⟨its, rv, hl, hz⟩ := I.list hs
  obtain ⟨u, rfl, ru⟩ := vals1 r
  obtain rfl : u = Value.ref a := ru
  obtain ⟨e1, e2⟩ := refs_back rv fun x m => by
    obtain ⟨t, e, _⟩ := hx x m
    exact ⟨t, e⟩
  refine SrtO.sorted_pairsO (k := fun u => k (backV u)) hl.isList (by rw [← rv.length]; exact hz) (fun v hv => ?_) fun h' d out h1 h2 kp hd hn => ?_
  · obtain ⟨t, rfl⟩ := e2 v hv
    have hm : V.ref t ∈ xs := by rw [e1]; exact List.mem_map.mpr ⟨_, hv, rfl⟩
    obtain ⟨t', e, ht⟩ := hx _ hm
    cases e
    obtain ⟨its2, r2, tp, _⟩ := I.tuple ht
    obtain ⟨u1, u2, rfl, ri, rj⟩ := vals2 r2
    obtain ⟨t1, rfl⟩ := ri
    obtain ⟨t2, rfl⟩ := rj
    obtain ⟨o, ho, hc, n, hd⟩ := tp
    exact ⟨t, o, t1, t2, n, rfl, ho, hc, hd⟩
  · have h3 : ∀ u ∈ out, ∃ a, u = Value.ref a := fun u hu => e2 u (h2.perm.mem_iff.mp hu)
    obtain ⟨n, hn⟩ := hn
    have hb : SrtO.Stb (ltP k) (out.map backV) xs := by
      rw [e1]
      exact SrtO.Stb.map (ltP_swo k) backV h2
    refine ⟨.ref d, upd H d (.lst (out.map backV)), I.laid (t' := s.toks) kp hd ⟨?_, out, n, vals_back h3, hn⟩, rfl, q _ d (SrtO.srtd_map h1) hb.perm (I.hok.fresh hd)⟩
    rw [hb.len]
    exact hz
/-- the same, told of the pairs themselves -/
def PairAt (K : PySem.W.Frag) (H : Hp) (x : V) (c : Int × Int) : Prop := ∃ t, x = V.ref t ∧ SqT K H t [.int c.1, .int c.2]
noncomputable def keyOf (K : PySem.W.Frag) (H : Hp) (x : V) : Int × Int := by
  classical exact if h : ∃ c, PairAt K H x c then h.choose else (0, 0)
def rSortedPL (K : PySem.W.Frag) : List V → Hp → VK → Prop := fun vs H Q => ∃ (a : Addr) (xs : List V) (S : List (Int × Int)), vs = [V.ref a] ∧ SqL K H a xs ∧ xs.length = S.length ∧ (∀ (i : Nat) x c, xs[i]? = some x → S[i]? = some c → PairAt K H x c) ∧
  ∀ ys T p, T.Perm S → SrtO.Srtd SrtO.lexB T → ys.length = T.length → (∀ (i : Nat) x c, ys[i]? = some x → T[i]? = some c → PairAt K H x c) → H p = none → Q (.ref p) (upd H p (.lst ys))
theorem cr_sortedPL : CallR X (.builtin "sorted") (rSortedPL X.K) := by
  intro pins s σ H vs us Q I r h
  obtain ⟨a, xs, S, rfl, hs, hl, hp, q⟩ := h
  have one : ∀ {x : V} {c d : Int × Int}, PairAt X.K H x c → PairAt X.K H x d → c = d := fun h k => by
    obtain ⟨t, rfl, h1⟩ := h
    obtain ⟨t', e, h2⟩ := k
    cases e
    have := I.tuple_inj h1 h2
    obtain ⟨h3, h4⟩ := List.cons.inj this
    obtain ⟨h5, _⟩ := List.cons.inj h4
    exact Prod.ext (V.int.inj h3) (V.int.inj h5)
  have key : ∀ {x : V} {c : Int × Int}, PairAt X.K H x c → keyOf X.K H x = c := fun h => by
    unfold keyOf
    rw [dif_pos ⟨_, h⟩]
    exact one (Exists.choose_spec (p := fun c => PairAt X.K H _ c) ⟨_, h⟩) h
  have em : xs.map (keyOf X.K H) = S := by
    refine List.ext_getElem? fun i => ?_
    rw [List.getElem?_map]
    cases hx : xs[i]? with
    | none =>
      have := List.getElem?_eq_none_iff.mp hx
      exact (List.getElem?_eq_none_iff.mpr (by omega)).symm
    | some x =>
      have il := (List.getElem?_eq_some_iff.mp hx).1
      have hc := List.getElem?_eq_getElem (show i < S.length by omega)
      rw [hc]
      exact congrArg some (key (hp i x _ hx hc))
  have at' : ∀ x ∈ xs, PairAt X.K H x (keyOf X.K H x) := fun x hx => by
    obtain ⟨i, hi⟩ := List.getElem?_of_mem hx
    have il := (List.getElem?_eq_some_iff.mp hi).1
    have h := hp i x _ hi (List.getElem?_eq_getElem (show i < S.length by omega))
    rw [key h]
    exact h
  refine cr_sortedPT pins s σ H _ us Q I r ⟨a, xs, keyOf X.K H, rfl, hs, at', fun ys p srt perm np => ?_⟩
  refine q ys (ys.map (keyOf X.K H)) p (by rw [← em]; exact perm.map _) (SrtO.srtd_map srt) (by rw [List.length_map]) (fun i x c hx hc => ?_) np
  rw [List.getElem?_map, hx] at hc
  obtain rfl := Option.some.inj hc
  exact at' x (perm.mem_iff.mp (List.mem_of_getElem? hx))
end
end Z

namespace Z
open PySem PySem.Spec PyProof.Rows L2
/-! ### sorted lists of the same texts are one -/
def leS (a b : Str) : Prop := ltCps b.cps.toList a.cps.toList = false
theorem leS_iff {a b : Str} : leS a b ↔ a.cps.toList ≤ b.cps.toList := by
  unfold leS
  rw [ltCps_eq, decide_eq_false_iff_not]
  exact List.not_lt
theorem leS_trans {a b c : Str} (h : leS a b) (k : leS b c) : leS a c := leS_iff.mpr (List.le_trans (leS_iff.mp h) (leS_iff.mp k))
theorem leS_anti {a b : Str} (h : leS a b) (k : leS b a) : a = b := by
  have e := List.le_antisymm (leS_iff.mp h) (leS_iff.mp k)
  cases a; cases b
  congr 1
  exact Array.toList_inj.mp e
theorem rising_pw : ∀ {p : Str} {l : List Str}, risingS p l = true → (p :: l).Pairwise leS
  | p, [], _ => List.pairwise_singleton _ _
  | p, x :: r, h => by
    have h : (!ltCps x.cps.toList p.cps.toList && risingS x r) = true := h
    rw [Bool.and_eq_true] at h
    have ih := rising_pw h.2
    have px : leS p x := by
      unfold leS
      simpa using h.1
    refine List.pairwise_cons.mpr ⟨fun y hy => ?_, ih⟩
    rcases List.mem_cons.mp hy with rfl | hy
    · exact px
    · exact leS_trans px ((List.pairwise_cons.mp ih).1 y hy)
theorem sorted_pw : ∀ {l : List Str}, sortedS l = true → l.Pairwise leS
  | [], _ => .nil
  | _ :: _, h => rising_pw h
theorem pw_uniq : ∀ {l m : List Str}, l.Pairwise leS → m.Pairwise leS → l.Perm m → l = m
  | [], m, _, _, h => (List.Perm.eq_nil h.symm).symm
  | x :: l, [], _, _, h => absurd h.length_eq (by simp)
  | x :: l, y :: m, hl, hm, h => by
    have h1 : leS y x := by
      rcases List.mem_cons.mp (h.mem_iff.mp (List.mem_cons_self (a := x) (l := l))) with e | hx
      · rw [e]; exact leS_iff.mpr (List.le_refl _)
      · exact (List.pairwise_cons.mp hm).1 x hx
    have h2 : leS x y := by
      rcases List.mem_cons.mp (h.mem_iff.mpr (List.mem_cons_self (a := y) (l := m))) with e | hy
      · rw [e]; exact leS_iff.mpr (List.le_refl _)
      · exact (List.pairwise_cons.mp hl).1 y hy
    have e := leS_anti h2 h1
    subst e
    rw [pw_uniq (List.pairwise_cons.mp hl).2 (List.pairwise_cons.mp hm).2 h.cons_inv]
theorem sortedS_uniq {l m : List Str} (hl : sortedS l = true) (hm : sortedS m = true) (h : l.Perm m) : l = m := pw_uniq (sorted_pw hl) (sorted_pw hm) h
theorem lay_strs : ∀ {ns : List Str}, (∀ n ∈ ns, PyData.strOk n = true) → PyData.canLayAll0 (ns.map PyData.str) = true
  | [], _ => by simp [PyData.canLayAll0]
  | n :: r, h => by
    have := lay_strs fun x hx => h x (List.mem_cons_of_mem n hx)
    have := h n (List.mem_cons_self ..)
    simp_all [PyData.canLayAll0, PyData.canLay0]
theorem deep_strs : ∀ ns : List Str, PyData.depthAll (ns.map PyData.str) ≤ 1
  | [] => by simp [PyData.depthAll]
  | n :: r => by
    have := deep_strs r
    simp [PyData.depthAll, PyData.depth]
    omega
theorem shaped_strs {ns : List Str} (h : ∀ n ∈ ns, PyData.strOk n = true) (hl : ns.length ≤ 1000) : SeqAt.shaped (.list (ns.map PyData.str)) = true := by
  unfold SeqAt.shaped
  have := deep_strs ns
  rw [PyData.canLay0, lay_strs h, PyData.depth]
  simp
  omega
theorem spans_next {S T : List (Int × Int)} (perm : T.Perm S) (apart : S.Pairwise Apart) (pos : ∀ t ∈ S, t.1 < t.2) (srt : SrtO.Srtd SrtO.lexB T) {i : Nat} {c d : Int × Int} (hc : T[i]? = some c) (hd : T[i + 1]? = some d) : c.2 ≤ d.1 := by
  have ap : T.Pairwise Apart := (List.Perm.pairwise_iff (fun h => Or.symm h) perm).mpr apart
  obtain ⟨l1, e1⟩ := List.getElem?_eq_some_iff.mp hc
  obtain ⟨l2, e2⟩ := List.getElem?_eq_some_iff.mp hd
  have h1 := List.pairwise_iff_getElem.mp ap i (i + 1) l1 l2 (by omega)
  have h2 := SrtO.lexB_no.mp (List.pairwise_iff_getElem.mp srt i (i + 1) l1 l2 (by omega))
  rw [e1, e2] at h1 h2
  have p1 := pos c (perm.mem_iff.mp (List.mem_of_getElem? hc))
  have p2 := pos d (perm.mem_iff.mp (List.mem_of_getElem? hd))
  rcases h1 with h | h
  · exact h
  · omega
end Z

namespace Z
open PySem PySem.Spec PyProof.Rows L2
def topS (i : Nat) : Stmt := PySem.Challenge.pw_sparewatts_k11_speeds_of_rounds_fall.main.body.getD i (.Pass ⟨0, 0, 0, 0⟩)
abbrev sratio : Stmt := topS 3
abbrev splus : Stmt := topS 4
abbrev sover : Stmt := topS 5
abbrev sless : Stmt := topS 6
abbrev stotal : Stmt := topS 7
abbrev swith_ratios : Stmt := topS 9
abbrev sall_time : Stmt := topS 10
abbrev sfree_between : Stmt := topS 11
abbrev sfree_outside : Stmt := topS 12
abbrev sfree_length : Stmt := topS 13
abbrev sfree_windows : Stmt := topS 14
abbrev slies_in : Stmt := topS 15
abbrev sdensity : Stmt := topS 16
abbrev sdensest : Stmt := topS 17
abbrev srounds_of : Stmt := topS 18
abbrev srounds : Stmt := topS 19
abbrev s_law_pool : Stmt := topS 21
abbrev s_law_draw : Stmt := topS 22
abbrev s_law_less : Stmt := topS 23
abbrev s_law_name : Stmt := topS 24
abbrev s_law_window : Stmt := topS 25
abbrev s_law_jobs : Stmt := topS 26
abbrev s_law_covered : Stmt := topS 27
abbrev slaw : Stmt := topS 28
theorem scratio : FnScope ["top", "bottom", "shared"] ["top", "bottom"] (defScope sratio) := ⟨rfl, rfl, rfl, by decide +kernel, rfl, by decide +kernel, by decide +kernel⟩
theorem scplus : FnScope ["a", "b"] ["a", "b"] (defScope splus) := ⟨rfl, rfl, rfl, by decide +kernel, rfl, by decide +kernel, by decide +kernel⟩
theorem scover : FnScope ["a", "b"] ["a", "b"] (defScope sover) := ⟨rfl, rfl, rfl, by decide +kernel, rfl, by decide +kernel, by decide +kernel⟩
theorem scless : FnScope ["a", "b"] ["a", "b"] (defScope sless) := ⟨rfl, rfl, rfl, by decide +kernel, rfl, by decide +kernel, by decide +kernel⟩
theorem sctotal : FnScope ["ratios", "so_far", "part"] ["ratios"] (defScope stotal) := ⟨rfl, rfl, rfl, by decide +kernel, rfl, by decide +kernel, by decide +kernel⟩
theorem scwith_ratios : FnScope ["jobs", "name", "comes", "due", "work"] ["jobs"] (defScope swith_ratios) := ⟨rfl, rfl, rfl, by decide +kernel, rfl, by decide +kernel, by decide +kernel⟩
theorem scall_time : FnScope ["jobs", "begin", "end", "job"] ["jobs"] (defScope sall_time) := ⟨rfl, rfl, rfl, by decide +kernel, rfl, by decide +kernel, by decide +kernel⟩
theorem scfree_between : FnScope ["free", "begin", "end", "cut", "start", "stop"] ["free", "begin", "end"] (defScope sfree_between) := ⟨rfl, rfl, rfl, by decide +kernel, rfl, by decide +kernel, by decide +kernel⟩
theorem scfree_outside : FnScope ["free", "begin", "end", "in_front", "behind"] ["free", "begin", "end"] (defScope sfree_outside) := ⟨rfl, rfl, rfl, by decide +kernel, rfl, by decide +kernel, by decide +kernel⟩
theorem scfree_length : FnScope ["free", "begin", "end", "start", "stop"] ["free", "begin", "end"] (defScope sfree_length) := ⟨rfl, rfl, rfl, by decide +kernel, rfl, by decide +kernel, by decide +kernel⟩
theorem scfree_windows : FnScope ["jobs", "free", "found", "job", "window"] ["jobs", "free"] (defScope sfree_windows) := ⟨rfl, rfl, rfl, by decide +kernel, rfl, by decide +kernel, by decide +kernel⟩
theorem sclies_in : FnScope ["window", "a", "b"] ["window", "a", "b"] (defScope slies_in) := ⟨rfl, rfl, rfl, by decide +kernel, rfl, by decide +kernel, by decide +kernel⟩
theorem scdensity : FnScope ["windows", "free", "a", "b", "works", "window"] ["windows", "free", "a", "b"] (defScope sdensity) := ⟨rfl, rfl, rfl, by decide +kernel, rfl, by decide +kernel, by decide +kernel⟩
theorem scdensest : FnScope ["windows", "free", "firsts", "lasts", "best", "a", "b", "found", "window"] ["windows", "free"] (defScope sdensest) := ⟨rfl, rfl, rfl, by decide +kernel, rfl, by decide +kernel, by decide +kernel⟩
theorem scrounds_of : FnScope ["jobs", "open_jobs", "free", "found", "windows", "speed", "a", "b", "names", "window"] ["jobs"] (defScope srounds_of) := ⟨rfl, rfl, rfl, by decide +kernel, rfl, by decide +kernel, by decide +kernel⟩
theorem scrounds : FnScope ["jobs"] ["jobs"] (defScope srounds) := ⟨rfl, rfl, rfl, by decide +kernel, rfl, by decide +kernel, by decide +kernel⟩
theorem sc_law_pool : FnScope ["script"] ["script"] (defScope s_law_pool) := ⟨rfl, rfl, rfl, by decide +kernel, rfl, by decide +kernel, by decide +kernel⟩
theorem sc_law_draw : FnScope ["pool", "many", "found", "cell", "mixed"] ["pool", "many"] (defScope s_law_draw) := ⟨rfl, rfl, rfl, by decide +kernel, rfl, by decide +kernel, by decide +kernel⟩
theorem sc_law_less : FnScope ["a", "b"] ["a", "b"] (defScope s_law_less) := ⟨rfl, rfl, rfl, by decide +kernel, rfl, by decide +kernel, by decide +kernel⟩
theorem sc_law_name : FnScope ["pool", "index", "letter", "head"] ["pool", "index"] (defScope s_law_name) := ⟨rfl, rfl, rfl, by decide +kernel, rfl, by decide +kernel, by decide +kernel⟩
theorem sc_law_window : FnScope ["pool", "wide", "comes"] ["pool", "wide"] (defScope s_law_window) := ⟨rfl, rfl, rfl, by decide +kernel, rfl, by decide +kernel, by decide +kernel⟩
theorem sc_law_jobs : FnScope ["pool", "most", "wide", "jobs", "k", "comes", "due", "work", "other"] ["pool", "most"] (defScope s_law_jobs) := ⟨rfl, rfl, rfl, by decide +kernel, rfl, by decide +kernel, by decide +kernel⟩
theorem sc_law_covered : FnScope ["found", "job", "own", "many", "speed", "names", "times", "row", "start", "stop"] ["found", "job"] (defScope s_law_covered) := ⟨rfl, rfl, rfl, by decide +kernel, rfl, by decide +kernel, by decide +kernel⟩
theorem sclaw : FnScope ["script", "pool", "jobs", "found", "names", "spans", "k", "speed", "own", "times", "length", "work", "start", "stop", "job"] ["script"] (defScope slaw) := ⟨rfl, rfl, rfl, by decide +kernel, rfl, by decide +kernel, by decide +kernel⟩
section
variable {P : Program} {w : World} {K : PySem.W.Frag} {mg : Str → Option Value} {base : Heap}
theorem ok_free_between (B : BI mg) (B2 : BJ mg) (F : At K mg "free_between" sfree_between ["free", "begin", "end"]) : Ok P w K mg base 1 "free_between" ["free", "begin", "end"] [] (spBetween K) := by
  refine F.ok scfree_between (fun vs H Q E h => ?_) (fun f cdv A outer s H vs Q E hr h => ?_)
  · obtain ⟨L, xs, F, x, y, rfl, _⟩ := h
    rfl
  obtain ⟨L, xs, fr, x, y, rfl, hL, hI, hl, k⟩ := h
  refine ⟨_, (pss_cons (ps_setLc (i := 3) (own := [("start", 4), ("stop", 5)]) (g := gTup K 2 (gCons (gName 4) (gCons (gName 5) (gNil)))) (tt := tYes) rfl scfree_between.nd rfl rfl (sw_true rfl rfl rfl (by decide +kernel)) (pi_list (pv 0)) (blkOk_by (own := [("start", 4), ("stop", 5)]) (N := ["free", "begin", "end", "cut", "start", "stop"]) (sc := defScope sfree_between) (by decide +kernel)) (fun _ _ _ _ _ => (pg_tup rfl (pgs_cons (pg_name (i := 4) scfree_between.nd rfl (Or.inl rfl)) (pgs_cons (pg_name (i := 5) scfree_between.nd rfl (Or.inl rfl)) pgs_nil)))) (fun _ _ _ _ _ => pts_nil) (fun _ _ _ _ _ => (pe_tup (pa_cons (pe_callB (call_max2 rfl) rfl B2.max (by decide +kernel) (pa_cons (pv 4) (pa_cons (pv 1) pa_nil))) (pa_cons (pe_callB (call_min2 rfl) rfl B2.min (by decide +kernel) (pa_cons (pv 5) (pa_cons (pv 2) pa_nil))) pa_nil)))))
      (pss_one (ps_ret (pe_lc (own := [("start", 4), ("stop", 5)]) (g := gTup K 2 (gCons (gName 4) (gCons (gName 5) (gNil)))) (tt := _) rfl scfree_between.nd (pi_list (pv 3)) (blkOk_by (own := [("start", 4), ("stop", 5)]) (N := ["free", "begin", "end", "cut", "start", "stop"]) (sc := defScope sfree_between) (by decide +kernel)) (fun _ _ _ _ _ => (pg_tup rfl (pgs_cons (pg_name (i := 4) scfree_between.nd rfl (Or.inl rfl)) (pgs_cons (pg_name (i := 5) scfree_between.nd rfl (Or.inl rfl)) pgs_nil)))) (fun _ _ _ _ _ => (pts_one (pt_cmpR op_lt (pv 4) (pv 5) (nomark _)))) (fun _ _ _ _ _ => (pe_tup (pa_cons (pv 4) (pa_cons (pv 5) pa_nil)))))))), ?_⟩
  have two : (2 : Nat) ≤ sizeLine := by decide
  have lx : xs.length = fr.length := by rw [hI.len, List.length_map]
  refine ⟨_, rfl, L, rfl, ⟨_, SqL.of hL⟩, fun D hD => ?_⟩
  refine lc_list (xs := xs) (fun i H1 => Same H H1 ∧ ∃ cs, H1 D = some (.lst cs) ∧ IsA K H1 cs (((fr.take i).map (cl x y)).map dPt)) ⟨same_upd hD, [], upd_same, .nil⟩ (fun i H1 _ h => SqL.of (h.1 _ _ hL)) ?_ ?_
  · rintro i v H1 hv ⟨sm, cs, hc, iz⟩
    obtain ⟨d, hd, iv⟩ := hI.at hv
    obtain ⟨c, hcc, rfl⟩ := getJ hd
    have il : i < fr.length := (List.getElem?_eq_some_iff.mp hcc).1
    obtain ⟨tc, rfl, stc⟩ := pt_at (iv.to (Same.tm sm))
    have lc : cs.length = i := by rw [iz.len, List.length_map, List.length_map, List.length_take]; omega
    refine ⟨tc, _, rfl, stc, rfl, .int c.1, _, rfl, .int c.2, _, rfl, rfl, rfl, _, rfl, _, rfl, _, _, rfl, _, rfl, _, rfl, _, _, rfl, two, fun t nt => ?_⟩
    refine ⟨cs, same_upd nt _ _ hc, small5' (by omega), Z.Same.mut (sm.trans (same_upd nt)) hD, _, upd_same, ?_⟩
    rw [List.take_add_one, hcc]
    simp only [Option.toList, List.map_append, List.map_cons, List.map_nil]
    exact ((iz.to (Tm.new nt)).push (.tup (SqT.of upd_same) (.two (.int _) (.int _)))).to (Tm.lst (same_upd nt _ _ hc))
  rintro H1 ⟨s1, cs, hc, iz⟩
  rw [lx, List.take_length] at iz
  have lcs : cs.length = fr.length := by rw [iz.len, List.length_map, List.length_map]
  refine ⟨_, rfl, D, rfl, ⟨_, SqL.of hc⟩, fun M hM => ?_⟩
  refine lc_list (xs := cs) (fun i H2 => Same H1 H2 ∧ ∃ es, H2 M = some (.lst es) ∧ es.length ≤ i ∧ IsA K H2 es ((((fr.map (cl x y)).take i).filter fun t => decide (t.1 < t.2)).map dPt)) ⟨same_upd hM, [], upd_same, Nat.le_refl _, .nil⟩ (fun i H2 _ h => SqL.of (h.1 _ _ hc)) ?_ ?_
  · rintro i v H2 hv ⟨sm, es, he, el, iz2⟩
    obtain ⟨d, hd, iv⟩ := iz.at hv
    obtain ⟨c, hcc, rfl⟩ := getJ hd
    have il : i < (fr.map (cl x y)).length := (List.getElem?_eq_some_iff.mp hcc).1
    rw [List.length_map] at il
    obtain ⟨tc, rfl, stc⟩ := pt_at (iv.to (Same.tm sm))
    refine ⟨tc, _, rfl, stc, rfl, .int c.1, _, rfl, .int c.2, _, rfl, rfl, rfl, _, rfl, _, rfl, _, _, rfl, rfl, _, rfl, ite2 (fun e => ?_) (fun e => ?_)⟩
    · refine ⟨_, rfl, _, rfl, two, fun t nt => ?_⟩
      refine ⟨es, same_upd nt _ _ he, small5' (by omega), Z.Same.mut (sm.trans (same_upd nt)) hM, _, upd_same, by rw [List.length_append]; exact Nat.succ_le_succ el, ?_⟩
      rw [List.take_add_one, hcc, List.filter_append, List.map_append]
      have e2 : (List.filter (fun t : Int × Int => decide (t.1 < t.2)) [c]) = [c] := List.filter_cons_of_pos (by exact e)
      show IsA K _ _ (_ ++ ((List.filter (fun t : Int × Int => decide (t.1 < t.2)) [c]).map dPt))
      rw [e2]
      exact ((iz2.to (Tm.new nt)).push (.tup (SqT.of upd_same) (.two (.int _) (.int _)))).to (Tm.lst (same_upd nt _ _ he))
    · refine ⟨sm, es, he, by omega, ?_⟩
      rw [List.take_add_one, hcc, List.filter_append]
      have e2 : (List.filter (fun t : Int × Int => decide (t.1 < t.2)) [c]) = [] := List.filter_cons_of_neg (by exact e)
      show IsA K _ _ ((_ ++ List.filter (fun t : Int × Int => decide (t.1 < t.2)) [c]).map dPt)
      rw [e2, List.append_nil]
      exact iz2
  · rintro H2 ⟨s2, es, he, el, iz2⟩
    have ll : cs.length = (fr.map (cl x y)).length := by rw [List.length_map]; exact lcs
    rw [ll, List.take_length] at iz2
    have fM : H M = none := by
      cases hh : H M with
      | none => rfl
      | some o => rw [s1 _ _ hh] at hM; cases hM
    exact k M es H2 (s1.trans s2) fM he iz2

theorem ok_with_ratios (B : BI mg) (F : At K mg "with_ratios" swith_ratios ["jobs"]) (C_ratio1 : Ok P w K mg base 1 "ratio" ["top", "bottom"] [.int 1] (spRat K)) : Ok P w K mg base 2 "with_ratios" ["jobs"] [] (spWithR K) := by
  refine F.ok scwith_ratios (fun vs H Q E h => ?_) (fun f cdv A outer s H vs Q E hr h => ?_)
  · obtain ⟨J, xs, js, rfl, _⟩ := h
    rfl
  obtain ⟨J, xs, js, rfl, hS, hI, hj, hl, k⟩ := h
  refine ⟨_, (pss_one (ps_ret (pe_lc (own := [("name", 1), ("comes", 2), ("due", 3), ("work", 4)]) (g := gTup K 4 (gCons (gName 1) (gCons (gName 2) (gCons (gName 3) (gCons (gName 4) (gNil)))))) (tt := tYes) rfl scwith_ratios.nd (pi_tup (pv 0)) (blkOk_by (own := [("name", 1), ("comes", 2), ("due", 3), ("work", 4)]) (N := ["jobs", "name", "comes", "due", "work"]) (sc := defScope swith_ratios) (by decide +kernel)) (fun _ _ _ _ _ => (pg_tup rfl (pgs_cons (pg_name (i := 1) scwith_ratios.nd rfl (Or.inl rfl)) (pgs_cons (pg_name (i := 2) scwith_ratios.nd rfl (Or.inl rfl)) (pgs_cons (pg_name (i := 3) scwith_ratios.nd rfl (Or.inl rfl)) (pgs_cons (pg_name (i := 4) scwith_ratios.nd rfl (Or.inl rfl)) pgs_nil)))))) (fun _ _ _ _ _ => pts_nil) (fun _ _ _ _ _ => (pe_tup (pa_cons (pv 1) (pa_cons (pv 2) (pa_cons (pv 3) (pa_cons (pe_ok C_ratio1 (hr.mono (by first | decide | exact Nat.le_refl _)) rfl (pa_cons (pv 4) pa_nil)) pa_nil))))))))), ?_⟩
  have lx : xs.length = js.length := by rw [hI.len, List.length_map]
  refine ⟨_, rfl, J, rfl, ⟨_, hS⟩, fun D hD => ?_⟩
  refine lc_tup (xs := xs) (fun i H1 => Same H H1 ∧ ∃ cs, H1 D = some (.lst cs) ∧ IsA K H1 cs (((js.take i).map toRJ).map dRJ)) ⟨same_upd hD, [], upd_same, .nil⟩ (fun i H1 _ h => Tm.sq (Same.tm h.1) hS) ?_ ?_
  · rintro i v H1 hv ⟨sm, cs, hc, iz⟩
    obtain ⟨d, hd, iv⟩ := hI.at hv
    obtain ⟨j, hjj, rfl⟩ := getJ hd
    have il : i < js.length := (List.getElem?_eq_some_iff.mp hjj).1
    have okj := hj j (List.mem_of_getElem? hjj)
    have w0 := okj.w0
    have w1 := okj.w1
    obtain ⟨tj, rfl, sj⟩ := job_at (iv.to (Same.tm sm))
    have lc : cs.length = i := by rw [iz.len, List.length_map, List.length_map, List.length_take]; omega
    refine ⟨tj, _, rfl, sj, rfl, .str j.n, _, rfl, .int j.c, _, rfl, .int j.d, _, rfl, .int j.w, _, rfl, rfl, rfl, _, rfl, _, rfl, _, rfl, _, rfl, j.w, 1, rfl, by decide, bigK (by omega), bigK (by decide), fun u H2 s2 iu => ?_⟩
    rw [one_rat] at iu
    have hc2 := s2 _ _ hc
    refine ⟨(by show 4 ≤ sizeLine; decide), fun t nt => ?_⟩
    refine ⟨cs, same_upd nt _ _ hc2, small5' (by omega), Z.Same.mut (sm.trans (s2.trans (same_upd nt))) hD, _, upd_same, ?_⟩
    rw [List.take_add_one, hjj]
    simp only [Option.toList, List.map_append, List.map_cons, List.map_nil]
    exact (((iz.to (Same.tm s2)).to (Tm.new nt)).push (.tup (SqT.of upd_same) (.cons (.str _) (.cons (.int _) (.cons (.int _) (.cons (iu.to (Tm.new nt)) .nil)))))).to (Tm.lst (same_upd nt _ _ hc2))
  · rintro H1 ⟨sm, cs, hc, iz⟩
    rw [lx, List.take_length] at iz
    exact k D cs H1 sm hD hc iz
theorem ok_all_time (B : BI mg) (B2 : BJ mg) (F : At K mg "all_time" sall_time ["jobs"]) : Ok P w K mg base 1 "all_time" ["jobs"] [] (spAllTime K) := by
  refine F.ok scall_time (fun vs H Q E h => ?_) (fun f cdv A outer s H vs Q E hr h => ?_)
  · obtain ⟨L, xs, js, rfl, _⟩ := h
    rfl
  obtain ⟨L, xs, js, rfl, hL, hI, hl, k⟩ := h
  refine ⟨_, (pss_cons (ps_set (i := 1) scall_time.nd rfl (Or.inl rfl) (pe_callBK (cr_minD rfl hr.units) rfl B2.min (by decide +kernel) (pa_cons (pe_lc (own := [("job", 3)]) (g := gName 3) (tt := tYes) rfl scall_time.nd (pi_list (pv 0)) (blkOk_by (own := [("job", 3)]) (N := ["jobs", "begin", "end", "job"]) (sc := defScope sall_time) (by decide +kernel)) (fun _ _ _ _ _ => (pg_name (i := 3) scall_time.nd rfl (Or.inl rfl))) (fun _ _ _ _ _ => pts_nil) (fun _ _ _ _ _ => (pe_ix (ix_tupK (K := K) rfl) (pv 3) pe_int (fun _ _ => rfl)))) pa_nil) (pk_cons pe_int pk_nil)))
      (pss_cons (ps_set (i := 2) scall_time.nd rfl (Or.inl rfl) (pe_callBK (cr_maxD rfl hr.units) rfl B2.max (by decide +kernel) (pa_cons (pe_lc (own := [("job", 3)]) (g := gName 3) (tt := tYes) rfl scall_time.nd (pi_list (pv 0)) (blkOk_by (own := [("job", 3)]) (N := ["jobs", "begin", "end", "job"]) (sc := defScope sall_time) (by decide +kernel)) (fun _ _ _ _ _ => (pg_name (i := 3) scall_time.nd rfl (Or.inl rfl))) (fun _ _ _ _ _ => pts_nil) (fun _ _ _ _ _ => (pe_ix (ix_tupK (K := K) rfl) (pv 3) pe_int (fun _ _ => rfl)))) pa_nil) (pk_cons pe_int pk_nil)))
      (pss_one (ps_ret (pe_lst (pa_cons (pe_tup (pa_cons (pv 1) (pa_cons (pv 2) pa_nil))) pa_nil)))))), ?_⟩
  have lx : xs.length = js.length := by rw [hI.len, List.length_map]
  refine ⟨_, rfl, L, rfl, ⟨_, SqL.of hL⟩, fun D hD => ?_⟩
  refine lc_list (xs := xs) (fun i H1 => Same H H1 ∧ H1 D = some (.lst (((js.take i).map (·.c)).map V.int))) ⟨same_upd hD, upd_same⟩ (fun i H1 _ h => SqL.of (h.1 _ _ hL)) ?_ ?_
  · rintro i v H1 hv ⟨sm, hc⟩
    obtain ⟨d, hd, iv⟩ := hI.at hv
    obtain ⟨j, hjj, rfl⟩ := getJ hd
    have il : i < js.length := (List.getElem?_eq_some_iff.mp hjj).1
    obtain ⟨tj, u, rfl, sj, _⟩ := rj_at (iv.to (Same.tm sm))
    refine ⟨rfl, _, rfl, tj, _, 1, _, rfl, rfl, sj, rfl, _, hc, small5' (by rw [List.length_map, List.length_map, List.length_take]; omega), Z.Same.mut sm hD, ?_⟩
    rw [upd_same, List.take_add_one, hjj]
    simp only [Option.toList, List.map_append, List.map_cons, List.map_nil]
  rintro H1 ⟨s1, hc⟩
  rw [lx, List.take_length] at hc
  refine ⟨D, js.map (·.c), 0, rfl, rfl, SqL.of hc, fun b z0 z1 => ?_⟩
  have hb0 : js = [] → b = 0 := fun e => z0 (by rw [e]; rfl)
  have hb1 : js ≠ [] → (∃ j ∈ js, j.c = b) ∧ ∀ j ∈ js, b ≤ j.c := fun ne => by
    cases hm : js.map (·.c) with
    | nil => exact absurd (List.map_eq_nil_iff.mp hm) ne
    | cons n r =>
      obtain ⟨m1, m2⟩ := fold_min n r
      rw [← z1 n r hm, ← hm] at m1 m2
      obtain ⟨j, hj, ej⟩ := List.mem_map.mp m1
      exact ⟨⟨j, hj, ej⟩, fun j hj => m2 _ (List.mem_map_of_mem hj)⟩
  refine ⟨_, rfl, L, rfl, ⟨_, SqL.of (s1 _ _ hL)⟩, fun D2 hD2 => ?_⟩
  refine lc_list (xs := xs) (fun i H2 => Same H1 H2 ∧ H2 D2 = some (.lst (((js.take i).map (·.d)).map V.int))) ⟨same_upd hD2, upd_same⟩ (fun i H2 _ h => SqL.of ((s1.trans h.1) _ _ hL)) ?_ ?_
  · rintro i v H2 hv ⟨sm, hc⟩
    obtain ⟨d, hd, iv⟩ := hI.at hv
    obtain ⟨j, hjj, rfl⟩ := getJ hd
    have il : i < js.length := (List.getElem?_eq_some_iff.mp hjj).1
    obtain ⟨tj, u, rfl, sj, _⟩ := rj_at (iv.to (Same.tm (s1.trans sm)))
    refine ⟨rfl, _, rfl, tj, _, 2, _, rfl, rfl, sj, rfl, _, hc, small5' (by rw [List.length_map, List.length_map, List.length_take]; omega), Z.Same.mut sm hD2, ?_⟩
    rw [upd_same, List.take_add_one, hjj]
    simp only [Option.toList, List.map_append, List.map_cons, List.map_nil]
  rintro H2 ⟨s2, hc2⟩
  rw [lx, List.take_length] at hc2
  refine ⟨D2, js.map (·.d), 0, rfl, rfl, SqL.of hc2, fun e z2 z3 => ?_⟩
  have he0 : js = [] → e = 0 := fun z => z2 (by rw [z]; rfl)
  have he1 : js ≠ [] → (∃ j ∈ js, j.d = e) ∧ ∀ j ∈ js, j.d ≤ e := fun ne => by
    cases hm : js.map (·.d) with
    | nil => exact absurd (List.map_eq_nil_iff.mp hm) ne
    | cons n r =>
      obtain ⟨m1, m2⟩ := fold_max n r
      rw [← z3 n r hm, ← hm] at m1 m2
      obtain ⟨j, hj, ej⟩ := List.mem_map.mp m1
      exact ⟨⟨j, hj, ej⟩, fun j hj => m2 _ (List.mem_map_of_mem hj)⟩
  have S := s1.trans s2
  refine ⟨_, rfl, _, rfl, (by show 2 ≤ sizeLine; decide), fun t nt => ?_⟩
  refine ⟨(by show 1 ≤ sizeLine; decide), fun M nM => ?_⟩
  have st := same_upd (o := .tup [V.int b, V.int e]) nt
  have fM : H M = none := by
    cases hh : H M with
    | none => rfl
    | some o => rw [(S.trans st) _ _ hh] at nM; cases nM
  exact k b e M _ _ (S.trans (st.trans (same_upd nM))) (fun z => ⟨hb0 z, he0 z⟩) (fun z => ⟨(hb1 z).1, (he1 z).1, fun j hj => ⟨(hb1 z).2 j hj, (he1 z).2 j hj⟩⟩) fM upd_same (.cons ((Is.tup (ds := [.int b, .int e]) (SqT.of upd_same) (.two (.int _) (.int _))).to (Tm.new nM)) .nil)
theorem ok_free_length (B : BI mg) (F : At K mg "free_length" sfree_length ["free", "begin", "end"]) (C_free_between : Ok P w K mg base 1 "free_between" ["free", "begin", "end"] [] (spBetween K)) : Ok P w K mg base 2 "free_length" ["free", "begin", "end"] [] (spLen K) := by
  refine F.ok scfree_length (fun vs H Q E h => ?_) (fun f cdv A outer s H vs Q E hr h => ?_)
  · obtain ⟨L, xs, F, x, y, rfl, _⟩ := h
    rfl
  obtain ⟨L, xs, fr, x, y, rfl, hL, hI, hl, k⟩ := h
  refine ⟨_, (pss_one (ps_ret (pe_callB (cr_sum rfl) rfl B.sum (by decide +kernel) (pa_cons (pe_lc (own := [("start", 3), ("stop", 4)]) (g := gTup K 2 (gCons (gName 3) (gCons (gName 4) (gNil)))) (tt := tYes) rfl scfree_length.nd (pi_list (pe_ok C_free_between (hr.mono (by first | decide | exact Nat.le_refl _)) rfl (pa_cons (pv 0) (pa_cons (pv 1) (pa_cons (pv 2) pa_nil))))) (blkOk_by (own := [("start", 3), ("stop", 4)]) (N := ["free", "begin", "end", "start", "stop"]) (sc := defScope sfree_length) (by decide +kernel)) (fun _ _ _ _ _ => (pg_tup rfl (pgs_cons (pg_name (i := 3) scfree_length.nd rfl (Or.inl rfl)) (pgs_cons (pg_name (i := 4) scfree_length.nd rfl (Or.inl rfl)) pgs_nil)))) (fun _ _ _ _ _ => pts_nil) (fun _ _ _ _ _ => (pe_op op_sub (pv 4) (pv 3)))) pa_nil)))), ?_⟩
  refine ⟨_, rfl, _, rfl, _, rfl, L, xs, fr, x, y, rfl, hL, hI, by omega, fun M ys H1 s1 nM hM iM => ?_⟩
  have il := ins_len x y fr
  generalize hg : ins x y fr = G at iM il
  have ly : ys.length = G.length := by rw [iM.len, List.length_map]
  refine ⟨M, rfl, ⟨_, SqL.of hM⟩, fun D hD => ?_⟩
  refine lc_list (xs := ys) (fun i H2 => Same H1 H2 ∧ H2 D = some (.lst (((G.take i).map fun t => t.2 - t.1).map V.int))) ⟨same_upd hD, upd_same⟩ (fun i H2 _ h => SqL.of (h.1 _ _ hM)) ?_ ?_
  · rintro i v H2 hv ⟨sm, hc⟩
    obtain ⟨d, hd, iv⟩ := iM.at hv
    obtain ⟨c, hcc, rfl⟩ := getJ hd
    have il2 : i < G.length := (List.getElem?_eq_some_iff.mp hcc).1
    obtain ⟨tc, rfl, stc⟩ := pt_at (iv.to (Same.tm sm))
    refine ⟨tc, _, rfl, stc, rfl, .int c.1, _, rfl, .int c.2, _, rfl, rfl, rfl, _, rfl, _, rfl, _, _, rfl, rfl, _, hc, small5' (by rw [List.length_map, List.length_map, List.length_take]; omega), Z.Same.mut sm hD, ?_⟩
    rw [upd_same, List.take_add_one, hcc]
    simp only [Option.toList, List.map_append, List.map_cons, List.map_nil]
  rintro H2 ⟨s2, hc⟩
  rw [ly, List.take_length] at hc
  refine ⟨D, _, rfl, SqL.of hc, ?_⟩
  have := k H2 (s1.trans s2)
  unfold lenF sumF at this
  rw [hg] at this
  exact this
theorem ok_free_outside (B : BI mg) (F : At K mg "free_outside" sfree_outside ["free", "begin", "end"]) (C_free_between : Ok P w K mg base 1 "free_between" ["free", "begin", "end"] [] (spBetween K)) : Ok P w K mg base 2 "free_outside" ["free", "begin", "end"] [] (spOutside K) := by
  refine F.ok scfree_outside (fun vs H Q E h => ?_) (fun f cdv A outer s H vs Q E hr h => ?_)
  · obtain ⟨L, xs, F, x, y, rfl, _⟩ := h
    rfl
  obtain ⟨L, xs, fr, x, y, rfl, hL, hI, hl, hne, k⟩ := h
  refine ⟨_, (pss_cons (ps_set (i := 3) scfree_outside.nd rfl (Or.inl rfl) (pe_ok C_free_between (hr.mono (by first | decide | exact Nat.le_refl _)) rfl (pa_cons (pv 0) (pa_cons (pe_ix ix_tup (pe_ix ix_list (pv 0) pe_int (fun _ _ => rfl)) pe_int (fun _ _ => rfl)) (pa_cons (pv 1) pa_nil)))))
      (pss_cons (ps_set (i := 4) scfree_outside.nd rfl (Or.inl rfl) (pe_ok C_free_between (hr.mono (by first | decide | exact Nat.le_refl _)) rfl (pa_cons (pv 0) (pa_cons (pv 2) (pa_cons (pe_ix ix_tup (pe_ix ix_list (pv 0) (pe_un un_neg pe_int) (fun _ _ => rfl)) pe_int (fun _ _ => rfl)) pa_nil)))))
      (pss_one (ps_ret (pe_op op_cat (pv 3) (pv 4)))))), ?_⟩
  have lx : xs.length = fr.length := by rw [hI.len, List.length_map]
  have lp : 0 < fr.length := List.length_pos_iff.mpr hne
  obtain ⟨v0, e0, iv0⟩ := hI.get (i := 0) (d := dPt (fr[0]'lp)) (by rw [List.getElem?_map, List.getElem?_eq_getElem lp]; rfl)
  obtain ⟨t0, rfl, st0⟩ := pt_at iv0
  obtain ⟨v1, e1, iv1⟩ := hI.get (i := fr.length - 1) (d := dPt (fr[fr.length - 1]'(by omega))) (by rw [List.getElem?_map, List.getElem?_eq_getElem (by omega)]; rfl)
  obtain ⟨t1, rfl, st1⟩ := pt_at iv1
  have h0 : fr.headD (0, 0) = fr[0]'lp := by cases fr with | nil => exact absurd rfl hne | cons a r => rfl
  have h1 : fr.getLastD (0, 0) = fr[fr.length - 1]'(by omega) := by
    rw [List.getLastD_eq_getLast?, List.getLast?_eq_getElem?, List.getElem?_eq_getElem (by omega)]
    rfl
  have a1 : atI xs (-1) = some (.ref t1) := by
    unfold atI ixN
    rw [if_neg (by decide), lx, if_pos (by omega)]
    show xs[((fr.length : Int) + -1).toNat]? = _
    rw [show ((fr.length : Int) + -1).toNat = fr.length - 1 by omega]
    exact e1
  refine ⟨_, rfl, _, rfl, L, _, 0, _, rfl, rfl, SqL.of hL, at_of (j := 0) rfl e0, t0, _, 0, _, rfl, rfl, st0, rfl, _, rfl, L, xs, fr, _, x, rfl, hL, hI, by omega, fun M ys H1 s1 nM hM iM => ?_⟩
  have hL1 := s1 _ _ hL
  refine ⟨_, rfl, _, rfl, _, rfl, 1, rfl, L, _, _, _, rfl, rfl, SqL.of hL1, a1, t1, _, 1, _, rfl, rfl, Tm.sq (Same.tm s1) st1, rfl, L, xs, fr, y, _, rfl, hL1, hI.to (Same.tm s1), by omega, fun N zs H2 s2 nN hN iN => ?_⟩
  have ly : ys.length ≤ fr.length := by rw [iM.len, List.length_map]; exact ins_len _ _ _
  have lz : zs.length ≤ fr.length := by rw [iN.len, List.length_map]; exact ins_len _ _ _
  refine ⟨_, rfl, _, rfl, M, N, ys, zs, rfl, rfl, s2 _ _ hM, hN, small5 (by omega), fun R nR => ?_⟩
  have sR := same_upd (o := .lst (ys ++ zs)) nR
  have fR : H R = none := by
    cases hh : H R with
    | none => rfl
    | some o => rw [(s1.trans s2) _ _ hh] at nR; cases nR
  refine k R _ _ (s1.trans (s2.trans sR)) fR upd_same ?_
  rw [List.map_append, h0, h1]
  exact (iM.to (Same.tm (s2.trans sR))).append (iN.to (Same.tm sR))
theorem ok_lies_in (B : BI mg) (F : At K mg "lies_in" slies_in ["window", "a", "b"]) : Ok P w K mg base 1 "lies_in" ["window", "a", "b"] [] (spLies K) := by
  refine F.ok sclies_in (fun vs H Q E h => ?_) (fun f cdv A outer s H vs Q E hr h => ?_)
  · obtain ⟨v, r, a, b, rfl, _⟩ := h
    rfl
  obtain ⟨v, r, a, b, rfl, iv, k⟩ := h
  refine ⟨_, (pss_one (ps_ret (pe_and (pe_cmpR op_le (pv 1) (pe_ix ix_tup (pv 0) pe_int (fun _ _ => rfl)) (nomark _)) (pe_one (pe_cmpR op_le (pe_ix ix_tup (pv 0) pe_int (fun _ _ => rfl)) (pv 2) (nomark _)))))), ?_⟩
  obtain ⟨t, u, rfl, st, _⟩ := row_at iv
  refine ⟨_, rfl, _, rfl, t, _, 0, _, rfl, rfl, st, rfl, _, _, rfl, rfl, _, rfl, ?_⟩
  cases e1 : decide (a ≤ r.f) with
  | false =>
    refine iteF ?_
    have : inR a b r = false := by unfold inR; rw [e1]; rfl
    rw [this] at k
    exact k
  | true =>
    refine iteT ?_
    refine ⟨_, rfl, t, _, 1, _, rfl, rfl, st, rfl, _, rfl, _, _, rfl, rfl, ?_⟩
    have : inR a b r = decide (r.l ≤ b) := by unfold inR; rw [e1]; rfl
    rw [this] at k
    exact k
theorem ok_free_windows (B : BI mg) (F : At K mg "free_windows" sfree_windows ["jobs", "free"]) (C_free_between : Ok P w K mg base 1 "free_between" ["free", "begin", "end"] [] (spBetween K)) : Ok P w K mg base 2 "free_windows" ["jobs", "free"] [] (spWindows K) := by
  refine F.ok scfree_windows (fun vs H Q E h => ?_) (fun f cdv A outer s H vs Q E hr h => ?_)
  · obtain ⟨L, M, xs, zs, js, F, rfl, _⟩ := h
    rfl
  obtain ⟨L, M, xs, zs, js, fr, rfl, hL, hI, hl, hM, hMI, hfl, hne, k⟩ := h
  refine ⟨_, (pss_cons (ps_set (i := 2) scfree_windows.nd rfl (Or.inl rfl) (pe_lst pa_nil))
      (pss_cons (ps_for PassesOwn.never rfl (pi_list (pv 0)) (pg_name (i := 3) scfree_windows.nd rfl (Or.inl rfl))
        (pss_cons (ps_set (i := 4) scfree_windows.nd rfl (Or.inl rfl) (pe_ok C_free_between (hr.mono (by first | decide | exact Nat.le_refl _)) rfl (pa_cons (pv 1) (pa_cons (pe_ix ix_tup (pv 3) pe_int (fun _ _ => rfl)) (pa_cons (pe_ix ix_tup (pv 3) pe_int (fun _ _ => rfl)) pa_nil)))))
        (pss_one (ps_expr (pe_bm PySem.F.plainAttrs_list PySem.F.slot_list_append PySem.F.type_list_append mt_append (pv 2) (pa_cons (pe_tup (pa_cons (pe_ix ix_tup (pe_ix ix_list (pv 4) pe_int (fun _ _ => rfl)) pe_int (fun _ _ => rfl)) (pa_cons (pe_ix ix_tup (pe_ix ix_list (pv 4) (pe_un un_neg pe_int) (fun _ _ => rfl)) pe_int (fun _ _ => rfl)) (pa_cons (pv 3) pa_nil)))) pa_nil))))))
      (pss_one (ps_ret (pv 2))))), ?_⟩
  have lx : xs.length = js.length := by rw [hI.len, List.length_map]
  refine ⟨(by show 0 ≤ sizeLine; decide), fun N nN => ?_⟩
  refine ⟨_, rfl, L, rfl, ⟨_, SqL.of (same_upd nN _ _ hL)⟩, for_list (xs := xs) (fun i σ' H' => ∃ (y3 y4 : Option V) (cs : List V), σ' = [some (.ref L), some (.ref M), some (.ref N), y3, y4] ∧ Same H H' ∧ H' N = some (.lst cs) ∧ IsA K H' cs (((js.take i).map (rowOf fr)).map dRow)) ?_ ?_ ?_ ?_⟩
  · exact ⟨none, none, [], rfl, same_upd nN, upd_same, .nil⟩
  · rintro i σ' H' hi ⟨y3, y4, cs, rfl, sm, _⟩
    exact SqL.of (sm _ _ hL)
  · rintro i v σ' H' hv ⟨y3, y4, cs, rfl, sm, hc, iz⟩
    obtain ⟨d, hd, iv⟩ := hI.at hv
    obtain ⟨j, hjj, rfl⟩ := getJ hd
    have il : i < js.length := (List.getElem?_eq_some_iff.mp hjj).1
    have jm := List.mem_of_getElem? hjj
    have ivj := iv.to (Same.tm sm)
    obtain ⟨tj, u, rfl, sj, _⟩ := rj_at ivj
    have lc : cs.length = i := by rw [iz.len, List.length_map, List.length_map, List.length_take]; omega
    refine ⟨_, rfl, _, rfl, tj, _, 1, _, rfl, rfl, sj, rfl, _, rfl, tj, _, 2, _, rfl, rfl, sj, rfl, M, zs, fr, j.c, j.d, rfl, sm _ _ hM, hMI.to (Same.tm sm), by omega, fun W ws H1 s1 nW hW iW => ?_⟩
    have ne := hne j jm
    have er : rowOf fr j = ⟨((ins j.c j.d fr).headD (0, 0)).1, ((ins j.c j.d fr).getLastD (0, 0)).2, j⟩ := rfl
    generalize ins j.c j.d fr = G at iW ne er
    have lw : ws.length = G.length := by rw [iW.len, List.length_map]
    have lp : 0 < G.length := List.length_pos_iff.mpr ne
    obtain ⟨v0, e0, iv0⟩ := iW.get (i := 0) (d := dPt (G[0]'lp)) (by rw [List.getElem?_map, List.getElem?_eq_getElem lp]; rfl)
    obtain ⟨t0, rfl, st0⟩ := pt_at iv0
    obtain ⟨v1, e1, iv1⟩ := iW.get (i := G.length - 1) (d := dPt (G[G.length - 1]'(by omega))) (by rw [List.getElem?_map, List.getElem?_eq_getElem (by omega)]; rfl)
    obtain ⟨t1, rfl, st1⟩ := pt_at iv1
    have h0 : G.headD (0, 0) = G[0]'lp := by cases G with | nil => exact absurd rfl ne | cons a r => rfl
    have h1 : G.getLastD (0, 0) = G[G.length - 1]'(by omega) := by
      rw [List.getLastD_eq_getLast?, List.getLast?_eq_getElem?, List.getElem?_eq_getElem (by omega)]
      rfl
    have a1 : atI ws (-1) = some (.ref t1) := by
      unfold atI ixN
      rw [if_neg (by decide), lw, if_pos (by omega)]
      show ws[((G.length : Int) + -1).toNat]? = _
      rw [show ((G.length : Int) + -1).toNat = G.length - 1 by omega]
      exact e1
    have hc1 := s1 _ _ hc
    refine ⟨_, rfl, .inl ⟨rfl, _, SqL.of hc1⟩, ?_⟩
    refine ⟨_, rfl, W, _, 0, _, rfl, rfl, SqL.of hW, at_of (j := 0) rfl e0, t0, _, 0, _, rfl, rfl, st0, rfl, ?_⟩
    refine ⟨_, rfl, 1, rfl, W, _, _, _, rfl, rfl, SqL.of hW, a1, t1, _, 1, _, rfl, rfl, st1, rfl, _, rfl, (by show 3 ≤ sizeLine; decide), fun t nt => ?_⟩
    have h6 := same_upd (o := .tup [.int (G[0]'lp).1, .int (G[G.length - 1]'(by omega)).2, .ref tj]) nt _ _ hc1
    have t6 := Tm.new (H := H1) (o := .tup [.int (G[0]'lp).1, .int (G[G.length - 1]'(by omega)).2, .ref tj]) nt
    refine ⟨N, cs, _, rfl, rfl, h6, small5' (by omega), _, _, _, rfl, Z.Same.mut (sm.trans (s1.trans (same_upd nt))) nN, upd_same, ?_⟩
    rw [List.take_add_one, hjj]
    simp only [Option.toList, List.map_append, List.map_cons, List.map_nil]
    rw [er, h0, h1]
    exact (((iz.to (Same.tm s1)).to t6).push (.tup (SqT.of upd_same) (.cons (.int _) (.cons (.int _) (.cons ((ivj.to (Same.tm s1)).to t6) .nil))))).to (Tm.lst h6)
  · rintro σ' H' ⟨y3, y4, cs, rfl, sm, hc, iz⟩
    rw [lx, List.take_length] at iz
    exact ⟨_, rfl, k N cs H' sm nN hc iz⟩
theorem sum_r : ∀ qs : List Rat, sumL 0 qs = rsum qs
  | [] => rfl
  | q :: r => by
    show sumL (0 + q) r = q + rsum r
    have : ∀ (l : List Rat) (z : Rat), sumL z l = z + rsum l := by
      intro l
      induction l with
      | nil => intro z; show z = z + 0; grind
      | cons a t ih =>
        intro z
        show sumL (z + a) t = z + (a + rsum t)
        rw [ih]
        grind
    rw [this]
    grind
theorem ok_density (B : BI mg) (Z : GZ K mg) (F : At K mg "density" sdensity ["windows", "free", "a", "b"]) (C_lies_in : Ok P w K mg base 1 "lies_in" ["window", "a", "b"] [] (spLies K)) (C_free_length : Ok P w K mg base 2 "free_length" ["free", "begin", "end"] [] (spLen K))
    (C_ratio1 : Ok P w K mg base 1 "ratio" ["top", "bottom"] [.int 1] (spRat K)) (C_over : Ok P w K mg base 2 "over" ["a", "b"] [] (spBinQ K)) (C_totalL : Ok P w K mg base 3 "total" ["ratios"] [] (spSumL K)) : Ok P w K mg base 4 "density" ["windows", "free", "a", "b"] [] (spDens K) := by
  refine F.ok scdensity (fun vs H Q E h => ?_) (fun f cdv A outer s H vs Q E hr h => ?_)
  · obtain ⟨W, L, ws, xs, rs, F, a, b, rfl, _⟩ := h
    rfl
  obtain ⟨W, L, ws, xs, rs, fr, a, b, rfl, hW, hWI, hrl, hL, hI, hfl, hz, hln, hlb, k⟩ := h
  obtain ⟨zA, hZERO, sZ⟩ := Z
  refine ⟨_, (pss_cons (ps_setLc (i := 4) (own := [("window", 5)]) (g := gName 5) (tt := _) rfl scdensity.nd rfl rfl (sw_true rfl rfl rfl (by decide +kernel)) (pi_list (pv 0)) (blkOk_by (own := [("window", 5)]) (N := ["windows", "free", "a", "b", "works", "window"]) (sc := defScope sdensity) (by decide +kernel)) (fun _ _ _ _ _ => (pg_name (i := 5) scdensity.nd rfl (Or.inl rfl))) (fun _ _ _ _ _ => (pts_one (pt_val (pe_ok C_lies_in (hr.mono (by first | decide | exact Nat.le_refl _)) rfl (pa_cons (pv 5) (pa_cons (pv 2) (pa_cons (pv 3) pa_nil))))))) (fun _ _ _ _ _ => (pe_ix (ix_tupK (K := K) rfl) (pe_ix (ix_tupK (K := K) rfl) (pv 5) pe_int (fun _ _ => rfl)) pe_int (fun _ _ => rfl))))
      (pss_cons (ps_if (pt_cmpR (op_eqD hr.units) (pv 4) (pe_lst pa_nil) (nomark _))
        (pss_one (ps_ret (pe_glob (v := .ref zA) rfl hZERO rfl)))
        pss_nil)
      (pss_one (ps_ret (pe_ok C_over (hr.mono (by first | decide | exact Nat.le_refl _)) rfl (pa_cons (pe_ok C_totalL (hr.mono (by first | decide | exact Nat.le_refl _)) rfl (pa_cons (pv 4) pa_nil)) (pa_cons (pe_ok C_ratio1 (hr.mono (by first | decide | exact Nat.le_refl _)) rfl (pa_cons (pe_ok C_free_length (hr.mono (by first | decide | exact Nat.le_refl _)) rfl (pa_cons (pv 1) (pa_cons (pv 2) (pa_cons (pv 3) pa_nil)))) pa_nil)) pa_nil))))))), ?_⟩
  have lw : ws.length = rs.length := by rw [hWI.len, List.length_map]
  refine ⟨_, rfl, W, rfl, ⟨_, SqL.of hW⟩, fun D hD => ?_⟩
  refine lc_list (xs := ws) (fun i H1 => Same H H1 ∧ ∃ cs, H1 D = some (.lst cs) ∧ cs.length ≤ i ∧ IsA K H1 cs ((works (rs.take i) a b).map rat2)) ⟨same_upd hD, [], upd_same, Nat.le_refl _, .nil⟩ (fun i H1 _ h => SqL.of (h.1 _ _ hW)) ?_ ?_
  · rintro i v H1 hv ⟨sm, cs, hc, cl, iz⟩
    obtain ⟨d, hd, iv⟩ := hWI.at hv
    obtain ⟨r, hrr, rfl⟩ := getJ hd
    have il : i < rs.length := (List.getElem?_eq_some_iff.mp hrr).1
    have ivr := iv.to (Same.tm sm)
    obtain ⟨tr, u, rfl, sr, iu⟩ := row_at ivr
    obtain ⟨tj, wv, rfl, sj, iw⟩ := rj_at iu
    have et : works (rs.take (i + 1)) a b = works (rs.take i) a b ++ if inR a b r then [r.j.w] else [] := by
      rw [List.take_add_one, hrr]
      unfold works
      rw [List.filter_append, List.map_append]
      congr 1
      show (List.filter _ [r]).map _ = _
      rw [List.filter_cons]
      cases inR a b r <;> rfl
    refine ⟨rfl, _, rfl, _, rfl, _, rfl, .ref tr, r, a, b, rfl, ivr, _, rfl, ?_⟩
    cases ei : inR a b r with
    | true =>
      refine iteT ?_
      refine ⟨_, rfl, tr, _, 2, _, rfl, rfl, sr, rfl, tj, _, 3, _, rfl, rfl, sj, rfl, cs, hc, small5' (by omega), Z.Same.mut sm hD, _, upd_same, by rw [List.length_append]; exact Nat.succ_le_succ cl, ?_⟩
      rw [et, ei, if_pos rfl, List.map_append]
      exact (iz.push iw).to (Tm.lst hc)
    | false =>
      refine iteF ⟨sm, cs, hc, by omega, ?_⟩
      rw [et, ei, if_neg (by decide), List.append_nil]
      exact iz
  rintro H1 ⟨s1, cs, hc, cl, iz⟩
  rw [lw, List.take_length] at iz
  rw [lw] at cl
  have wl : (works rs a b).length ≤ 12 := by
    unfold works
    rw [List.length_map]
    exact Nat.le_trans (List.length_filter_le _ _) hrl
  have wz : ∀ q ∈ works rs a b, Sz 100 q := fun q hq => by
    unfold works at hq
    obtain ⟨r, hr, rfl⟩ := List.mem_map.mp hq
    exact hz r (List.mem_filter.mp hr).1
  refine ⟨_, rfl, (by show 0 ≤ sizeLine; decide), fun b0 nb => ?_⟩
  have s2 := same_upd (o := .lst []) nb
  refine ⟨.list ((works rs a b).map rat2), .list [], .lst (SqL.of (s2 _ _ hc)) (IsA.dp _ (iz.to (Same.tm s2))), .lst (SqL.of upd_same) .nil, shaped_rats (by omega), shaped_nil, _, rfl, ?_⟩
  rw [eqv_nilR]
  by_cases ew : works rs a b = []
  · rw [decide_eq_true ew]
    refine iteT ?_
    refine k _ _ (s1.trans s2) ?_
    unfold dens
    rw [if_pos ew]
    exact is_zero (sZ _)
  · rw [decide_eq_false ew]
    refine iteF ?_
    have S2 := s1.trans s2
    have hlt := sumL_sz wz (Sz.zero.mono (show 1 ≤ 1 by decide))
    have e13 := Nat.mul_le_mul_right (100 + 1) wl
    refine ⟨_, rfl, D, cs, works rs a b, 100, rfl, SqL.of (s2 _ _ hc), iz.to (Same.tm s2), wz, by decide, by omega, fun u1 H3 s3 i3 => ?_⟩
    rw [sum_r] at i3 hlt
    refine ⟨_, rfl, _, rfl, _, rfl, L, xs, fr, a, b, rfl, (S2.trans s3) _ _ hL, hI.to (Same.tm (S2.trans s3)), hfl, fun H4 s4 => ?_⟩
    refine ⟨lenF a b fr, 1, rfl, by decide, sz_big (n := 100) (by decide) hlb, bigK (by decide), fun u2 H5 s5 i5 => ?_⟩
    rw [one_rat] at i5
    have zl : Sz 100 (lenF a b fr : Rat) := sz_int hlb (by decide)
    refine ⟨u1, u2, _, _, rfl, i3.to (Same.tm (s4.trans s5)), i5, hlt.mono (by omega), zl.mono (by decide), fun z => hln ew (Rat.intCast_eq_zero_iff.mp z), fun u3 H6 s6 i6 => ?_⟩
    refine k u3 H6 (S2.trans (s3.trans (s4.trans (s5.trans s6)))) ?_
    unfold dens
    rw [if_neg ew]
    exact i6

theorem ok_densest (B : BI mg) (B2 : BJ mg) (Z : GZ K mg) (F : At K mg "densest" sdensest ["windows", "free"]) (C_density : Ok P w K mg base 4 "density" ["windows", "free", "a", "b"] [] (spDens K)) (C_less : Ok P w K mg base 1 "less" ["a", "b"] [] (spLess K)) : Ok P w K mg base 5 "densest" ["windows", "free"] [] (spDensest K) := by
  refine F.ok scdensest (fun vs H Q E h => ?_) (fun f cdv A outer s H vs Q E hr h => ?_)
  · obtain ⟨W, L, ws, xs, rs, F, rfl, _⟩ := h
    rfl
  obtain ⟨W, L, ws, xs, rs, fr, rfl, hW, hWI, hrl, hL, hI, hfl, hz, hln, hlb, hex, k⟩ := h
  obtain ⟨zA, hZERO, sZ⟩ := Z
  refine ⟨_, (pss_cons (ps_setSi (i := 2) (own := [("window", 8)]) (g := gName 8) (tt := tYes) rfl scdensest.nd rfl rfl (sw_set rfl rfl rfl (by decide +kernel)) (pi_list (pv 0)) (blkOk_by (own := [("window", 8)]) (N := ["windows", "free", "firsts", "lasts", "best", "a", "b", "found", "window"]) (sc := defScope sdensest) (by decide +kernel)) (fun _ _ _ _ _ => (pg_name (i := 8) scdensest.nd rfl (Or.inl rfl))) (fun _ _ _ _ _ => pts_nil) (fun _ _ _ _ _ => (pe_ix (ix_tupK (K := K) rfl) (pv 8) pe_int (fun _ _ => rfl))))
      (pss_cons (ps_setSi (i := 3) (own := [("window", 8)]) (g := gName 8) (tt := tYes) rfl scdensest.nd rfl rfl (sw_set rfl rfl rfl (by decide +kernel)) (pi_list (pv 0)) (blkOk_by (own := [("window", 8)]) (N := ["windows", "free", "firsts", "lasts", "best", "a", "b", "found", "window"]) (sc := defScope sdensest) (by decide +kernel)) (fun _ _ _ _ _ => (pg_name (i := 8) scdensest.nd rfl (Or.inl rfl))) (fun _ _ _ _ _ => pts_nil) (fun _ _ _ _ _ => (pe_ix (ix_tupK (K := K) rfl) (pv 8) pe_int (fun _ _ => rfl))))
      (pss_cons (ps_set (i := 4) scdensest.nd rfl (Or.inl rfl) (pe_tup (pa_cons (pe_glob (v := .ref zA) rfl hZERO rfl) (pa_cons pe_int (pa_cons pe_int pa_nil)))))
      (pss_cons (ps_for PassesOwn.never rfl (pi_list (pe_callB (cr_sortedSet rfl) rfl B.sorted (by decide +kernel) (pa_cons (pv 2) pa_nil))) (pg_name (i := 5) scdensest.nd rfl (Or.inl rfl))
        (pss_one (ps_for PassesOwn.never rfl (pi_list (pe_callBK (cr_setDown rfl) rfl B.sorted (by decide +kernel) (pa_cons (pv 3) pa_nil) (pk_cons pe_bl pk_nil))) (pg_name (i := 6) scdensest.nd rfl (Or.inl rfl))
          (pss_cons (ps_set (i := 7) scdensest.nd rfl (Or.inl rfl) (pe_ok C_density (hr.mono (by first | decide | exact Nat.le_refl _)) rfl (pa_cons (pv 0) (pa_cons (pv 1) (pa_cons (pv 5) (pa_cons (pv 6) pa_nil))))))
          (pss_one (ps_if (pt_val (pe_ok C_less (hr.mono (by first | decide | exact Nat.le_refl _)) rfl (pa_cons (pe_ix ix_tup (pv 4) pe_int (fun _ _ => rfl)) (pa_cons (pv 7) pa_nil))))
            (pss_one (ps_set (i := 4) scdensest.nd rfl (Or.inl rfl) (pe_tup (pa_cons (pv 7) (pa_cons (pv 5) (pa_cons (pv 6) pa_nil))))))
            pss_nil))))))
      (pss_one (ps_ret (pv 4))))))), ?_⟩
  have three : (3 : Nat) ≤ sizeLine := by decide
  have lw : ws.length = rs.length := by rw [hWI.len, List.length_map]
  have room : ∀ {n : Nat}, n ≤ 12 → n + 1 < scanBound := fun {n} h => by unfold scanBound; omega
  -- firsts
  refine ⟨_, rfl, W, rfl, ⟨_, SqL.of hW⟩, fun D1 hD1 => ?_⟩
  refine si_list (xs := ws) (fun i H1 => Same H H1 ∧ ∃ S n, H1 D1 = some (SetO w D1 S n) ∧ n ≤ i ∧ ∀ k : Int, S k = true ↔ k ∈ (rs.take i).map (·.f)) ⟨same_upd hD1, _, 0, upd_same, Nat.le_refl _, fun k => by simp⟩ (fun i H1 _ h => SqL.of (h.1 _ _ hW)) ?_ ?_
  · rintro i v H1 hv ⟨sm, S, n, hs, hn, hm⟩
    obtain ⟨d, hd, iv⟩ := hWI.at hv
    obtain ⟨r, hrr, rfl⟩ := getJ hd
    have il : i < rs.length := (List.getElem?_eq_some_iff.mp hrr).1
    obtain ⟨tr, u, rfl, sr, _⟩ := row_at (iv.to (Same.tm sm))
    refine ⟨rfl, _, rfl, tr, _, 0, _, rfl, rfl, sr, rfl, r.f, S, n, rfl, hs, room (by omega), Z.Same.mut sm hD1, _, _, upd_same, by split <;> omega, fun k => ?_⟩
    rw [List.take_add_one, hrr, List.map_append, List.mem_append, ← hm k, Bool.or_eq_true, decide_eq_true_iff]
    show _ ↔ _ ∨ k ∈ [r.f]
    rw [List.mem_singleton]
  rintro H1 ⟨s1, S1, n1, hs1, hn1, hm1⟩
  rw [lw] at hn1
  rw [lw, List.take_length] at hm1
  -- lasts
  refine ⟨_, rfl, W, rfl, ⟨_, SqL.of (s1 _ _ hW)⟩, fun D2 hD2 => ?_⟩
  refine si_list (xs := ws) (fun i H2 => Same H1 H2 ∧ ∃ S n, H2 D2 = some (SetO w D2 S n) ∧ n ≤ i ∧ ∀ k : Int, S k = true ↔ k ∈ (rs.take i).map (·.l)) ⟨same_upd hD2, _, 0, upd_same, Nat.le_refl _, fun k => by simp⟩ (fun i H2 _ h => SqL.of ((s1.trans h.1) _ _ hW)) ?_ ?_
  · rintro i v H2 hv ⟨sm, S, n, hs, hn, hm⟩
    obtain ⟨d, hd, iv⟩ := hWI.at hv
    obtain ⟨r, hrr, rfl⟩ := getJ hd
    have il : i < rs.length := (List.getElem?_eq_some_iff.mp hrr).1
    obtain ⟨tr, u, rfl, sr, _⟩ := row_at (iv.to (Same.tm (s1.trans sm)))
    refine ⟨rfl, _, rfl, tr, _, 1, _, rfl, rfl, sr, rfl, r.l, S, n, rfl, hs, room (by omega), Z.Same.mut sm hD2, _, _, upd_same, by split <;> omega, fun k => ?_⟩
    rw [List.take_add_one, hrr, List.map_append, List.mem_append, ← hm k, Bool.or_eq_true, decide_eq_true_iff]
    show _ ↔ _ ∨ k ∈ [r.l]
    rw [List.mem_singleton]
  rintro H2 ⟨s2, S2, n2, hs2, hn2, hm2⟩
  rw [lw] at hn2
  rw [lw, List.take_length] at hm2
  have hs1 := s2 _ _ hs1
  have S02 := s1.trans s2
  -- best
  refine ⟨three, fun t0 n0 => ?_⟩
  have s3 := same_upd (o := .tup [.ref zA, V.int 0, V.int 0]) n0
  have q3 : SqT K (upd H2 t0 (.tup [.ref zA, V.int 0, V.int 0])) t0 [.ref zA, V.int 0, V.int 0] := SqT.of upd_same
  generalize upd H2 t0 (.tup [.ref zA, V.int 0, V.int 0]) = H3 at s3 q3
  have S03 := S02.trans s3
  have hs1 := s3 _ _ hs1
  have hs2 := s3 _ _ hs2
  refine ⟨_, rfl, D1, S1, n1, rfl, hs1, by omega, fun as pa pwa mema lena npa => ?_⟩
  have s4 := same_upd (o := .lst (as.map V.int)) npa
  have ha : (upd H3 pa (.lst (as.map V.int))) pa = some (.lst (as.map V.int)) := upd_same
  have q4 := Tm.sq (Same.tm s4) q3
  have hs2 := s4 _ _ hs2
  have S04 := S03.trans s4
  generalize upd H3 pa (.lst (as.map V.int)) = H4 at ha q4 hs2 S04
  have fas : ∀ k : Int, k ∈ as ↔ k ∈ rs.map (·.f) := fun k => (mema k).trans (hm1 k)
  refine ⟨pa, rfl, ⟨_, SqL.of ha⟩, for_list (xs := as.map V.int) (fun i σ' H' => ∃ (t : Addr) (u : V) (v : Rat) (a0 b0 : Int) (y5 y6 y7 : Option V), σ' = [some (.ref W), some (.ref L), some (.ref D1), some (.ref D2), some (.ref t), y5, y6, y7, none] ∧ Same H4 H' ∧ SqT K H' t [u, .int a0, .int b0] ∧ Is K H' u (rat2 v) ∧ Sz 1400 v ∧
      DoneP rs fr (fun a b => (∃ m, m < i ∧ as[m]? = some a) ∧ b ∈ rs.map (·.l)) v a0 b0) ?_ ?_ ?_ ?_⟩
  · exact ⟨t0, .ref zA, 0, 0, 0, none, none, none, rfl, Same.refl _, q4, is_zero (sZ _), Sz.zero.mono (by decide), DoneP.none.same fun x y => ⟨fun h => h.elim, fun ⟨⟨m, h, _⟩, _⟩ => absurd h (Nat.not_lt_zero m)⟩⟩
  · rintro i σ' H' hi ⟨t, u, v, a0, b0, y5, y6, y7, rfl, sm, _⟩
    exact SqL.of (sm _ _ ha)
  · rintro i va σ' H' hva ⟨t, u, v, a0, b0, y5, y6, y7, rfl, sm, qt, iu, zv, dn⟩
    rw [List.getElem?_map] at hva
    obtain ⟨a, ea, rfl⟩ := Option.map_eq_some_iff.mp hva
    have S0 := S04.trans sm
    refine ⟨_, rfl, D2, S2, n2, rfl, rfl, sm _ _ hs2, by omega, fun bs pb pwb memb lenb npb => ?_⟩
    have s5 := same_upd (o := .lst (bs.map V.int)) npb
    have hb : (upd H' pb (.lst (bs.map V.int))) pb = some (.lst (bs.map V.int)) := upd_same
    have qt5 := Tm.sq (Same.tm s5) qt
    have iu5 := iu.to (Same.tm s5)
    have S05 := S0.trans s5
    have sm5 := sm.trans s5
    generalize upd H' pb (.lst (bs.map V.int)) = H5 at hb qt5 iu5 S05 sm5
    have fbs : ∀ k : Int, k ∈ bs ↔ k ∈ rs.map (·.l) := fun k => (memb k).trans (hm2 k)
    refine ⟨pb, rfl, ⟨_, SqL.of hb⟩, for_list (xs := bs.map V.int) (fun j σ' H' => ∃ (t : Addr) (u : V) (v : Rat) (a0 b0 : Int) (y6 y7 : Option V), σ' = [some (.ref W), some (.ref L), some (.ref D1), some (.ref D2), some (.ref t), some (.int a), y6, y7, none] ∧ Same H5 H' ∧ SqT K H' t [u, .int a0, .int b0] ∧ Is K H' u (rat2 v) ∧ Sz 1400 v ∧
        DoneP rs fr (fun x y => ((∃ m, m < i ∧ as[m]? = some x) ∧ y ∈ rs.map (·.l)) ∨ (x = a ∧ ∃ m, m < j ∧ bs[m]? = some y)) v a0 b0) ?_ ?_ ?_ ?_⟩
    · exact ⟨t, u, v, a0, b0, _, _, rfl, Same.refl _, qt5, iu5, zv, dn.same fun x y => ⟨.inl, fun h => h.elim id fun ⟨_, m, h, _⟩ => absurd h (Nat.not_lt_zero m)⟩⟩
    · rintro j σ' H' hj ⟨t, u, v, a0, b0, y6, y7, rfl, sm, _⟩
      exact SqL.of (sm _ _ hb)
    · rintro j vb σ' H6 hvb ⟨t, u, v, a0, b0, y6, y7, rfl, sm6, qt, iu, zv, dn⟩
      rw [List.getElem?_map] at hvb
      obtain ⟨b, eb, rfl⟩ := Option.map_eq_some_iff.mp hvb
      have S06 := S05.trans sm6
      refine ⟨_, rfl, _, rfl, _, rfl, _, rfl, W, L, ws, xs, rs, fr, a, b, rfl, S06 _ _ hW, hWI.to (Same.tm S06), hrl, S06 _ _ hL, hI.to (Same.tm S06), hfl, hz, hln a b, hlb a b, fun u7 H7 s7 i7 => ?_⟩
      have qt7 := Tm.sq (Same.tm s7) qt
      have iu7 := iu.to (Same.tm s7)
      have zd := dens_sz hz hrl (hlb a b) (hln a b)
      have steps : ∀ x y : Int, ((((∃ m, m < i ∧ as[m]? = some x) ∧ y ∈ rs.map (·.l)) ∨ (x = a ∧ ∃ m, m < j ∧ bs[m]? = some y)) ∨ (x = a ∧ y = b)) ↔ (((∃ m, m < i ∧ as[m]? = some x) ∧ y ∈ rs.map (·.l)) ∨ (x = a ∧ ∃ m, m < j + 1 ∧ bs[m]? = some y)) := fun x y => by
        constructor
        · rintro ((h | ⟨h, m, h1, h2⟩) | ⟨h1, h2⟩)
          · exact .inl h
          · exact .inr ⟨h, m, by omega, h2⟩
          · exact .inr ⟨h1, j, by omega, by rw [h2]; exact eb⟩
        · rintro (h | ⟨h, m, h1, h2⟩)
          · exact .inl (.inl h)
          · by_cases e : m = j
            · subst e
              rw [eb] at h2
              exact .inr ⟨h, (Option.some.inj h2).symm⟩
            · exact .inl (.inr ⟨h, m, by omega, h2⟩)
      refine ⟨_, rfl, t, _, 0, _, rfl, rfl, qt7, rfl, _, rfl, u, u7, v, _, rfl, iu7, i7, zv.mono (by decide), zd.mono (by decide), _, rfl, ite2 (fun e => ?_) (fun e => ?_)⟩
      · have e := of_decide_eq_true e
        refine ⟨_, rfl, _, rfl, _, rfl, three, fun t8 n8 => ?_⟩
        exact ⟨t8, u7, _, a, b, _, _, rfl, sm6.trans (s7.trans (same_upd n8)), SqT.of upd_same, i7.to (Tm.new n8), zd, (dn.yes e).same steps⟩
      · have e : ¬ v < dens rs fr a b := of_decide_eq_false (Bool.eq_false_iff.mpr e)
        refine ⟨t, u, v, a0, b0, _, _, rfl, sm6.trans s7, qt7, iu7, zv, (dn.no e fun pr => ?_).same steps⟩
        rcases pr with ⟨⟨m, hm, em⟩, _⟩ | ⟨e1, m, hm, em⟩
        · have hi2 := (List.getElem?_eq_some_iff.mp em)
          have hi3 := (List.getElem?_eq_some_iff.mp ea)
          obtain ⟨l1, r1⟩ := hi2
          obtain ⟨l2, r2⟩ := hi3
          have := List.pairwise_iff_getElem.mp pwa m i l1 l2 hm
          rw [r1, r2] at this
          exact .inl this
        · have hi2 := (List.getElem?_eq_some_iff.mp em)
          have hi3 := (List.getElem?_eq_some_iff.mp eb)
          obtain ⟨l1, r1⟩ := hi2
          obtain ⟨l2, r2⟩ := hi3
          have := List.pairwise_iff_getElem.mp pwb m j l1 l2 hm
          rw [r1, r2] at this
          exact .inr ⟨e1, Int.le_of_lt this⟩
    · rintro σ' H6 ⟨t, u, v, a0, b0, y6, y7, rfl, sm6, qt, iu, zv, dn⟩
      refine ⟨t, u, v, a0, b0, _, _, _, rfl, sm5.trans sm6, qt, iu, zv, dn.same fun x y => ?_⟩
      rw [List.length_map]
      constructor
      · rintro (⟨⟨m, h1, h2⟩, h3⟩ | ⟨h, m, h1, h2⟩)
        · exact ⟨⟨m, by omega, h2⟩, h3⟩
        · exact ⟨⟨i, by omega, by rw [h]; exact ea⟩, (fbs y).mp (List.mem_of_getElem? h2)⟩
      · rintro ⟨⟨m, h1, h2⟩, h3⟩
        by_cases e : m = i
        · subst e
          rw [ea] at h2
          obtain ⟨m2, h4⟩ := List.getElem?_of_mem ((fbs y).mpr h3)
          exact .inr ⟨(Option.some.inj h2).symm, m2, (List.getElem?_eq_some_iff.mp h4).1, h4⟩
        · exact .inl ⟨⟨m, by omega, h2⟩, h3⟩
  · rintro σ' H' ⟨t, u, v, a0, b0, y5, y6, y7, rfl, sm, qt, iu, zv, dn⟩
    have dn2 : DoneP rs fr (fun a b => a ∈ rs.map (·.f) ∧ b ∈ rs.map (·.l)) v a0 b0 := dn.same fun x y => by
      rw [List.length_map]
      constructor
      · rintro ⟨⟨m, h1, h2⟩, h3⟩
        exact ⟨(fas x).mp (List.mem_of_getElem? h2), h3⟩
      · rintro ⟨h1, h3⟩
        obtain ⟨m, h4⟩ := List.getElem?_of_mem ((fas x).mpr h1)
        exact ⟨⟨m, (List.getElem?_eq_some_iff.mp h4).1, h4⟩, h3⟩
    refine ⟨_, rfl, k t u v a0 b0 H' (S04.trans sm) (fun e => ?_) (fun ne => ?_) qt iu⟩
    · rcases dn2.at' with h | ⟨_, ⟨h, _⟩, _⟩
      · exact h
      · rw [e] at h; cases h
    · obtain ⟨a1, ha1, b1, hb1, p1⟩ := hex.resolve_left ne
      have u1 := (dn2.up a1 b1 ⟨ha1, hb1⟩).1
      rcases dn2.at' with ⟨h, _⟩ | ⟨h1, ⟨h2, h3⟩, h4⟩
      · rw [h] at u1; grind
      · exact ⟨h1, h4, h2, h3, fun a' ha' b' hb' => ⟨(dn2.up a' b' ⟨ha', hb'⟩).1, fun e => (dn2.up a' b' ⟨ha', hb'⟩).2 e h1⟩⟩

theorem ok_rounds_of (B : BI mg) (Z : GZ K mg) (F : At K mg "rounds_of" srounds_of ["jobs"]) (C_all_time : Ok P w K mg base 1 "all_time" ["jobs"] [] (spAllTime K)) (C_free_windows : Ok P w K mg base 2 "free_windows" ["jobs", "free"] [] (spWindows K)) (C_densest : Ok P w K mg base 5 "densest" ["windows", "free"] [] (spDensest K))
    (C_lies_in : Ok P w K mg base 1 "lies_in" ["window", "a", "b"] [] (spLies K)) (C_free_between : Ok P w K mg base 1 "free_between" ["free", "begin", "end"] [] (spBetween K)) (C_free_outside : Ok P w K mg base 2 "free_outside" ["free", "begin", "end"] [] (spOutside K)) : Ok P w K mg base 6 "rounds_of" ["jobs"] [] (spRoundsOf K) := by
  refine F.ok scrounds_of (fun vs H Q E h => ?_) (fun f cdv A outer s H vs Q E hr h => ?_)
  · obtain ⟨L, xs, os, rfl, _⟩ := h
    rfl
  obtain ⟨L, xs, os0, rfl, hL, hI, ok0, k⟩ := h
  obtain ⟨zA, hZERO, sZ⟩ := Z
  refine ⟨_, (pss_cons (ps_set (i := 1) scrounds_of.nd rfl (Or.inl rfl) (pe_callTy call_list_of rfl B.list (by decide +kernel) (pa_cons (pv 0) pa_nil)))
      (pss_cons (ps_set (i := 2) scrounds_of.nd rfl (Or.inl rfl) (pe_ok C_all_time (hr.mono (by first | decide | exact Nat.le_refl _)) rfl (pa_cons (pv 0) pa_nil)))
      (pss_cons (ps_set (i := 3) scrounds_of.nd rfl (Or.inl rfl) (pe_lst pa_nil))
      (pss_cons (ps_while PassesOwn.never (pt_cmpR (op_neD hr.units) (pv 1) (pe_lst pa_nil) (nomark _))
        (pss_cons (ps_set (i := 4) scrounds_of.nd rfl (Or.inl rfl) (pe_ok C_free_windows (hr.mono (by first | decide | exact Nat.le_refl _)) rfl (pa_cons (pv 1) (pa_cons (pv 2) pa_nil))))
        (pss_cons (ps_asg (pe_ok C_densest (hr.mono (by first | decide | exact Nat.le_refl _)) rfl (pa_cons (pv 4) (pa_cons (pv 2) pa_nil))) (pg_tup rfl (pgs_cons (pg_name (i := 5) scrounds_of.nd rfl (Or.inl rfl)) (pgs_cons (pg_name (i := 6) scrounds_of.nd rfl (Or.inr rfl)) (pgs_cons (pg_name (i := 7) scrounds_of.nd rfl (Or.inr rfl)) pgs_nil)))))
        (pss_cons (ps_if (pt_cmpR (op_eqD hr.units) (pv 5) (pe_glob (v := .ref zA) rfl hZERO rfl) (nomark _))
          (pss_one (ps_ret (pv 3)))
          pss_nil)
        (pss_cons (ps_set (i := 8) scrounds_of.nd rfl (Or.inl rfl) (pe_callTy call_tuple_of rfl B.tuple (by decide +kernel) (pa_cons (pe_lc (own := [("window", 9)]) (g := gName 9) (tt := _) rfl scrounds_of.nd (pi_list (pv 4)) (blkOk_by (own := [("window", 9)]) (N := ["jobs", "open_jobs", "free", "found", "windows", "speed", "a", "b", "names", "window"]) (sc := defScope srounds_of) (by decide +kernel)) (fun _ _ _ _ _ => (pg_name (i := 9) scrounds_of.nd rfl (Or.inl rfl))) (fun _ _ _ _ _ => (pts_one (pt_val (pe_ok C_lies_in (hr.mono (by first | decide | exact Nat.le_refl _)) rfl (pa_cons (pv 9) (pa_cons (pv 6) (pa_cons (pv 7) pa_nil))))))) (fun _ _ _ _ _ => (pe_ix (ix_tupK (K := K) rfl) (pe_ix (ix_tupK (K := K) rfl) (pv 9) pe_int (fun _ _ => rfl)) pe_int (fun _ _ => rfl)))) pa_nil)))
        (pss_cons (ps_expr (pe_bm PySem.F.plainAttrs_list PySem.F.slot_list_append PySem.F.type_list_append mt_append (pv 3) (pa_cons (pe_tup (pa_cons (pv 5) (pa_cons (pv 8) (pa_cons (pe_callTy call_tuple_of rfl B.tuple (by decide +kernel) (pa_cons (pe_ok C_free_between (hr.mono (by first | decide | exact Nat.le_refl _)) rfl (pa_cons (pv 2) (pa_cons (pv 6) (pa_cons (pv 7) pa_nil)))) pa_nil)) pa_nil)))) pa_nil)))
        (pss_cons (ps_setLc (i := 1) (own := [("window", 9)]) (g := gName 9) (tt := _) rfl scrounds_of.nd rfl rfl (sw_true rfl rfl rfl (by decide +kernel)) (pi_list (pv 4)) (blkOk_by (own := [("window", 9)]) (N := ["jobs", "open_jobs", "free", "found", "windows", "speed", "a", "b", "names", "window"]) (sc := defScope srounds_of) (by decide +kernel)) (fun _ _ _ _ _ => (pg_name (i := 9) scrounds_of.nd rfl (Or.inl rfl))) (fun _ _ _ _ _ => (pts_one (pt_not (pt_val (pe_ok C_lies_in (hr.mono (by first | decide | exact Nat.le_refl _)) rfl (pa_cons (pv 9) (pa_cons (pv 6) (pa_cons (pv 7) pa_nil)))))))) (fun _ _ _ _ _ => (pe_ix (ix_tupK (K := K) rfl) (pv 9) pe_int (fun _ _ => rfl))))
        (pss_one (ps_set (i := 2) scrounds_of.nd rfl (Or.inl rfl) (pe_ok C_free_outside (hr.mono (by first | decide | exact Nat.le_refl _)) rfl (pa_cons (pv 2) (pa_cons (pv 6) (pa_cons (pv 7) pa_nil)))))))))))))
      (pss_one (ps_ret (pv 3))))))), ?_⟩
  have l12 := ok0.len
  have three : (3 : Nat) ≤ sizeLine := by decide
  refine ⟨_, rfl, L, xs, rfl, .inl (SqL.of hL), fun O nO => ?_⟩
  have s1 := same_upd (o := .lst xs) nO
  have hO : (upd H O (.lst xs)) O = some (.lst xs) := upd_same
  generalize upd H O (.lst xs) = H1 at s1 hO
  have hI1 := hI.to (Same.tm s1)
  refine ⟨_, rfl, L, xs, os0, rfl, s1 _ _ hL, hI1, by omega, fun b0 e0 Fa fx H2 s2 hb0 hb1 nFa hFa iFa => ?_⟩
  have S2 := s1.trans s2
  refine ⟨(by show 0 ≤ sizeLine; decide), fun Nf nNf => ?_⟩
  have fNf : H Nf = none := by
    cases hh : H Nf with
    | none => rfl
    | some o => rw [S2 _ _ hh] at nNf; cases nNf
  have neOF : ∀ {H' : Hp} {p q : Addr} {o : HO}, H' p = some o → H' q = none → p ≠ q := fun h1 h2 e => by rw [e, h2] at h1; cases h1
  have hO2 := s2 _ _ hO
  -- the rounds
  let W : Nat → L2.St → Hp → Prop := fun n σ' H' => ∃ (O Fa : Addr) (ox fx zs : List V) (os : List RJ) (fr : Fr) (ld : List Rd) (y4 y5 y6 y7 y8 : Option V), σ' = [some (.ref L), some (.ref O), some (.ref Fa), some (.ref Nf), y4, y5, y6, y7, y8, none] ∧ Same H H' ∧ O ≠ Nf ∧ Fa ≠ Nf ∧ H' O = some (.lst ox) ∧ IsA K H' ox (os.map dRJ) ∧ H' Fa = some (.lst fx) ∧ IsA K H' fx (fr.map dPt) ∧
    H' Nf = some (.lst zs) ∧ IsA K H' zs (ld.map dRd) ∧ (os ≠ [] → StOk os fr) ∧ (∀ l, Rounds os fr l → RoundsOf os0 (ld ++ l)) ∧ n = os.length ∧ ld.length + os.length ≤ 12
  refine ⟨W, ⟨os0.length, O, Fa, xs, fx, [], os0, [(b0, e0)], [], none, none, none, none, none, rfl, S2.trans (same_upd nNf), neOF hO2 nNf, neOF hFa nNf, same_upd nNf _ _ hO2, (hI1.to (Same.tm s2)).to (Tm.new nNf), same_upd nNf _ _ hFa, iFa.to (Tm.new nNf), upd_same, .nil, fun ne => ok0.st (hb1 ne).2.2 (hb1 ne).1 (hb1 ne).2.1, fun l hl => ?_, rfl, by simpa using l12⟩, ?_⟩
  · by_cases ne : os0 = []
    · subst ne
      cases hl
      · exact .inl ⟨rfl, rfl⟩
      · rename_i h _ _
        exact absurd rfl h
    · exact .inr ⟨b0, e0, (hb1 ne).2.2, (hb1 ne).1, (hb1 ne).2.1, hl⟩
  rintro n σ' H' ⟨O, Fa, ox, fx, zs, os, fr, ld, y4, y5, y6, y7, y8, rfl, sm, nO2, nF2, hO, iO, hFa, iFa, hNf, iNf, hst, hrd, rfl, hlen⟩
  refine ⟨_, rfl, (by show 0 ≤ sizeLine; decide), fun bb nb => ?_⟩
  have sb := same_upd (o := .lst []) nb
  have sh : SeqAt.shaped (.list (os.map dRJ)) = true := by
    by_cases ne : os = []
    · rw [ne]; exact shaped_nil
    · exact shaped_rjs (hst ne).nm (by have := (hst ne).len; omega)
  refine ⟨.list (os.map dRJ), .list [], .lst (SqL.of (sb _ _ hO)) (IsA.dp _ (iO.to (Same.tm sb))), .lst (SqL.of upd_same) .nil, sh, shaped_nil, _, rfl, ?_⟩
  rw [eqv_nilJ]
  have smB := sm.trans sb
  have hO := sb _ _ hO
  have hFa := sb _ _ hFa
  have hNf := sb _ _ hNf
  have iO := iO.to (Same.tm sb)
  have iFa := iFa.to (Same.tm sb)
  have iNf := iNf.to (Same.tm sb)
  generalize upd H' bb (.lst []) = H3 at smB hO hFa hNf iO iFa iNf
  by_cases eo : os = []
  · rw [decide_eq_true eo]
    refine iteF ⟨_, rfl, ?_⟩
    have hr := hrd [] (by rw [eo]; exact .nil _)
    rw [List.append_nil] at hr
    exact k ld Nf zs H3 smB hr (by omega) fNf hNf iNf
  rw [decide_eq_false eo]
  refine iteT ⟨fun σ' H' => ∃ m, m < os.length ∧ W m σ' H', fun σ' H' h => h, ?_⟩
  have st := hst eo
  have fl := st.f.len
  -- windows
  refine ⟨_, rfl, _, rfl, O, Fa, ox, fx, os, fr, rfl, hO, iO, by have := st.len; omega, hFa, iFa, by omega, st.ne, fun Wd wx H4 s4 nWd hWd iWd => ?_⟩
  have ol : (os.map (rowOf fr)).length ≤ 12 := by rw [List.length_map]; exact st.len
  have hFa4 := s4 _ _ hFa
  have lnb : ∀ a b, (lenF a b fr).natAbs < 2 ^ 100 := fun a b => by
    obtain ⟨h1, h2, _⟩ := st.f.lenF a b
    exact Nat.lt_of_le_of_lt (show _ ≤ 10000 by omega) (by decide)
  have wl : wx.length ≤ 12 := by rw [iWd.len, List.length_map]; exact ol
  -- densest
  refine ⟨_, rfl, _, rfl, Wd, Fa, wx, fx, os.map (rowOf fr), fr, rfl, hWd, iWd, ol, hFa4, iFa.to (Same.tm s4), by omega, fun r hr => ?_, fun a b hw => ?_, lnb, ?_, fun t u v a b H5 s5 _ hbest qt iu => ?_⟩
  · obtain ⟨j, hj, rfl⟩ := List.mem_map.mp hr
    exact (st.w j hj).2
  · obtain ⟨j, hj, hi⟩ := works_in hw
    have := (st.f.lenF a b).2.2 (ins_of_in st hj hi)
    omega
  · refine .inr ?_
    cases os with
    | nil => exact absurd rfl eo
    | cons j r =>
      exact ⟨_, List.mem_map_of_mem (List.mem_map_of_mem (List.mem_cons_self ..)), _, List.mem_map_of_mem (List.mem_map_of_mem (List.mem_cons_self ..)), dens_pos st (own_in (List.mem_cons_self ..))⟩
  have best := hbest (by simpa using eo)
  have ab : a ≤ b := by
    obtain ⟨j, hj, hi⟩ := works_in best.works
    have rf := row_facts st hj
    unfold inR at hi
    rw [Bool.and_eq_true] at hi
    have := of_decide_eq_true hi.1
    have := of_decide_eq_true hi.2
    omega
  refine ⟨t, _, rfl, qt, rfl, u, _, rfl, .int a, _, rfl, .int b, _, rfl, rfl, ?_⟩
  have vne : v ≠ 0 := fun z => by have := best.pos; rw [z] at this; exact absurd this (by grind)
  refine ⟨_, rfl, rat2 v, rat2 0, iu.dp, (is_zero (sZ _)).dp, shaped_rat2 _, shaped_rat2 _, _, rfl, ?_⟩
  rw [eqv_rat2, decide_eq_false vne]
  refine iteF ?_
  have hWd5 := s5 _ _ hWd
  have iWd5 := iWd.to (Same.tm s5)
  -- names
  refine ⟨_, rfl, Wd, rfl, ⟨_, SqL.of hWd5⟩, fun D hD => ?_⟩
  refine lc_list (xs := wx) (fun i H6 => Same H5 H6 ∧ ∃ cs, H6 D = some (.lst cs) ∧ cs.length ≤ i ∧ IsA K H6 cs (((((os.map (rowOf fr)).take i).filter (inR a b)).map (·.j.n)).map PyData.str)) ⟨same_upd hD, [], upd_same, Nat.le_refl _, .nil⟩ (fun i H6 _ h => SqL.of (h.1 _ _ hWd5)) ?_ ?_
  · rintro i x H6 hx ⟨s6, cs, hc, cl, iz⟩
    obtain ⟨d, hd, ix⟩ := iWd5.at hx
    obtain ⟨r, hrr, rfl⟩ := getJ hd
    have il : i < (os.map (rowOf fr)).length := (List.getElem?_eq_some_iff.mp hrr).1
    have ixr := ix.to (Same.tm s6)
    obtain ⟨tr, uu, rfl, sr, iu2⟩ := row_at ixr
    obtain ⟨tj, wv, rfl, sj, _⟩ := rj_at iu2
    refine ⟨rfl, _, rfl, _, rfl, _, rfl, .ref tr, r, a, b, rfl, ixr, _, rfl, ?_⟩
    rw [List.take_add_one, hrr, List.filter_append, List.map_append, List.map_append]
    show if _ then _ else _
    cases ei : inR a b r with
    | true =>
      refine iteT ⟨_, rfl, tr, _, 2, _, rfl, rfl, sr, rfl, tj, _, 0, _, rfl, rfl, sj, rfl, cs, hc, small5' (by omega), Z.Same.mut s6 hD, _, upd_same, by rw [List.length_append]; exact Nat.succ_le_succ cl, ?_⟩
      have e2 : List.filter (inR a b) [r] = [r] := List.filter_cons_of_pos (by rw [ei])
      show IsA K _ _ (_ ++ ((List.filter (inR a b) [r]).map (·.j.n)).map PyData.str)
      rw [e2]
      exact (iz.push (.str _)).to (Tm.lst hc)
    | false =>
      refine iteF ⟨s6, cs, hc, by omega, ?_⟩
      have e2 : List.filter (inR a b) [r] = [] := List.filter_cons_of_neg (by rw [ei]; decide)
      show IsA K _ _ (_ ++ ((List.filter (inR a b) [r]).map (·.j.n)).map PyData.str)
      rw [e2]
      simpa using iz
  rintro H6 ⟨s6, cs, hc, cl, iz⟩
  have lwx : wx.length = (os.map (rowOf fr)).length := by rw [iWd.len, List.length_map]
  rw [lwx, List.take_length] at iz
  refine ⟨D, cs, rfl, .inl ⟨SqL.of hc, fun T nT => ?_⟩⟩
  have s7 := same_upd (o := .tup cs) nT
  have iT : Is K (upd H6 T (.tup cs)) (.ref T) (.tuple ((namesR os fr a b).map PyData.str)) := .tup (SqT.of upd_same) (iz.to (Tm.new nT))
  generalize upd H6 T (.tup cs) = H7 at s7 iT
  have s47 := s5.trans (s6.trans s7)
  have s37 := s4.trans s47
  have hNf7 := s37 _ _ hNf
  have hFa7 := s37 _ _ hFa
  have iu7 := iu.to (Same.tm (s6.trans s7))
  -- found.append(..)
  refine ⟨_, rfl, .inl ⟨rfl, _, SqL.of hNf7⟩, _, rfl, _, rfl, _, rfl, _, rfl, _, rfl, Fa, fx, fr, a, b, rfl, hFa7, iFa.to (Same.tm s37), by omega, fun M mx' H8 s8 nM hM iM => ?_⟩
  refine ⟨M, mx', rfl, .inl ⟨SqL.of hM, fun T2 nT2 => ?_⟩⟩
  have s9 := same_upd (o := .tup mx') nT2
  have iT2 : Is K (upd H8 T2 (.tup mx')) (.ref T2) (.tuple ((ins a b fr).map dPt)) := .tup (SqT.of upd_same) (iM.to (Tm.new nT2))
  generalize upd H8 T2 (.tup mx') = H9 at s9 iT2
  refine ⟨three, fun t3 n3 => ?_⟩
  have s10 := same_upd (o := .tup [u, .ref T, .ref T2]) n3
  have s710 := s8.trans (s9.trans s10)
  have hNf10 := s710 _ _ hNf7
  have lzs : zs.length = ld.length := by rw [iNf.len, List.length_map]
  refine ⟨Nf, zs, _, rfl, rfl, hNf10, small5' (by omega), ?_⟩
  have tL := Tm.lst (ys := zs ++ [V.ref t3]) hNf10
  have s310 := s37.trans s710
  have t710 := Same.tm s710
  have iNew : IsA K (upd (upd H9 t3 (.tup [u, .ref T, .ref T2])) Nf (.lst (zs ++ [V.ref t3]))) (zs ++ [V.ref t3]) ((ld ++ [(⟨v, namesR os fr a b, ins a b fr, a, b⟩ : Rd)]).map dRd) := by
    rw [List.map_append]
    refine ((iNf.to (Same.tm s310)).push ?_).to tL
    exact .tup (SqT.of upd_same) (.cons (iu7.to t710) (.cons (iT.to t710) (.cons (iT2.to (Tm.new n3)) .nil)))
  have Sx : Same H (upd (upd H9 t3 (.tup [u, .ref T, .ref T2])) Nf (.lst (zs ++ [V.ref t3]))) := Z.Same.mut (smB.trans s310) fNf
  have hNfx : (upd (upd H9 t3 (.tup [u, .ref T, .ref T2])) Nf (.lst (zs ++ [V.ref t3]))) Nf = some (.lst (zs ++ [V.ref t3])) := upd_same
  have hFx : (upd (upd H9 t3 (.tup [u, .ref T, .ref T2])) Nf (.lst (zs ++ [V.ref t3]))) Fa = some (.lst fx) := by rw [upd_ne nF2]; exact s310 _ _ hFa
  have nWN : Wd ≠ Nf := neOF hNf nWd |>.symm
  have hWx : (upd (upd H9 t3 (.tup [u, .ref T, .ref T2])) Nf (.lst (zs ++ [V.ref t3]))) Wd = some (.lst wx) := by rw [upd_ne nWN]; exact (s47.trans s710) _ _ hWd
  have tx : Tm H3 (upd (upd H9 t3 (.tup [u, .ref T, .ref T2])) Nf (.lst (zs ++ [V.ref t3]))) := (Same.tm s310).trans tL
  have iWx := (iWd.to (Same.tm (s47.trans s710))).to tL
  have iFx := iFa.to tx
  generalize upd (upd H9 t3 (.tup [u, .ref T, .ref T2])) Nf (.lst (zs ++ [V.ref t3])) = HX at iNew Sx hNfx hFx hWx iWx iFx
  -- open_jobs
  refine ⟨_, rfl, Wd, rfl, ⟨_, SqL.of hWx⟩, fun O2 hO2 => ?_⟩
  refine lc_list (xs := wx) (fun i H6 => Same HX H6 ∧ ∃ cs, H6 O2 = some (.lst cs) ∧ cs.length ≤ i ∧ IsA K H6 cs (((((os.map (rowOf fr)).take i).filter fun r => !inR a b r).map (·.j)).map dRJ)) ⟨same_upd hO2, [], upd_same, Nat.le_refl _, .nil⟩ (fun i H6 _ h => SqL.of (h.1 _ _ hWx)) ?_ ?_
  · rintro i x H6 hx ⟨s6, cs, hc, cl, iz⟩
    obtain ⟨d, hd, ix⟩ := iWx.at hx
    obtain ⟨r, hrr, rfl⟩ := getJ hd
    have il : i < (os.map (rowOf fr)).length := (List.getElem?_eq_some_iff.mp hrr).1
    have ixr := ix.to (Same.tm s6)
    obtain ⟨tr, uu, rfl, sr, iu2⟩ := row_at ixr
    refine ⟨rfl, _, rfl, _, rfl, _, rfl, .ref tr, r, a, b, rfl, ixr, _, rfl, ?_⟩
    rw [List.take_add_one, hrr, List.filter_append, List.map_append, List.map_append]
    cases ei : inR a b r with
    | false =>
      refine iteT ⟨_, rfl, tr, _, 2, _, rfl, rfl, sr, rfl, cs, hc, small5' (by omega), Z.Same.mut s6 hO2, _, upd_same, by rw [List.length_append]; exact Nat.succ_le_succ cl, ?_⟩
      have e2 : List.filter (fun r => !inR a b r) [r] = [r] := List.filter_cons_of_pos (by rw [ei]; rfl)
      show IsA K _ _ (_ ++ ((List.filter (fun r => !inR a b r) [r]).map (·.j)).map dRJ)
      rw [e2]
      exact (iz.push iu2).to (Tm.lst hc)
    | true =>
      refine iteF ⟨s6, cs, hc, by omega, ?_⟩
      have e2 : List.filter (fun r => !inR a b r) [r] = [] := List.filter_cons_of_neg (by rw [ei]; decide)
      show IsA K _ _ (_ ++ ((List.filter (fun r => !inR a b r) [r]).map (·.j)).map dRJ)
      rw [e2]
      simpa using iz
  rintro HY ⟨sY, cs2, hc2, cl2, iz2⟩
  rw [lwx, List.take_length] at iz2
  have hFy := sY _ _ hFx
  have frne : fr ≠ [] := fun z => by
    cases os with
    | nil => exact eo rfl
    | cons j r =>
      have := st.ne j (List.mem_cons_self ..)
      rw [z] at this
      exact this rfl
  refine ⟨_, rfl, _, rfl, _, rfl, Fa, fx, fr, a, b, rfl, hFy, iFx.to (Same.tm sY), by omega, frne, fun G gx HZ sZ' nG hG iG => ?_⟩
  have sXZ := sY.trans sZ'
  have hNz := sXZ _ _ hNfx
  have rl := rest_len best.works
  refine ⟨(restR os fr a b).length, rl, O2, G, cs2, gx, zs ++ [V.ref t3], restR os fr a b, outR fr a b, ld ++ [⟨v, namesR os fr a b, ins a b fr, a, b⟩], _, _, _, _, _, rfl, Sx.trans sXZ, (neOF hNfx hO2).symm, (neOF (sY _ _ hNfx) nG).symm, sZ' _ _ hc2, iz2.to (Same.tm sZ'), hG, iG, hNz, iNew.to (Same.tm sXZ), fun _ => next_ok st ab, fun l hl => ?_, rfl, ?_⟩
  · rw [List.append_assoc]
    exact hrd _ (.cons eo best hl)
  · rw [List.length_append]
    show ld.length + 1 + _ ≤ 12
    omega
theorem ok_rounds (B : BI mg) (F : At K mg "rounds" srounds ["jobs"]) (C_with_ratios : Ok P w K mg base 2 "with_ratios" ["jobs"] [] (spWithR K)) (C_rounds_of : Ok P w K mg base 6 "rounds_of" ["jobs"] [] (spRoundsOf K)) : Ok P w K mg base 7 "rounds" ["jobs"] [] (spRounds K) := by
  refine F.ok scrounds (fun vs H Q E h => ?_) (fun f cdv A outer s H vs Q E hr h => ?_)
  · obtain ⟨J, xs, js, rfl, _⟩ := h
    rfl
  obtain ⟨J, xs, js, rfl, hS, hI, hj, ok, k⟩ := h
  refine ⟨_, (pss_one (ps_ret (pe_ok C_rounds_of (hr.mono (by first | decide | exact Nat.le_refl _)) rfl (pa_cons (pe_ok C_with_ratios (hr.mono (by first | decide | exact Nat.le_refl _)) rfl (pa_cons (pv 0) pa_nil)) pa_nil)))), ?_⟩
  have l12 := ok.len
  rw [List.length_map] at l12
  refine ⟨_, rfl, J, xs, js, rfl, hS, hI, hj, by omega, fun M ys H1 s1 nM hM iM => ?_⟩
  refine ⟨M, ys, js.map toRJ, rfl, hM, iM, ok, fun l N zs H2 s2 hl hll nN hN iN => ?_⟩
  have fN : H N = none := by
    cases hh : H N with
    | none => rfl
    | some o => rw [s1 _ _ hh] at nN; cases nN
  exact k l N zs H2 (s1.trans s2) hl hll fN hN iN

theorem ok_law_less (B : BI mg) (F : At K mg "_law_less" s_law_less ["a", "b"]) : Ok P w K mg base 1 "_law_less" ["a", "b"] [] (spLess K) := by
  refine F.ok sc_law_less (fun vs H Q E h => ?_) (fun f cdv A outer s H vs Q E hr h => ?_)
  · obtain ⟨x, y, p, q, rfl, _⟩ := h
    rfl
  obtain ⟨x, y, p, q, rfl, hx, hy, zp, zq, k⟩ := h
  refine ⟨_, (pss_one (ps_ret (pe_cmpR op_lt (pe_op op_mulX (pe_ix ix_tup (pv 0) pe_int (fun _ _ => rfl)) (pe_ix ix_tup (pv 1) pe_int (fun _ _ => rfl))) (pe_op op_mulX (pe_ix ix_tup (pv 1) pe_int (fun _ _ => rfl)) (pe_ix ix_tup (pv 0) pe_int (fun _ _ => rfl))) (nomark _)))), ?_⟩
  obtain ⟨xa, _, _, rfl, sx, hx0, hx1⟩ := hx.two'
  obtain ⟨ya, _, _, rfl, sy, hy0, hy1⟩ := hy.two'
  cases hx0; cases hx1; cases hy0; cases hy1
  refine ⟨_, rfl, xa, _, 0, _, rfl, rfl, sx, rfl, _, rfl, ya, _, 1, _, rfl, rfl, sy, rfl, _, _, rfl, rfl, mulB zp.bn zq.bd, ?_⟩
  refine ⟨_, rfl, ya, _, 0, _, rfl, rfl, sy, rfl, _, rfl, xa, _, 1, _, rfl, rfl, sx, rfl, _, _, rfl, rfl, mulB zq.bn zp.bd, ?_⟩
  refine ⟨_, _, rfl, rfl, ?_⟩
  have e : decide (p.num * (q.den : Int) < q.num * (p.den : Int)) = decide (p < q) := decide_eq_decide.mpr (r_less p q)
  show Q (.bl (decide (p.num * (q.den : Int) < q.num * (p.den : Int)))) H
  rw [e]
  exact k

theorem ok_law_covered (B : BI mg) (B2 : BJ mg) (F : At K mg "_law_covered" s_law_covered ["found", "job"]) (C_law_less : Ok P w K mg base 1 "_law_less" ["a", "b"] [] (spLess K)) : Ok P w K mg base 2 "_law_covered" ["found", "job"] [] (spCovered K) := by
  refine F.ok sc_law_covered (fun vs H Q E h => ?_) (fun f cdv A outer s H vs Q E hr h => ?_)
  · obtain ⟨L, x, xs, l, j, v, rfl, _⟩ := h
    rfl
  obtain ⟨L, x, xs, l, j, v, rfl, hL, hI, hx, hv, hll, hsz, k⟩ := h
  refine ⟨_, (pss_cons (ps_set (i := 2) sc_law_covered.nd rfl (Or.inl rfl) (pe_ix ix_list (pe_lc (own := [("row", 7)]) (g := gName 7) (tt := _) rfl sc_law_covered.nd (pi_list (pv 0)) (blkOk_by (own := [("row", 7)]) (N := ["found", "job", "own", "many", "speed", "names", "times", "row", "start", "stop"]) (sc := defScope s_law_covered) (by decide +kernel)) (fun _ _ _ _ _ => (pg_name (i := 7) sc_law_covered.nd rfl (Or.inl rfl))) (fun _ _ _ _ _ => (pts_one (pt_cmpR (op_inK (K := K) rfl) (pe_ix (ix_tupK (K := K) rfl) (pv 1) pe_int (fun _ _ => rfl)) (pe_ix (ix_tupK (K := K) rfl) (pv 7) pe_int (fun _ _ => rfl)) rfl))) (fun _ _ _ _ _ => (pe_ix (ix_tupK (K := K) rfl) (pv 7) pe_int (fun _ _ => rfl)))) pe_int (fun _ _ => rfl)))
      (pss_cons (ps_set (i := 3) sc_law_covered.nd rfl (Or.inl rfl) pe_int)
      (pss_cons (ps_for PassesOwn.never rfl (pi_list (pv 0)) (pg_tup rfl (pgs_cons (pg_name (i := 4) sc_law_covered.nd rfl (Or.inl rfl)) (pgs_cons (pg_name (i := 5) sc_law_covered.nd rfl (Or.inl rfl)) (pgs_cons (pg_name (i := 6) sc_law_covered.nd rfl (Or.inl rfl)) pgs_nil))))
        (pss_one (ps_if (pt_not (pt_val (pe_ok C_law_less (hr.mono (by first | decide | exact Nat.le_refl _)) rfl (pa_cons (pv 4) (pa_cons (pv 2) pa_nil)))))
          (pss_one (ps_set (i := 3) sc_law_covered.nd rfl (Or.inl rfl) (pe_op op_add (pv 3) (pe_callB (cr_sum rfl) rfl B.sum (by decide +kernel) (pa_cons (pe_lc (own := [("start", 8), ("stop", 9)]) (g := gTup K 2 (gCons (gName 8) (gCons (gName 9) (gNil)))) (tt := tYes) rfl sc_law_covered.nd (pi_tup (pv 6)) (blkOk_by (own := [("start", 8), ("stop", 9)]) (N := ["found", "job", "own", "many", "speed", "names", "times", "row", "start", "stop"]) (sc := defScope s_law_covered) (by decide +kernel)) (fun _ _ _ _ _ => (pg_tup rfl (pgs_cons (pg_name (i := 8) sc_law_covered.nd rfl (Or.inl rfl)) (pgs_cons (pg_name (i := 9) sc_law_covered.nd rfl (Or.inl rfl)) pgs_nil)))) (fun _ _ _ _ _ => pts_nil) (fun _ _ _ _ _ => (pe_callB (call_max2 rfl) rfl B2.max (by decide +kernel) (pa_cons pe_int (pa_cons (pe_op op_sub (pe_callB (call_min2 rfl) rfl B2.min (by decide +kernel) (pa_cons (pv 9) (pa_cons (pe_ix (ix_tupK (K := K) rfl) (pv 1) pe_int (fun _ _ => rfl)) pa_nil))) (pe_callB (call_max2 rfl) rfl B2.max (by decide +kernel) (pa_cons (pv 8) (pa_cons (pe_ix (ix_tupK (K := K) rfl) (pv 1) pe_int (fun _ _ => rfl)) pa_nil)))) pa_nil))))) pa_nil)))))
          pss_nil)))
      (pss_one (ps_ret (pv 3)))))), ?_⟩
  have lx : xs.length = l.length := by rw [hI.len, List.length_map]
  obtain ⟨tj, rfl, sj⟩ := job_at hx
  have zv : Sz 1400 v := by
    obtain ⟨r, hr, e⟩ := ofN_mem (l := l) (n := j.n) (v := v) (by rw [hv]; exact List.mem_singleton_self _)
    rw [← e]; exact (hsz r hr).2
  refine ⟨_, rfl, L, rfl, ⟨_, SqL.of hL⟩, fun D hD => ?_⟩
  refine lc_list (xs := xs) (fun m H7 => Same H H7 ∧ ∃ ds, H7 D = some (.lst ds) ∧ ds.length ≤ m ∧ IsA K H7 ds ((ofN (l.take m) j.n).map rat2)) ⟨same_upd hD, [], upd_same, Nat.le_refl _, .nil⟩ (fun m H7 _ h => SqL.of (h.1 _ _ hL)) ?_ ?_
  · rintro m x H7 hx ⟨s7, ds, hds, dl, idz⟩
    obtain ⟨d, hd, ix⟩ := hI.at hx
    obtain ⟨r, hrr, rfl⟩ := getJ hd
    have ml : m < l.length := (List.getElem?_eq_some_iff.mp hrr).1
    obtain ⟨t, u, T, w2, rfl, st, iu, sT⟩ := rd_at (ix.to (Same.tm s7))
    have et : ofN (l.take (m + 1)) j.n = ofN (l.take m) j.n ++ if j.n ∈ r.ns then [r.v] else [] := by
      rw [List.take_add_one, hrr]; exact ofN_push ..
    have sj7 := Tm.sq (Same.tm s7) sj
    refine ⟨rfl, _, rfl, tj, _, 0, _, rfl, rfl, sj7, rfl, _, rfl, t, _, 1, _, rfl, rfl, st, rfl, T, _, rfl, .inr sT, rfl, flat_strs2 _, _, rfl, ?_⟩
    rw [inV_strs, et]
    by_cases e : j.n ∈ r.ns
    · rw [decide_eq_true e, if_pos e]
      refine iteT ⟨_, rfl, t, _, 0, _, rfl, rfl, st, rfl, ds, hds, small5' (by omega), Z.Same.mut s7 hD, _, upd_same, by rw [List.length_append]; exact Nat.succ_le_succ dl, ?_⟩
      rw [List.map_append]
      exact (idz.push iu).to (Tm.lst hds)
    · rw [decide_eq_false e, if_neg e, List.append_nil]
      exact iteF ⟨s7, ds, hds, by omega, idz⟩
  rintro H7 ⟨s7, ds, hds, dl, idz⟩
  rw [lx, List.take_length, hv] at idz
  obtain ⟨u0, e0, iu0⟩ := idz.get (i := 0) (d := rat2 v) rfl
  refine ⟨D, _, 0, _, rfl, rfl, SqL.of hds, at_of (j := 0) rfl e0, ?_⟩
  have hL7 := s7 _ _ hL
  refine ⟨_, rfl, L, rfl, ⟨_, SqL.of hL7⟩, for_list (xs := xs) (fun i σ' H' => ∃ (y4 y5 y6 : Option V), σ' = [some (.ref L), some (.ref tj), some u0, some (.int (took (l.take i) (fun r => decide (v ≤ r.v)) j.c j.d)), y4, y5, y6, none, none, none] ∧ Same H7 H') ?_ ?_ ?_ ?_⟩
  · exact ⟨none, none, none, rfl, Same.refl _⟩
  · rintro i σ' H' hi ⟨y4, y5, y6, rfl, sm⟩
    exact SqL.of (sm _ _ hL7)
  · rintro i x σ' H' hx ⟨y4, y5, y6, rfl, sm⟩
    obtain ⟨d, hd, ix⟩ := hI.at hx
    obtain ⟨r, hrr, rfl⟩ := getJ hd
    have il : i < l.length := (List.getElem?_eq_some_iff.mp hrr).1
    have sz := hsz r (List.mem_of_getElem? hrr)
    obtain ⟨t, u, T, T2, cs, rfl, st, iu, sT, sT2, aT2⟩ := rdt_at (ix.to (Same.tm (s7.trans sm)))
    have et : took (l.take (i + 1)) (fun r => decide (v ≤ r.v)) j.c j.d = took (l.take i) (fun r => decide (v ≤ r.v)) j.c j.d + if decide (v ≤ r.v) = true then lenF j.c j.d r.ts else 0 := by
      rw [List.take_add_one, hrr]; exact took_push ..
    refine ⟨t, _, rfl, st, rfl, u, _, rfl, .ref T, _, rfl, .ref T2, _, rfl, rfl, ?_⟩
    refine ⟨_, rfl, _, rfl, u, u0, r.v, v, rfl, iu, iu0.to (Same.tm sm), sz.2.mono (by decide), zv.mono (by decide), ?_⟩
    refine ⟨_, rfl, ite2 (fun e => ?_) (fun e => ?_)⟩
    · have le : v ≤ r.v := by
        have : ¬ r.v < v := fun z => by rw [decide_eq_true z] at e; cases e
        grind
      rw [if_pos (decide_eq_true le)] at et
      have lcs' : cs.length = r.ts.length := by rw [aT2.len, List.length_map]
      refine ⟨_, rfl, _, rfl, T2, rfl, ⟨_, sT2⟩, fun D4 hD4 => ?_⟩
      refine lc_tup (xs := cs) (fun m H8 => Same H' H8 ∧ H8 D4 = some (.lst ((lcs j.c j.d (r.ts.take m)).map V.int))) ⟨same_upd hD4, upd_same⟩ (fun m H8 _ h => Tm.sq (Same.tm h.1) sT2) ?_ ?_
      · rintro m x H8 hx ⟨s8, hc⟩
        obtain ⟨d, hd, ix⟩ := aT2.at hx
        obtain ⟨c, hcc, rfl⟩ := getJ hd
        have il2 : m < r.ts.length := (List.getElem?_eq_some_iff.mp hcc).1
        obtain ⟨tc, rfl, stc⟩ := pt_at (ix.to (Same.tm s8))
        have sj8 := Tm.sq (Same.tm (s7.trans (sm.trans s8))) sj
        refine ⟨tc, _, rfl, stc, rfl, .int c.1, _, rfl, .int c.2, _, rfl, rfl, rfl, ?_⟩
        refine ⟨_, rfl, _, rfl, tj, _, 2, _, rfl, rfl, sj8, rfl, _, _, rfl, _, rfl, _, rfl, tj, _, 1, _, rfl, rfl, sj8, rfl, _, _, rfl, _, _, rfl, rfl, _, _, rfl, _, hc, small5' (by unfold lcs; rw [List.length_map, List.length_map, List.length_take]; omega), Z.Same.mut s8 hD4, ?_⟩
        rw [upd_same, List.take_add_one, hcc]
        unfold lcs
        simp only [Option.toList, List.map_append, List.map_cons, List.map_nil]
        rw [← lc_max]
        rfl
      rintro H8 ⟨s8, hc8⟩
      rw [lcs', List.take_length] at hc8
      refine ⟨D4, _, rfl, SqL.of hc8, _, _, rfl, rfl, some u, some (.ref T), some (.ref T2), ?_, sm.trans s8⟩
      rw [et, ← lcs_sum]
      rfl
    · have nle : ¬ v ≤ r.v := fun z => by
        refine e ?_
        rw [decide_eq_false (by grind)]
        rfl
      rw [if_neg (by rw [decide_eq_false nle]; decide), Int.add_zero] at et
      refine ⟨some u, some (.ref T), some (.ref T2), ?_, sm⟩
      rw [et]
      rfl
  · rintro σ' H' ⟨y4, y5, y6, rfl, sm⟩
    rw [lx, List.take_length]
    exact ⟨_, rfl, k _ (s7.trans sm)⟩

end
end Z

namespace Z
open PySem PySem.Spec PyProof.Rows L2
section
variable {P : Program} {w : World} {K : PySem.W.Frag} {mg : Str → Option Value} {base : Heap}
theorem ok_ratio (B : BI mg) (F : AtD K mg "ratio" sratio ["top", "bottom"] [.int 1]) (mGcd : mg "gcd" = some (.builtin "math.gcd")) : Ok P w K mg base 1 "ratio" ["top", "bottom"] [] (spRat K) ∧ Ok P w K mg base 1 "ratio" ["top", "bottom"] [.int 1] (spRat K) := by
  refine F.ok scratio (fun vs H Q E h => ?_) (fun f cdv A outer s H vs Q E hr h => ?_)
  · obtain ⟨a, b, rfl, _⟩ := h
    rfl
  obtain ⟨t, b, rfl, b0, ht, hb, q⟩ := h
  refine ⟨_, (pss_cons (ps_set (i := 2) scratio.nd rfl (Or.inl rfl) (pe_callBfun cr_gcd rfl mGcd (pa_cons (pv 0) (pa_cons (pv 1) pa_nil))))
      (Evl.pss_cut (ps_if (pt_cmpR op_lt (pv 1) pe_int (nomark _))
        (pss_one (ps_set (i := 2) scratio.nd rfl (Or.inl rfl) (pe_un un_neg (pv 2))))
        pss_nil)
      (pss_one (ps_ret (pe_tup (pa_cons (pe_op op_fdivX (pv 0) (pv 2)) (pa_cons (pe_op op_fdivX (pv 1) (pv 2)) pa_nil))))))), ?_⟩
  refine ⟨_, rfl, _, rfl, t, b, rfl, ?_⟩
  refine ⟨fun σ' H' => H' = H ∧ ∃ c : Int, σ' = [some (.int t), some (.int b), some (.int c)] ∧ c = (if b < 0 then -((Nat.gcd t.natAbs b.natAbs : Nat) : Int) else ((Nat.gcd t.natAbs b.natAbs : Nat) : Int)), ?_, ?_⟩
  · refine ⟨_, rfl, _, _, rfl, rfl, _, rfl, ite2 (fun e => ?_) (fun e => ?_)⟩
    · have e1 : b < 0 := of_decide_eq_true e
      refine ⟨_, rfl, _, rfl, ?_⟩
      exact ⟨rfl, _, rfl, by rw [if_pos e1]⟩
    · have e1 : ¬ b < 0 := of_decide_eq_false (Bool.eq_false_iff.mpr e)
      exact ⟨rfl, _, rfl, by rw [if_neg e1]⟩
  · rintro σ' H' ⟨rfl, c, rfl, hc⟩
    obtain ⟨n1, n2, n3, n4⟩ := nrm_eq t b b0 c hc
    refine ⟨_, rfl, _, rfl, _, _, rfl, rfl, divB n1 n2 hb, _, rfl, _, rfl, _, _, rfl, rfl, divB n1 n2 hb, (by show 2 ≤ sizeLine; decide), fun p hp => ?_⟩
    exact q _ _ (same_upd hp) (rat2_new hp n3 n4)

theorem ok_plus (B : BI mg) (F : At K mg "plus" splus ["a", "b"]) (C_ratio : Ok P w K mg base 1 "ratio" ["top", "bottom"] [] (spRat K)) : Ok P w K mg base 2 "plus" ["a", "b"] [] (spBin K (fun p q => p + q)) := by
  refine F.ok scplus (fun vs H Q E h => ?_) (fun f cdv A outer s H vs Q E hr h => ?_)
  · obtain ⟨x, y, p, q, rfl, _⟩ := h
    rfl
  obtain ⟨x, y, p, q, rfl, hx, hy, zp, zq, k⟩ := h
  refine ⟨_, (pss_one (ps_ret (pe_ok C_ratio (hr.mono (by first | decide | exact Nat.le_refl _)) rfl (pa_cons (pe_op op_add (pe_op op_mulX (pe_ix ix_tup (pv 0) pe_int (fun _ _ => rfl)) (pe_ix ix_tup (pv 1) pe_int (fun _ _ => rfl))) (pe_op op_mulX (pe_ix ix_tup (pv 1) pe_int (fun _ _ => rfl)) (pe_ix ix_tup (pv 0) pe_int (fun _ _ => rfl)))) (pa_cons (pe_op op_mulX (pe_ix ix_tup (pv 0) pe_int (fun _ _ => rfl)) (pe_ix ix_tup (pv 1) pe_int (fun _ _ => rfl))) pa_nil))))), ?_⟩
  obtain ⟨xa, _, _, rfl, sx, hx0, hx1⟩ := hx.two'
  obtain ⟨ya, _, _, rfl, sy, hy0, hy1⟩ := hy.two'
  cases hx0; cases hx1; cases hy0; cases hy1
  refine ⟨_, rfl, xa, _, 0, _, rfl, rfl, sx, rfl, _, rfl, ya, _, 1, _, rfl, rfl, sy, rfl, _, _, rfl, rfl, mulB (zp.bn) (zq.bd), ?_⟩
  refine ⟨_, rfl, ya, _, 0, _, rfl, rfl, sy, rfl, _, rfl, xa, _, 1, _, rfl, rfl, sx, rfl, _, _, rfl, rfl, mulB (zq.bn) (zp.bd), _, _, rfl, rfl, ?_⟩
  refine ⟨_, rfl, xa, _, 1, _, rfl, rfl, sx, rfl, _, rfl, ya, _, 1, _, rfl, rfl, sy, rfl, _, _, rfl, rfl, mulB (zp.bd) (zq.bd), ?_⟩
  refine ⟨_, _, rfl, den_mul p q, sz_big (by decide) (zp.x5 zq), sz_big (by decide) (zp.x3 zq), fun v H1 s1 i1 => ?_⟩
  rw [r_add] at i1
  exact k v H1 s1 i1

theorem ok_over (B : BI mg) (F : At K mg "over" sover ["a", "b"]) (C_ratio : Ok P w K mg base 1 "ratio" ["top", "bottom"] [] (spRat K)) : Ok P w K mg base 2 "over" ["a", "b"] [] (spBinQ K) := by
  refine F.ok scover (fun vs H Q E h => ?_) (fun f cdv A outer s H vs Q E hr h => ?_)
  · obtain ⟨x, y, p, q, rfl, _⟩ := h
    rfl
  obtain ⟨x, y, p, q, rfl, hx, hy, zp, zq, hq, k⟩ := h
  refine ⟨_, (pss_one (ps_ret (pe_ok C_ratio (hr.mono (by first | decide | exact Nat.le_refl _)) rfl (pa_cons (pe_op op_mulX (pe_ix ix_tup (pv 0) pe_int (fun _ _ => rfl)) (pe_ix ix_tup (pv 1) pe_int (fun _ _ => rfl))) (pa_cons (pe_op op_mulX (pe_ix ix_tup (pv 0) pe_int (fun _ _ => rfl)) (pe_ix ix_tup (pv 1) pe_int (fun _ _ => rfl))) pa_nil))))), ?_⟩
  obtain ⟨xa, _, _, rfl, sx, hx0, hx1⟩ := hx.two'
  obtain ⟨ya, _, _, rfl, sy, hy0, hy1⟩ := hy.two'
  cases hx0; cases hx1; cases hy0; cases hy1
  refine ⟨_, rfl, xa, _, 0, _, rfl, rfl, sx, rfl, _, rfl, ya, _, 1, _, rfl, rfl, sy, rfl, _, _, rfl, rfl, mulB (zp.bn) (zq.bd), ?_⟩
  refine ⟨_, rfl, xa, _, 1, _, rfl, rfl, sx, rfl, _, rfl, ya, _, 0, _, rfl, rfl, sy, rfl, _, _, rfl, rfl, mulB (zp.bd) (zq.bn), ?_⟩
  refine ⟨_, _, rfl, Int.mul_ne_zero (denz p) (num0 hq), sz_big (by decide) (zp.x1 zq), sz_big (by decide) (zp.x4 zq), fun v H1 s1 i1 => ?_⟩
  rw [r_div] at i1
  exact k v H1 s1 i1

theorem ok_less (B : BI mg) (F : At K mg "less" sless ["a", "b"]) : Ok P w K mg base 1 "less" ["a", "b"] [] (spLess K) := by
  refine F.ok scless (fun vs H Q E h => ?_) (fun f cdv A outer s H vs Q E hr h => ?_)
  · obtain ⟨x, y, p, q, rfl, _⟩ := h
    rfl
  obtain ⟨x, y, p, q, rfl, hx, hy, zp, zq, k⟩ := h
  refine ⟨_, (pss_one (ps_ret (pe_cmpR op_lt (pe_op op_mulX (pe_ix ix_tup (pv 0) pe_int (fun _ _ => rfl)) (pe_ix ix_tup (pv 1) pe_int (fun _ _ => rfl))) (pe_op op_mulX (pe_ix ix_tup (pv 1) pe_int (fun _ _ => rfl)) (pe_ix ix_tup (pv 0) pe_int (fun _ _ => rfl))) (nomark _)))), ?_⟩
  obtain ⟨xa, _, _, rfl, sx, hx0, hx1⟩ := hx.two'
  obtain ⟨ya, _, _, rfl, sy, hy0, hy1⟩ := hy.two'
  cases hx0; cases hx1; cases hy0; cases hy1
  refine ⟨_, rfl, xa, _, 0, _, rfl, rfl, sx, rfl, _, rfl, ya, _, 1, _, rfl, rfl, sy, rfl, _, _, rfl, rfl, mulB zp.bn zq.bd, ?_⟩
  refine ⟨_, rfl, ya, _, 0, _, rfl, rfl, sy, rfl, _, rfl, xa, _, 1, _, rfl, rfl, sx, rfl, _, _, rfl, rfl, mulB zq.bn zp.bd, ?_⟩
  refine ⟨_, _, rfl, rfl, ?_⟩
  have e : decide (p.num * (q.den : Int) < q.num * (p.den : Int)) = decide (p < q) := decide_eq_decide.mpr (r_less p q)
  show Q (.bl (decide (p.num * (q.den : Int) < q.num * (p.den : Int)))) H
  rw [e]
  exact k

theorem ok_totalLP (B : BI mg) (Z : GZ K mg) (F : At K mg "total" stotal ["ratios"]) (C_plus : Ok P w K mg base 2 "plus" ["a", "b"] [] (spBin K (fun p q => p + q))) : Ok P w K mg base 3 "total" ["ratios"] [] (spSumLP K) := by
  refine F.ok sctotal (fun vs H Q E h => ?_) (fun f cdv A outer s H vs Q E hr h => ?_)
  · obtain ⟨a, xs, qs, rfl, _⟩ := h
    rfl
  obtain ⟨a, xs, qs, rfl, hS, hI, hz, hm, k⟩ := h
  obtain ⟨zA, hZERO, sZ⟩ := Z
  refine ⟨_, (pss_cons (ps_set (i := 1) sctotal.nd rfl (Or.inl rfl) (pe_glob (v := .ref zA) rfl hZERO rfl))
      (pss_cons (ps_for PassesOwn.never rfl (pi_list (pv 0)) (pg_name (i := 2) sctotal.nd rfl (Or.inl rfl))
        (pss_one (ps_set (i := 1) sctotal.nd rfl (Or.inl rfl) (pe_ok C_plus (hr.mono (by first | decide | exact Nat.le_refl _)) rfl (pa_cons (pv 1) (pa_cons (pv 2) pa_nil))))))
      (pss_one (ps_ret (pv 1))))), ?_⟩
  have lx : xs.length = qs.length := by rw [hI.len, List.length_map]
  refine ⟨_, rfl, a, rfl, ⟨_, hS⟩, for_list (xs := xs) (fun i σ' H' => Same H H' ∧ ∃ (v : V) (y : Option V), σ' = [some (.ref a), some v, y] ∧ Is K H' v (rat2 (sumL 0 (qs.take i)))) ?_ ?_ ?_ ?_⟩
  · exact ⟨Same.refl _, _, none, rfl, is_zero (sZ _)⟩
  · rintro i σ' H' hi ⟨sm, _⟩
    exact sm.seq hS
  · rintro i x σ' H' hx ⟨sm, v, y, rfl, iv⟩
    obtain ⟨d, hd, ix⟩ := hI.at hx
    obtain ⟨q, hq, rfl⟩ := getR hd
    refine ⟨_, rfl, _, rfl, v, x, _, q, rfl, iv, ix.to (Same.tm sm), hm i, hz q (List.mem_of_getElem? hq), fun u H2 s2 iu => ?_⟩
    refine ⟨sm.trans s2, u, _, rfl, ?_⟩
    rw [sumL_take hq]
    exact iu
  · rintro σ' H' ⟨sm, v, y, rfl, iv⟩
    refine ⟨_, rfl, k v H' sm ?_⟩
    rw [lx, List.take_length] at iv
    exact iv
theorem ok_totalL (B : BI mg) (Z : GZ K mg) (F : At K mg "total" stotal ["ratios"]) (C_plus : Ok P w K mg base 2 "plus" ["a", "b"] [] (spBin K (fun p q => p + q))) : Ok P w K mg base 3 "total" ["ratios"] [] (spSumL K) := (ok_totalLP B Z F C_plus).imp sumL_imp
theorem ok_totalTP (B : BI mg) (Z : GZ K mg) (F : At K mg "total" stotal ["ratios"]) (C_plus : Ok P w K mg base 2 "plus" ["a", "b"] [] (spBin K (fun p q => p + q))) : Ok P w K mg base 3 "total" ["ratios"] [] (spSumTP K) := by
  refine F.ok sctotal (fun vs H Q E h => ?_) (fun f cdv A outer s H vs Q E hr h => ?_)
  · obtain ⟨a, xs, qs, rfl, _⟩ := h
    rfl
  obtain ⟨a, xs, qs, rfl, hS, hI, hz, hm, k⟩ := h
  obtain ⟨zA, hZERO, sZ⟩ := Z
  refine ⟨_, (pss_cons (ps_set (i := 1) sctotal.nd rfl (Or.inl rfl) (pe_glob (v := .ref zA) rfl hZERO rfl))
      (pss_cons (ps_for PassesOwn.never rfl (pi_tup (pv 0)) (pg_name (i := 2) sctotal.nd rfl (Or.inl rfl))
        (pss_one (ps_set (i := 1) sctotal.nd rfl (Or.inl rfl) (pe_ok C_plus (hr.mono (by first | decide | exact Nat.le_refl _)) rfl (pa_cons (pv 1) (pa_cons (pv 2) pa_nil))))))
      (pss_one (ps_ret (pv 1))))), ?_⟩
  have lx : xs.length = qs.length := by rw [hI.len, List.length_map]
  refine ⟨_, rfl, a, rfl, ⟨_, hS⟩, for_tup (xs := xs) (fun i σ' H' => Same H H' ∧ ∃ (v : V) (y : Option V), σ' = [some (.ref a), some v, y] ∧ Is K H' v (rat2 (sumL 0 (qs.take i)))) ?_ ?_ ?_ ?_⟩
  · exact ⟨Same.refl _, _, none, rfl, is_zero (sZ _)⟩
  · rintro i σ' H' hi ⟨sm, _⟩
    exact (Same.tm sm).sq hS
  · rintro i x σ' H' hx ⟨sm, v, y, rfl, iv⟩
    obtain ⟨d, hd, ix⟩ := hI.at hx
    obtain ⟨q, hq, rfl⟩ := getR hd
    refine ⟨_, rfl, _, rfl, v, x, _, q, rfl, iv, ix.to (Same.tm sm), hm i, hz q (List.mem_of_getElem? hq), fun u H2 s2 iu => ?_⟩
    refine ⟨sm.trans s2, u, _, rfl, ?_⟩
    rw [sumL_take hq]
    exact iu
  · rintro σ' H' ⟨sm, v, y, rfl, iv⟩
    refine ⟨_, rfl, k v H' sm ?_⟩
    rw [lx, List.take_length] at iv
    exact iv
theorem ok_totalT (B : BI mg) (Z : GZ K mg) (F : At K mg "total" stotal ["ratios"]) (C_plus : Ok P w K mg base 2 "plus" ["a", "b"] [] (spBin K (fun p q => p + q))) : Ok P w K mg base 3 "total" ["ratios"] [] (spSumT K) := (ok_totalTP B Z F C_plus).imp sumT_imp

theorem ok_law_pool (B : BI mg) (F : At K mg "_law_pool" s_law_pool ["script"]) : Ok P w K mg base 1 "_law_pool" ["script"] [] (spPool K) := by
  refine F.ok sc_law_pool (fun vs H Q E h => ?_) (fun f cdv A outer s H vs Q E hr h => ?_)
  · obtain ⟨a, ns, rfl, _⟩ := h
    rfl
  obtain ⟨a, ns, rfl, hS, hl, q⟩ := h
  refine ⟨_, (pss_one (ps_ret (pe_lst (pa_cons (pe_callTy call_list_of rfl B.list (by decide +kernel) (pa_cons (pv 0) pa_nil)) (pa_cons pe_int (pa_cons pe_int (pa_cons pe_int (pa_cons pe_int pa_nil)))))))), ?_⟩
  refine ⟨_, rfl, a, _, rfl, .inl hS, fun l hl' => ⟨(by show 5 ≤ sizeLine; decide), fun p hp => ?_⟩⟩
  have n : p ≠ l := fun e => by rw [e, upd_same] at hp; cases hp
  refine q p l _ ?_ (fun b o e => ?_) ⟨ns, 0, 0, 0, 0, n.symm, upd_same, by rw [upd_ne n.symm, upd_same], hl, by omega, by omega, by omega, by omega, by omega⟩
  · rw [upd_ne n] at hp
    exact hp
  · rw [upd_ne (fun z => by rw [z] at e; rw [upd_ne n] at hp; rw [hp] at e; cases e), upd_ne (ne_of_none e hl')]
    exact e

theorem ok_law_draw (B : BI mg) (F : At K mg "_law_draw" s_law_draw ["pool", "many"]) : Ok P w K mg base 1 "_law_draw" ["pool", "many"] [] spDraw := by
  refine F.ok sc_law_draw (fun vs H Q E h => ?_) (fun f cdv A outer s H vs Q E hr h => ?_)
  · obtain ⟨p, a, m, rfl, _⟩ := h
    rfl
  obtain ⟨p, a, m, rfl, hP, m0, m1, q⟩ := h
  refine ⟨_, (pss_cons (ps_if (pt_cmpR op_gt (pe_ix ix_list (pv 0) pe_int (fun _ _ => rfl)) pe_int (nomark _))
        (pss_cons (ps_set (i := 2) sc_law_draw.nd rfl (Or.inl rfl) (pe_op op_modN (pe_callTy call_int1 rfl B.int (by decide +kernel) (pa_cons (pe_ix ix_list (pv 0) pe_int (fun _ _ => rfl)) pa_nil)) (pv 1)))
        (pss_cons (ps_asg (pe_op op_fdivX (pe_ix ix_list (pv 0) pe_int (fun _ _ => rfl)) (pv 1)) (pg_sub (pv 0) pe_int set_list))
        (pss_one (ps_ret (pv 2)))))
        pss_nil)
      (Evl.pss_cut (ps_if (PW.pt (pw_and (pt_cmpR op_eq (pe_op op_modN (pe_callTy call_int1 rfl B.int (by decide +kernel) (pa_cons (pe_ix ix_list (pv 0) pe_int (fun _ _ => rfl)) pa_nil)) pe_int) pe_int (nomark _)) (pw_and1 (pt_cmpR op_lt (pe_ix ix_list (pv 0) pe_int (fun _ _ => rfl)) (pe_callB call_len_seq rfl B.len PySem.boot_len (pa_cons (pe_ix ix_list (pv 0) pe_int (fun _ _ => rfl)) pa_nil)) (nomark _)))))
        (pss_cons (ps_set (i := 3) sc_law_draw.nd rfl (Or.inl rfl) (pe_callB call_abs rfl B.abs (by decide +kernel) (pa_cons (pe_ix ix_list (pe_ix ix_list (pv 0) pe_int (fun _ _ => rfl)) (pe_ix ix_list (pv 0) pe_int (fun _ _ => rfl)) (fun _ _ => rfl)) pa_nil)))
        (pss_cons (ps_asg (pe_op op_add (pe_ix ix_list (pv 0) pe_int (fun _ _ => rfl)) pe_int) (pg_sub (pv 0) pe_int set_list))
        (pss_cons (ps_if (pt_cmpR op_ge (pv 3) (pe_op op_pow pe_int pe_int) (nomark _))
          (pss_cons (ps_asg (pe_op op_fdivX (pv 3) (pv 1)) (pg_sub (pv 0) pe_int set_list))
          (pss_one (ps_ret (pe_op op_modN (pe_callTy call_int1 rfl B.int (by decide +kernel) (pa_cons (pv 3) pa_nil)) (pv 1)))))
          pss_nil)
        (pss_one (ps_asg (pv 3) (pg_sub (pv 0) pe_int set_list))))))
        pss_nil)
      (pss_cons (ps_asg (pe_op op_add (pe_ix ix_list (pv 0) pe_int (fun _ _ => rfl)) pe_int) (pg_sub (pv 0) pe_int set_list))
      (pss_cons (ps_set (i := 4) sc_law_draw.nd rfl (Or.inl rfl) (pe_op op_modN (pe_callTy call_int1 rfl B.int (by decide +kernel) (pa_cons (pe_op op_add (pe_op op_add (pe_op op_mulX (pe_ix ix_list (pv 0) pe_int (fun _ _ => rfl)) pe_int) (pe_op op_mulX (pe_ix ix_list (pv 0) pe_int (fun _ _ => rfl)) pe_int)) pe_int) pa_nil)) pe_int))
      (pss_cons (ps_set (i := 4) sc_law_draw.nd rfl (Or.inl rfl) (pe_op op_modN (pe_callTy call_int1 rfl B.int (by decide +kernel) (pa_cons (pe_op op_add (pe_op op_mulX (pv 4) (pv 4)) (pe_op op_mulX (pe_ix ix_list (pv 0) pe_int (fun _ _ => rfl)) pe_int)) pa_nil)) pe_int))
      (pss_one (ps_ret (pe_op op_modN (pe_callTy call_int1 rfl B.int (by decide +kernel) (pa_cons (pv 4) pa_nil)) (pv 1))))))))), ?_⟩
  obtain ⟨ns, i, rest, last, cnt, na, hp, ha, hn, i0, r0, l0, l1, c0⟩ := hP
  have mne : m ≠ 0 := by omega
  -- what is stored at p keeps the pool
  have keep : ∀ (H' : Hp) (i' rest' last' cnt' : Int), H' p = some (.lst [.ref a, .int i', .int rest', .int last', .int cnt']) → H' a = H a → 0 ≤ i' → 0 ≤ rest' → 0 ≤ last' → last' < 1000000000000000000 → 0 ≤ cnt' → Pl p a H' :=
    fun H' i' rest' last' cnt' h1 h2 h3 h4 h5 h6 h7 => ⟨ns, i', rest', last', cnt', na, h1, by rw [h2]; exact ha, hn, h3, h4, h5, h6, h7⟩
  -- if pool[2] > 0
  refine ⟨_, rfl, p, _, 2, _, rfl, rfl, SqL.of hp, rfl, _, _, rfl, rfl, _, rfl, ite2 (fun e => ?_) (fun e => ?_)⟩
  · have e1 : 0 < rest := of_decide_eq_true e
    refine ⟨_, rfl, p, _, 2, _, rfl, rfl, SqL.of hp, rfl, .inl ⟨_, rfl, _, rfl, _, _, rfl, rfl, mne, ?_⟩⟩
    refine ⟨_, rfl, p, _, 2, _, rfl, rfl, SqL.of hp, rfl, _, rfl, _, _, rfl, rfl, divX m0 m1, ?_⟩
    refine ⟨_, rfl, p, _, 2, _, rfl, rfl, hp, rfl, ?_⟩
    exact ⟨_, rfl, q _ _ (fm0 m0) (fm1 m0) .sto (keep _ _ _ _ _ upd_same (by rw [upd_ne na]) i0 (fd0 m0 r0) l0 l1 c0)⟩
  -- behind the second if: the count is as it was
  refine ⟨fun σ' H' => ∃ (i' last' : Int) (y2 y3 y4 : Option V), σ' = [some (.ref p), some (.int m), y2, y3, y4] ∧ Kp p H H' ∧ H' p = some (.lst [.ref a, .int i', .int rest, .int last', .int cnt]) ∧ H' a = H a ∧ 0 ≤ i' ∧ 0 ≤ last' ∧ last' < 1000000000000000000, ?_, ?_⟩
  · -- the second if
    refine ⟨_, rfl, p, _, 4, _, rfl, rfl, SqL.of hp, rfl, .inl ⟨_, rfl, _, _, rfl, rfl, (show (8 : Int) ≠ 0 by decide), rfl, _, rfl, ite2 (fun e2 => ?_) (fun e2 => iteF ?_)⟩⟩
    · refine ⟨_, rfl, p, _, 1, _, rfl, rfl, SqL.of hp, rfl, _, rfl, p, _, 0, _, rfl, rfl, SqL.of hp, rfl, a, _, rfl, .inl (SqL.of ha), _, _, rfl, rfl, _, rfl, ite2 (fun e3 => ?_) (fun e3 => ?_)⟩
      · have e4 : i < ((ns.map V.int).length : Int) := of_decide_eq_true e3
        rw [List.length_map] at e4
        have hi : i.toNat < ns.length := by omega
        have g0 : (ns.map V.int)[i.toNat]? = some (.int ns[i.toNat]) := by
          rw [List.getElem?_map, List.getElem?_eq_getElem hi]
          rfl
        have g : atI (ns.map V.int) i = some (.int ns[i.toNat]) := at_of (by omega) g0
        -- cell = abs(..)
        refine ⟨_, rfl, p, _, 0, _, rfl, rfl, SqL.of hp, rfl, _, rfl, p, _, 1, _, rfl, rfl, SqL.of hp, rfl, a, _, i, _, rfl, rfl, SqL.of ha, g, _, rfl, ?_⟩
        generalize hc : (if ns[i.toNat] < 0 then -ns[i.toNat] else ns[i.toNat]) = cell
        have cell0 : 0 ≤ cell := by rw [← hc]; split <;> omega
        -- pool[1] = pool[1] + 1
        refine ⟨_, rfl, p, _, 1, _, rfl, rfl, SqL.of hp, rfl, _, _, rfl, rfl, _, rfl, p, _, 1, _, rfl, rfl, hp, rfl, ?_⟩
        have h7 : (upd H p (.lst [.ref a, .int (i + 1), .int rest, .int last, .int cnt])) p = some (.lst [.ref a, .int (i + 1), .int rest, .int last, .int cnt]) := upd_same
        -- if cell >= 10 ** 18
        refine ⟨_, rfl, _, _, rfl, rfl, ⟨by decide, by decide, by decide⟩, _, _, rfl, rfl, _, rfl, ite2 (fun e5 => ?_) (fun e5 => ?_)⟩
        · refine ⟨_, rfl, _, rfl, _, _, rfl, rfl, divX m0 m1, _, rfl, p, _, 2, _, rfl, rfl, h7, rfl, ?_⟩
          refine ⟨_, rfl, .inl ⟨_, rfl, _, rfl, _, _, rfl, rfl, mne, ?_⟩⟩
          exact q _ _ (fm0 m0) (fm1 m0) (Kp.sto.trans .sto) (keep _ _ _ _ _ upd_same (by rw [upd_ne na, upd_ne na]) (by omega) (fd0 m0 cell0) l0 l1 c0)
        · have e6 : cell < 1000000000000000000 := by
            have z : ¬ ((10 : Int) ^ (18 : Int).toNat ≤ cell) := of_decide_eq_false (Bool.eq_false_iff.mpr e5)
            have y : (10 : Int) ^ (18 : Int).toNat = 1000000000000000000 := by decide +kernel
            omega
          refine ⟨_, rfl, _, rfl, p, _, 3, _, rfl, rfl, h7, rfl, ?_⟩
          exact ⟨i + 1, cell, none, some (.int cell), none, rfl, Kp.sto.trans .sto, upd_same, by rw [upd_ne na, upd_ne na], by omega, cell0, e6⟩
      · exact ⟨i, last, none, none, none, rfl, .refl _ _, hp, rfl, i0, l0, l1⟩
    · exact ⟨i, last, none, none, none, rfl, .refl _ _, hp, rfl, i0, l0, l1⟩
  · rintro σ' H' ⟨i', last', y2, y3, y4, rfl, k, h1, h2, h3, h5, h6⟩
    refine ⟨_, rfl, p, _, 4, _, rfl, rfl, SqL.of h1, rfl, _, _, rfl, rfl, _, rfl, p, _, 4, _, rfl, rfl, h1, rfl, ?_⟩
    have h7 : (upd H' p (.lst [.ref a, .int i', .int rest, .int last', .int (cnt + 1)])) p = some (.lst [.ref a, .int i', .int rest, .int last', .int (cnt + 1)]) := upd_same
    refine ⟨_, rfl, p, _, 3, _, rfl, rfl, SqL.of h7, rfl, _, _, rfl, rfl, mulR ⟨by decide, by decide⟩, ?_⟩
    refine ⟨_, rfl, p, _, 4, _, rfl, rfl, SqL.of h7, rfl, _, _, rfl, rfl, mulR ⟨by decide, by decide⟩, ?_⟩
    refine ⟨_, _, rfl, rfl, _, _, rfl, rfl, .inl ⟨_, rfl, _, _, rfl, rfl, (show (2147483647 : Int) ≠ 0 by decide), ?_⟩⟩
    refine ⟨_, rfl, _, rfl, _, _, rfl, rfl, mulF, ?_⟩
    refine ⟨_, rfl, p, _, 4, _, rfl, rfl, SqL.of h7, rfl, _, _, rfl, rfl, mulR ⟨by decide, by decide⟩, ?_⟩
    refine ⟨_, _, rfl, rfl, .inl ⟨_, rfl, _, _, rfl, rfl, (show (2147483399 : Int) ≠ 0 by decide), ?_⟩⟩
    refine ⟨_, rfl, .inl ⟨_, rfl, ?_⟩⟩
    refine ⟨_, rfl, _, _, rfl, rfl, mne, ?_⟩
    exact q _ _ (fm0 m0) (fm1 m0) (k.trans .sto) (keep _ _ _ _ _ h7 (by rw [upd_ne na]; exact h2) h3 r0 h5 h6 (by omega))





theorem ok_law_name (B : BI mg) (F : At K mg "_law_name" s_law_name ["pool", "index"]) (C_law_draw : Ok P w K mg base 1 "_law_draw" ["pool", "many"] [] spDraw) : Ok P w K mg base 2 "_law_name" ["pool", "index"] [] spName := by
  refine F.ok sc_law_name (fun vs H Q E h => ?_) (fun f cdv A outer s H vs Q E hr h => ?_)
  · obtain ⟨p, pa, k, rfl, _⟩ := h
    rfl
  obtain ⟨p, pa, k, rfl, hP, hk, q⟩ := h
  refine ⟨_, (pss_cons (ps_set (i := 2) sc_law_name.nd rfl (Or.inl rfl) (pe_ix ix_str pe_str (pv 1) (fun _ _ => rfl)))
      (pss_cons (ps_set (i := 3) sc_law_name.nd rfl (Or.inl rfl) (pe_ix ix_list (pe_lst (pa_cons pe_str (pa_cons pe_str (pa_cons pe_str (pa_cons pe_str pa_nil))))) (pe_ok C_law_draw (hr.mono (by first | decide | exact Nat.le_refl _)) rfl (pa_cons (pv 0) (pa_cons pe_int pa_nil))) (fun _ _ => rfl)))
      (pss_one (ps_ret (pe_op op_add_str (pe_op op_add_str (pv 3) (pv 2)) (pe_ix ix_list (pe_lst (pa_cons pe_str (pa_cons pe_str (pa_cons pe_str pa_nil)))) (pe_ok C_law_draw (hr.mono (by first | decide | exact Nat.le_refl _)) rfl (pa_cons (pv 0) (pa_cons pe_int pa_nil))) (fun _ _ => rfl))))))), ?_⟩
  refine ⟨_, rfl, _, (k : Int), _, rfl, rfl, (by show 20 ≤ sizeLine; decide), atI_nat (letters_at k hk), ?_⟩
  refine ⟨(by show 4 ≤ sizeLine; decide), fun l1 n1 => ?_⟩
  have m1 := hP.ne n1
  have P1 := hP.mut (o := .lst [V.str (("" : Str)), V.str (("u" : Str)), V.str (("vw" : Str)), V.str (("xyz" : Str))]) m1.1 m1.2
  refine ⟨_, rfl, p, pa, 4, rfl, P1, by decide, by decide, fun r2 H2 r20 r21 k2 P2 => ?_⟩
  obtain ⟨x, hx, ox⟩ := head_at r20 r21
  refine ⟨l1, _, r2, _, rfl, rfl, SqL.of (k2 _ _ m1.1 upd_same), hx, ?_⟩
  refine ⟨_, rfl, _, rfl, x, ⟨#[97 + k]⟩, rfl, rfl, small5 (by have := ox.1; rw [str_len, str_len]; show x.cps.toList.length + 1 ≤ 100000; omega), ?_⟩
  refine ⟨(by show 3 ≤ sizeLine; decide), fun l3 n3 => ?_⟩
  have m3 := P2.ne n3
  have P3 := P2.mut (o := .lst [V.str (("" : Str)), V.str (("z" : Str)), V.str (("yy" : Str))]) m3.1 m3.2
  refine ⟨_, rfl, p, pa, 3, rfl, P3, by decide, by decide, fun r4 H4 r40 r41 k4 P4 => ?_⟩
  obtain ⟨y, hy, oy⟩ := tail_at r40 r41
  refine ⟨l3, _, r4, _, rfl, rfl, SqL.of (k4 _ _ m3.1 upd_same), hy, ?_⟩
  refine ⟨x ++ ⟨#[97 + k]⟩, y, rfl, rfl, small5 (by have := ox.1; have := oy.1; rw [str_len, str_len, str_app, List.length_append]; show x.cps.toList.length + 1 + y.cps.toList.length ≤ 100000; omega), ?_⟩
  exact q _ _ (nm_of hk ox oy) ((Kp.new n1).trans (k2.trans ((Kp.new n3).trans k4))) P4

theorem ok_law_window (B : BI mg) (F : At K mg "_law_window" s_law_window ["pool", "wide"]) (C_law_draw : Ok P w K mg base 1 "_law_draw" ["pool", "many"] [] spDraw) : Ok P w K mg base 2 "_law_window" ["pool", "wide"] [] (spWin K) := by
  refine F.ok sc_law_window (fun vs H Q E h => ?_) (fun f cdv A outer s H vs Q E hr h => ?_)
  · obtain ⟨p, pa, b, rfl, _⟩ := h
    rfl
  obtain ⟨p, pa, b, rfl, hP, q⟩ := h
  refine ⟨_, (pss_cons (ps_if (pt_val (pv 1))
        (pss_cons (ps_set (i := 2) sc_law_window.nd rfl (Or.inl rfl) (pe_ok C_law_draw (hr.mono (by first | decide | exact Nat.le_refl _)) rfl (pa_cons (pv 0) (pa_cons pe_int pa_nil))))
        (pss_one (ps_ret (pe_tup (pa_cons (pv 2) (pa_cons (pe_op op_add (pe_op op_add (pv 2) pe_int) (pe_ok C_law_draw (hr.mono (by first | decide | exact Nat.le_refl _)) rfl (pa_cons (pv 0) (pa_cons (pe_op op_sub pe_int (pv 2)) pa_nil)))) pa_nil))))))
        pss_nil)
      (pss_cons (ps_set (i := 2) sc_law_window.nd rfl (Or.inl rfl) (pe_ok C_law_draw (hr.mono (by first | decide | exact Nat.le_refl _)) rfl (pa_cons (pv 0) (pa_cons pe_int pa_nil))))
      (pss_one (ps_ret (pe_tup (pa_cons (pv 2) (pa_cons (pe_op op_add (pe_op op_add (pv 2) pe_int) (pe_ok C_law_draw (hr.mono (by first | decide | exact Nat.le_refl _)) rfl (pa_cons (pv 0) (pa_cons pe_int pa_nil)))) pa_nil))))))), ?_⟩
  refine ⟨_, rfl, b, rfl, ite2 (fun e => ?_) (fun e => ?_)⟩
  · refine ⟨_, rfl, p, pa, 10000, rfl, hP, by decide, by decide, fun c H1 c0 c1 k1 P1 => ?_⟩
    refine ⟨_, rfl, _, rfl, _, _, rfl, rfl, ?_⟩
    refine ⟨_, rfl, _, rfl, _, _, rfl, rfl, p, pa, 10000 - c, rfl, P1, by omega, by omega, fun r H2 r0 r1 k2 P2 => ?_⟩
    refine ⟨_, _, rfl, rfl, (by show 2 ≤ sizeLine; decide), fun t nt => ?_⟩
    have nt2 := P2.ne nt
    exact q t c _ _ c0 (by omega) (by omega) ((k1.trans k2).trans (.new nt)) (P2.mut nt2.1 nt2.2) (P2.free (k1.trans k2) nt) upd_same
  · refine ⟨_, rfl, p, pa, 20, rfl, hP, by decide, by decide, fun c H1 c0 c1 k1 P1 => ?_⟩
    refine ⟨_, rfl, _, rfl, _, _, rfl, rfl, ?_⟩
    refine ⟨_, rfl, p, pa, 12, rfl, P1, by omega, by omega, fun r H2 r0 r1 k2 P2 => ?_⟩
    refine ⟨_, _, rfl, rfl, (by show 2 ≤ sizeLine; decide), fun t nt => ?_⟩
    have nt2 := P2.ne nt
    exact q t c _ _ c0 (by omega) (by omega) ((k1.trans k2).trans (.new nt)) (P2.mut nt2.1 nt2.2) (P2.free (k1.trans k2) nt) upd_same

theorem ok_law_jobs (B : BI mg) (F : At K mg "_law_jobs" s_law_jobs ["pool", "most"]) (C_law_draw : Ok P w K mg base 1 "_law_draw" ["pool", "many"] [] spDraw) (C_law_window : Ok P w K mg base 2 "_law_window" ["pool", "wide"] [] (spWin K))
    (C_law_name : Ok P w K mg base 2 "_law_name" ["pool", "index"] [] spName) : Ok P w K mg base 3 "_law_jobs" ["pool", "most"] [] (spJobs K) := by
  refine F.ok sc_law_jobs (fun vs H Q E h => ?_) (fun f cdv A outer s H vs Q E hr h => ?_)
  · obtain ⟨p, pa, n, rfl, _⟩ := h
    rfl
  obtain ⟨p, pa, n, rfl, hP, hn, q⟩ := h
  refine ⟨_, (pss_cons (ps_set (i := 2) sc_law_jobs.nd rfl (Or.inl rfl) (pe_cmpR op_eq (pe_ok C_law_draw (hr.mono (by first | decide | exact Nat.le_refl _)) rfl (pa_cons (pv 0) (pa_cons pe_int pa_nil))) pe_int (nomark _)))
      (pss_cons (ps_set (i := 3) sc_law_jobs.nd rfl (Or.inl rfl) (pe_lst pa_nil))
      (pss_cons (ps_for PassesOwn.never rfl (pi_range1 rfl B.range (pa_cons (pe_ok C_law_draw (hr.mono (by first | decide | exact Nat.le_refl _)) rfl (pa_cons (pv 0) (pa_cons (pe_op op_add (pv 1) pe_int) pa_nil))) pa_nil)) (pg_name (i := 4) sc_law_jobs.nd rfl (Or.inl rfl))
        (pss_cons (ps_asg (pe_ok C_law_window (hr.mono (by first | decide | exact Nat.le_refl _)) rfl (pa_cons (pv 0) (pa_cons (pv 2) pa_nil))) (pg_tup rfl (pgs_cons (pg_name (i := 5) sc_law_jobs.nd rfl (Or.inl rfl)) (pgs_cons (pg_name (i := 6) sc_law_jobs.nd rfl (Or.inl rfl)) pgs_nil))))
        (pss_cons (ps_set (i := 7) sc_law_jobs.nd rfl (Or.inl rfl) (pe_op op_add pe_int (pe_ok C_law_draw (hr.mono (by first | decide | exact Nat.le_refl _)) rfl (pa_cons (pv 0) (pa_cons pe_int pa_nil)))))
        (Evl.pss_cut (ps_if (pt_cmpR op_eq (pe_ok C_law_draw (hr.mono (by first | decide | exact Nat.le_refl _)) rfl (pa_cons (pv 0) (pa_cons pe_int pa_nil))) pe_int (nomark _))
          (pss_one (ps_set (i := 7) sc_law_jobs.nd rfl (Or.inl rfl) (pe_op op_add pe_int (pe_ok C_law_draw (hr.mono (by first | decide | exact Nat.le_refl _)) rfl (pa_cons (pv 0) (pa_cons pe_int pa_nil))))))
          pss_nil)
        (Evl.pss_cut (ps_if (PW.pt (pw_and (pt_cmpR op_gt (pv 4) pe_int (nomark _)) (pw_and1 (pt_cmpR op_eq (pe_ok C_law_draw (hr.mono (by first | decide | exact Nat.le_refl _)) rfl (pa_cons (pv 0) (pa_cons pe_int pa_nil))) pe_int (nomark _)))))
          (pss_cons (ps_set (i := 8) sc_law_jobs.nd rfl (Or.inl rfl) (pe_ix ix_list (pv 3) (pe_ok C_law_draw (hr.mono (by first | decide | exact Nat.le_refl _)) rfl (pa_cons (pv 0) (pa_cons (pv 4) pa_nil))) (fun _ _ => rfl)))
          (pss_one (ps_par (i := 5) (j := 6) (by rfl) sc_law_jobs.nd rfl rfl (by decide) rfl rfl (pa_cons (pe_ix ix_tup (pv 8) pe_int (fun _ _ => rfl)) (pa_cons (pe_ix ix_tup (pv 8) pe_int (fun _ _ => rfl)) pa_nil)) (by rfl))))
          pss_nil)
        (Evl.pss_cut (ps_if (PW.pt (pw_and (pt_cmpR op_gt (pv 4) pe_int (nomark _)) (pw_and1 (pt_cmpR op_eq (pe_ok C_law_draw (hr.mono (by first | decide | exact Nat.le_refl _)) rfl (pa_cons (pv 0) (pa_cons pe_int pa_nil))) pe_int (nomark _)))))
          (pss_cons (ps_set (i := 8) sc_law_jobs.nd rfl (Or.inl rfl) (pe_ix ix_list (pv 3) (pe_ok C_law_draw (hr.mono (by first | decide | exact Nat.le_refl _)) rfl (pa_cons (pv 0) (pa_cons (pv 4) pa_nil))) (fun _ _ => rfl)))
          (pss_one (ps_if (pt_cmpR op_lt (pe_ix ix_tup (pv 8) pe_int (fun _ _ => rfl)) pe_int (nomark _))
            (pss_one (ps_par (i := 5) (j := 6) (by rfl) sc_law_jobs.nd rfl rfl (by decide) rfl rfl (pa_cons (pe_ix ix_tup (pv 8) pe_int (fun _ _ => rfl)) (pa_cons (pe_op op_add (pe_op op_add (pe_ix ix_tup (pv 8) pe_int (fun _ _ => rfl)) pe_int) (pe_ok C_law_draw (hr.mono (by first | decide | exact Nat.le_refl _)) rfl (pa_cons (pv 0) (pa_cons pe_int pa_nil)))) pa_nil)) (by rfl)))
            pss_nil)))
          pss_nil)
        (pss_one (ps_expr (pe_bm PySem.F.plainAttrs_list PySem.F.slot_list_append PySem.F.type_list_append mt_append (pv 3) (pa_cons (pe_tup (pa_cons (pe_ok C_law_name (hr.mono (by first | decide | exact Nat.le_refl _)) rfl (pa_cons (pv 0) (pa_cons (pv 4) pa_nil))) (pa_cons (pv 5) (pa_cons (pv 6) (pa_cons (pv 7) pa_nil))))) pa_nil))))))))))
      (pss_one (ps_ret (pe_callTy call_tuple_of rfl B.tuple (by decide +kernel) (pa_cons (pv 3) pa_nil))))))), ?_⟩
  refine ⟨_, rfl, p, pa, 6, rfl, hP, by decide, by decide, fun r1 H1 r10 r11 k1 P1 => ?_⟩
  refine ⟨rfl, (by show 0 ≤ sizeLine; decide), fun L nL => ?_⟩
  obtain ⟨nLp, nLa⟩ := P1.ne nL
  have fL : H L = none := P1.free k1 nL
  have M2 : LM K p pa L H [] (upd H1 L (.lst [])) := LM.new P1 k1 nL
  refine ⟨_, rfl, _, rfl, _, _, rfl, rfl, p, pa, (n : Int) + 1, rfl, M2.P, by omega, by omega, fun r3 H3 r30 r31 k3 P3 => ?_⟩
  have M3 := M2.step nLp k3 P3
  refine ⟨r3, rfl, by omega, by omega, for_range (lo := 0) (n := r3.toNat) (fun i σ' H' => ∃ js y4 y5 y6 y7 y8, σ' = [some (.ref p), some (.int (n : Int)), some (.bl (decide (r1 = 0))), some (.ref L), y4, y5, y6, y7, y8] ∧ LM K p pa L H (js.map dJob) H' ∧ JobsOk js ∧ js.length = i) ?_ ?_ ?_⟩
  · exact ⟨[], none, none, none, none, none, by rw [show decide (r1 = 0) = decide (V.int r1 = V.int 0) from decide_eq_decide.mpr ⟨fun z => by rw [z], fun z => V.int.inj z⟩]; rfl, M3, JobsOk.nil, rfl⟩
  · rintro i σ' H' hi ⟨js, y4, y5, y6, y7, y8, rfl, M, hj, hjl⟩
    have hi19 : i < 19 := by omega
    -- comes, due = _law_window(pool, wide)
    refine ⟨_, rfl, _, rfl, p, pa, _, rfl, M.P, fun t c d H5 c0 cd d1 k5 P5 nt ht => ?_⟩
    have M5 := M.step nLp k5 P5
    refine ⟨t, _, rfl, SqT.of ht, rfl, .int c, _, rfl, .int d, _, rfl, rfl, ?_⟩
    -- work
    refine ⟨_, rfl, p, pa, 24, rfl, P5, by decide, by decide, fun r6 H6 r60 r61 k6 P6 => ?_⟩
    have M6 := M5.step nLp k6 P6
    refine ⟨_, _, rfl, rfl, ?_⟩
    refine ⟨fun σ7 H7 => ∃ w y8, σ7 = [some (.ref p), some (.int (n : Int)), some (.bl (decide (r1 = 0))), some (.ref L), some (.int (0 + (i : Int))), some (.int c), some (.int d), some (.int w), y8] ∧ 1 ≤ w ∧ w ≤ 10000 ∧ LM K p pa L H (js.map dJob) H7, ?_, ?_⟩
    · refine ⟨_, rfl, p, pa, 5, rfl, P6, by decide, by decide, fun r7 H7 r70 r71 k7 P7 => ?_⟩
      have M7 := M6.step nLp k7 P7
      refine ⟨rfl, _, rfl, ite2 (fun e => ?_) (fun e => ?_)⟩
      · refine ⟨_, rfl, p, pa, 10000, rfl, P7, by decide, by decide, fun r8 H8 r80 r81 k8 P8 => ?_⟩
        exact ⟨_, _, rfl, rfl, _, y8, rfl, by omega, by omega, M7.step nLp k8 P8⟩
      · exact ⟨_, y8, rfl, by omega, by omega, M7⟩
    rintro σ7 H7 ⟨w, y8, rfl, w0, w1, M7⟩
    -- the job of another's window
    refine ⟨fun σ9 H9 => ∃ c d y8, σ9 = [some (.ref p), some (.int (n : Int)), some (.bl (decide (r1 = 0))), some (.ref L), some (.int (0 + (i : Int))), some (.int c), some (.int d), some (.int w), y8] ∧ 0 ≤ c ∧ c < d ∧ d ≤ 10000 ∧ LM K p pa L H (js.map dJob) H9, ?_, ?_⟩
    · refine ⟨_, rfl, _, _, rfl, rfl, _, rfl, ite2 (fun e => ?_) (fun e => iteF ⟨c, d, y8, rfl, c0, cd, d1, M7⟩)⟩
      have e0 : 0 < (0 : Int) + (i : Int) := of_decide_eq_true e
      refine ⟨_, rfl, p, pa, 4, rfl, M7.P, by decide, by decide, fun r8 H8 r80 r81 k8 P8 => ?_⟩
      have M8 := M7.step nLp k8 P8
      refine ⟨rfl, _, rfl, ite2 (fun e => ?_) (fun e => ⟨c, d, y8, rfl, c0, cd, d1, M8⟩)⟩
      refine ⟨_, rfl, _, rfl, _, rfl, p, pa, _, rfl, P8, e0, by omega, fun r9 H9 r90 r91 k9 P9 => ?_⟩
      have M9 := M8.step nLp k9 P9
      obtain ⟨xs, hx, hI⟩ := M9.l
      have hr9 : r9.toNat < js.length := by omega
      obtain ⟨v, gv, iv⟩ := hI.get (i := r9.toNat) (d := dJob js[r9.toNat]) (by rw [List.getElem?_map, List.getElem?_eq_getElem hr9]; rfl)
      have oj := hj.ok _ (List.getElem_mem hr9)
      obtain ⟨t, rfl, st⟩ := job_at iv
      refine ⟨L, _, r9, _, rfl, rfl, SqL.of hx, at_of (by omega) gv, ?_⟩
      refine ⟨_, rfl, t, _, 1, _, rfl, rfl, st, rfl, _, rfl, t, _, 2, _, rfl, rfl, st, rfl, _, _, rfl, ?_⟩
      exact ⟨_, _, _, rfl, oj.c0, oj.cd, oj.d1, M9⟩
    rintro σ9 H9 ⟨c, d, y8, rfl, c0, cd, d1, M9⟩
    -- the job behind another's window
    refine ⟨fun σ9 H9 => ∃ c d y8, σ9 = [some (.ref p), some (.int (n : Int)), some (.bl (decide (r1 = 0))), some (.ref L), some (.int (0 + (i : Int))), some (.int c), some (.int d), some (.int w), y8] ∧ 0 ≤ c ∧ c < d ∧ d ≤ 10000 ∧ LM K p pa L H (js.map dJob) H9, ?_, ?_⟩
    · refine ⟨_, rfl, _, _, rfl, rfl, _, rfl, ite2 (fun e => ?_) (fun e => iteF ⟨c, d, y8, rfl, c0, cd, d1, M9⟩)⟩
      have e0 : 0 < (0 : Int) + (i : Int) := of_decide_eq_true e
      refine ⟨_, rfl, p, pa, 6, rfl, M9.P, by decide, by decide, fun r8 H8 r80 r81 k8 P8 => ?_⟩
      have M8 := M9.step nLp k8 P8
      refine ⟨rfl, _, rfl, ite2 (fun e => ?_) (fun e => ⟨c, d, y8, rfl, c0, cd, d1, M8⟩)⟩
      refine ⟨_, rfl, _, rfl, _, rfl, p, pa, _, rfl, P8, e0, by omega, fun r9 H10 r90 r91 k9 P9 => ?_⟩
      have M10 := M8.step nLp k9 P9
      obtain ⟨xs, hx, hI⟩ := M10.l
      have hr9 : r9.toNat < js.length := by omega
      obtain ⟨v, gv, iv⟩ := hI.get (i := r9.toNat) (d := dJob js[r9.toNat]) (by rw [List.getElem?_map, List.getElem?_eq_getElem hr9]; rfl)
      have oj := hj.ok _ (List.getElem_mem hr9)
      obtain ⟨t, rfl, st⟩ := job_at iv
      refine ⟨L, _, r9, _, rfl, rfl, SqL.of hx, at_of (by omega) gv, ?_⟩
      refine ⟨_, rfl, t, _, 2, _, rfl, rfl, st, rfl, _, _, rfl, rfl, _, rfl, ite2 (fun e2 => ?_) (fun e2 => ⟨c, d, _, rfl, c0, cd, d1, M10⟩)⟩
      have e3 : js[r9.toNat].d < 9990 := of_decide_eq_true e2
      refine ⟨_, rfl, t, _, 2, _, rfl, rfl, st, rfl, _, rfl, t, _, 2, _, rfl, rfl, st, rfl, _, _, rfl, rfl, ?_⟩
      refine ⟨_, rfl, p, pa, 9, rfl, P9, by decide, by decide, fun r11 H11 r110 r111 k11 P11 => ?_⟩
      refine ⟨_, _, rfl, rfl, _, _, rfl, ?_⟩
      have := oj.c0
      have := oj.cd
      exact ⟨_, _, _, rfl, by omega, by omega, by omega, M10.step nLp k11 P11⟩
    rintro σ10 H10 ⟨c, d, y8, rfl, c0, cd, d1, M10⟩
    -- jobs.append(..)
    obtain ⟨xs0, hx0, hI0⟩ := M10.l
    refine ⟨_, rfl, .inl ⟨rfl, _, SqL.of hx0⟩, _, rfl, _, rfl, p, pa, i, (by show [V.ref p, V.int (0 + (i : Int))] = _; rw [Int.zero_add]), M10.P, by omega, fun nm H11 hnm k11 P11 => ?_⟩
    have M11 := M10.step nLp k11 P11
    obtain ⟨xs, hx, hI⟩ := M11.l
    refine ⟨_, rfl, _, rfl, _, rfl, (by show 4 ≤ sizeLine; decide), fun t nt => ?_⟩
    have M12 := M11.same (same_upd (o := .tup [.str nm, .int c, .int d, .int w]) nt)
    have hx12 : (upd H11 t (.tup [.str nm, .int c, .int d, .int w])) L = some (.lst xs) := same_upd nt _ _ hx
    have lxs : xs.length = js.length := by rw [hI.len, List.length_map]
    refine ⟨L, xs, .ref t, rfl, rfl, hx12, small5' (by omega), ?_⟩
    refine ⟨js ++ [⟨nm, c, d, w⟩], _, _, _, _, _, rfl, ?_, hj.push ⟨c0, cd, d1, w0, w1⟩ (by rw [hjl]; exact hnm), by rw [List.length_append, hjl]; rfl⟩
    rw [List.map_append]
    refine M12.put nLp nLa fL ?_
    exact (hI.to (Tm.new nt)).push (is_job (j := ⟨nm, c, d, w⟩) (SqT.of upd_same))
  · rintro σ' H' ⟨js, y4, y5, y6, y7, y8, rfl, M, hj, hjl⟩
    obtain ⟨xs, hx, hI⟩ := M.l
    refine ⟨_, rfl, L, xs, rfl, .inl ⟨SqL.of hx, fun t nt => ?_⟩⟩
    have nt2 := M.P.ne nt
    exact q t xs js _ hj (by omega) (M.k.trans (.new nt)) (M.P.mut nt2.1 nt2.2) (M.P.free M.k nt) upd_same (hI.to (Tm.new nt))


end
end Z

namespace Z
open PySem PySem.Spec PyProof.Rows L2
section
variable {P : Program} {w : World} {K : PySem.W.Frag} {mg : Str → Option Value} {base : Heap}
theorem oklaw {f : Addr} {fd : FuncData} (B : BI mg) (B2 : BJ mg) (F : Fun K "law" "law" slaw f fd) (C_law_pool : Ok P w K mg base 1 "_law_pool" ["script"] [] (spPool K))
    (C_law_jobs : Ok P w K mg base 3 "_law_jobs" ["pool", "most"] [] (spJobs K)) (C_rounds : Ok P w K mg base 7 "rounds" ["jobs"] [] (spRounds K)) (C_law_less : Ok P w K mg base 1 "_law_less" ["a", "b"] [] (spLess K)) (C_law_covered : Ok P w K mg base 2 "_law_covered" ["found", "job"] [] (spCovered K)) : FnOk P w K mg base CX0 8 f fd ["script"] (spLaw K) := by
  refine F.ok sclaw (fun vs H Q E h => ?_) (fun cdv A outer s H vs Q E hr h => ?_)
  · obtain ⟨a, ns, rfl, _⟩ := h
    rfl
  obtain ⟨a, ns, rfl, hS, hl, q⟩ := h
  refine ⟨_, (pss_cons (ps_set (i := 1) sclaw.nd rfl (Or.inl rfl) (pe_ok C_law_pool (hr.mono (by first | decide | exact Nat.le_refl _)) rfl (pa_cons (pv 0) pa_nil)))
      (pss_cons (ps_set (i := 2) sclaw.nd rfl (Or.inl rfl) (pe_ok C_law_jobs (hr.mono (by first | decide | exact Nat.le_refl _)) rfl (pa_cons (pv 1) (pa_cons pe_int pa_nil))))
      (pss_cons (ps_set (i := 3) sclaw.nd rfl (Or.inr rfl) (pe_ok C_rounds (hr.mono (by first | decide | exact Nat.le_refl _)) rfl (pa_cons (pv 2) pa_nil)))
      (pss_cons (ps_set (i := 4) sclaw.nd rfl (Or.inl rfl) (pe_lst pa_nil))
      (pss_cons (ps_set (i := 5) sclaw.nd rfl (Or.inl rfl) (pe_lst pa_nil))
      (pss_cons (ps_for PassesOwn.never rfl (pi_range1 rfl B.range (pa_cons (pe_callB call_len_seq rfl B.len PySem.boot_len (pa_cons (pv 3) pa_nil)) pa_nil)) (pg_name (i := 6) sclaw.nd rfl (Or.inl rfl))
        (pss_cons (ps_asg (pe_ix ix_list (pv 3) (pv 6) (fun _ _ => rfl)) (pg_tup rfl (pgs_cons (pg_name (i := 7) sclaw.nd rfl (Or.inl rfl)) (pgs_cons (pg_name (i := 8) sclaw.nd rfl (Or.inr rfl)) (pgs_cons (pg_name (i := 9) sclaw.nd rfl (Or.inl rfl)) pgs_nil)))))
        (pss_cons (ps_if (PW.pt (pw_and (pt_cmpR op_gt (pv 6) pe_int (nomark _)) (pw_and1 (pt_val (pe_ok C_law_less (hr.mono (by first | decide | exact Nat.le_refl _)) rfl (pa_cons (pe_ix ix_tup (pe_ix ix_list (pv 3) (pe_op op_sub (pv 6) pe_int) (fun _ _ => rfl)) pe_int (fun _ _ => rfl)) (pa_cons (pv 7) pa_nil)))))))
          (pss_one (ps_ret pe_bl))
          pss_nil)
        (pss_cons (ps_expr (pe_bm PySem.F.plainAttrs_list PySem.F.slot_list_extend PySem.F.type_list_extend mt_extend (pv 4) (pa_cons (pe_callTy call_list_of rfl B.list (by decide +kernel) (pa_cons (pv 8) pa_nil)) pa_nil)))
        (pss_cons (ps_expr (pe_bm PySem.F.plainAttrs_list PySem.F.slot_list_extend PySem.F.type_list_extend mt_extend (pv 5) (pa_cons (pe_callTy call_list_of rfl B.list (by decide +kernel) (pa_cons (pv 9) pa_nil)) pa_nil)))
        (pss_cons (ps_set (i := 10) sclaw.nd rfl (Or.inl rfl) (pe_callB (cr_sum rfl) rfl B.sum (by decide +kernel) (pa_cons (pe_lc (own := [("start", 12), ("stop", 13)]) (g := gTup K 2 (gCons (gName 12) (gCons (gName 13) (gNil)))) (tt := tYes) rfl sclaw.nd (pi_tup (pv 9)) (blkOk_by (own := [("start", 12), ("stop", 13)]) (N := ["script", "pool", "jobs", "found", "names", "spans", "k", "speed", "own", "times", "length", "work", "start", "stop", "job"]) (sc := defScope slaw) (by decide +kernel)) (fun _ _ _ _ _ => (pg_tup rfl (pgs_cons (pg_name (i := 12) sclaw.nd rfl (Or.inl rfl)) (pgs_cons (pg_name (i := 13) sclaw.nd rfl (Or.inl rfl)) pgs_nil)))) (fun _ _ _ _ _ => pts_nil) (fun _ _ _ _ _ => (pe_op op_sub (pv 13) (pv 12)))) pa_nil)))
        (pss_cons (ps_set (i := 11) sclaw.nd rfl (Or.inl rfl) (pe_callB (cr_sum rfl) rfl B.sum (by decide +kernel) (pa_cons (pe_lc (own := [("job", 14)]) (g := gName 14) (tt := _) rfl sclaw.nd (pi_tup (pv 2)) (blkOk_by (own := [("job", 14)]) (N := ["script", "pool", "jobs", "found", "names", "spans", "k", "speed", "own", "times", "length", "work", "start", "stop", "job"]) (sc := defScope slaw) (by decide +kernel)) (fun _ _ _ _ _ => (pg_name (i := 14) sclaw.nd rfl (Or.inl rfl))) (fun _ _ _ _ _ => (pts_one (pt_cmpR (op_inK (K := K) rfl) (pe_ix (ix_tupK (K := K) rfl) (pv 14) pe_int (fun _ _ => rfl)) (pv 8) rfl))) (fun _ _ _ _ _ => (pe_ix (ix_tupK (K := K) rfl) (pv 14) pe_int (fun _ _ => rfl)))) pa_nil)))
        (pss_one (ps_if (PW.pt (pw_or (pt_cmpR op_ne (pe_op op_mulX (pe_ix ix_tup (pv 7) pe_int (fun _ _ => rfl)) (pv 10)) (pe_op op_mulX (pv 11) (pe_ix ix_tup (pv 7) pe_int (fun _ _ => rfl))) (nomark _)) (pw_or1 (pt_cmpR op_le (pv 10) pe_int (nomark _)))))
          (pss_one (ps_ret pe_bl))
          pss_nil)))))))))
      (pss_cons (ps_if (pt_cmpR (op_neD hr.units) (pe_callB cr_sortedS rfl B.sorted (by decide +kernel) (pa_cons (pv 4) pa_nil)) (pe_callB cr_sortedS rfl B.sorted (by decide +kernel) (pa_cons (pe_lc (own := [("job", 14)]) (g := gName 14) (tt := tYes) rfl sclaw.nd (pi_tup (pv 2)) (blkOk_by (own := [("job", 14)]) (N := ["script", "pool", "jobs", "found", "names", "spans", "k", "speed", "own", "times", "length", "work", "start", "stop", "job"]) (sc := defScope slaw) (by decide +kernel)) (fun _ _ _ _ _ => (pg_name (i := 14) sclaw.nd rfl (Or.inl rfl))) (fun _ _ _ _ _ => pts_nil) (fun _ _ _ _ _ => (pe_ix (ix_tupK (K := K) rfl) (pv 14) pe_int (fun _ _ => rfl)))) pa_nil)) (nomark _))
        (pss_one (ps_ret pe_bl))
        pss_nil)
      (pss_cons (ps_set (i := 5) sclaw.nd rfl (Or.inl rfl) (pe_callB cr_sortedPL rfl B.sorted (by decide +kernel) (pa_cons (pv 5) pa_nil)))
      (pss_cons (ps_for PassesOwn.never rfl (pi_range1 rfl B.range (pa_cons (pe_op op_sub (pe_callB call_len_seq rfl B.len PySem.boot_len (pa_cons (pv 5) pa_nil)) pe_int) pa_nil)) (pg_name (i := 6) sclaw.nd rfl (Or.inl rfl))
        (pss_one (ps_if (pt_cmpR op_gt (pe_ix ix_tup (pe_ix ix_list (pv 5) (pv 6) (fun _ _ => rfl)) pe_int (fun _ _ => rfl)) (pe_ix ix_tup (pe_ix ix_list (pv 5) (pe_op op_add (pv 6) pe_int) (fun _ _ => rfl)) pe_int (fun _ _ => rfl)) (nomark _))
          (pss_one (ps_ret pe_bl))
          pss_nil)))
      (pss_one (ps_ret (pe_cmpR op_eq (pe_callB call_len_seq rfl B.len PySem.boot_len (pa_cons (pe_lc (own := [("job", 14)]) (g := gName 14) (tt := _) rfl sclaw.nd (pi_tup (pv 2)) (blkOk_by (own := [("job", 14)]) (N := ["script", "pool", "jobs", "found", "names", "spans", "k", "speed", "own", "times", "length", "work", "start", "stop", "job"]) (sc := defScope slaw) (by decide +kernel)) (fun _ _ _ _ _ => (pg_name (i := 14) sclaw.nd rfl (Or.inl rfl))) (fun _ _ _ _ _ => (pts_one (pt_cmpR op_ne (pe_ok C_law_covered (hr.mono (by first | decide | exact Nat.le_refl _)) rfl (pa_cons (pv 3) (pa_cons (pv 14) pa_nil))) (pe_op op_sub (pe_ix (ix_tupK (K := K) rfl) (pv 14) pe_int (fun _ _ => rfl)) (pe_ix (ix_tupK (K := K) rfl) (pv 14) pe_int (fun _ _ => rfl))) (nomark _)))) (fun _ _ _ _ _ => (pv 14))) pa_nil)) pe_int (nomark _))))))))))))), ?_⟩
  refine ⟨_, rfl, a, ns, rfl, hS, hl, fun p pa H1 np s1 P1 => ?_⟩
  refine ⟨_, rfl, p, pa, 8, rfl, P1, by decide, fun J jx js H4 hj hjl k4 P4 nJ hJ hI => ?_⟩
  have nd := nd_of hj
  have ok := os_of hj (by omega)
  have lx : jx.length = js.length := by rw [hI.len, List.length_map]
  refine ⟨_, rfl, J, jx, js, rfl, SqT.of hJ, hI, hj.ok, ok, fun l M ys H5 s5 hr hll nM hM iM => ?_⟩
  have R := rds_ok hj.ok ok nd hll hr
  have ly : ys.length = l.length := by rw [iM.len, List.length_map]
  have hJ5 := s5 _ _ hJ
  have hI5 := hI.to (Same.tm s5)
  refine ⟨(by show 0 ≤ sizeLine; decide), fun Nm nNm => ?_⟩
  have sN := same_upd (o := .lst []) nNm
  refine ⟨(by show 0 ≤ sizeLine; decide), fun Sn nSn => ?_⟩
  have sS := same_upd (o := .lst []) nSn
  have nNS : Nm ≠ Sn := fun e => by rw [← e, upd_same] at nSn; cases nSn
  have nSn5 : H5 Sn = none := by rw [upd_ne (Ne.symm nNS)] at nSn; exact nSn
  refine ⟨_, rfl, M, ys, rfl, .inl (SqL.of ((sN.trans sS) _ _ hM)), ?_⟩
  refine ⟨_, rfl, by omega, by omega, for_range (lo := 0) (fun i σ' H' => ∃ (y6 y7 y8 y9 y10 y11 : Option V) (cs : List V), σ' = [some (.ref a), some (.ref p), some (.ref J), some (.ref M), some (.ref Nm), some (.ref Sn), y6, y7, y8, y9, y10, y11, none, none, none] ∧ Same H5 H' ∧ H' Nm = some (.lst (((l.take i).flatMap (·.ns)).map V.str)) ∧ H' Sn = some (.lst cs) ∧ IsA K H' cs (((l.take i).flatMap (·.ts)).map dPt) ∧ cs.length ≤ 1000 * i) ?_ ?_ ?_⟩
  · exact ⟨none, none, none, none, none, none, [], rfl, sN.trans sS, sS _ _ upd_same, upd_same, .nil, Nat.zero_le _⟩
  · rintro i σ' H' hi ⟨y6, y7, y8, y9, y10, y11, cs, rfl, sm, hN, hSn, iS, cl⟩
    have il : i < l.length := by omega
    have hc := List.getElem?_eq_getElem il
    generalize l[i] = r at hc
    have rm := List.mem_of_getElem? hc
    obtain ⟨x, hx, ix⟩ := iM.get (i := i) (d := dRd r) (by rw [List.getElem?_map, hc]; rfl)
    obtain ⟨t, u, T, T2, ts, rfl, st, iu, sT, sT2, aT2⟩ := rdt_at (ix.to (Same.tm sm))
    have hM' := sm _ _ hM
    refine ⟨_, rfl, _, rfl, M, _, _, _, rfl, rfl, SqL.of hM', at_of (j := i) (by omega) hx, t, _, rfl, st, rfl, u, _, rfl, .ref T, _, rfl, .ref T2, _, rfl, rfl, ?_⟩
    obtain ⟨zn, zt, zv⟩ := R.sz r rm
    obtain ⟨tu, rfl, su⟩ := rat_at iu
    have et : l.take (i + 1) = l.take i ++ [r] := by rw [List.take_add_one, hc]; rfl
    refine ⟨_, rfl, _, _, rfl, rfl, _, rfl, ?_⟩
    by_cases i0 : i = 0
    case' pos =>
      rw [show decide ((0 : Int) + (i : Int) > 0) = false from decide_eq_false (by omega)]
      refine iteF (iteF ?_)
    case' neg =>
      rw [show decide ((0 : Int) + (i : Int) > 0) = true from decide_eq_true (by omega)]
      have hc' := List.getElem?_eq_getElem (show i - 1 < l.length by omega)
      have pw := List.pairwise_iff_getElem.mp R.fall (i - 1) i (by omega) il (by omega)
      have er : l[i] = r := (List.getElem?_eq_some_iff.mp hc).2
      rw [er] at pw
      generalize l[i - 1]'(by omega) = r' at hc' pw
      obtain ⟨x', hx', ix'⟩ := iM.get (i := i - 1) (d := dRd r') (by rw [List.getElem?_map, hc']; rfl)
      obtain ⟨t', u', T', w', rfl, st', iu', _⟩ := rd_at (ix'.to (Same.tm sm))
      have z' := (R.sz r' (List.mem_of_getElem? hc')).2.2
      refine iteT ⟨_, rfl, _, rfl, _, _, rfl, rfl, M, _, _, _, rfl, rfl, SqL.of hM', at_of (j := i - 1) (by omega) hx', t', _, 0, _, rfl, rfl, st', rfl, _, rfl, u', .ref tu, r'.v, r.v, rfl, iu', iu, z'.mono (by decide), zv.mono (by decide), _, rfl, ?_⟩
      rw [show decide (r'.v < r.v) = false from decide_eq_false (by grind)]
      refine iteF ?_
    all_goals
      refine ⟨_, rfl, .inl ⟨rfl, _, SqL.of hN⟩, ?_⟩
      refine ⟨_, rfl, T, _, rfl, .inr sT, fun D1 nD1 => ?_⟩
      have sD1 := same_upd (o := .lst (r.ns.map V.str)) nD1
      have nl := names_len R i
      refine ⟨Nm, D1, _, _, rfl, rfl, sD1 _ _ hN, upd_same, small5 (by rw [List.length_map, List.length_map]; omega), ?_⟩
      have hN1 := sD1 _ _ hN
      have tx := (Same.tm sD1).trans (Tm.lst (ys := ((l.take i).flatMap (·.ns)).map V.str ++ r.ns.map V.str) hN1)
      have Sx := Z.Same.mut (o := .lst (((l.take i).flatMap (·.ns)).map V.str ++ r.ns.map V.str)) (sm.trans sD1) nNm
      have hNx : (upd (upd H' D1 (.lst (r.ns.map V.str))) Nm (.lst (((l.take i).flatMap (·.ns)).map V.str ++ r.ns.map V.str))) Nm = some (.lst (((l.take (i + 1)).flatMap (·.ns)).map V.str)) := by
        rw [upd_same, et, List.flatMap_append, List.map_append, List.flatMap_cons, List.flatMap_nil, List.append_nil]
      have hSx : (upd (upd H' D1 (.lst (r.ns.map V.str))) Nm (.lst (((l.take i).flatMap (·.ns)).map V.str ++ r.ns.map V.str))) Sn = some (.lst cs) := by rw [upd_ne (Ne.symm nNS)]; exact sD1 _ _ hSn
      generalize upd (upd H' D1 (.lst (r.ns.map V.str))) Nm (.lst (((l.take i).flatMap (·.ns)).map V.str ++ r.ns.map V.str)) = Hx at tx Sx hNx hSx
      -- spans
      refine ⟨_, rfl, .inl ⟨rfl, _, SqL.of hSx⟩, ?_⟩
      refine ⟨_, rfl, T2, _, rfl, .inr (Tm.sq tx sT2), fun D2 nD2 => ?_⟩
      have sD2 := same_upd (o := .lst ts) nD2
      have lts : ts.length = r.ts.length := by rw [aT2.len, List.length_map]
      have hS2 := sD2 _ _ hSx
      refine ⟨Sn, D2, _, _, rfl, rfl, hS2, upd_same, small5 (by show cs.length + ts.length ≤ 100000; omega), ?_⟩
      have ty := (tx.trans (Same.tm sD2)).trans (Tm.lst (ys := cs ++ ts) hS2)
      have Sy := Z.Same.mut (o := .lst (cs ++ ts)) (Sx.trans sD2) nSn5
      have hNy : (upd (upd Hx D2 (.lst ts)) Sn (.lst (cs ++ ts))) Nm = some (.lst (((l.take (i + 1)).flatMap (·.ns)).map V.str)) := by rw [upd_ne nNS]; exact sD2 _ _ hNx
      have hSy : (upd (upd Hx D2 (.lst ts)) Sn (.lst (cs ++ ts))) Sn = some (.lst (cs ++ ts)) := upd_same
      generalize upd (upd Hx D2 (.lst ts)) Sn (.lst (cs ++ ts)) = Hy at ty Sy hNy hSy
      have iSy : IsA K Hy (cs ++ ts) (((l.take (i + 1)).flatMap (·.ts)).map dPt) := by
        rw [et, List.flatMap_append, List.map_append, List.flatMap_cons, List.flatMap_nil, List.append_nil]
        exact (iS.to ty).append (aT2.to ty)
      have sT2y := Tm.sq ty sT2
      have aT2y := aT2.to ty
      have hJy := Sy _ _ hJ5
      have hIy := hI5.to (Same.tm Sy)
      -- length
      refine ⟨_, rfl, T2, rfl, ⟨_, sT2y⟩, fun D3 hD3 => ?_⟩
      refine lc_tup (xs := ts) (fun m H8 => Same Hy H8 ∧ H8 D3 = some (.lst (((r.ts.take m).map fun t => t.2 - t.1).map V.int))) ⟨same_upd hD3, upd_same⟩ (fun m H8 _ h => Tm.sq (Same.tm h.1) sT2y) ?_ ?_
      · rintro m x H8 hx ⟨s8, hc8⟩
        obtain ⟨d, hd, ix⟩ := aT2y.at hx
        obtain ⟨c, hcc, rfl⟩ := getJ hd
        have il2 : m < r.ts.length := (List.getElem?_eq_some_iff.mp hcc).1
        obtain ⟨tc, rfl, stc⟩ := pt_at (ix.to (Same.tm s8))
        refine ⟨tc, _, rfl, stc, rfl, .int c.1, _, rfl, .int c.2, _, rfl, rfl, rfl, _, rfl, _, rfl, _, _, rfl, rfl, _, hc8, small5' (by rw [List.length_map, List.length_map, List.length_take]; omega), Z.Same.mut s8 hD3, ?_⟩
        rw [upd_same, List.take_add_one, hcc]
        simp only [Option.toList, List.map_append, List.map_cons, List.map_nil]
      rintro H8 ⟨s8, hc8⟩
      rw [lts, List.take_length] at hc8
      refine ⟨D3, _, rfl, SqL.of hc8, ?_⟩
      rw [show ((r.ts.map fun t => t.2 - t.1).sum) = sumF r.ts from rfl]
      have hJ8 := s8 _ _ hJy
      have sT8 := Tm.sq (ty.trans (Same.tm s8)) sT
      -- work
      refine ⟨_, rfl, J, rfl, ⟨_, SqT.of hJ8⟩, fun D4 hD4 => ?_⟩
      refine lc_tup (xs := jx) (fun m H9 => Same H8 H9 ∧ H9 D4 = some (.lst ((workJ (js.take m) r.ns).map V.int)) ∧ (workJ (js.take m) r.ns).length ≤ m) ⟨same_upd hD4, upd_same, Nat.le_refl _⟩ (fun m H9 _ h => SqT.of (h.1 _ _ hJ8)) ?_ ?_
      · rintro m x H9 hx ⟨s9, hc9, hcl⟩
        obtain ⟨d, hd, ix⟩ := hIy.at hx
        obtain ⟨j, hjj, rfl⟩ := getJ hd
        have il3 : m < js.length := (List.getElem?_eq_some_iff.mp hjj).1
        obtain ⟨tj, rfl, sj⟩ := job_at (ix.to (Same.tm (s8.trans s9)))
        have ew : workJ (js.take (m + 1)) r.ns = workJ (js.take m) r.ns ++ if j.n ∈ r.ns then [j.w] else [] := by
          rw [List.take_add_one, hjj]
          unfold workJ
          rw [List.filter_append, List.map_append]
          congr 1
          by_cases h : j.n ∈ r.ns
          · rw [if_pos h]; show (List.filter _ [j]).map _ = _; rw [List.filter_cons_of_pos (by exact decide_eq_true h)]; rfl
          · rw [if_neg h]; show (List.filter _ [j]).map _ = _; rw [List.filter_cons_of_neg (by rw [decide_eq_false h]; decide)]; rfl
        refine ⟨rfl, _, rfl, tj, _, 0, _, rfl, rfl, sj, rfl, _, rfl, T, _, rfl, .inr (Tm.sq (Same.tm s9) sT8), rfl, flat_strs2 _, _, rfl, ?_⟩
        rw [inV_strs, ew]
        by_cases e : j.n ∈ r.ns
        · rw [decide_eq_true e, if_pos e]
          refine iteT ⟨_, rfl, tj, _, 3, _, rfl, rfl, sj, rfl, _, hc9, small5' (by rw [List.length_map]; omega), Z.Same.mut s9 hD4, ?_, by rw [List.length_append]; exact Nat.succ_le_succ hcl⟩
          rw [upd_same, List.map_append]
          rfl
        · rw [decide_eq_false e, if_neg e, List.append_nil]
          exact iteF ⟨s9, hc9, by omega⟩
      rintro H9 ⟨s9, hc9, _⟩
      rw [lx, List.take_length] at hc9
      refine ⟨D4, _, rfl, SqL.of hc9, ?_⟩
      obtain ⟨w0, w1⟩ := workJ_bd hj.ok (by omega) r.ns
      obtain ⟨p0, wk⟩ := R.work r rm
      rw [workJ_sum] at wk
      have tl := R.tl r rm
      have eq := num_eq wk p0
      have s89 := s8.trans s9
      have su9 := Tm.sq (ty.trans (Same.tm s89)) su
      refine ⟨_, rfl, tu, _, 0, _, rfl, rfl, su9, rfl, _, rfl, _, _, rfl, rfl, mulR (by omega), _, rfl, _, rfl, tu, _, 1, _, rfl, rfl, su9, rfl, _, _, rfl, rfl, mulL (by omega), ?_⟩
      refine ⟨rfl, _, rfl, ite2 (fun e => ?_) (fun e => ?_)⟩
      · rw [decide_eq_true (congrArg V.int eq)] at e
        cases e
      refine ⟨_, rfl, _, _, rfl, rfl, _, rfl, ite2 (fun e => ?_) (fun e => ?_)⟩
      · exact absurd (of_decide_eq_true e : sumF r.ts ≤ 0) (by omega)
      exact ⟨_, _, _, _, _, _, cs ++ ts, rfl, Sy.trans s89, s89 _ _ hNy, s89 _ _ hSy, iSy.to (Same.tm s89), by rw [List.length_append]; omega⟩
  · rintro σ' H' ⟨y6, y7, y8, y9, y10, y11, cs, rfl, sm, hN, hSn, iS, cl⟩
    rw [show ((ys.length : Int)).toNat = l.length by omega, List.take_length] at hN iS
    have hJ' := sm _ _ hJ5
    have hI' := hI5.to (Same.tm sm)
    have nl := R.names.length_eq
    rw [List.length_map] at nl
    refine ⟨_, rfl, Nm, l.flatMap (·.ns), rfl, SqL.of hN, by omega, fun ys1 p1 perm1 srt1 np1 => ?_⟩
    have sp1 := same_upd (o := .lst (ys1.map V.str)) np1
    have hp1 : (upd H' p1 (.lst (ys1.map V.str))) p1 = some (.lst (ys1.map V.str)) := upd_same
    have hSn1 := sp1 _ _ hSn
    have iS1 := iS.to (Same.tm sp1)
    have hJ1 := sp1 _ _ hJ'
    have hI1 := hI'.to (Same.tm sp1)
    have sm1 := sm.trans sp1
    generalize upd H' p1 (.lst (ys1.map V.str)) = Ha at hp1 hSn1 iS1 hJ1 hI1 sm1
    refine ⟨_, rfl, J, rfl, ⟨_, SqT.of hJ1⟩, fun D hD => ?_⟩
    refine lc_tup (xs := jx) (fun m H9 => Same Ha H9 ∧ H9 D = some (.lst (((js.take m).map (·.n)).map V.str))) ⟨same_upd hD, upd_same⟩ (fun m H9 _ h => SqT.of (h.1 _ _ hJ1)) ?_ ?_
    · rintro m x H9 hx ⟨s9, hc9⟩
      obtain ⟨d, hd, ix⟩ := hI1.at hx
      obtain ⟨j, hjj, rfl⟩ := getJ hd
      have il3 : m < js.length := (List.getElem?_eq_some_iff.mp hjj).1
      obtain ⟨tj, rfl, sj⟩ := job_at (ix.to (Same.tm s9))
      refine ⟨rfl, _, rfl, tj, _, 0, _, rfl, rfl, sj, rfl, _, hc9, small5' (by rw [List.length_map, List.length_map, List.length_take]; omega), Z.Same.mut s9 hD, ?_⟩
      rw [upd_same, List.take_add_one, hjj]
      simp only [Option.toList, List.map_append, List.map_cons, List.map_nil]
    rintro Hb ⟨sb, hcb⟩
    rw [lx, List.take_length] at hcb
    refine ⟨D, js.map (·.n), rfl, SqL.of hcb, by rw [List.length_map]; omega, fun ys2 p2 perm2 srt2 np2 => ?_⟩
    have ey : ys1 = ys2 := sortedS_uniq srt1 srt2 (perm1.trans (R.names.trans perm2.symm))
    have okn : ∀ n ∈ ys2, PyData.strOk n = true := fun n hn => by
      obtain ⟨j, hm, rfl⟩ := List.mem_map.mp (perm2.mem_iff.mp hn)
      obtain ⟨k, hk⟩ := List.getElem?_of_mem hm
      exact nm_str (hj.nm k j hk)
    have l2 : ys2.length ≤ 1000 := by rw [perm2.length_eq, List.length_map]; omega
    subst ey
    have sp2 := same_upd (o := .lst (ys1.map V.str)) np2
    have sh := shaped_strs okn l2
    refine ⟨.list (ys1.map PyData.str), .list (ys1.map PyData.str), .lst (SqL.of ((sb.trans sp2) _ _ hp1)) (IsA.dp _ (strs_are _)), .lst (SqL.of upd_same) (IsA.dp _ (strs_are _)), sh, sh, _, rfl, ?_⟩
    rw [PySem.SeqAt.eqv_refl _ (by rw [PyData.canLay0]; exact lay_strs okn)]
    refine iteF ?_
    have sbc := sb.trans sp2
    have hSn2 := sbc _ _ hSn1
    have iS2 := iS1.to (Same.tm sbc)
    have hJ2 := sbc _ _ hJ1
    have hI2 := hI1.to (Same.tm sbc)
    have sm2 := sm1.trans sbc
    generalize upd Hb p2 (.lst (ys1.map V.str)) = Hc at hSn2 iS2 hJ2 hI2 sm2
    have lcs' : cs.length = (l.flatMap (·.ts)).length := by rw [iS2.len, List.length_map]
    refine ⟨_, rfl, Sn, cs, l.flatMap (·.ts), rfl, SqL.of hSn2, lcs', fun i x c hx hc => ?_, fun zs T p3 perm3 srt3 lz pz np3 => ?_⟩
    · obtain ⟨d, hd, ix⟩ := iS2.at hx
      rw [List.getElem?_map, hc] at hd
      obtain rfl := Option.some.inj hd
      exact pt_at ix
    have sp3 := same_upd (o := .lst zs) np3
    have hz3 : (upd Hc p3 (.lst zs)) p3 = some (.lst zs) := upd_same
    have hJ3 := sp3 _ _ hJ2
    have hI3 := hI2.to (Same.tm sp3)
    have sm3 := sm2.trans sp3
    have pz3 : ∀ (i : Nat) x c, zs[i]? = some x → T[i]? = some c → ∃ t, x = V.ref t ∧ SqT K (upd Hc p3 (.lst zs)) t [.int c.1, .int c.2] := fun i x c hx hc => by
      obtain ⟨t, e, h⟩ := pz i x c hx hc
      exact ⟨t, e, Tm.sq (Same.tm sp3) h⟩
    generalize upd Hc p3 (.lst zs) = Hd at hz3 hJ3 hI3 sm3 pz3
    have zl : zs.length ≤ 1000 * 12 := by
      have h1 := perm3.length_eq
      omega
    refine ⟨_, rfl, p3, zs, rfl, .inl (SqL.of hz3), _, _, rfl, rfl, ?_⟩
    refine ⟨_, rfl, by omega, by omega, for_range (lo := 0) (fun i σ' H'' => ∃ (y6 : Option V), σ' = [some (.ref a), some (.ref p), some (.ref J), some (.ref M), some (.ref Nm), some (.ref p3), y6, y7, y8, y9, y10, y11, none, none, none] ∧ Same Hd H'') ⟨y6, rfl, Same.refl _⟩ ?_ ?_⟩
    · rintro i σ' H'' hi ⟨y6, rfl, s''⟩
      have l1 : i < zs.length := by omega
      have l2 : i + 1 < zs.length := by omega
      have g1 := List.getElem?_eq_getElem l1
      have g2 := List.getElem?_eq_getElem l2
      have c1 := List.getElem?_eq_getElem (show i < T.length by omega)
      have c2 := List.getElem?_eq_getElem (show i + 1 < T.length by omega)
      obtain ⟨t1, e1, st1⟩ := pz3 _ _ _ g1 c1
      obtain ⟨t2, e2, st2⟩ := pz3 _ _ _ g2 c2
      rw [e1] at g1
      rw [e2] at g2
      have le := spans_next perm3 R.apart R.pos srt3 c1 c2
      have z'' := s'' _ _ hz3
      have st1 := Tm.sq (Same.tm s'') st1
      have st2 := Tm.sq (Same.tm s'') st2
      refine ⟨_, rfl, _, rfl, p3, _, _, _, rfl, rfl, SqL.of z'', at_of (j := i) (by omega) g1, t1, _, 1, _, rfl, rfl, st1, rfl, ?_⟩
      refine ⟨_, rfl, _, rfl, _, _, rfl, rfl, p3, _, _, _, rfl, rfl, SqL.of z'', at_of (j := i + 1) (by omega) g2, t2, _, 0, _, rfl, rfl, st2, rfl, _, _, rfl, rfl, _, rfl, ite2 (fun e => ?_) (fun e => ?_)⟩
      · exact absurd (of_decide_eq_true e) (by omega)
      exact ⟨_, rfl, s''⟩
    · rintro σ' H'' ⟨y6, rfl, s''⟩
      have hJ4 := s'' _ _ hJ3
      have hI4 := hI3.to (Same.tm s'')
      have sm4 := sm3.trans s''
      refine ⟨_, rfl, J, rfl, ⟨_, SqT.of hJ4⟩, fun D2 hD2 => ?_⟩
      refine lc_tup (xs := jx) (fun m H9 => Same H'' H9 ∧ H9 D2 = some (.lst [])) ⟨same_upd hD2, upd_same⟩ (fun m H9 _ h => SqT.of (h.1 _ _ hJ4)) ?_ ?_
      · rintro m x H9 hx ⟨s9, hc9⟩
        obtain ⟨d, hd, ix⟩ := hI4.at hx
        obtain ⟨j, hjj, rfl⟩ := getJ hd
        have ixj := ix.to (Same.tm s9)
        obtain ⟨tj, rfl, sj⟩ := job_at ixj
        obtain ⟨v, hv, cv⟩ := R.cov j (List.mem_of_getElem? hjj)
        have sm9 := sm4.trans s9
        refine ⟨rfl, _, rfl, _, rfl, M, .ref tj, ys, l, j, v, rfl, sm9 _ _ hM, iM.to (Same.tm sm9), ixj, hv, hll, fun r hr => ⟨(R.sz r hr).2.1, (R.sz r hr).2.2⟩, fun H10 s10 => ?_⟩
        have sj10 := Tm.sq (Same.tm s10) sj
        refine ⟨_, rfl, tj, _, 2, _, rfl, rfl, sj10, rfl, _, rfl, tj, _, 1, _, rfl, rfl, sj10, rfl, _, _, rfl, rfl, rfl, _, rfl, ite2 (fun e => ?_) (fun e => ?_)⟩
        · rw [cv, decide_eq_true rfl] at e
          cases e
        exact ⟨s9.trans s10, s10 _ _ hc9⟩
      rintro H9 ⟨s9, hc9⟩
      refine ⟨D2, [], rfl, .inl (SqL.of hc9), rfl, ?_⟩
      exact q _

theorem all {flaw : Addr} {fdlaw : FuncData} (B : BI mg) (B2 : BJ mg) (mGcd : mg "gcd" = some (.builtin "math.gcd")) (Z : GZ K mg) (Fratio : AtD K mg "ratio" sratio ["top", "bottom"] [.int 1]) (Fplus : At K mg "plus" splus ["a", "b"]) (Fover : At K mg "over" sover ["a", "b"]) (Fless : At K mg "less" sless ["a", "b"]) (Ftotal : At K mg "total" stotal ["ratios"]) (Fwith_ratios : At K mg "with_ratios" swith_ratios ["jobs"]) (Fall_time : At K mg "all_time" sall_time ["jobs"]) (Ffree_between : At K mg "free_between" sfree_between ["free", "begin", "end"]) (Ffree_outside : At K mg "free_outside" sfree_outside ["free", "begin", "end"]) (Ffree_length : At K mg "free_length" sfree_length ["free", "begin", "end"]) (Ffree_windows : At K mg "free_windows" sfree_windows ["jobs", "free"]) (Flies_in : At K mg "lies_in" slies_in ["window", "a", "b"]) (Fdensity : At K mg "density" sdensity ["windows", "free", "a", "b"]) (Fdensest : At K mg "densest" sdensest ["windows", "free"]) (Frounds_of : At K mg "rounds_of" srounds_of ["jobs"]) (Frounds : At K mg "rounds" srounds ["jobs"]) (F_law_pool : At K mg "_law_pool" s_law_pool ["script"]) (F_law_draw : At K mg "_law_draw" s_law_draw ["pool", "many"]) (F_law_less : At K mg "_law_less" s_law_less ["a", "b"]) (F_law_name : At K mg "_law_name" s_law_name ["pool", "index"]) (F_law_window : At K mg "_law_window" s_law_window ["pool", "wide"]) (F_law_jobs : At K mg "_law_jobs" s_law_jobs ["pool", "most"]) (F_law_covered : At K mg "_law_covered" s_law_covered ["found", "job"]) (Flaw : Fun K "law" "law" slaw flaw fdlaw) : FnOk P w K mg base CX0 8 flaw fdlaw ["script"] (spLaw K) := by
  have C_draw := ok_law_draw (P := P) (w := w) (base := base) B F_law_draw
  have C_less := ok_less (P := P) (w := w) (base := base) B Fless
  have D_less := ok_law_less (P := P) (w := w) (base := base) B F_law_less
  have R := ok_ratio (P := P) (w := w) (base := base) B Fratio mGcd
  have C_plus := ok_plus B Fplus R.1
  have C_over := ok_over B Fover R.1
  have C_bet := ok_free_between (P := P) (w := w) (base := base) B B2 Ffree_between
  have C_lies := ok_lies_in (P := P) (w := w) (base := base) B Flies_in
  have C_dens := ok_densest B B2 Z Fdensest (ok_density B Z Fdensity C_lies (ok_free_length B Ffree_length C_bet) R.2 C_over (ok_totalL B Z Ftotal C_plus)) C_less
  exact oklaw B B2 Flaw (ok_law_pool B F_law_pool) (ok_law_jobs B F_law_jobs C_draw (ok_law_window B F_law_window C_draw) (ok_law_name B F_law_name C_draw))
    (ok_rounds B Frounds (ok_with_ratios B Fwith_ratios R.2) (ok_rounds_of B Z Frounds_of (ok_all_time B B2 Fall_time) (ok_free_windows B Ffree_windows C_bet) C_dens C_lies C_bet (ok_free_outside B Ffree_outside C_bet)))
    D_less (ok_law_covered B B2 F_law_covered D_less)
end
theorem all_mk {l : PySem.W.OpenLaw} {w : World} {K : PySem.W.Frag} {h : Heap} {mg : Str → Option Value} {fa f1 f2 f3 f4 f5 f6 f7 f8 f9 f10 f11 f12 f13 f14 f15 f16 f17 f18 f19 f20 f21 f22 f23 f24 : Addr} (X : K.In h) (G : h.Ns mainGlobals mg) (hfa : mg "law" = some (.ref fa))
    {od1 an1 od2 an2 od3 an3 od4 an4 od5 an5 od6 an6 od7 an7 od8 an8 od9 an9 od10 an10 od11 an11 od12 an12 od13 an13 od14 an14 od15 an15 od16 an16 od17 an17 od18 an18 od19 an19 od20 an20 od21 an21 od22 an22 od23 an23 od24 an24 : Option Addr} {sl1 sl2 sl3 sl4 sl5 sl6 sl7 sl8 sl9 sl10 sl11 sl12 sl13 sl14 sl15 sl16 sl17 sl18 sl19 sl20 sl21 sl22 sl23 sl24 : Array (Option Value)} {oc1 kV1 dc1 pm1 cd1 ct1 oc2 kV2 dc2 pm2 cd2 ct2 oc3 kV3 dc3 pm3 cd3 ct3 oc4 kV4 dc4 pm4 cd4 ct4 oc5 kV5 dc5 pm5 cd5 ct5 oc6 kV6 dc6 pm6 cd6 ct6 oc7 kV7 dc7 pm7 cd7 ct7 oc8 kV8 dc8 pm8 cd8 ct8 oc9 kV9 dc9 pm9 cd9 ct9 oc10 kV10 dc10 pm10 cd10 ct10 oc11 kV11 dc11 pm11 cd11 ct11 oc12 kV12 dc12 pm12 cd12 ct12 oc13 kV13 dc13 pm13 cd13 ct13 oc14 kV14 dc14 pm14 cd14 ct14 oc15 kV15 dc15 pm15 cd15 ct15 oc16 kV16 dc16 pm16 cd16 ct16 oc17 kV17 dc17 pm17 cd17 ct17 oc18 kV18 dc18 pm18 cd18 ct18 oc19 kV19 dc19 pm19 cd19 ct19 oc20 kV20 dc20 pm20 cd20 ct20 oc21 kV21 dc21 pm21 cd21 ct21 oc22 kV22 dc22 pm22 cd22 ct22 oc23 kV23 dc23 pm23 cd23 ct23 oc24 kV24 dc24 pm24 cd24 ct24 : Value}
    {T1 : Addr} {ocT1 : Value} {odT1 : Option Addr} {nT1 : Nat} {slT1 : Array (Option Value)} {tk1 : Tok} (lT1 : K.lookup T1 = some ⟨ocT1, odT1, .seq #[.int 1 tk1] nT1, slT1⟩)
    (a1 : PySem.W.nsIn K mainGlobals "ratio" = some (some (.ref f1))) (l1 : K.lookup f1 = some ⟨oc1, od1, .func (PySem.W.fnOf "ratio" "ratio" (defArgs sratio) (defBody sratio) (defScope sratio) (.ref T1) kV1 dc1 pm1 an1 cd1 ct1), sl1⟩) (c1 : PySem.W.codeIn K cd1 "ratio" = true) (k1 : PySem.W.keepIn K (.ref f1) = true)
    (a2 : PySem.W.nsIn K mainGlobals "plus" = some (some (.ref f2))) (l2 : K.lookup f2 = some ⟨oc2, od2, .func (PySem.W.fnOf "plus" "plus" (defArgs splus) (defBody splus) (defScope splus) .none kV2 dc2 pm2 an2 cd2 ct2), sl2⟩) (c2 : PySem.W.codeIn K cd2 "plus" = true) (k2 : PySem.W.keepIn K (.ref f2) = true)
    (a3 : PySem.W.nsIn K mainGlobals "over" = some (some (.ref f3))) (l3 : K.lookup f3 = some ⟨oc3, od3, .func (PySem.W.fnOf "over" "over" (defArgs sover) (defBody sover) (defScope sover) .none kV3 dc3 pm3 an3 cd3 ct3), sl3⟩) (c3 : PySem.W.codeIn K cd3 "over" = true) (k3 : PySem.W.keepIn K (.ref f3) = true)
    (a4 : PySem.W.nsIn K mainGlobals "less" = some (some (.ref f4))) (l4 : K.lookup f4 = some ⟨oc4, od4, .func (PySem.W.fnOf "less" "less" (defArgs sless) (defBody sless) (defScope sless) .none kV4 dc4 pm4 an4 cd4 ct4), sl4⟩) (c4 : PySem.W.codeIn K cd4 "less" = true) (k4 : PySem.W.keepIn K (.ref f4) = true)
    (a5 : PySem.W.nsIn K mainGlobals "total" = some (some (.ref f5))) (l5 : K.lookup f5 = some ⟨oc5, od5, .func (PySem.W.fnOf "total" "total" (defArgs stotal) (defBody stotal) (defScope stotal) .none kV5 dc5 pm5 an5 cd5 ct5), sl5⟩) (c5 : PySem.W.codeIn K cd5 "total" = true) (k5 : PySem.W.keepIn K (.ref f5) = true)
    (a6 : PySem.W.nsIn K mainGlobals "with_ratios" = some (some (.ref f6))) (l6 : K.lookup f6 = some ⟨oc6, od6, .func (PySem.W.fnOf "with_ratios" "with_ratios" (defArgs swith_ratios) (defBody swith_ratios) (defScope swith_ratios) .none kV6 dc6 pm6 an6 cd6 ct6), sl6⟩) (c6 : PySem.W.codeIn K cd6 "with_ratios" = true) (k6 : PySem.W.keepIn K (.ref f6) = true)
    (a7 : PySem.W.nsIn K mainGlobals "all_time" = some (some (.ref f7))) (l7 : K.lookup f7 = some ⟨oc7, od7, .func (PySem.W.fnOf "all_time" "all_time" (defArgs sall_time) (defBody sall_time) (defScope sall_time) .none kV7 dc7 pm7 an7 cd7 ct7), sl7⟩) (c7 : PySem.W.codeIn K cd7 "all_time" = true) (k7 : PySem.W.keepIn K (.ref f7) = true)
    (a8 : PySem.W.nsIn K mainGlobals "free_between" = some (some (.ref f8))) (l8 : K.lookup f8 = some ⟨oc8, od8, .func (PySem.W.fnOf "free_between" "free_between" (defArgs sfree_between) (defBody sfree_between) (defScope sfree_between) .none kV8 dc8 pm8 an8 cd8 ct8), sl8⟩) (c8 : PySem.W.codeIn K cd8 "free_between" = true) (k8 : PySem.W.keepIn K (.ref f8) = true)
    (a9 : PySem.W.nsIn K mainGlobals "free_outside" = some (some (.ref f9))) (l9 : K.lookup f9 = some ⟨oc9, od9, .func (PySem.W.fnOf "free_outside" "free_outside" (defArgs sfree_outside) (defBody sfree_outside) (defScope sfree_outside) .none kV9 dc9 pm9 an9 cd9 ct9), sl9⟩) (c9 : PySem.W.codeIn K cd9 "free_outside" = true) (k9 : PySem.W.keepIn K (.ref f9) = true)
    (a10 : PySem.W.nsIn K mainGlobals "free_length" = some (some (.ref f10))) (l10 : K.lookup f10 = some ⟨oc10, od10, .func (PySem.W.fnOf "free_length" "free_length" (defArgs sfree_length) (defBody sfree_length) (defScope sfree_length) .none kV10 dc10 pm10 an10 cd10 ct10), sl10⟩) (c10 : PySem.W.codeIn K cd10 "free_length" = true) (k10 : PySem.W.keepIn K (.ref f10) = true)
    (a11 : PySem.W.nsIn K mainGlobals "free_windows" = some (some (.ref f11))) (l11 : K.lookup f11 = some ⟨oc11, od11, .func (PySem.W.fnOf "free_windows" "free_windows" (defArgs sfree_windows) (defBody sfree_windows) (defScope sfree_windows) .none kV11 dc11 pm11 an11 cd11 ct11), sl11⟩) (c11 : PySem.W.codeIn K cd11 "free_windows" = true) (k11 : PySem.W.keepIn K (.ref f11) = true)
    (a12 : PySem.W.nsIn K mainGlobals "lies_in" = some (some (.ref f12))) (l12 : K.lookup f12 = some ⟨oc12, od12, .func (PySem.W.fnOf "lies_in" "lies_in" (defArgs slies_in) (defBody slies_in) (defScope slies_in) .none kV12 dc12 pm12 an12 cd12 ct12), sl12⟩) (c12 : PySem.W.codeIn K cd12 "lies_in" = true) (k12 : PySem.W.keepIn K (.ref f12) = true)
    (a13 : PySem.W.nsIn K mainGlobals "density" = some (some (.ref f13))) (l13 : K.lookup f13 = some ⟨oc13, od13, .func (PySem.W.fnOf "density" "density" (defArgs sdensity) (defBody sdensity) (defScope sdensity) .none kV13 dc13 pm13 an13 cd13 ct13), sl13⟩) (c13 : PySem.W.codeIn K cd13 "density" = true) (k13 : PySem.W.keepIn K (.ref f13) = true)
    (a14 : PySem.W.nsIn K mainGlobals "densest" = some (some (.ref f14))) (l14 : K.lookup f14 = some ⟨oc14, od14, .func (PySem.W.fnOf "densest" "densest" (defArgs sdensest) (defBody sdensest) (defScope sdensest) .none kV14 dc14 pm14 an14 cd14 ct14), sl14⟩) (c14 : PySem.W.codeIn K cd14 "densest" = true) (k14 : PySem.W.keepIn K (.ref f14) = true)
    (a15 : PySem.W.nsIn K mainGlobals "rounds_of" = some (some (.ref f15))) (l15 : K.lookup f15 = some ⟨oc15, od15, .func (PySem.W.fnOf "rounds_of" "rounds_of" (defArgs srounds_of) (defBody srounds_of) (defScope srounds_of) .none kV15 dc15 pm15 an15 cd15 ct15), sl15⟩) (c15 : PySem.W.codeIn K cd15 "rounds_of" = true) (k15 : PySem.W.keepIn K (.ref f15) = true)
    (a16 : PySem.W.nsIn K mainGlobals "rounds" = some (some (.ref f16))) (l16 : K.lookup f16 = some ⟨oc16, od16, .func (PySem.W.fnOf "rounds" "rounds" (defArgs srounds) (defBody srounds) (defScope srounds) .none kV16 dc16 pm16 an16 cd16 ct16), sl16⟩) (c16 : PySem.W.codeIn K cd16 "rounds" = true) (k16 : PySem.W.keepIn K (.ref f16) = true)
    (a17 : PySem.W.nsIn K mainGlobals "_law_pool" = some (some (.ref f17))) (l17 : K.lookup f17 = some ⟨oc17, od17, .func (PySem.W.fnOf "_law_pool" "_law_pool" (defArgs s_law_pool) (defBody s_law_pool) (defScope s_law_pool) .none kV17 dc17 pm17 an17 cd17 ct17), sl17⟩) (c17 : PySem.W.codeIn K cd17 "_law_pool" = true) (k17 : PySem.W.keepIn K (.ref f17) = true)
    (a18 : PySem.W.nsIn K mainGlobals "_law_draw" = some (some (.ref f18))) (l18 : K.lookup f18 = some ⟨oc18, od18, .func (PySem.W.fnOf "_law_draw" "_law_draw" (defArgs s_law_draw) (defBody s_law_draw) (defScope s_law_draw) .none kV18 dc18 pm18 an18 cd18 ct18), sl18⟩) (c18 : PySem.W.codeIn K cd18 "_law_draw" = true) (k18 : PySem.W.keepIn K (.ref f18) = true)
    (a19 : PySem.W.nsIn K mainGlobals "_law_less" = some (some (.ref f19))) (l19 : K.lookup f19 = some ⟨oc19, od19, .func (PySem.W.fnOf "_law_less" "_law_less" (defArgs s_law_less) (defBody s_law_less) (defScope s_law_less) .none kV19 dc19 pm19 an19 cd19 ct19), sl19⟩) (c19 : PySem.W.codeIn K cd19 "_law_less" = true) (k19 : PySem.W.keepIn K (.ref f19) = true)
    (a20 : PySem.W.nsIn K mainGlobals "_law_name" = some (some (.ref f20))) (l20 : K.lookup f20 = some ⟨oc20, od20, .func (PySem.W.fnOf "_law_name" "_law_name" (defArgs s_law_name) (defBody s_law_name) (defScope s_law_name) .none kV20 dc20 pm20 an20 cd20 ct20), sl20⟩) (c20 : PySem.W.codeIn K cd20 "_law_name" = true) (k20 : PySem.W.keepIn K (.ref f20) = true)
    (a21 : PySem.W.nsIn K mainGlobals "_law_window" = some (some (.ref f21))) (l21 : K.lookup f21 = some ⟨oc21, od21, .func (PySem.W.fnOf "_law_window" "_law_window" (defArgs s_law_window) (defBody s_law_window) (defScope s_law_window) .none kV21 dc21 pm21 an21 cd21 ct21), sl21⟩) (c21 : PySem.W.codeIn K cd21 "_law_window" = true) (k21 : PySem.W.keepIn K (.ref f21) = true)
    (a22 : PySem.W.nsIn K mainGlobals "_law_jobs" = some (some (.ref f22))) (l22 : K.lookup f22 = some ⟨oc22, od22, .func (PySem.W.fnOf "_law_jobs" "_law_jobs" (defArgs s_law_jobs) (defBody s_law_jobs) (defScope s_law_jobs) .none kV22 dc22 pm22 an22 cd22 ct22), sl22⟩) (c22 : PySem.W.codeIn K cd22 "_law_jobs" = true) (k22 : PySem.W.keepIn K (.ref f22) = true)
    (a23 : PySem.W.nsIn K mainGlobals "_law_covered" = some (some (.ref f23))) (l23 : K.lookup f23 = some ⟨oc23, od23, .func (PySem.W.fnOf "_law_covered" "_law_covered" (defArgs s_law_covered) (defBody s_law_covered) (defScope s_law_covered) .none kV23 dc23 pm23 an23 cd23 ct23), sl23⟩) (c23 : PySem.W.codeIn K cd23 "_law_covered" = true) (k23 : PySem.W.keepIn K (.ref f23) = true)
    (a24 : PySem.W.nsIn K mainGlobals "law" = some (some (.ref f24))) (l24 : K.lookup f24 = some ⟨oc24, od24, .func (PySem.W.fnOf "law" "law" (defArgs slaw) (defBody slaw) (defScope slaw) .none kV24 dc24 pm24 an24 cd24 ct24), sl24⟩) (c24 : PySem.W.codeIn K cd24 "law" = true) (k24 : PySem.W.keepIn K (.ref f24) = true)
    (z_len : PySem.W.nsIn K mainGlobals "len" = some none)
    (z_int : PySem.W.nsIn K mainGlobals "int" = some none)
    (z_abs : PySem.W.nsIn K mainGlobals "abs" = some none)
    (z_list : PySem.W.nsIn K mainGlobals "list" = some none)
    (z_tuple : PySem.W.nsIn K mainGlobals "tuple" = some none)
    (z_range : PySem.W.nsIn K mainGlobals "range" = some none)
    (z_isinstance : PySem.W.nsIn K mainGlobals "isinstance" = some none)
    (z_str : PySem.W.nsIn K mainGlobals "str" = some none)
    (z_bool : PySem.W.nsIn K mainGlobals "bool" = some none)
    (z_sum : PySem.W.nsIn K mainGlobals "sum" = some none)
    (z_sorted : PySem.W.nsIn K mainGlobals "sorted" = some none)
    (z_enumerate : PySem.W.nsIn K mainGlobals "enumerate" = some none)
    (z_zip : PySem.W.nsIn K mainGlobals "zip" = some none)
    (z_max : PySem.W.nsIn K mainGlobals "max" = some none)
    (z_min : PySem.W.nsIn K mainGlobals "min" = some none)
    (zgcd : PySem.W.nsIn K mainGlobals "gcd" = some (some (.builtin "math.gcd")))
    {zAZERO : Addr} {zdZERO : Option Addr} {znZERO : Nat} {zsZERO : Array (Option Value)} {ztZERO zuZERO : Tok} (zgZERO : PySem.W.nsIn K mainGlobals "ZERO" = some (some (.ref zAZERO))) (zlZERO : K.lookup zAZERO = some ⟨.type "tuple", zdZERO, .seq #[.int 0 ztZERO, .int 1 zuZERO] znZERO, zsZERO⟩)
    : ∃ fd : FuncData, (∀ (s : Shared) (v : Value), BindsTo s fd ⟨[v], []⟩ [("script", v)]) ∧ ∀ base : Heap, K.In base → base.Ns mainGlobals mg → FnOk l.prog w K mg base CX0 8 fa fd ["script"] (spLaw K) := by
  have e := hfa.symm.trans (PySem.W.mg_of X G a24)
  cases e
  have B : BI mg := ⟨PySem.W.mg_none_of X G z_len, PySem.W.mg_none_of X G z_int, PySem.W.mg_none_of X G z_abs, PySem.W.mg_none_of X G z_list, PySem.W.mg_none_of X G z_tuple, PySem.W.mg_none_of X G z_range, PySem.W.mg_none_of X G z_isinstance, PySem.W.mg_none_of X G z_str, PySem.W.mg_none_of X G z_bool, PySem.W.mg_none_of X G z_sum, PySem.W.mg_none_of X G z_sorted, PySem.W.mg_none_of X G z_enumerate⟩
  have B2 : BJ mg := ⟨PySem.W.mg_none_of X G z_zip, PySem.W.mg_none_of X G z_max, PySem.W.mg_none_of X G z_min⟩
  have Uratio : FunD K "ratio" "ratio" (defArgs sratio) (defBody sratio) (defScope sratio) [.int 1] [] f1 _ := ⟨⟨_, _, _, _, _, _, _, _, _, _, rfl, l1, c1, .inr ⟨by simp, T1, _, [.int 1 tk1], nT1, rfl, lT1, rfl, .cons ⟨_, rfl⟩ .nil⟩, .inl rfl⟩, k1⟩
  have Fratio : AtD K mg "ratio" sratio ["top", "bottom"] [.int 1] := by
    obtain ⟨e1, v1, b1⟩ := Uratio.binds1 (ps := ["top", "bottom"]) 2 1 (by simp) rfl fun _ _ _ _ _ _ _ us its hl hl2 => match us, hl, its, hl2 with | [_, _], _, [_], _ => ⟨_, rfl, rfl⟩
    obtain ⟨e2, v2, b2⟩ := Uratio.binds1 (ps := ["top", "bottom"]) 1 0 (by simp) rfl fun _ _ _ _ _ _ _ us its hl hl2 => match us, hl, its, hl2 with | [_], _, [_], _ => ⟨_, rfl, rfl⟩
    have z1 : e1 = [] := by
      have q := v1.length
      exact List.eq_nil_of_length_eq_zero q.symm
    subst z1
    exact ⟨_, _, e2, Uratio, PySem.W.mg_of X G a1, b1, b2, v2⟩
  have Fplus : At K mg "plus" splus ["a", "b"] := ⟨_, _, fun_mk (st := splus) l2 c2 k2, PySem.W.mg_of X G a2, (fun_mk (st := splus) l2 c2 k2).binds (ps := ["a", "b"]) fun _ _ _ _ _ _ us hl => match us, hl with | [_, _], _ => rfl⟩
  have Fover : At K mg "over" sover ["a", "b"] := ⟨_, _, fun_mk (st := sover) l3 c3 k3, PySem.W.mg_of X G a3, (fun_mk (st := sover) l3 c3 k3).binds (ps := ["a", "b"]) fun _ _ _ _ _ _ us hl => match us, hl with | [_, _], _ => rfl⟩
  have Fless : At K mg "less" sless ["a", "b"] := ⟨_, _, fun_mk (st := sless) l4 c4 k4, PySem.W.mg_of X G a4, (fun_mk (st := sless) l4 c4 k4).binds (ps := ["a", "b"]) fun _ _ _ _ _ _ us hl => match us, hl with | [_, _], _ => rfl⟩
  have Ftotal : At K mg "total" stotal ["ratios"] := ⟨_, _, fun_mk (st := stotal) l5 c5 k5, PySem.W.mg_of X G a5, (fun_mk (st := stotal) l5 c5 k5).binds (ps := ["ratios"]) fun _ _ _ _ _ _ us hl => match us, hl with | [_], _ => rfl⟩
  have Fwith_ratios : At K mg "with_ratios" swith_ratios ["jobs"] := ⟨_, _, fun_mk (st := swith_ratios) l6 c6 k6, PySem.W.mg_of X G a6, (fun_mk (st := swith_ratios) l6 c6 k6).binds (ps := ["jobs"]) fun _ _ _ _ _ _ us hl => match us, hl with | [_], _ => rfl⟩
  have Fall_time : At K mg "all_time" sall_time ["jobs"] := ⟨_, _, fun_mk (st := sall_time) l7 c7 k7, PySem.W.mg_of X G a7, (fun_mk (st := sall_time) l7 c7 k7).binds (ps := ["jobs"]) fun _ _ _ _ _ _ us hl => match us, hl with | [_], _ => rfl⟩
  have Ffree_between : At K mg "free_between" sfree_between ["free", "begin", "end"] := ⟨_, _, fun_mk (st := sfree_between) l8 c8 k8, PySem.W.mg_of X G a8, (fun_mk (st := sfree_between) l8 c8 k8).binds (ps := ["free", "begin", "end"]) fun _ _ _ _ _ _ us hl => match us, hl with | [_, _, _], _ => rfl⟩
  have Ffree_outside : At K mg "free_outside" sfree_outside ["free", "begin", "end"] := ⟨_, _, fun_mk (st := sfree_outside) l9 c9 k9, PySem.W.mg_of X G a9, (fun_mk (st := sfree_outside) l9 c9 k9).binds (ps := ["free", "begin", "end"]) fun _ _ _ _ _ _ us hl => match us, hl with | [_, _, _], _ => rfl⟩
  have Ffree_length : At K mg "free_length" sfree_length ["free", "begin", "end"] := ⟨_, _, fun_mk (st := sfree_length) l10 c10 k10, PySem.W.mg_of X G a10, (fun_mk (st := sfree_length) l10 c10 k10).binds (ps := ["free", "begin", "end"]) fun _ _ _ _ _ _ us hl => match us, hl with | [_, _, _], _ => rfl⟩
  have Ffree_windows : At K mg "free_windows" sfree_windows ["jobs", "free"] := ⟨_, _, fun_mk (st := sfree_windows) l11 c11 k11, PySem.W.mg_of X G a11, (fun_mk (st := sfree_windows) l11 c11 k11).binds (ps := ["jobs", "free"]) fun _ _ _ _ _ _ us hl => match us, hl with | [_, _], _ => rfl⟩
  have Flies_in : At K mg "lies_in" slies_in ["window", "a", "b"] := ⟨_, _, fun_mk (st := slies_in) l12 c12 k12, PySem.W.mg_of X G a12, (fun_mk (st := slies_in) l12 c12 k12).binds (ps := ["window", "a", "b"]) fun _ _ _ _ _ _ us hl => match us, hl with | [_, _, _], _ => rfl⟩
  have Fdensity : At K mg "density" sdensity ["windows", "free", "a", "b"] := ⟨_, _, fun_mk (st := sdensity) l13 c13 k13, PySem.W.mg_of X G a13, (fun_mk (st := sdensity) l13 c13 k13).binds (ps := ["windows", "free", "a", "b"]) fun _ _ _ _ _ _ us hl => match us, hl with | [_, _, _, _], _ => rfl⟩
  have Fdensest : At K mg "densest" sdensest ["windows", "free"] := ⟨_, _, fun_mk (st := sdensest) l14 c14 k14, PySem.W.mg_of X G a14, (fun_mk (st := sdensest) l14 c14 k14).binds (ps := ["windows", "free"]) fun _ _ _ _ _ _ us hl => match us, hl with | [_, _], _ => rfl⟩
  have Frounds_of : At K mg "rounds_of" srounds_of ["jobs"] := ⟨_, _, fun_mk (st := srounds_of) l15 c15 k15, PySem.W.mg_of X G a15, (fun_mk (st := srounds_of) l15 c15 k15).binds (ps := ["jobs"]) fun _ _ _ _ _ _ us hl => match us, hl with | [_], _ => rfl⟩
  have Frounds : At K mg "rounds" srounds ["jobs"] := ⟨_, _, fun_mk (st := srounds) l16 c16 k16, PySem.W.mg_of X G a16, (fun_mk (st := srounds) l16 c16 k16).binds (ps := ["jobs"]) fun _ _ _ _ _ _ us hl => match us, hl with | [_], _ => rfl⟩
  have F_law_pool : At K mg "_law_pool" s_law_pool ["script"] := ⟨_, _, fun_mk (st := s_law_pool) l17 c17 k17, PySem.W.mg_of X G a17, (fun_mk (st := s_law_pool) l17 c17 k17).binds (ps := ["script"]) fun _ _ _ _ _ _ us hl => match us, hl with | [_], _ => rfl⟩
  have F_law_draw : At K mg "_law_draw" s_law_draw ["pool", "many"] := ⟨_, _, fun_mk (st := s_law_draw) l18 c18 k18, PySem.W.mg_of X G a18, (fun_mk (st := s_law_draw) l18 c18 k18).binds (ps := ["pool", "many"]) fun _ _ _ _ _ _ us hl => match us, hl with | [_, _], _ => rfl⟩
  have F_law_less : At K mg "_law_less" s_law_less ["a", "b"] := ⟨_, _, fun_mk (st := s_law_less) l19 c19 k19, PySem.W.mg_of X G a19, (fun_mk (st := s_law_less) l19 c19 k19).binds (ps := ["a", "b"]) fun _ _ _ _ _ _ us hl => match us, hl with | [_, _], _ => rfl⟩
  have F_law_name : At K mg "_law_name" s_law_name ["pool", "index"] := ⟨_, _, fun_mk (st := s_law_name) l20 c20 k20, PySem.W.mg_of X G a20, (fun_mk (st := s_law_name) l20 c20 k20).binds (ps := ["pool", "index"]) fun _ _ _ _ _ _ us hl => match us, hl with | [_, _], _ => rfl⟩
  have F_law_window : At K mg "_law_window" s_law_window ["pool", "wide"] := ⟨_, _, fun_mk (st := s_law_window) l21 c21 k21, PySem.W.mg_of X G a21, (fun_mk (st := s_law_window) l21 c21 k21).binds (ps := ["pool", "wide"]) fun _ _ _ _ _ _ us hl => match us, hl with | [_, _], _ => rfl⟩
  have F_law_jobs : At K mg "_law_jobs" s_law_jobs ["pool", "most"] := ⟨_, _, fun_mk (st := s_law_jobs) l22 c22 k22, PySem.W.mg_of X G a22, (fun_mk (st := s_law_jobs) l22 c22 k22).binds (ps := ["pool", "most"]) fun _ _ _ _ _ _ us hl => match us, hl with | [_, _], _ => rfl⟩
  have F_law_covered : At K mg "_law_covered" s_law_covered ["found", "job"] := ⟨_, _, fun_mk (st := s_law_covered) l23 c23 k23, PySem.W.mg_of X G a23, (fun_mk (st := s_law_covered) l23 c23 k23).binds (ps := ["found", "job"]) fun _ _ _ _ _ _ us hl => match us, hl with | [_, _], _ => rfl⟩
  have Flaw := fun_mk (st := slaw) l24 c24 k24
  refine ⟨PySem.W.fnOf "law" "law" (defArgs slaw) (defBody slaw) (defScope slaw) .none kV24 dc24 pm24 an24 cd24 ct24, fun s v => .of_eq rfl, fun base _ _ => ?_⟩
  exact all (P := l.prog) (w := w) (base := base) B B2 (PySem.W.mg_of X G zgcd) ⟨zAZERO, PySem.W.mg_of X G zgZERO, fun _ => .inr ⟨_, _, _, zlZERO, rfl, rfl, by show 2 ≤ sizeLine; decide, .cons ⟨_, rfl⟩ (.cons ⟨_, rfl⟩ .nil)⟩⟩ Fratio Fplus Fover Fless Ftotal Fwith_ratios Fall_time Ffree_between Ffree_outside Ffree_length Ffree_windows Flies_in Fdensity Fdensest Frounds_of Frounds F_law_pool F_law_draw F_law_less F_law_name F_law_window F_law_jobs F_law_covered Flaw
end Z
open PySem PySem.W PyProof.Rows
set_option maxRecDepth 100000 in
set_option maxHeartbeats 0 in
theorem PySem.Challenge.cw_sparewatts_k11_speeds_of_rounds_fall_holds : PySem.Challenge.rw_sparewatts_k11_speeds_of_rounds_fall.Holds := by
  w_on; o_law; k_head; (case hw => w_witness2)
  k_fill
  refine L2.walk_of (l := PySem.Challenge.rw_sparewatts_k11_speeds_of_rounds_fall) (n := 63) (k := 8) (x := "script") (CX := fun _ => L2.CX0) (sp := fun w => Z.spLaw _) rfl (by decide) rfl ⟨rfl, by decide, by decide⟩ (fun w h Y => PySem.W.kIn_of Y) ?F (fun _ _ a ns hl _ hS => ⟨a, ns, rfl, hS, hl, fun _ => rfl⟩) (fun _ _ _ _ _ h => h)
  case F =>
    intro w mg fa h KX G hmg
    refine' Z.all_mk KX G hmg ?lT1 ?a1 ?l1 ?c1 ?k1 ?a2 ?l2 ?c2 ?k2 ?a3 ?l3 ?c3 ?k3 ?a4 ?l4 ?c4 ?k4 ?a5 ?l5 ?c5 ?k5 ?a6 ?l6 ?c6 ?k6 ?a7 ?l7 ?c7 ?k7 ?a8 ?l8 ?c8 ?k8 ?a9 ?l9 ?c9 ?k9 ?a10 ?l10 ?c10 ?k10 ?a11 ?l11 ?c11 ?k11 ?a12 ?l12 ?c12 ?k12 ?a13 ?l13 ?c13 ?k13 ?a14 ?l14 ?c14 ?k14 ?a15 ?l15 ?c15 ?k15 ?a16 ?l16 ?c16 ?k16 ?a17 ?l17 ?c17 ?k17 ?a18 ?l18 ?c18 ?k18 ?a19 ?l19 ?c19 ?k19 ?a20 ?l20 ?c20 ?k20 ?a21 ?l21 ?c21 ?k21 ?a22 ?l22 ?c22 ?k22 ?a23 ?l23 ?c23 ?k23 ?a24 ?l24 ?c24 ?k24 ?z_len ?z_int ?z_abs ?z_list ?z_tuple ?z_range ?z_isinstance ?z_str ?z_bool ?z_sum ?z_sorted ?z_enumerate ?z_zip ?z_max ?z_min ?zgcd ?zgZERO ?zlZERO
    (case a1 => k_is)
    (case l1 => k_is)
    (case lT1 => k_is)
    (case c1 => k_is)
    (case k1 => k_is)
    (case a2 => k_is)
    (case l2 => k_is)
    (case c2 => k_is)
    (case k2 => k_is)
    (case a3 => k_is)
    (case l3 => k_is)
    (case c3 => k_is)
    (case k3 => k_is)
    (case a4 => k_is)
    (case l4 => k_is)
    (case c4 => k_is)
    (case k4 => k_is)
    (case a5 => k_is)
    (case l5 => k_is)
    (case c5 => k_is)
    (case k5 => k_is)
    (case a6 => k_is)
    (case l6 => k_is)
    (case c6 => k_is)
    (case k6 => k_is)
    (case a7 => k_is)
    (case l7 => k_is)
    (case c7 => k_is)
    (case k7 => k_is)
    (case a8 => k_is)
    (case l8 => k_is)
    (case c8 => k_is)
    (case k8 => k_is)
    (case a9 => k_is)
    (case l9 => k_is)
    (case c9 => k_is)
    (case k9 => k_is)
    (case a10 => k_is)
    (case l10 => k_is)
    (case c10 => k_is)
    (case k10 => k_is)
    (case a11 => k_is)
    (case l11 => k_is)
    (case c11 => k_is)
    (case k11 => k_is)
    (case a12 => k_is)
    (case l12 => k_is)
    (case c12 => k_is)
    (case k12 => k_is)
    (case a13 => k_is)
    (case l13 => k_is)
    (case c13 => k_is)
    (case k13 => k_is)
    (case a14 => k_is)
    (case l14 => k_is)
    (case c14 => k_is)
    (case k14 => k_is)
    (case a15 => k_is)
    (case l15 => k_is)
    (case c15 => k_is)
    (case k15 => k_is)
    (case a16 => k_is)
    (case l16 => k_is)
    (case c16 => k_is)
    (case k16 => k_is)
    (case a17 => k_is)
    (case l17 => k_is)
    (case c17 => k_is)
    (case k17 => k_is)
    (case a18 => k_is)
    (case l18 => k_is)
    (case c18 => k_is)
    (case k18 => k_is)
    (case a19 => k_is)
    (case l19 => k_is)
    (case c19 => k_is)
    (case k19 => k_is)
    (case a20 => k_is)
    (case l20 => k_is)
    (case c20 => k_is)
    (case k20 => k_is)
    (case a21 => k_is)
    (case l21 => k_is)
    (case c21 => k_is)
    (case k21 => k_is)
    (case a22 => k_is)
    (case l22 => k_is)
    (case c22 => k_is)
    (case k22 => k_is)
    (case a23 => k_is)
    (case l23 => k_is)
    (case c23 => k_is)
    (case k23 => k_is)
    (case a24 => k_is)
    (case l24 => k_is)
    (case c24 => k_is)
    (case k24 => k_is)
    (case z_len => k_is)
    (case z_int => k_is)
    (case z_abs => k_is)
    (case z_list => k_is)
    (case z_tuple => k_is)
    (case z_range => k_is)
    (case z_isinstance => k_is)
    (case z_str => k_is)
    (case z_bool => k_is)
    (case z_sum => k_is)
    (case z_sorted => k_is)
    (case z_enumerate => k_is)
    (case z_zip => k_is)
    (case z_max => k_is)
    (case z_min => k_is)
    (case zgcd => k_is)
    (case zgZERO => k_is)
    (case zlZERO => k_is)
