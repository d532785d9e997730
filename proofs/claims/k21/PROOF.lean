import PyProof.Rows.All
import Wide.All
import OpenK.AllK
import Wide.FinOn
import HandS.ForMost
import KE.GoesEnum
import HandS.DictComp
import HandS.Wide
import HandS.Gcd
import HandS.IsInst
import HandS.Defaults
import HandS.Evl
import HandS.TupAny
import HandS.Zip
import KE.KExcSuper
import KE.KFromBytes
import KE.KExcIs
import KE.KIsAll
import HandS.Base
import HandS.Call
import HandS.Exc
import HandS.ExcSuper
import HandS.ExcCtx
import HandS.HotCalls
import PyProof.FString
import PyProof.FString4
import HandS.Codes
import HandS.ExcIs
import HandS.ExcOwn
import PySem.Challenge.RW_sparewatts_k21_edits_of_a_book
set_option Elab.async false
set_option linter.all false
set_option maxRecDepth 100000
set_option maxHeartbeats 4000000
/-! Own mathematics: lowest terms, greatest common divisors. -/
namespace Z
theorem sgn_mul (b : Int) (hb : b ≠ 0) : b.sign * b = (b.natAbs : Int) := by
  rw [Int.mul_comm]
  exact Int.mul_sign_self b
/-- what both texts reckon: the two parts divided by the greatest common divisor with the sign of the second one -/
theorem nrm_eq (t b : Int) (hb : b ≠ 0) (s : Int) (hs : s = if b < 0 then -((Nat.gcd t.natAbs b.natAbs : Nat) : Int) else ((Nat.gcd t.natAbs b.natAbs : Nat) : Int)) :
    s ≠ 0 ∧ s.natAbs ≤ b.natAbs ∧ t.fdiv s = (Rat.divInt t b).num ∧ b.fdiv s = ((Rat.divInt t b).den : Int) := by
  have g0 : 0 < Nat.gcd t.natAbs b.natAbs := Nat.gcd_pos_of_pos_right _ (by omega)
  have gl : Nat.gcd t.natAbs b.natAbs ≤ b.natAbs := Nat.gcd_le_right _ (by omega)
  have ht : ((Nat.gcd t.natAbs b.natAbs : Nat) : Int) ∣ t := Int.ofNat_dvd_left.mpr (Nat.gcd_dvd_left _ _)
  have hbd : ((Nat.gcd t.natAbs b.natAbs : Nat) : Int) ∣ b := Int.ofNat_dvd_left.mpr (Nat.gcd_dvd_right _ _)
  have hn := Rat.num_divInt t b
  have hd := Rat.den_divInt t b
  have hg : b.gcd t = Nat.gcd t.natAbs b.natAbs := by rw [Int.gcd_comm]; rfl
  rw [hg] at hn hd
  rw [if_neg hb] at hd
  generalize hG : Nat.gcd t.natAbs b.natAbs = g at *
  have g1 : (g : Int) ≠ 0 := by omega
  obtain ⟨t', rfl⟩ := ht
  obtain ⟨b', rfl⟩ := hbd
  have b0 : b' ≠ 0 := by rintro rfl; simp at hb
  have hna : ((g : Int) * b').natAbs = g * b'.natAbs := by rw [Int.natAbs_mul]; rfl
  have dd : (Rat.divInt (↑g * t') (↑g * b')).den = b'.natAbs := by
    rw [hd, hna]
    exact Nat.mul_div_cancel_left _ g0
  have nn : (Rat.divInt (↑g * t') (↑g * b')).num = b'.sign * t' := by
    rw [hn, Int.sign_mul, Int.sign_eq_one_of_pos (show (0 : Int) < g by omega), Int.one_mul, Int.mul_left_comm]
    exact Int.mul_ediv_cancel_left _ g1
  by_cases hneg : (g : Int) * b' < 0
  · rw [if_pos hneg] at hs
    have hb' : b' < 0 := by
      rcases Int.lt_trichotomy b' 0 with h | h | h
      · exact h
      · exact absurd h b0
      · have := Int.mul_pos (show (0 : Int) < g by omega) h
        omega
    refine ⟨by omega, by omega, ?_, ?_⟩
    · rw [nn, hs, Int.sign_eq_neg_one_of_neg hb', show (g : Int) * t' = (-1 * t') * (-(g : Int)) by rw [Int.neg_mul, Int.one_mul, Int.neg_mul_neg, Int.mul_comm]]
      exact Int.mul_fdiv_cancel _ (by omega)
    · rw [dd, hs, show (g : Int) * b' = (-b') * (-(g : Int)) by rw [Int.neg_mul_neg, Int.mul_comm], Int.mul_fdiv_cancel _ (by omega)]
      omega
  · rw [if_neg hneg] at hs
    have hb' : 0 < b' := by
      rcases Int.lt_trichotomy b' 0 with h | h | h
      · have := Int.mul_neg_of_pos_of_neg (show (0 : Int) < g by omega) h
        omega
      · exact absurd h b0
      · exact h
    refine ⟨by omega, by omega, ?_, ?_⟩
    · rw [nn, hs, Int.sign_eq_one_of_pos hb', show (g : Int) * t' = (1 * t') * (g : Int) by rw [Int.one_mul, Int.mul_comm]]
      exact Int.mul_fdiv_cancel _ (by omega)
    · rw [dd, hs, Int.mul_comm, Int.mul_fdiv_cancel _ (by omega)]
      omega
theorem num_le (t b : Int) (hb : b ≠ 0) : (Rat.divInt t b).num.natAbs ≤ t.natAbs := by
  rw [Rat.num_divInt]
  refine Nat.le_trans (Int.natAbs_ediv_le_natAbs _ _) ?_
  rw [Int.natAbs_mul, Int.natAbs_sign_of_ne_zero hb, Nat.one_mul]
  exact Nat.le_refl _
theorem den_le (t b : Int) (hb : b ≠ 0) : (Rat.divInt t b).den ≤ b.natAbs := by
  rw [Rat.den_divInt, if_neg hb]
  exact Nat.div_le_self _ _
/-- the last word of a loop of greatest common divisors: after i turns the two numbers are small -/
def GStep (C i x y : Nat) : Prop := (1 ≤ i → y < x ∧ x * y * 2 ^ (i - 1) ≤ C) ∧ (2 ≤ i → x * 2 ^ (i - 2) ≤ C)
theorem GStep.zero {C x y : Nat} : GStep C 0 x y := ⟨by omega, by omega⟩
theorem GStep.next {i x y a b : Nat} (h : GStep (a * b) i x y) (h0 : i = 0 → x = a ∧ y = b) (hy : y ≠ 0) : GStep (a * b) (i + 1) y (x % y) := by
  have m1 : x % y < y := Nat.mod_lt _ (by omega)
  refine ⟨fun _ => ⟨m1, ?_⟩, fun h2 => ?_⟩
  · by_cases hi : i = 0
    · obtain ⟨rfl, rfl⟩ := h0 hi
      subst hi
      show y * (x % y) * 2 ^ 0 ≤ x * y
      rw [Nat.pow_zero, Nat.mul_one, Nat.mul_comm x y]
      exact Nat.mul_le_mul_left _ (Nat.mod_le _ _)
    · obtain ⟨h1, h2⟩ := h.1 (by omega)
      refine Nat.le_trans ?_ h2
      have e : i + 1 - 1 = (i - 1) + 1 := by omega
      rw [e, Nat.pow_succ]
      have k : 2 * (x % y) ≤ x := by
        have := Nat.div_add_mod x y
        have d : 1 ≤ x / y := Nat.div_pos (by omega) (by omega)
        have : y * 1 ≤ y * (x / y) := Nat.mul_le_mul_left _ d
        omega
      calc y * (x % y) * (2 ^ (i - 1) * 2) = y * (2 * (x % y)) * 2 ^ (i - 1) := by
            rw [Nat.mul_comm (2 ^ (i - 1)) 2, ← Nat.mul_assoc, Nat.mul_assoc y (x % y) 2, Nat.mul_comm (x % y) 2]
        _ ≤ y * x * 2 ^ (i - 1) := Nat.mul_le_mul_right _ (Nat.mul_le_mul_left _ k)
        _ = x * y * 2 ^ (i - 1) := by rw [Nat.mul_comm y x]
  · obtain ⟨h1, h3⟩ := h.1 (by omega)
    refine Nat.le_trans ?_ h3
    have e : i + 1 - 2 = i - 1 := by omega
    rw [e]
    refine Nat.mul_le_mul_right _ ?_
    have : 1 * y ≤ x * y := Nat.mul_le_mul_right _ (by omega)
    omega
theorem GStep.end {C n x y : Nat} (h : GStep C n x y) (hn : 2 ≤ n) (hC : C < 2 ^ (n - 2)) : False := by
  obtain ⟨h1, _⟩ := h.1 (by omega)
  have h2 := h.2 hn
  have : 1 * 2 ^ (n - 2) ≤ x * 2 ^ (n - 2) := Nat.mul_le_mul_right _ (by omega)
  omega
theorem gcd_turn (x y : Nat) : Nat.gcd y (x % y) = Nat.gcd x y := by
  rw [Nat.gcd_comm y, ← Nat.gcd_rec, Nat.gcd_comm]
theorem abs_nat (i : Int) : (if i < 0 then -i else i) = (i.natAbs : Int) := by split <;> omega
end Z

/-! Own mathematics: ratios as rational numbers, and how large they are. -/
namespace Z
def Sz (n : Nat) (q : Rat) : Prop := q.num.natAbs < 2 ^ n ∧ q.den < 2 ^ n
theorem Sz.mono {n m : Nat} {q : Rat} (h : Sz n q) (l : n ≤ m) : Sz m q :=
  ⟨Nat.lt_of_lt_of_le h.1 (Nat.pow_le_pow_right (by decide) l), Nat.lt_of_lt_of_le h.2 (Nat.pow_le_pow_right (by decide) l)⟩
theorem Sz.divInt {n : Nat} {t b : Int} (hb : b ≠ 0) (h : t.natAbs < 2 ^ n) (h' : b.natAbs < 2 ^ n) : Sz n (Rat.divInt t b) :=
  ⟨Nat.lt_of_le_of_lt (num_le t b hb) h, Nat.lt_of_le_of_lt (den_le t b hb) h'⟩
theorem lt_pow_mul {x y a b : Nat} (hx : x < 2 ^ a) (hy : y < 2 ^ b) : x * y < 2 ^ (a + b) := by
  rw [Nat.pow_add]
  exact Nat.mul_lt_mul'' hx hy
theorem denz (q : Rat) : (q.den : Int) ≠ 0 := by
  have := q.den_nz
  omega
theorem den_mul (p q : Rat) : (p.den : Int) * (q.den : Int) ≠ 0 := Int.mul_ne_zero (denz p) (denz q)
theorem r_add (p q : Rat) : Rat.divInt (p.num * (q.den : Int) + q.num * (p.den : Int)) ((p.den : Int) * (q.den : Int)) = p + q := by
  conv => rhs; rw [← Rat.num_divInt_den p, ← Rat.num_divInt_den q]
  rw [Rat.divInt_add_divInt _ _ (denz p) (denz q)]
theorem r_sub (p q : Rat) : Rat.divInt (p.num * (q.den : Int) - q.num * (p.den : Int)) ((p.den : Int) * (q.den : Int)) = p - q := by
  conv => rhs; rw [← Rat.num_divInt_den p, ← Rat.num_divInt_den q]
  rw [Rat.divInt_sub_divInt _ _ (denz p) (denz q)]
theorem r_mul (p q : Rat) : Rat.divInt (p.num * q.num) ((p.den : Int) * (q.den : Int)) = p * q := by
  conv => rhs; rw [← Rat.num_divInt_den p, ← Rat.num_divInt_den q]
  rw [Rat.divInt_mul_divInt _ _]
theorem r_div (p q : Rat) : Rat.divInt (p.num * (q.den : Int)) ((p.den : Int) * q.num) = p / q := by
  rw [Rat.div_def, Rat.inv_def]
  conv => rhs; rw [← Rat.num_divInt_den p]
  rw [Rat.divInt_mul_divInt _ _]
theorem r_less (p q : Rat) : (p.num * (q.den : Int) < q.num * (p.den : Int)) ↔ p < q := (Rat.lt_iff p q).symm
theorem num0 {q : Rat} (h : q ≠ 0) : q.num ≠ 0 := fun z => h (Rat.num_eq_zero.mp z)
section
variable {p q : Rat} {a b : Nat}
theorem Sz.x1 (h : Sz a p) (k : Sz b q) : (p.num * (q.den : Int)).natAbs < 2 ^ (a + b) := by
  rw [Int.natAbs_mul]
  exact lt_pow_mul h.1 k.2
theorem Sz.x2 (h : Sz a p) (k : Sz b q) : (p.num * q.num).natAbs < 2 ^ (a + b) := by
  rw [Int.natAbs_mul]
  exact lt_pow_mul h.1 k.1
theorem Sz.x3 (h : Sz a p) (k : Sz b q) : ((p.den : Int) * (q.den : Int)).natAbs < 2 ^ (a + b) := by
  rw [Int.natAbs_mul]
  exact lt_pow_mul h.2 k.2
theorem Sz.x4 (h : Sz a p) (k : Sz b q) : ((p.den : Int) * q.num).natAbs < 2 ^ (a + b) := by
  rw [Int.natAbs_mul]
  exact lt_pow_mul h.2 k.1
theorem Sz.x5 (h : Sz a p) (k : Sz b q) : (p.num * (q.den : Int) + q.num * (p.den : Int)).natAbs < 2 ^ (a + b + 1) := by
  have h1 := h.x1 k
  have h2 := k.x1 h
  rw [Nat.add_comm b a] at h2
  rw [Nat.pow_succ]
  omega
theorem Sz.x6 (h : Sz a p) (k : Sz b q) : (p.num * (q.den : Int) - q.num * (p.den : Int)).natAbs < 2 ^ (a + b + 1) := by
  have h1 := h.x1 k
  have h2 := k.x1 h
  rw [Nat.add_comm b a] at h2
  rw [Nat.pow_succ]
  omega
theorem up1 {x n : Nat} (h : x < 2 ^ n) : x < 2 ^ (n + 1) := Nat.lt_of_lt_of_le h (Nat.pow_le_pow_right (by decide) (by omega))
theorem Sz.add (h : Sz a p) (k : Sz b q) : Sz (a + b + 1) (p + q) := by
  rw [← r_add]
  exact Sz.divInt (den_mul p q) (h.x5 k) (up1 (h.x3 k))
theorem Sz.sub (h : Sz a p) (k : Sz b q) : Sz (a + b + 1) (p - q) := by
  rw [← r_sub]
  exact Sz.divInt (den_mul p q) (h.x6 k) (up1 (h.x3 k))
theorem Sz.mul (h : Sz a p) (k : Sz b q) : Sz (a + b) (p * q) := by
  rw [← r_mul]
  exact Sz.divInt (den_mul p q) (h.x2 k) (h.x3 k)
theorem Sz.div (h : Sz a p) (k : Sz b q) (hq : q ≠ 0) : Sz (a + b) (p / q) := by
  rw [← r_div]
  exact Sz.divInt (Int.mul_ne_zero (denz p) (num0 hq)) (h.x1 k) (h.x4 k)
end
theorem Sz.zero : Sz 1 0 := ⟨by decide, by decide⟩
end Z

/-! Own mathematics: lists of points, sums of shares, the rival's slots. -/
namespace Z
/-! ### sums of rationals -/
def rsum : List Rat → Rat
  | [] => 0
  | q :: r => q + rsum r
theorem rsum_append : ∀ (xs ys : List Rat), rsum (xs ++ ys) = rsum xs + rsum ys
  | [], ys => by show rsum ys = 0 + rsum ys; grind
  | x :: xs, ys => by
    have := rsum_append xs ys
    show x + rsum (xs ++ ys) = x + rsum xs + rsum ys
    grind
theorem rsum_nonneg : ∀ {xs : List Rat}, (∀ x ∈ xs, 0 ≤ x) → 0 ≤ rsum xs
  | [], _ => by show (0 : Rat) ≤ 0; grind
  | x :: xs, h => by
    have h1 := rsum_nonneg (xs := xs) fun y hy => h y (List.mem_cons_of_mem _ hy)
    have h2 := h x (List.mem_cons_self ..)
    show 0 ≤ x + rsum xs
    grind
theorem rsum_take {xs : List Rat} {i : Nat} {x : Rat} (h : xs[i]? = some x) : rsum (xs.take (i + 1)) = rsum (xs.take i) + x := by
  rw [List.take_add_one, h, rsum_append]
  show _ + (x + 0) = _
  grind
theorem rsum_take_le {xs : List Rat} (h : ∀ x ∈ xs, 0 ≤ x) (i : Nat) : rsum (xs.take i) ≤ rsum xs := by
  have e : xs = xs.take i ++ xs.drop i := (List.take_append_drop i xs).symm
  have h1 : 0 ≤ rsum (xs.drop i) := rsum_nonneg fun x hx => h x (List.mem_of_mem_drop hx)
  have h2 := rsum_append (xs.take i) (xs.drop i)
  rw [← e] at h2
  grind
theorem foldl_rsum : ∀ (xs : List Rat) (z : Rat), xs.foldl (· + ·) z = z + rsum xs
  | [], z => by show z = z + 0; grind
  | x :: xs, z => by
    show xs.foldl (· + ·) (z + x) = z + (x + rsum xs)
    rw [foldl_rsum xs (z + x)]
    grind
/-! ### the order in which a slot is gone through -/
def rot (s n : Nat) : List Nat := List.range' s (n - s) ++ List.range s
theorem rot_len {s n : Nat} (h : s ≤ n) : (rot s n).length = n := by
  unfold rot
  rw [List.length_append, List.length_range', List.length_range]
  omega
theorem rot_at {s n j : Nat} (h : s < n) (hj : j < n) : (rot s n)[j]? = some ((j + s) % n) := by
  unfold rot
  by_cases c : j < n - s
  · rw [List.getElem?_append_left (by rw [List.length_range']; exact c), List.getElem?_range' c, Nat.one_mul]
    rw [Nat.mod_eq_of_lt (by omega), Nat.add_comm]
  · rw [List.getElem?_append_right (by rw [List.length_range']; omega), List.length_range', List.getElem?_range (by omega)]
    congr 1
    have : j + s = (j - (n - s)) + n := by omega
    rw [this, Nat.add_mod_right, Nat.mod_eq_of_lt (by omega)]
theorem rot_perm {s n : Nat} (h : s ≤ n) : (rot s n).Perm (List.range n) := by
  have e : List.range n = List.range s ++ List.range' s (n - s) := by
    have z := @List.range'_append_1 0 s (n - s)
    rw [Nat.zero_add, show s + (n - s) = n by omega] at z
    rw [List.range_eq_range', List.range_eq_range', z]
  rw [e]
  unfold rot
  exact List.perm_append_comm
theorem rsum_perm {xs ys : List Rat} (h : xs.Perm ys) : rsum xs = rsum ys := by
  induction h with
  | nil => rfl
  | cons x _ ih => show x + rsum _ = x + rsum _; rw [ih]
  | swap x y l => show y + (x + rsum l) = x + (y + rsum l); grind
  | trans _ _ h1 h2 => exact h1.trans h2
theorem range_map_getD (xs : List Rat) : (List.range xs.length).map (fun i => xs.getD i 0) = xs := by
  apply List.ext_getElem?
  intro i
  rw [List.getElem?_map]
  by_cases h : i < xs.length
  · rw [List.getElem?_range h, List.getElem?_eq_getElem h]
    show some (xs.getD i 0) = _
    rw [List.getD_eq_getElem?_getD, List.getElem?_eq_getElem h]
    rfl
  · rw [List.getElem?_eq_none (by rw [List.length_range]; omega), List.getElem?_eq_none (by omega)]
    rfl
theorem rot_sum (xs : List Rat) {s : Nat} (h : s ≤ xs.length) : rsum ((rot s xs.length).map (fun i => xs.getD i 0)) = rsum xs := by
  rw [rsum_perm ((rot_perm h).map _), range_map_getD]
/-! ### whole numbers among the ratios -/
theorem divInt_div (z : Int) (n : Int) : Rat.divInt z n = (z : Rat) / (n : Rat) := by exact Rat.divInt_eq_div z n
/-- a ratio whose product with n is whole -/
theorem sz_of_whole {q : Rat} {n z : Int} {m : Nat} (h : q * (n : Rat) = (z : Rat)) (n0 : n ≠ 0) (hn : n.natAbs < 2 ^ m) (hz : z.natAbs < 2 ^ m) : Sz m q := by
  have e : q = Rat.divInt z n := by
    rw [divInt_div, ← h]
    have : (n : Rat) ≠ 0 := fun c => n0 (Rat.intCast_eq_zero_iff.mp c)
    grind
  rw [e]
  exact Sz.divInt n0 hz hn
end Z

/-! A loop over enumerate of a tuple. -/
namespace PySem
section
variable {val : Value} {cell : Obj} {Hq : Heap → Prop}
theorem z_enum_new (Bg : Begins val cell Hq) : Meets (Builtin.«enumerate.__new__» ⟨[.type "enumerate", val], []⟩) (fun _ R st => Hq st.heap ∧
    R (.ok (.ret (.ref (st.heap.push cell).objs.size))) { st with heap := (st.heap.push cell).push { cls := .type "enumerate", data := .fields #[.none, .bool false, .ref st.heap.objs.size, rawInt 0, .none, .none] } }) := by
  refine .of_wp fun prog w A R s h => ?_
  obtain ⟨hp, gl, dd, tk, os⟩ := s
  obtain ⟨hq, h⟩ := h
  have sb := sub_enumerate
  have it : ∀ {A' : Around} {E' : Value → Shared → Prop} {Q' : Value → Shared → Prop}, Q' (.ref hp.objs.size) ⟨hp.push cell, gl, dd, tk, os⟩ → wpAny (model prog w) A' (pyIter val) Q' E' ⟨hp, gl, dd, tk, os⟩ := fun q => Bg.iter prog w _ _ ⟨hp, gl, dd, tk, os⟩ _ hq q
  wp_walk using it
  refine wpAny_stack_any fun _ => wpAny_pure ?_
  split
  next c _ _ _ _ _ =>
    cases (c == Value.type "enumerate") <;> (wp_walk using it; exact ⟨_, rfl, h⟩)
  next =>
    wp_walk using it
    exact ⟨_, rfl, h⟩
end
section
variable {prog : Program} {w : World} {A : Around} {E : Value → Shared → Prop} {s : Shared}
theorem z_enum_call {val : Value} {cell : Obj} {Hq : Heap → Prop} {Q : Value → Shared → Prop} (Bg : Begins val cell Hq) (h1 : Hq s.heap)
    (fin : ∀ hh, IsEnum hh (s.heap.objs.size + 1) s.heap.objs.size 0 .none → hh.get? s.heap.objs.size = some cell → hh.objs.size = s.heap.objs.size + 2 → (∀ b o, s.heap.get? b = some o → hh.get? b = some o) →
      Q (.ref (s.heap.objs.size + 1)) { s with heap := hh }) : wpAny (model prog w) A (call (.type "enumerate") [val]) Q E s := by
  refine callType_new F.called_enumerate (by decide) (F.typeCall_enumerate_1 _) (F.newCall_enumerate_1 _) (fun ob => F.args_object_init_2 ob _) F.entry_enumerate_new (z_enum_new Bg) ⟨h1, ?_⟩
  have sz : (s.heap.push cell).objs.size = s.heap.objs.size + 1 := Heap.size_push ..
  show _ ∧ _
  rw [sz]
  have he : IsEnum ((s.heap.push cell).push { cls := .type "enumerate", data := .fields #[.none, .bool false, .ref s.heap.objs.size, rawInt 0, .none, .none] }) (s.heap.objs.size + 1) s.heap.objs.size 0 .none := by
    have z := Heap.get?_push_size (s.heap.push cell) (o := { cls := .type "enumerate", data := .fields #[.none, .bool false, .ref s.heap.objs.size, rawInt 0, .none, .none] }) rfl
    rw [sz] at z
    exact z
  exact ⟨⟨_, he, rfl⟩, fin _ he (Heap.get?_push_of_some _ (Heap.get?_push_size _ Bg.free)) (by rw [Heap.size_push, sz]) fun b o x => Heap.get?_push_of_some _ (Heap.get?_push_of_some _ x)⟩
end
end PySem
namespace Z
open PySem PySem.Spec PyProof.Rows L2
/-- the tuple at a, each item in a new pair -/
def IteT (K : PySem.W.Frag) (a : Addr) : It :=
  ⟨fun i H => ∃ (xs : List V) (x : V), SqT K H a xs ∧ xs[i]? = some x, fun i H v H' => ∃ T x, v = .ref T ∧ H T = none ∧ H' = upd H T (.tup [.int (i : Nat), x]) ∧ ∀ xs, SqT K H a xs → xs[i]? = some x, fun i H => ∃ xs : List V, SqT K H a xs ∧ xs.length = i⟩
theorem turn_enumT {P : Program} {w : World} {K : PySem.W.Frag} {elts : List Expr} {kk : Nat} {tpos : Pos} (a e it : Addr) :
    Turn P w K (.Tuple elts kk tpos) (IteT K a) [e, it] e (fun i h => (∃ old, IsEnum h e it ((i : Nat) : Int) old) ∧ h.IsTupleIter it a i ∧ e ≠ it ∧ a ≠ it ∧ a ≠ e) where
  mem := by simp
  obj := fun i h st b hb => by
    obtain ⟨⟨old, he⟩, ⟨o, ho, hc, hd⟩, _⟩ := st
    rcases (show b = e ∨ b = it by simpa using hb) with z | z
    · rw [z]
      exact ⟨_, he, fun v q => nomatch q⟩
    · rw [z]
      refine ⟨o, ho, fun v q => ?_⟩
      rw [hd] at q
      cases q
  keep := fun i h h' st k => by
    obtain ⟨⟨old, he⟩, hi, rest⟩ := st
    exact ⟨⟨old, k e (by simp) _ he⟩, hi.at fun o q => k it (by simp) o q, rest⟩
  item := by
    intro X hP hw hK hc i pins s σ H E I hf st hg
    subst hP hw hK
    obtain ⟨⟨old, he⟩, hit, hne, hai, hae⟩ := st
    obtain ⟨xs, x, hq, hx⟩ := hg
    obtain ⟨its, rv, p, hz⟩ := I.tuple hq
    obtain ⟨u, hu, ru⟩ := rv.get hx
    have hel : e < s.heap.objs.size := Heap.lt_size he
    have hil : it < s.heap.objs.size := by
      obtain ⟨_, q, _⟩ := hit
      exact Heap.lt_size q
    have hh : X.A.in1.handled = none := I.ok.hd hc
    have hlt : i < its.toArray.size := by
      rw [List.size_toArray]
      exact (List.getElem?_eq_some_iff.mp hu).1
    refine wpAny_pyNext_enum_itemD (Draws.tuple hh it a hai its.toArray) he ⟨hit, (show s.heap.IsTuple a its.toArray from p)⟩ hlt hne (by simp [hne, Ne.symm hae]) fun y h' tk hy ho hst hT hsz hk => ?_
    have ey : u = y := Option.some.inj ((show its.toArray[i]? = some u by simpa using hu).symm.trans hy)
    subst ey
    refine ⟨_, rfl, wpAny_letOwnedTupleGo_enum (s := { s with heap := h', toks := tk + 1 }) ho fun h'' he' sb => ?_⟩
    have hT2 : h''.get? s.heap.objs.size = some { cls := .type "tuple", data := .seq #[.int i tk, u] } := (sb.2 _ (Nat.ne_of_gt hel)).trans hT
    have new : ObjOk X.prog X.w (upd H s.heap.objs.size (.tup [.int (i : Nat), x])) h'' s.heap.objs.size (.tup [.int (i : Nat), x]) :=
      ⟨(by show 2 ≤ sizeLine; decide), [.int i tk, u], .cons ⟨_, rfl⟩ (.cons ru .nil), ⟨_, hT2, rfl, _, rfl⟩⟩
    have kept : ∀ b ob, b ∉ [e, it] → s.heap.get? b = some ob → h''.get? b = some ob := fun b ob hb q =>
      (sb.2 b (fun z => hb (by simp [z]))).trans (hk b ob (fun z => hb (by simp [z])) (fun z => hb (by simp [z])) q)
    have I1 : Inv X pins σ (upd H s.heap.objs.size (.tup [.int (i : Nat), x])) { s with heap := h'', toks := tk + 1 } := I.turnedNew (ch := [e, it]) kept hf (Nat.le_refl _) new
    refine ⟨.ref s.heap.objs.size, _, I1, rfl, ⟨_, x, rfl, I.hok.fresh (Nat.le_refl _), rfl, fun ys hy => by rw [I.tuple_inj hy hq]; exact hx⟩, ⟨⟨u, ?_⟩, hst.1.at fun o q => (sb.2 it (Ne.symm hne)).trans q, hne, hai, hae⟩, fun b hb => ?_⟩
    · rw [show ((i + 1 : Nat) : Int) = (i : Int) + 1 by omega]
      exact he'
    · have hb' : b < s.heap.objs.size := by
        rcases (show b = e ∨ b = it by simpa using hb) with z | z
        · rw [z]
          exact hel
        · rw [z]
          exact hil
      rw [upd_ne (Nat.ne_of_lt hb')]
      exact (hf b hb).1
  done := by
    intro X hP hw hK hc i pins s σ H E I hf st hg
    subst hP hw hK
    obtain ⟨⟨old, he⟩, hit, hne, hai, hae⟩ := st
    obtain ⟨xs, hq, hx⟩ := hg
    obtain ⟨its, rv, p, hz⟩ := I.tuple hq
    obtain ⟨f0, f1, f2, f3, f4, f5⟩ := hf it (by simp)
    have hl := rv.length
    have hh : X.A.in1.handled = none := I.ok.hd hc
    have hn : its.toArray.size = i := by
      rw [List.size_toArray]
      omega
    refine wpAny_pyNext_enum_endD (Draws.tuple hh it a hai its.toArray) he ⟨by rw [hn]; exact hit, (show s.heap.IsTuple a its.toArray from p)⟩ fun h' eb => ⟨rfl, I.turned (t' := s.toks) (fun b o hb q => eb b o hb q) f0 f1 f3 f4 f5⟩
  self := fun A i s Q E st h => by
    obtain ⟨⟨_, he⟩, _⟩ := st
    exact wpAny_pyIter_enum he h
def iEnumT (K : PySem.W.Frag) (ta : TA) : TI := fun σ H R => ta σ H fun vs H1 => ∃ a xs, vs = [.ref a] ∧ SqT K H1 a xs ∧ R (IteT K a) H1
theorem pi_enumT {X : Cx} {e : Expr} {ta : TA} {p pos tpos : Pos} {elts : List Expr} {kk : Nat} (hg : Gl X "enumerate") (hm : X.mg "enumerate" = none) (ha : PA X [e] ta) (hs : starEach [e] X.env = [(false, eval e X.env)] := by rfl) :
    PI X (.Tuple elts kk tpos) (.Call (.Name "enumerate" p) [e] [] pos) (iEnumT X.K ta) := by
  refine ⟨fun pins s σ H R I h => ?_⟩
  refine Call_ (ld_blt I hg hm boot_enumerate (PyProof.Rows.callWith_type1 (thn (ha.run pos pins s σ H _ I h) fun us s1 got => ?_) hs rfl))
  obtain ⟨vs, H1, I1, r1, a, xs, ex, hq, q⟩ := got
  subst ex
  cases r1 with
  | cons r rr =>
    cases rr
    cases r
    obtain ⟨its, rv, p', hz⟩ := I1.tuple hq
    have p2 : s1.heap.IsTuple a its.toArray := p'
    have al : a < s1.heap.objs.size := by
      obtain ⟨o, ho, _⟩ := p'
      exact Heap.lt_size ho
    refine z_enum_call (begins_tuple a its.toArray) p2 fun h' he hit hsz hk => wpAny_pyIter_enum he ?_
    have I2 : Inv X pins σ H1 { s1 with heap := h' } := I1.kept (t' := s1.toks) hk
    have n1 : a ≠ s1.heap.objs.size := Nat.ne_of_lt al
    have n2 : a ≠ s1.heap.objs.size + 1 := Nat.ne_of_lt (Nat.lt_succ_of_lt al)
    refine ⟨s1.heap.objs.size + 1, [s1.heap.objs.size + 1, s1.heap.objs.size], _, _, H1, rfl, I2, turn_enumT a (s1.heap.objs.size + 1) s1.heap.objs.size, ⟨⟨.none, he⟩, ⟨_, hit, rfl, rfl⟩, Nat.succ_ne_self _, n1, n2⟩, fun b hb => ?_, q⟩
    have hle : s1.heap.objs.size ≤ b := by
      rcases (show b = s1.heap.objs.size + 1 ∨ b = s1.heap.objs.size by simpa using hb) with z | z
      · rw [z]
        exact Nat.le_succ _
      · rw [z]
        exact Nat.le_refl _
    exact I1.fpOk hle (I1.hok.fresh hle)
/-- a loop over enumerate of a tuple -/
theorem for_enumT {K : PySem.W.Frag} {a : Addr} {xs : List V} {g : TG} {tb : TS} {D : L2.Ends} {σ : L2.St} {H : Hp} (Pv : Nat → L2.St → Hp → Prop) (h0 : Pv 0 σ H) (hl : ∀ i σ H, i ≤ xs.length → Pv i σ H → SqT K H a xs)
    (hs : ∀ i x T σ H, xs[i]? = some x → Pv i σ H → H T = none → g (.ref T) σ (upd H T (.tup [.int (i : Nat), x])) fun σ2 H2 => tb { D with nx := Pv (i + 1), ct := Pv (i + 1), bk := D.nx } σ2 H2) (hd : ∀ σ H, Pv xs.length σ H → D.nx σ H) :
    ∃ W : Nat → Nat → L2.St → Hp → Prop, (∃ m, W 0 m σ H) ∧ ∀ i m σ H, W i m σ H →
      ((IteT K a).stop i H ∧ D.nx σ H) ∨ ((IteT K a).go i H ∧ ∃ N : L2.St → Hp → Prop, (∀ σ' H', N σ' H' → ∃ m', m' < m ∧ W (i + 1) m' σ' H') ∧ ∀ x H', (IteT K a).yld i H x H' → g x σ H' fun σ2 H2 => tb { D with nx := N, ct := N, bk := D.nx } σ2 H2) := by
  refine ⟨fun i m σ H => m = xs.length - i ∧ i ≤ xs.length ∧ Pv i σ H, ⟨xs.length, (Nat.sub_zero _).symm, Nat.zero_le _, h0⟩, ?_⟩
  rintro i m σ H ⟨rfl, hi, p⟩
  have q := hl i σ H hi p
  by_cases c : i < xs.length
  · have gx : xs[i]? = some xs[i] := List.getElem?_eq_getElem c
    refine .inr ⟨⟨xs, xs[i], q, gx⟩, Pv (i + 1), fun σ' H' p' => ⟨xs.length - (i + 1), by omega, rfl, c, p'⟩, ?_⟩
    rintro v H' ⟨T, x, rfl, nT, rfl, fx⟩
    exact hs i x T σ H (fx xs q) p nT
  · have e : i = xs.length := by omega
    subst e
    exact .inl ⟨⟨xs, q, rfl⟩, hd σ H p⟩
end Z

/-! name = {k: v for ..} on one line, the name a local. -/
namespace Z
open PySem PySem.Spec PyProof.Rows L2
section
variable {X : Cx}
theorem ps_setDc {i : Nat} {nm : Str} {pn : Pos} {ke ve target it : Expr} {cs : List Expr} {sc : Scope} {own : List (Str × Nat)} {cp sp : Pos} {wi : TI} {g : TG} {tt : TT} {tk tv : TE} (calm : X.calm = true) (nodup : X.N.Nodup) (slot : X.N[i]? = some nm) (loc : X.env.scope.names.lookup nm = some .local)
    (sw : swapsWith (.DictComp ke ve [⟨target, it, cs, 0⟩] sc cp) (some (.Name nm pn)) sp.line X.env = pure true) (walk : PI X target it wi) (blk : BlkOk X.N X.env.scope sc own)
    (h1 : ∀ (s : Shared) (H : Hp) (C : Addr) (cl : List (Str × Addr)) (fp : List Addr), PG (X.blk s H sc (compEnvC sc cl C X.env) fp) target g)
    (h2 : ∀ (s : Shared) (H : Hp) (C : Addr) (cl : List (Str × Addr)) (fp : List Addr), PTs (X.blk s H sc (compEnvC sc cl C X.env) fp) cs tt)
    (h3 : ∀ (s : Shared) (H : Hp) (C : Addr) (cl : List (Str × Addr)) (fp : List Addr), PE (X.blk s H sc (compEnvC sc cl C X.env) fp) ke tk)
    (h4 : ∀ (s : Shared) (H : Hp) (C : Addr) (cl : List (Str × Addr)) (fp : List Addr), PE (X.blk s H sc (compEnvC sc cl C X.env) fp) ve tv)
    (fold : ∀ x, foldedSetIterable it X.env x = pure x := by intro _; rfl) :
    PS X (.Assign [.Name nm pn] (.DictComp ke ve [⟨target, it, cs, 0⟩] sc cp) sp) (tAsg (tDc wi g tt tk tv (own.map (·.2))) (gName i)) := by
  refine ⟨fun pins s σ H D inv rd => ?_⟩
  rw [exec_Assign_Name_used _ _ _ _ sw]
  refine wpAny_bind (wpAny_standAt (wpAny_bind ?_))
  have rd' : tDc wi g tt tk tv (own.map (·.2)) σ H (fun x H1 => gName i x σ H1 D.nx) := rd
  refine wpAny_bind (thn (dc_core (use := some (assign (.Name nm pn) X.env)) (Qf := fun _ s' => SP X pins D .next s') calm nodup inv walk blk h1 h2 h3 h4 fold rd' fun L C s' m H' inv' q ns free => ?_) fun _ s' hq => wpAny_pure (wpAny_pure hq))
  show wpAny _ _ (assign (.Name nm pn) X.env (.ref L)) _ _ _
  refine wpAny_assign_Name (store_ok2 (v := V.ref L) inv' nodup slot (.inl loc) rfl (fun s2 inv2 stored => ?_) (.inr loc))
  obtain ⟨a, same, where_⟩ := stored
  obtain ⟨e0, e1, e2, e3, e4, e5⟩ := free
  have apart : C ≠ a := by
    rcases where_ with z | z
    · rw [z]
      exact e1
    · exact fun e => e4 nm a z e.symm
  exact ⟨m, ns.sameBut same apart, fun h5 same5 => ⟨_, H', inv2.turned (t' := s2.toks) (fun b o hb e => (same5.2 b hb).trans e) e0 e1 e3 e4 e5, q⟩⟩
theorem sw_dict {ke ve : Expr} {gs : List Comprehension} {sc : Scope} {cp pn : Pos} {nm : Str} {l : Nat} {env : Env} (kind : env.scope.kind = .function) (loc : env.scope.names.lookup nm = some .local) (row : (pn.line == cp.line) = true)
    (other : (sc.names.any fun (n, k) => n == nm && (k == .local || k == .cell)) = false) : swapsWith (.DictComp ke ve gs sc cp) (some (.Name nm pn)) l env = pure true := by
  have k1 : env.kindOf nm = some .local := loc
  have k2 : env.blockKind = .function := by
    unfold Env.blockKind
    rw [kind]
    rfl
  unfold swapsWith
  simp only [k1, k2, other, Expr.pos, row]
  rfl
end
end Z

/-! Own base: a def's promise with its place, draws, data that is made of tuples. -/
namespace Z
open PySem PySem.Spec PyProof.Rows L2

/-! ### heaps -/
/-- all stays but what stands at p -/
def Kp (p : Addr) (H H' : Hp) : Prop := ∀ a o, a ≠ p → H a = some o → H' a = some o
theorem Kp.refl (p : Addr) (H : Hp) : Kp p H H := fun _ _ _ h => h
theorem Kp.trans {p : Addr} {H H1 H2 : Hp} (a : Kp p H H1) (b : Kp p H1 H2) : Kp p H H2 := fun x o n h => b x o n (a x o n h)
theorem Kp.of {p : Addr} {H H' : Hp} (e : Same H H') : Kp p H H' := fun a o _ h => e a o h
theorem Kp.sto {p : Addr} {H : Hp} {o : HO} : Kp p H (upd H p o) := fun a u n h => by rw [upd_ne n]; exact h
theorem same_upd {H : Hp} {p : Addr} {o : HO} (h : H p = none) : Same H (upd H p o) := fun b x e => by
  rw [upd_ne (ne_of_none e h)]
  exact e
theorem Kp.new {p q : Addr} {H : Hp} {o : HO} (h : H q = none) : Kp p H (upd H q o) := .of (same_upd h)
/-- a place that H does not know may change -/
theorem Kp.mut {p q : Addr} {H H' : Hp} {o : HO} (e : Kp p H H') (h : H q = none) : Kp p H (upd H' q o) := fun a u n ha => by
  rw [upd_ne (ne_of_none ha h)]
  exact e a u n ha
theorem Same.mut {q : Addr} {H H' : Hp} {o : HO} (e : Same H H') (h : H q = none) : Same H (upd H' q o) := fun a u ha => by
  rw [upd_ne (ne_of_none ha h)]
  exact e a u ha
/-- what may be read as a tuple stays so -/
def Tm (H H' : Hp) : Prop := ∀ a xs, Rd H a (.tup xs) → Rd H' a (.tup xs)
theorem Same.tm {H H' : Hp} (e : Same H H') : Tm H H' := fun a xs h => by
  rcases h with h | ⟨o, h⟩
  · exact .inl (e _ _ h)
  · exact .inr ⟨o, e _ _ h⟩
theorem Kp.tm {p : Addr} {H H' : Hp} {xs : List V} (e : Kp p H H') (hp : H p = some (.lst xs)) : Tm H H' := fun a ys h => by
  rcases h with h | ⟨o, h⟩
  · exact .inl (e _ _ (by rintro rfl; rw [hp] at h; cases h) h)
  · exact .inr ⟨o, e _ _ (by rintro rfl; rw [hp] at h; cases h) h⟩
theorem Tm.refl (H : Hp) : Tm H H := fun _ _ h => h
theorem Tm.trans {H H1 H2 : Hp} (a : Tm H H1) (b : Tm H1 H2) : Tm H H2 := fun x o h => b x o (a x o h)
/-- a list is stored -/
theorem Tm.lst {p : Addr} {H : Hp} {xs ys : List V} (hp : H p = some (.lst xs)) : Tm H (upd H p (.lst ys)) := Kp.tm (Kp.sto (p := p)) hp
theorem Tm.new {p : Addr} {H : Hp} {o : HO} (hp : H p = none) : Tm H (upd H p o) := Same.tm (same_upd hp)
theorem Tm.sq {K : PySem.W.Frag} {H H' : Hp} {a : Addr} {xs : List V} (e : Tm H H') (h : SqT K H a xs) : SqT K H' a xs := by
  rcases h with h | h
  · exact .inl (e _ _ h)
  · exact .inr h

/-! ### data of tuples -/
mutual
inductive Is (K : PySem.W.Frag) (H : Hp) : V → PyData → Prop
  | non : Is K H .non .none
  | bl (b : Bool) : Is K H (.bl b) (.bool b)
  | int (i : Int) : Is K H (.int i) (.int i)
  | str (x : Str) : Is K H (.str x) (.str x)
  | tup {a : Addr} {xs : List V} {ds : List PyData} : SqT K H a xs → IsA K H xs ds → Is K H (.ref a) (.tuple ds)
inductive IsA (K : PySem.W.Frag) (H : Hp) : List V → List PyData → Prop
  | nil : IsA K H [] []
  | cons {v : V} {vs : List V} {d : PyData} {ds : List PyData} : Is K H v d → IsA K H vs ds → IsA K H (v :: vs) (d :: ds)
end
section
variable {K : PySem.W.Frag} {H H' : Hp}
mutual
theorem Is.mono (e : Tm H H') : ∀ (d : PyData) {v : V}, Is K H v d → Is K H' v d
  | _, _, .non => .non
  | _, _, .bl b => .bl b
  | _, _, .int i => .int i
  | _, _, .str x => .str x
  | .tuple ds, _, .tup s a => .tup (e.sq s) (IsA.mono e ds a)
theorem IsA.mono (e : Tm H H') : ∀ (ds : List PyData) {vs : List V}, IsA K H vs ds → IsA K H' vs ds
  | _, _, .nil => .nil
  | d :: ds, _, .cons h t => .cons (Is.mono e d h) (IsA.mono e ds t)
end
mutual
theorem Is.dp : ∀ (d : PyData) {v : V}, Is K H v d → Dp K H v d
  | _, _, .non => .non
  | _, _, .bl b => .bl b
  | _, _, .int i => .int i
  | _, _, .str x => .str x
  | .tuple ds, _, .tup s a => .tup s (IsA.dp ds a)
theorem IsA.dp : ∀ (ds : List PyData) {vs : List V}, IsA K H vs ds → DpAll K H vs ds
  | _, _, .nil => .nil
  | d :: ds, _, .cons h t => .cons (Is.dp d h) (IsA.dp ds t)
end
theorem Is.to {d : PyData} {v : V} (h : Is K H v d) (e : Tm H H') : Is K H' v d := Is.mono e d h
theorem IsA.to {ds : List PyData} {vs : List V} (h : IsA K H vs ds) (e : Tm H H') : IsA K H' vs ds := IsA.mono e ds h
theorem Is.int' {v : V} {i : Int} (h : Is K H v (.int i)) : v = .int i := by cases h; rfl
theorem Is.str' {v : V} {i : Str} (h : Is K H v (.str i)) : v = .str i := by cases h; rfl
theorem Is.tup' {v : V} {ds : List PyData} (h : Is K H v (.tuple ds)) : ∃ a xs, v = .ref a ∧ SqT K H a xs ∧ IsA K H xs ds := by
  cases h with
  | tup s a => exact ⟨_, _, rfl, s, a⟩
theorem IsA.len : ∀ {vs : List V} {ds : List PyData}, IsA K H vs ds → vs.length = ds.length
  | _, _, .nil => rfl
  | _, _, .cons _ t => congrArg Nat.succ (IsA.len t)
theorem IsA.get : ∀ {vs : List V} {ds : List PyData} {i : Nat} {d : PyData}, IsA K H vs ds → ds[i]? = some d → ∃ v, vs[i]? = some v ∧ Is K H v d
  | _, _, _, _, .nil, e => by simp at e
  | _, _, 0, _, .cons h _, e => by simp at e; subst e; exact ⟨_, rfl, h⟩
  | _, _, i + 1, d, .cons _ t, e => by
    obtain ⟨v, h1, h2⟩ := IsA.get (i := i) (d := d) t (by simpa using e)
    exact ⟨v, by simpa using h1, h2⟩
theorem IsA.append : ∀ {vs us : List V} {ds es : List PyData}, IsA K H vs ds → IsA K H us es → IsA K H (vs ++ us) (ds ++ es)
  | _, _, _, _, .nil, s => s
  | _, _, _, _, .cons h t, s => .cons h (IsA.append t s)
theorem IsA.take : ∀ {vs : List V} {ds : List PyData} (n : Nat), IsA K H vs ds → IsA K H (vs.take n) (ds.take n)
  | _, _, 0, _ => .nil
  | _, _, _ + 1, .nil => .nil
  | _, _, n + 1, .cons h t => .cons h (IsA.take n t)
theorem IsA.drop : ∀ {vs : List V} {ds : List PyData} (n : Nat), IsA K H vs ds → IsA K H (vs.drop n) (ds.drop n)
  | _, _, 0, h => h
  | _, _, _ + 1, .nil => .nil
  | _, _, n + 1, .cons _ t => IsA.drop n t
theorem IsA.set {v : V} {d : PyData} (h : Is K H v d) : ∀ {vs : List V} {ds : List PyData} (i : Nat), IsA K H vs ds → IsA K H (vs.set i v) (ds.set i d)
  | _, _, _, .nil => .nil
  | _, _, 0, .cons _ t => .cons h t
  | _, _, i + 1, .cons q t => .cons q (IsA.set h i t)
theorem IsA.two {a b : V} {d e : PyData} (h : Is K H a d) (h' : Is K H b e) : IsA K H [a, b] [d, e] := .cons h (.cons h' .nil)
theorem Is.two' {v : V} {d e : PyData} (h : Is K H v (.tuple [d, e])) : ∃ p a b, v = .ref p ∧ SqT K H p [a, b] ∧ Is K H a d ∧ Is K H b e := by
  obtain ⟨p, xs, rfl, s, q⟩ := h.tup'
  cases q with
  | cons h1 q => cases q with
    | cons h2 q => cases q; exact ⟨p, _, _, rfl, s, h1, h2⟩
/-- a new tuple -/
theorem Is.newT {p : Addr} {xs : List V} {ds : List PyData} (hp : H p = none) (h : IsA K H xs ds) : Is K (upd H p (.tup xs)) (.ref p) (.tuple ds) := .tup (.inl (.inl upd_same)) (h.to (Tm.new hp))
/-- its type -/
def tyD : PyData → String
  | .none => "NoneType" | .bool _ => "bool" | .int _ => "int" | .str _ => "str" | _ => "tuple"
theorem Is.ty {v : V} {d : PyData} (h : Is K H v d) : TyX K H v (.type (tyD d)) := by
  cases h with
  | non => exact .base .non
  | bl b => exact .base (.bl b)
  | int i => exact .base (.int i)
  | str x => exact .base (.str x)
  | tup s a =>
    rcases s with (s | ⟨o, s⟩) | ⟨o, its, n, hk, hc, _⟩
    · exact .base (.tup s)
    · exact .fTuple s
    · exact .kTuple hk hc
end

/-! ### a def of the text, and what it promises -/
structure At (K : PySem.W.Frag) (mg : Str → Option Value) (x : Str) (st : Stmt) (ps : List Str) : Prop where
  ex : ∃ (f : Addr) (fd : FuncData), Fun K x x st f fd ∧ mg x = some (.ref f) ∧ Binds K fd ps []
structure Ok (P : Program) (w : World) (K : PySem.W.Frag) (mg : Str → Option Value) (base : Heap) (lvl : Nat) (x : Str) (ps : List Str) (dvs : List V) (sp : Sp) : Prop where
  ex : ∃ (f : Addr) (fd : FuncData) (ds : List Value), FnOk P w K mg base CX0 lvl f fd ps sp ∧ mg x = some (.ref f) ∧ PySem.W.keepIn K (.ref f) = true ∧ Binds K fd ps ds ∧ Vals dvs ds
section
variable {P : Program} {w : World} {K : PySem.W.Frag} {mg : Str → Option Value} {base : Heap} {x : Str} {st : Stmt} {ps N : List Str} {k : Nat} {sp : Sp}
theorem At.ok (F : At K mg x st ps) (S : FnScope N ps (defScope st)) (len : ∀ vs H Q E, sp vs H Q E → vs.length = ps.length)
    (hbody : ∀ (f : Addr) (cdv : Value) (A : Around) (outer : List Env) (s : Shared) (H : Hp) (vs : List V) (Q : VK) (E : XK), Room k (A.deeper (envOfC x (defScope st) s.heap.objs.size f cdv)) → sp vs H Q E →
      ∃ t, PSs (cxOf CX0 P w K mg base N x (defScope st) f cdv A outer s H E).nox (defBody st) t ∧ t { nx := fun _ H' => Q .non H', rt := Q } (start N vs) H) : Ok P w K mg base (k + 1) x ps [] sp := by
  obtain ⟨f, fd, F, m, b⟩ := F.ex
  exact ⟨f, fd, [], F.ok S len (fun cdv A outer s H vs Q E hr h => hbody f cdv A outer s H vs Q E hr h), m, F.kp, b, .nil⟩
theorem Ok.imp {dvs : List V} {sp' : Sp} (F : Ok P w K mg base k x ps dvs sp) (h : ∀ vs H Q E, sp' vs H Q E → sp vs H Q E) : Ok P w K mg base k x ps dvs sp' := by
  obtain ⟨f, fd, ds, F, m, kp, b, d⟩ := F.ex
  exact ⟨f, fd, ds, F.imp h, m, kp, b, d⟩
theorem Ok.up {dvs : List V} {j : Nat} (F : Ok P w K mg base k x ps dvs sp) (h : k ≤ j) : Ok P w K mg base j x ps dvs sp := by
  obtain ⟨f, fd, ds, F, m, kp, b, d⟩ := F.ex
  exact ⟨f, fd, ds, F.mono h, m, kp, b, d⟩
end
section
variable {X : Cx} {x : Str} {p pos : Pos} {e : Expr} {es : List Expr} {k : Nat} {ps : List Str} {dvs : List V} {sp : Sp} {t : TA}
theorem pe_ok (C : Ok X.prog X.w X.K X.mg X.base k x ps dvs sp) (hr : Room k X.A) (hg : Gl X x) (ha : PA X (e :: es) t) (hdb : (x == ("__debug__" : Str)) = false := by decide)
    (he : starEach (e :: es) X.env = (false, eval e X.env) :: starEach es X.env := by rfl) (hpl : (backTo pos (starEach es X.env)).any (·.1) = false := by rfl) :
    PE X (.Call (.Name x p) (e :: es) [] pos) (tCall sp dvs E0 t) := by
  obtain ⟨f, fd, ds, F, m, kp, b, d⟩ := C.ex
  exact pe_call F hr hg m kp b d pass0 ha hdb he hpl
/-- // by any divisor but 0 below 2 ^ 9000 -/
def CDivX (_ j : Int) : Prop := j ≠ 0 ∧ j.natAbs.log2 < 9000
theorem op_fdivX : OpR X (binaryOp .FloorDiv) (rI CDivX fun i j => .int (i.fdiv j)) := opI fun i j _ _ _ _ _ hc q => floordiv_int hc.1 q (.inl (PyProof.noPylong_of_log2 hc.2))
end
section
variable {X : Cx}
/-- a product: one side small, or both of moderate size -/
def CMulX (i j : Int) : Prop := CMul i j ∨ CMulW i j
theorem op_mulX : OpR X (binaryOp .Mult) (rI CMulX fun i j => .int (i * j)) := opI fun _ _ _ _ _ _ _ hc q => mul_int q (hc.elim (fun h => h.ok) (fun h => h.ok))
end
theorem mulL {i j : Int} (h : -(2 ^ 64) < i ∧ i < 2 ^ 64) : CMulX i j := .inl (.inl h)
theorem mulR {i j : Int} (h : -(2 ^ 64) < j ∧ j < 2 ^ 64) : CMulX i j := .inl (.inr h)
/-! the same rules, the written part named (within a comprehension) -/
section
variable {X : Cx} {K : PySem.W.Frag}
theorem ix_tupK (h : X.K = K) : IxR X (rIxT K) := h ▸ ix_tup
theorem ix_listK (h : X.K = K) : IxR X (rIxL K) := h ▸ ix_list
theorem call_lenK (h : X.K = K) : CallR X (.builtin "len") (fun xs H Q => ∃ p ys, xs = [.ref p] ∧ (SqL K H p ys ∨ SqT K H p ys) ∧ Q (.int ys.length) H) := h ▸ call_len_seq
theorem op_inK (h : X.K = K) : OpR X (compareOp .In) (rIn K false) := h ▸ op_in_seq
theorem op_notInK (h : X.K = K) : OpR X (compareOp .NotIn) (rIn K true) := h ▸ op_notIn_seq
theorem op_eqK (h : X.K = K) (hu : X.A.units + 64 < cLine) : OpR X (compareOp .Eq) (rEqD K) := h ▸ op_eqD hu
theorem op_neK (h : X.K = K) (hu : X.A.units + 64 < cLine) : OpR X (compareOp .NotEq) (rNeD K) := h ▸ op_neD hu
theorem sl_listK (h : X.K = K) : SlR X (rSlL K) := h ▸ sl_list
theorem sl_tupK (h : X.K = K) : SlR X (rSlT K) := h ▸ sl_tup
end
/-- what the program leaves alone -/
structure BI (mg : Str → Option Value) : Prop where
  len : mg "len" = none
  int : mg "int" = none
  abs : mg "abs" = none
  list : mg "list" = none
  tuple : mg "tuple" = none
  range : mg "range" = none
  isinstance : mg "isinstance" = none
  str : mg "str" = none
  bool : mg "bool" = none
  sum : mg "sum" = none
  sorted : mg "sorted" = none
  enumerate : mg "enumerate" = none

/-! ### draws -/
/-- a pool of draws stands at p, its cells at a -/
def Pl (p a : Addr) (H : Hp) : Prop := ∃ (ns : List Int) (i rest last cnt : Int), a ≠ p ∧ H p = some (.lst [.ref a, .int i, .int rest, .int last, .int cnt]) ∧ H a = some (.lst (ns.map V.int)) ∧ ns.length ≤ 63 ∧
  0 ≤ i ∧ 0 ≤ rest ∧ 0 ≤ last ∧ last < 1000000000000000000 ∧ 0 ≤ cnt
theorem Pl.lst {p a : Addr} {H : Hp} (h : Pl p a H) : ∃ xs, H p = some (.lst xs) := by
  obtain ⟨ns, i, rest, last, cnt, _, h, _⟩ := h
  exact ⟨_, h⟩
theorem Pl.tm {p a : Addr} {H H' : Hp} (h : Pl p a H) (e : Kp p H H') : Tm H H' := by
  obtain ⟨xs, h⟩ := h.lst
  exact e.tm h
theorem Pl.same {p a : Addr} {H H' : Hp} (h : Pl p a H) (e : Same H H') : Pl p a H' := by
  obtain ⟨ns, i, rest, last, cnt, n, h, h1, h2⟩ := h
  exact ⟨ns, i, rest, last, cnt, n, e _ _ h, e _ _ h1, h2⟩
/-- another place is stored -/
theorem Pl.mut {p a q : Addr} {H : Hp} {o : HO} (h : Pl p a H) (n : q ≠ p) (na : q ≠ a) : Pl p a (upd H q o) := by
  obtain ⟨ns, i, rest, last, cnt, nn, h, h1, h3⟩ := h
  exact ⟨ns, i, rest, last, cnt, nn, by rw [upd_ne n.symm]; exact h, by rw [upd_ne na.symm]; exact h1, h3⟩
theorem Pl.ne {p a q : Addr} {H : Hp} (h : Pl p a H) (hq : H q = none) : q ≠ p ∧ q ≠ a := by
  obtain ⟨ns, i, rest, last, cnt, nn, h, h1, h3⟩ := h
  exact ⟨fun e => (by rw [e, h] at hq; cases hq), fun e => (by rw [e, h1] at hq; cases hq)⟩
def spPool (K : PySem.W.Frag) : Sp := fun vs H Q _ => ∃ (s : Addr) (ns : List Int), vs = [.ref s] ∧ SqL K H s (ns.map V.int) ∧ ns.length ≤ 63 ∧ ∀ p a H', H p = none → Same H H' → Pl p a H' → Q (.ref p) H'
def spDraw : Sp := fun vs H Q _ => ∃ (p a : Addr) (m : Int), vs = [.ref p, .int m] ∧ Pl p a H ∧ 0 < m ∧ m ≤ 10000000000000000000000000000000000000000 ∧
  ∀ r H', 0 ≤ r → r < m → Kp p H H' → Pl p a H' → Q (.int r) H'
theorem tenK : (10 : Int) ^ (40 : Int).toNat = 10000000000000000000000000000000000000000 := by decide +kernel
theorem divX {i m : Int} (h0 : 0 < m) (h1 : m ≤ 10000000000000000000000000000000000000000) : CDivX i m := by
  refine ⟨by omega, ?_⟩
  have h : m.natAbs < 2 ^ 200 := by
    have : (10000000000000000000000000000000000000000 : Nat) < 2 ^ 200 := by decide +kernel
    omega
  exact Nat.lt_of_lt_of_le (PySem.Flt.log2_lt_of (by decide) h) (by decide)
theorem fm0 {i m : Int} (h0 : 0 < m) : 0 ≤ i.fmod m := Int.fmod_nonneg_of_pos i h0
theorem fm1 {i m : Int} (h0 : 0 < m) : i.fmod m < m := Int.fmod_lt_of_pos i h0
theorem mulF {i j : Int} : CMulX (i.fmod 2147483647) j := mulL ⟨by have := fm0 (i := i) (m := 2147483647) (by decide); omega, by have := fm1 (i := i) (m := 2147483647) (by decide); omega⟩
theorem fd0 {i m : Int} (h0 : 0 < m) (hi : 0 ≤ i) : 0 ≤ i.fdiv m := by
  rw [Int.fdiv_eq_ediv_of_nonneg i (by omega)]
  exact Int.ediv_nonneg hi (by omega)
theorem small5 {n : Nat} (h : n ≤ 100000) : n ≤ sizeLine := Nat.le_trans h (by decide)
theorem small5' {n : Nat} (h : n < 100000) : n < sizeLine := Nat.lt_of_lt_of_le h (by decide)
/-- a product with one small side -/
theorem mulS {i j : Int} (hi : i.natAbs < 2 ^ 400000) (hj : j.natAbs < 2 ^ 400000) : CMulW i j := wide_mul hi hj (by decide) (by decide) (by decide)
end Z

namespace Z
open PySem PySem.Spec PyProof.Rows L2
/-! ### numbers and ratios -/
def BIG : Nat := 2 ^ 8000
theorem big_lt {n : Nat} (h : n < BIG) : n < 2 ^ 8000 := h
theorem divB {i s : Int} {b : Nat} (h0 : s ≠ 0) (h1 : s.natAbs ≤ b) (h2 : b < BIG) : CDivX i s :=
  ⟨h0, Nat.lt_of_lt_of_le (PySem.Flt.log2_lt_of (by decide) (big_lt (Nat.lt_of_le_of_lt h1 h2))) (by decide)⟩
theorem big_sq {a b : Nat} (ha : a < BIG) (hb : b < BIG) : a * b < 2 ^ (100000 - 2) := by
  have h : a * b < BIG * BIG := Nat.mul_lt_mul'' ha hb
  refine Nat.lt_of_lt_of_le h ?_
  unfold BIG
  rw [← Nat.pow_add]
  exact Nat.pow_le_pow_right (by decide) (by decide)
theorem mulB {i j : Int} (hi : i.natAbs < BIG) (hj : j.natAbs < BIG) : CMulX i j := .inr (wide_mul (big_lt hi) (big_lt hj) (by decide) (by decide) (by decide))
/-- a ratio as the program writes it -/
def rat2 (q : Rat) : PyData := .tuple [.int q.num, .int (q.den : Int)]
def spGcd : Sp := fun vs H Q _ => ∃ a b : Nat, vs = [.int (a : Int), .int (b : Int)] ∧ a < BIG ∧ b < BIG ∧ Q (.int ((Nat.gcd a b : Nat) : Int)) H
/-- the ratio of two numbers -/
def spRat (K : PySem.W.Frag) : Sp := fun vs H Q _ => ∃ t b : Int, vs = [.int t, .int b] ∧ b ≠ 0 ∧ t.natAbs < BIG ∧ b.natAbs < BIG ∧ ∀ v H', Same H H' → Is K H' v (rat2 (Rat.divInt t b)) → Q v H'
theorem rat2_new {K : PySem.W.Frag} {H : Hp} {p : Addr} {x y : Int} {q : Rat} (hp : H p = none) (hx : x = q.num) (hy : y = (q.den : Int)) : Is K (upd H p (.tup [.int x, .int y])) (.ref p) (rat2 q) := by
  subst hx hy
  exact Is.newT hp (.two (.int _) (.int _))
/-! ### two data are the same -/
mutual
def plainD : PyData → Bool
  | .none | .int _ | .str _ => true
  | .tuple ds => decide (ds.length ≤ 1000) && plainDs ds
  | _ => false
def plainDs : List PyData → Bool
  | [] => true
  | d :: ds => plainD d && plainDs ds
end
theorem plain_get : ∀ {ds : List PyData} {i : Nat} {d : PyData}, plainDs ds = true → ds[i]? = some d → plainD d = true
  | [], _, _, _, e => by simp at e
  | x :: xs, 0, d, h, e => by
    simp at e
    subst e
    exact (Bool.and_eq_true_iff.mp (by simpa [plainDs] using h)).1
  | x :: xs, i + 1, d, h, e => plain_get (ds := xs) (i := i) (Bool.and_eq_true_iff.mp (by simpa [plainDs] using h)).2 (by simpa using e)
mutual
def depD : PyData → Nat
  | .tuple ds => depDs ds + 1
  | _ => 0
def depDs : List PyData → Nat
  | [] => 0
  | d :: ds => max (depD d) (depDs ds)
end
theorem dep_get : ∀ {ds : List PyData} {i : Nat} {d : PyData}, ds[i]? = some d → depD d ≤ depDs ds
  | [], _, _, e => by simp at e
  | x :: xs, 0, d, e => by
    simp at e
    subst e
    show depD x ≤ max (depD x) (depDs xs)
    omega
  | x :: xs, i + 1, d, e => by
    have := dep_get (ds := xs) (i := i) (d := d) (by simpa using e)
    show depD d ≤ max (depD x) (depDs xs)
    omega
/-- n calls, one in another, are allowed -/
def spSame (K : PySem.W.Frag) (n : Nat) : Sp := fun vs H Q _ => ∃ (x y : V) (d e : PyData), vs = [x, y] ∧ Is K H x d ∧ Is K H y e ∧ plainD d = true ∧ plainD e = true ∧ depD e < n ∧ ∀ (b : Bool) H', Same H H' → (b = true ↔ d = e) → Q (.bl b) H'
theorem kt {K : PySem.W.Frag} {a b : String} {r : Bool} (h : kitB a b = some r) : PySem.W.kitOne K (.type a) (.type b) = some r := kit_ty h
/-- which built-in type a datum has -/
theorem kt_of {K : PySem.W.Frag} (d : PyData) (hd : plainD d = true) (T : String) (hT : T = "tuple" ∨ T = "str" ∨ T = "int") : PySem.W.kitOne K (.type (tyD d)) (.type T) = some (decide (tyD d = T)) := by
  cases d with
  | none =>
            rcases hT with rfl | rfl | rfl
            · exact kt (show kitB "NoneType" "tuple" = some (decide ("NoneType" = "tuple")) by decide +kernel)
            · exact kt (show kitB "NoneType" "str" = some (decide ("NoneType" = "str")) by decide +kernel)
            · exact kt (show kitB "NoneType" "int" = some (decide ("NoneType" = "int")) by decide +kernel)
  | int i =>
            rcases hT with rfl | rfl | rfl
            · exact kt (show kitB "int" "tuple" = some (decide ("int" = "tuple")) by decide +kernel)
            · exact kt (show kitB "int" "str" = some (decide ("int" = "str")) by decide +kernel)
            · exact kt (show kitB "int" "int" = some (decide ("int" = "int")) by decide +kernel)
  | str s =>
            rcases hT with rfl | rfl | rfl
            · exact kt (show kitB "str" "tuple" = some (decide ("str" = "tuple")) by decide +kernel)
            · exact kt (show kitB "str" "str" = some (decide ("str" = "str")) by decide +kernel)
            · exact kt (show kitB "str" "int" = some (decide ("str" = "int")) by decide +kernel)
  | tuple ds =>
            rcases hT with rfl | rfl | rfl
            · exact kt (show kitB "tuple" "tuple" = some (decide ("tuple" = "tuple")) by decide +kernel)
            · exact kt (show kitB "tuple" "str" = some (decide ("tuple" = "str")) by decide +kernel)
            · exact kt (show kitB "tuple" "int" = some (decide ("tuple" = "int")) by decide +kernel)
  | bool b => simp [plainD] at hd
  | list ds => simp [plainD] at hd
  | dict ds => simp [plainD] at hd
theorem ktB {K : PySem.W.Frag} (i : Int) : PySem.W.kitOne K (.type (tyD (.int i))) (.type "bool") = some false := kt (show kitB "int" "bool" = some false by decide +kernel)
end Z
namespace Z
open PySem PySem.Spec PyProof.Rows L2
theorem ty_tuple {d : PyData} (hd : plainD d = true) (h : tyD d = "tuple") : ∃ ds, d = .tuple ds ∧ ds.length ≤ 1000 ∧ plainDs ds = true := by
  cases d with
  | none => exact absurd h (show ¬ "NoneType" = "tuple" by decide)
  | int i => exact absurd h (show ¬ "int" = "tuple" by decide)
  | str s => exact absurd h (show ¬ "str" = "tuple" by decide)
  | tuple ds =>
    have h2 : (decide (ds.length ≤ 1000) && plainDs ds) = true := by simpa [plainD] using hd
    exact ⟨ds, rfl, of_decide_eq_true (Bool.and_eq_true_iff.mp h2).1, (Bool.and_eq_true_iff.mp h2).2⟩
  | bool b => simp [plainD] at hd
  | list ds => simp [plainD] at hd
  | dict ds => simp [plainD] at hd
theorem no_tuple {d : PyData} (hd : plainD d = true) (h : ¬ tyD d = "tuple") : d = .none ∨ (∃ i, d = .int i) ∨ ∃ s, d = .str s := by
  cases d with
  | none => exact .inl rfl
  | int i => exact .inr (.inl ⟨i, rfl⟩)
  | str s => exact .inr (.inr ⟨s, rfl⟩)
  | tuple ds => exact absurd rfl h
  | bool b => simp [plainD] at hd
  | list ds => simp [plainD] at hd
  | dict ds => simp [plainD] at hd
theorem ext_of {α : Type} {xs ys : List α} (hl : xs.length = ys.length) (h : ∀ j < ys.length, xs[j]? = ys[j]?) : xs = ys := by
  apply List.ext_getElem? 
  intro j
  by_cases hj : j < ys.length
  · exact h j hj
  · rw [List.getElem?_eq_none (by omega), List.getElem?_eq_none (by omega)]
/-- a def with defaults dvs, the last of which may be left out -/
structure AtD (K : PySem.W.Frag) (mg : Str → Option Value) (x : Str) (st : Stmt) (ps : List Str) (dvs : List V) : Prop where
  ex : ∃ (f : Addr) (fd : FuncData) (ds : List Value), FunD K x x (defArgs st) (defBody st) (defScope st) dvs [] f fd ∧ mg x = some (.ref f) ∧ Binds K fd ps [] ∧ Binds K fd ps ds ∧ Vals dvs ds
section
variable {P : Program} {w : World} {K : PySem.W.Frag} {mg : Str → Option Value} {base : Heap} {x : Str} {st : Stmt} {ps N : List Str} {k : Nat} {sp : Sp} {dvs : List V}
theorem AtD.ok (F : AtD K mg x st ps dvs) (S : FnScope N ps (defScope st)) (len : ∀ vs H Q E, sp vs H Q E → vs.length = ps.length)
    (hbody : ∀ (f : Addr) (cdv : Value) (A : Around) (outer : List Env) (s : Shared) (H : Hp) (vs : List V) (Q : VK) (E : XK), Room k (A.deeper (envOfC x (defScope st) s.heap.objs.size f cdv)) → sp vs H Q E →
      ∃ t, PSs (cxOf CX0 P w K mg base N x (defScope st) f cdv A outer s H E).nox (defBody st) t ∧ t { nx := fun _ H' => Q .non H', rt := Q } (start N vs) H) :
    Ok P w K mg base (k + 1) x ps [] sp ∧ Ok P w K mg base (k + 1) x ps dvs sp := by
  obtain ⟨f, fd, ds, F, m, b, b2, d⟩ := F.ex
  have G : FnOk P w K mg base CX0 (k + 1) f fd ps sp := F.ok S len (fun cdv A outer s H vs Q E hr h => by
    obtain ⟨t, h1, h2⟩ := hbody f cdv A outer s H vs Q E hr h
    exact ⟨t, h1.nox, h2⟩)
  exact ⟨⟨f, fd, [], G, m, F.kp, b, .nil⟩, ⟨f, fd, ds, G, m, F.kp, b2, d⟩⟩
end
end Z
namespace Z
open PySem PySem.Spec PyProof.Rows L2
theorem plain_rat2 (q : Rat) : plainD (rat2 q) = true := by
  unfold rat2
  rw [plainD, plainDs, plainDs, plainDs, plainD, plainD]
  rfl
theorem dep_rat2 (q : Rat) : depD (rat2 q) = 1 := by
  simp [rat2, depD, depDs]
theorem rat2_inj {q r : Rat} (h : rat2 q = rat2 r) : q = r := by
  have h1 := PyData.tuple.inj h
  have h2 : PyData.int q.num = PyData.int r.num ∧ _ := List.cons.inj h1
  have h3 := List.cons.inj h2.2
  have h4 := PyData.int.inj h2.1
  have h5 := PyData.int.inj h3.1
  exact Rat.ext h4 (by omega)
/-- what law(script) promises -/
def spLaw (K : PySem.W.Frag) : Sp := fun vs H Q _ => ∃ (a : Addr) (ns : List Int), vs = [.ref a] ∧ SqL K H a (ns.map V.int) ∧ ns.length ≤ 63 ∧ ∀ H', Q (.bl true) H'
theorem t41 : (100000000000000000000000000000000000000000 : Nat) < BIG := Nat.lt_of_lt_of_le (show 100000000000000000000000000000000000000000 < 2 ^ 200 by decide +kernel) (Nat.pow_le_pow_right (by decide) (by decide))
theorem bigK {n : Nat} (h : n ≤ 100000000000000000000000000000000000000000000000000) : n < BIG :=
  Nat.lt_of_le_of_lt h (Nat.lt_of_lt_of_le (show 100000000000000000000000000000000000000000000000000 < 2 ^ 200 by decide +kernel) (Nat.pow_le_pow_right (by decide) (by decide)))
end Z

namespace Z
open PySem PySem.Spec PyProof.Rows L2
/-! ### the promises of the ratios' operations -/
theorem sz_big {x n : Nat} (h : n ≤ 8000) (hx : x < 2 ^ n) : x < BIG := Nat.lt_of_lt_of_le hx (Nat.pow_le_pow_right (by decide) h)
theorem Sz.bn {q : Rat} (h : Sz 3900 q) : q.num.natAbs < BIG := sz_big (by decide) h.1
theorem Sz.bd {q : Rat} (h : Sz 3900 q) : ((q.den : Int)).natAbs < BIG := sz_big (n := 3900) (by decide) (by rw [Int.natAbs_natCast]; exact h.2)
def spBin (K : PySem.W.Frag) (g : Rat → Rat → Rat) : Sp := fun vs H Q _ => ∃ (x y : V) (p q : Rat), vs = [x, y] ∧ Is K H x (rat2 p) ∧ Is K H y (rat2 q) ∧ Sz 3900 p ∧ Sz 3900 q ∧ ∀ v H', Same H H' → Is K H' v (rat2 (g p q)) → Q v H'
def spBinQ (K : PySem.W.Frag) : Sp := fun vs H Q _ => ∃ (x y : V) (p q : Rat), vs = [x, y] ∧ Is K H x (rat2 p) ∧ Is K H y (rat2 q) ∧ Sz 3900 p ∧ Sz 3900 q ∧ q ≠ 0 ∧ ∀ v H', Same H H' → Is K H' v (rat2 (p / q)) → Q v H'
def spLess (K : PySem.W.Frag) : Sp := fun vs H Q _ => ∃ (x y : V) (p q : Rat), vs = [x, y] ∧ Is K H x (rat2 p) ∧ Is K H y (rat2 q) ∧ Sz 3900 p ∧ Sz 3900 q ∧ Q (.bl (decide (p < q))) H
/-- the program's own zero -/
def GZ (K : PySem.W.Frag) (mg : Str → Option Value) : Prop := ∃ zA : Addr, mg "ZERO" = some (.ref zA) ∧ ∀ H : Hp, SqT K H zA [.int 0, .int 1]
theorem is_zero {K : PySem.W.Frag} {H : Hp} {a : Addr} (h : SqT K H a [.int 0, .int 1]) : Is K H (.ref a) (rat2 0) := .tup h (.two (.int 0) (.int 1))
/-! ### sums -/
def sumR : List Rat → Rat
  | [] => 0
  | q :: r => q + sumR r
def sumL (z : Rat) (qs : List Rat) : Rat := qs.foldl (· + ·) z
theorem sumL_take {qs : List Rat} {i : Nat} {q : Rat} (h : qs[i]? = some q) (z : Rat) : sumL z (qs.take (i + 1)) = sumL z (qs.take i) + q := by
  unfold sumL
  rw [List.take_add_one, h, List.foldl_append]
  rfl
theorem sumL_sz {n : Nat} : ∀ {qs : List Rat} {m : Nat} {z : Rat}, (∀ q ∈ qs, Sz n q) → Sz m z → Sz (m + qs.length * (n + 1)) (sumL z qs)
  | [], m, z, _, hz => hz.mono (by omega)
  | q :: r, m, z, h, hz => by
    have h1 := hz.add (h q (List.mem_cons_self ..))
    have h2 := sumL_sz (qs := r) (fun x hx => h x (List.mem_cons_of_mem _ hx)) h1
    refine h2.mono ?_
    rw [List.length_cons, Nat.add_mul]
    omega
/-- the sum of ratios that stand in a list at a; n bounds their size -/
def spSumL (K : PySem.W.Frag) : Sp := fun vs H Q _ => ∃ (a : Addr) (xs : List V) (qs : List Rat) (n : Nat), vs = [.ref a] ∧ SqL K H a xs ∧ IsA K H xs (qs.map rat2) ∧ (∀ q ∈ qs, Sz n q) ∧ n ≤ 2000 ∧ qs.length * (n + 1) ≤ 1900 ∧
  ∀ v H', Same H H' → Is K H' v (rat2 (sumL 0 qs)) → Q v H'
def spSumT (K : PySem.W.Frag) : Sp := fun vs H Q _ => ∃ (a : Addr) (xs : List V) (qs : List Rat) (n : Nat), vs = [.ref a] ∧ SqT K H a xs ∧ IsA K H xs (qs.map rat2) ∧ (∀ q ∈ qs, Sz n q) ∧ n ≤ 2000 ∧ qs.length * (n + 1) ≤ 1900 ∧
  ∀ v H', Same H H' → Is K H' v (rat2 (sumL 0 qs)) → Q v H'
/-- the same, every sum on the way small -/
def spSumLP (K : PySem.W.Frag) : Sp := fun vs H Q _ => ∃ (a : Addr) (xs : List V) (qs : List Rat), vs = [.ref a] ∧ SqL K H a xs ∧ IsA K H xs (qs.map rat2) ∧ (∀ q ∈ qs, Sz 3900 q) ∧ (∀ i, Sz 3900 (sumL 0 (qs.take i))) ∧ ∀ v H', Same H H' → Is K H' v (rat2 (sumL 0 qs)) → Q v H'
def spSumTP (K : PySem.W.Frag) : Sp := fun vs H Q _ => ∃ (a : Addr) (xs : List V) (qs : List Rat), vs = [.ref a] ∧ SqT K H a xs ∧ IsA K H xs (qs.map rat2) ∧ (∀ q ∈ qs, Sz 3900 q) ∧ (∀ i, Sz 3900 (sumL 0 (qs.take i))) ∧ ∀ v H', Same H H' → Is K H' v (rat2 (sumL 0 qs)) → Q v H'
theorem sumL_mid {qs : List Rat} {n i : Nat} (h : ∀ q ∈ qs, Sz n q) (hl : qs.length * (n + 1) ≤ 1900) : Sz 3900 (sumL 0 (qs.take i)) := by
  refine (sumL_sz (fun q hq => h q (List.mem_of_mem_take hq)) Sz.zero).mono ?_
  have : (qs.take i).length ≤ qs.length := by rw [List.length_take]; omega
  have := Nat.mul_le_mul_right (n + 1) this
  omega
theorem getR {qs : List Rat} {i : Nat} {d : PyData} (h : (qs.map rat2)[i]? = some d) : ∃ q, qs[i]? = some q ∧ d = rat2 q := by
  rw [List.getElem?_map] at h
  cases hq : qs[i]? with
  | none => rw [hq] at h; cases h
  | some q => rw [hq] at h; exact ⟨q, rfl, (Option.some.inj h).symm⟩
theorem seq_same {K : PySem.W.Frag} {H H' : Hp} {a : Addr} {xs : List V} (e : Same H H') (h : SqL K H a xs) : SqL K H' a xs := e.seq h
/-- an item of a list of data -/
theorem IsA.at {K : PySem.W.Frag} {H : Hp} : ∀ {vs : List V} {ds : List PyData} {i : Nat} {v : V}, IsA K H vs ds → vs[i]? = some v → ∃ d, ds[i]? = some d ∧ Is K H v d
  | _, _, _, _, .nil, e => by simp at e
  | _, _, 0, _, .cons h _, e => by simp at e; subst e; exact ⟨_, rfl, h⟩
  | _, _, i + 1, v, .cons _ t, e => by
    obtain ⟨d, h1, h2⟩ := IsA.at (i := i) (v := v) t (by simpa using e)
    exact ⟨d, by simpa using h1, h2⟩
section
variable {K : PySem.W.Frag} {σ : L2.St} {H : Hp} {Q : VK} {i j : Nat} {va vb : V} {p q : Rat} {g : Rat → Rat → Rat}
/-- two answers of ratios, the same -/
theorem rd_same2 (h1 : σ[i]? = some (some va)) (h2 : σ[j]? = some (some vb)) (ia : Is K H va (rat2 p)) (ib : Is K H vb (rat2 q)) (zp : Sz 3900 p) (zq : Sz 3900 q) (k : ∀ H', Same H H' → Q (.bl true) H') :
    tCall (spSame K 2) [] E0 (tCons (tCall (spBin K g) [] E0 (tCons (tVar i) (tCons (tVar j) tNil))) (tCons (tCall (spBin K g) [] E0 (tCons (tVar i) (tCons (tVar j) tNil))) tNil)) σ H Q := by
  refine ⟨va, h1, vb, h2, va, vb, p, q, rfl, ia, ib, zp, zq, fun v1 H1 s1 i1 => ?_⟩
  refine ⟨va, h1, vb, h2, va, vb, p, q, rfl, ia.to (Same.tm s1), ib.to (Same.tm s1), zp, zq, fun v2 H2 s2 i2 => ?_⟩
  refine ⟨v1, v2, _, _, rfl, i1.to (Same.tm s2), i2, plain_rat2 _, plain_rat2 _, by rw [dep_rat2]; decide, fun c H3 s3 hc => ?_⟩
  obtain rfl : c = true := hc.mpr rfl
  exact k H3 (s1.trans (s2.trans s3))
theorem rd_same2Q (h1 : σ[i]? = some (some va)) (h2 : σ[j]? = some (some vb)) (ia : Is K H va (rat2 p)) (ib : Is K H vb (rat2 q)) (zp : Sz 3900 p) (zq : Sz 3900 q) (hq : q ≠ 0) (k : ∀ H', Same H H' → Q (.bl true) H') :
    tCall (spSame K 2) [] E0 (tCons (tCall (spBinQ K) [] E0 (tCons (tVar i) (tCons (tVar j) tNil))) (tCons (tCall (spBinQ K) [] E0 (tCons (tVar i) (tCons (tVar j) tNil))) tNil)) σ H Q := by
  refine ⟨va, h1, vb, h2, va, vb, p, q, rfl, ia, ib, zp, zq, hq, fun v1 H1 s1 i1 => ?_⟩
  refine ⟨va, h1, vb, h2, va, vb, p, q, rfl, ia.to (Same.tm s1), ib.to (Same.tm s1), zp, zq, hq, fun v2 H2 s2 i2 => ?_⟩
  refine ⟨v1, v2, _, _, rfl, i1.to (Same.tm s2), i2, plain_rat2 _, plain_rat2 _, by rw [dep_rat2]; decide, fun c H3 s3 hc => ?_⟩
  obtain rfl : c = true := hc.mpr rfl
  exact k H3 (s1.trans (s2.trans s3))
end
theorem sumL_imp {K : PySem.W.Frag} : ∀ vs H Q E, spSumL K vs H Q E → spSumLP K vs H Q E := by
  rintro vs H Q E ⟨a, xs, qs, n, rfl, hS, hI, hz, hn, hl, k⟩
  exact ⟨a, xs, qs, rfl, hS, hI, fun q hq => (hz q hq).mono (by omega), fun i => sumL_mid hz hl, k⟩
theorem sumT_imp {K : PySem.W.Frag} : ∀ vs H Q E, spSumT K vs H Q E → spSumTP K vs H Q E := by
  rintro vs H Q E ⟨a, xs, qs, n, rfl, hS, hI, hz, hn, hl, k⟩
  exact ⟨a, xs, qs, rfl, hS, hI, fun q hq => (hz q hq).mono (by omega), fun i => sumL_mid hz hl, k⟩
end Z

namespace Z
open PySem PySem.Spec PyProof.Rows L2
/-! ### jobs -/
structure Job where
  n : Str
  c : Int
  d : Int
  w : Int
def dJob (j : Job) : PyData := .tuple [.str j.n, .int j.c, .int j.d, .int j.w]
/-- the name of the k-th job: one letter of a .. t, the k-th of them -/
structure NmOk (k : Nat) (x : Str) : Prop where
  mid : x.cps.toList.find? (fun c => decide (c < 117)) = some (97 + k)
  len : x.cps.toList.length ≤ 6
  low : ∀ c ∈ x.cps.toList, 97 ≤ c ∧ c ≤ 122
  ne : x.cps.toList ≠ []
theorem NmOk.inj {k l : Nat} {x : Str} (h : NmOk k x) (h' : NmOk l x) : k = l := by
  have e := h.mid.symm.trans h'.mid
  have := Option.some.inj e
  omega
structure JobOk (j : Job) : Prop where
  c0 : 0 ≤ j.c
  cd : j.c < j.d
  d1 : j.d ≤ 10000
  w0 : 1 ≤ j.w
  w1 : j.w ≤ 10000
/-- a job list as it is drawn -/
structure JobsOk (js : List Job) : Prop where
  ok : ∀ j ∈ js, JobOk j
  nm : ∀ i j, js[i]? = some j → NmOk i j.n
theorem str_app (x y : Str) : (x ++ y).cps.toList = x.cps.toList ++ y.cps.toList := Array.toList_append ..
theorem str_len (x : Str) : x.length = x.cps.toList.length := rfl
/-- a drawn name -/
def spName : Sp := fun vs H Q _ => ∃ (p pa : Addr) (k : Nat), vs = [.ref p, .int (k : Int)] ∧ Pl p pa H ∧ k < 20 ∧ ∀ x H', NmOk k x → Kp p H H' → Pl p pa H' → Q (.str x) H'
/-- a drawn window -/
def spWin (K : PySem.W.Frag) : Sp := fun vs H Q _ => ∃ (p pa : Addr) (b : Bool), vs = [.ref p, .bl b] ∧ Pl p pa H ∧ ∀ t c d H', 0 ≤ c → c < d → d ≤ 10000 → Kp p H H' → Pl p pa H' → H t = none → H' t = some (.tup [.int c, .int d]) → Q (.ref t) H'
/-- a drawn job list of at most n jobs -/
def spJobs (K : PySem.W.Frag) : Sp := fun vs H Q _ => ∃ (p pa : Addr) (n : Nat), vs = [.ref p, .int (n : Int)] ∧ Pl p pa H ∧ n ≤ 19 ∧ ∀ t xs js H', JobsOk js → js.length ≤ n → Kp p H H' → Pl p pa H' → H t = none → H' t = some (.tup xs) → IsA K H' xs (js.map dJob) → Q (.ref t) H'
theorem fresh_kp {p a : Addr} {H H' : Hp} (e : Kp p H H') (n : a ≠ p) (h : H' a = none) : H a = none := by
  cases q : H a with
  | none => rfl
  | some o =>
    rw [e a o n q] at h
    cases h
theorem Pl.at_ne {p pa q : Addr} {H : Hp} {xs : List V} (h : Pl p pa H) (hq : H q = some (.tup xs)) : q ≠ p := by
  obtain ⟨ns, i, rest, last, cnt, nn, h, _⟩ := h
  rintro rfl
  rw [h] at hq
  cases hq
/-- what is new behind a change at p is new before it -/
theorem Pl.free {p pa q : Addr} {H H' : Hp} (h : Pl p pa H') (e : Kp p H H') (hq : H' q = none) : H q = none := fresh_kp e (h.ne hq).1 hq
/-! ### the parts of a name -/
def HeadOk (x : Str) : Prop := x.cps.toList.length ≤ 3 ∧ ∀ c ∈ x.cps.toList, 117 ≤ c ∧ c ≤ 122
def TailOk (x : Str) : Prop := x.cps.toList.length ≤ 2 ∧ ∀ c ∈ x.cps.toList, 97 ≤ c ∧ c ≤ 122
theorem nm_of {k : Nat} {h t : Str} (hk : k < 20) (hh : HeadOk h) (ht : TailOk t) : NmOk k (h ++ ⟨#[97 + k]⟩ ++ t) := by
  have e : (h ++ (⟨#[97 + k]⟩ : Str) ++ t).cps.toList = h.cps.toList ++ (97 + k) :: t.cps.toList := by
    rw [str_app, str_app, List.append_assoc]
    rfl
  refine ⟨?_, ?_, ?_, ?_⟩
  · rw [e]
    have : ∀ l : List Nat, (∀ c ∈ l, 117 ≤ c ∧ c ≤ 122) → (l ++ (97 + k) :: t.cps.toList).find? (fun c => decide (c < 117)) = some (97 + k) := by
      intro l
      induction l with
      | nil =>
        intro _
        show ((97 + k) :: t.cps.toList).find? _ = _
        rw [List.find?_cons_of_pos]
        exact decide_eq_true (by omega)
      | cons c r ih =>
        intro hc
        show (c :: (r ++ (97 + k) :: t.cps.toList)).find? _ = _
        rw [List.find?_cons_of_neg]
        · exact ih fun x hx => hc x (List.mem_cons_of_mem _ hx)
        · have := hc c (List.mem_cons_self ..)
          rw [decide_eq_false (by omega)]
          decide
    exact this _ hh.2
  · rw [e, List.length_append, List.length_cons]
    have := hh.1
    have := ht.1
    omega
  · rw [e]
    intro c hc
    rcases List.mem_append.mp hc with h | h
    · have := hh.2 c h
      omega
    · rcases List.mem_cons.mp h with h | h
      · omega
      · exact ht.2 c h
  · rw [e]
    simp
theorem letters_at : ∀ k < 20, ((("abcdefghijklmnopqrst" : Str)).cps.toList)[k]? = some (97 + k) := by decide +kernel
theorem headOk0 : HeadOk (("" : Str)) := ⟨by decide +kernel, by decide +kernel⟩
theorem headOk1 : HeadOk (("u" : Str)) := ⟨by decide +kernel, by decide +kernel⟩
theorem headOk2 : HeadOk (("vw" : Str)) := ⟨by decide +kernel, by decide +kernel⟩
theorem headOk3 : HeadOk (("xyz" : Str)) := ⟨by decide +kernel, by decide +kernel⟩
theorem tailOk0 : TailOk (("" : Str)) := ⟨by decide +kernel, by decide +kernel⟩
theorem tailOk1 : TailOk (("z" : Str)) := ⟨by decide +kernel, by decide +kernel⟩
theorem tailOk2 : TailOk (("yy" : Str)) := ⟨by decide +kernel, by decide +kernel⟩
theorem head_at {r : Int} (h0 : 0 ≤ r) (h1 : r < 4) : ∃ x, atI [V.str (("" : Str)), V.str (("u" : Str)), V.str (("vw" : Str)), V.str (("xyz" : Str))] r = some (.str x) ∧ HeadOk x := by
  have : r = 0 ∨ r = 1 ∨ r = 2 ∨ r = 3 := by omega
  rcases this with rfl | rfl | rfl | rfl
  · exact ⟨_, rfl, headOk0⟩
  · exact ⟨_, rfl, headOk1⟩
  · exact ⟨_, rfl, headOk2⟩
  · exact ⟨_, rfl, headOk3⟩
theorem tail_at {r : Int} (h0 : 0 ≤ r) (h1 : r < 3) : ∃ x, atI [V.str (("" : Str)), V.str (("z" : Str)), V.str (("yy" : Str))] r = some (.str x) ∧ TailOk x := by
  have : r = 0 ∨ r = 1 ∨ r = 2 := by omega
  rcases this with rfl | rfl | rfl
  · exact ⟨_, rfl, tailOk0⟩
  · exact ⟨_, rfl, tailOk1⟩
  · exact ⟨_, rfl, tailOk2⟩
theorem IsA.push {K : PySem.W.Frag} {H : Hp} {xs : List V} {ds : List PyData} {v : V} {d : PyData} (h : IsA K H xs ds) (i : Is K H v d) : IsA K H (xs ++ [v]) (ds ++ [d]) := h.append (.cons i .nil)
theorem is_job {K : PySem.W.Frag} {H : Hp} {t : Addr} {j : Job} (h : SqT K H t [.str j.n, .int j.c, .int j.d, .int j.w]) : Is K H (.ref t) (dJob j) := .tup h (.cons (.str _) (.cons (.int _) (.cons (.int _) (.cons (.int _) .nil))))
theorem job_at {K : PySem.W.Frag} {H : Hp} {v : V} {j : Job} (h : Is K H v (dJob j)) : ∃ t, v = .ref t ∧ SqT K H t [.str j.n, .int j.c, .int j.d, .int j.w] := by
  obtain ⟨t, xs, rfl, s, a⟩ := h.tup'
  cases a with
  | cons h1 a => cases a with
    | cons h2 a => cases a with
      | cons h3 a => cases a with
        | cons h4 a =>
          cases a; cases h1; cases h2; cases h3; cases h4
          exact ⟨t, rfl, s⟩
theorem getJ {α : Type} {f : α → PyData} {qs : List α} {i : Nat} {d : PyData} (h : (qs.map f)[i]? = some d) : ∃ q, qs[i]? = some q ∧ d = f q := by
  rw [List.getElem?_map] at h
  cases hq : qs[i]? with
  | none => rw [hq] at h; cases h
  | some q => rw [hq] at h; exact ⟨q, rfl, (Option.some.inj h).symm⟩
theorem JobsOk.push {js : List Job} {j : Job} (h : JobsOk js) (hj : JobOk j) (hn : NmOk js.length j.n) : JobsOk (js ++ [j]) := by
  refine ⟨fun x hx => ?_, fun i x hx => ?_⟩
  · rcases List.mem_append.mp hx with z | z
    · exact h.ok x z
    · rw [List.mem_singleton.mp z]
      exact hj
  · by_cases hi : i < js.length
    · rw [List.getElem?_append_left hi] at hx
      exact h.nm i x hx
    · rw [List.getElem?_append_right (by omega)] at hx
      have : i - js.length = 0 := by
        cases z : i - js.length with
        | zero => rfl
        | succ n => rw [z] at hx; simp at hx
      rw [this] at hx
      have e : j = x := Option.some.inj hx
      subst e
      have : i = js.length := by omega
      rw [this]
      exact hn
theorem JobsOk.nil : JobsOk [] := ⟨fun _ h => (nomatch h), fun _ _ h => by simp at h⟩
/-- a pool and a list of data at L, all else as in H0 -/
structure LM (K : PySem.W.Frag) (p pa L : Addr) (H0 : Hp) (ds : List PyData) (H' : Hp) : Prop where
  P : Pl p pa H'
  k : Kp p H0 H'
  l : ∃ xs, H' L = some (.lst xs) ∧ IsA K H' xs ds
theorem LM.step {K : PySem.W.Frag} {p pa L : Addr} {H0 H1 H2 : Hp} {ds : List PyData} (h : LM K p pa L H0 ds H1) (n : L ≠ p) (e : Kp p H1 H2) (P2 : Pl p pa H2) : LM K p pa L H0 ds H2 := by
  obtain ⟨P, k, xs, hl, hi⟩ := h
  exact ⟨P2, k.trans e, xs, e _ _ n hl, hi.to (P.tm e)⟩
theorem LM.same {K : PySem.W.Frag} {p pa L : Addr} {H0 H1 H2 : Hp} {ds : List PyData} (h : LM K p pa L H0 ds H1) (e : Same H1 H2) : LM K p pa L H0 ds H2 := by
  obtain ⟨P, k, xs, hl, hi⟩ := h
  exact ⟨P.same e, k.trans (.of e), xs, e _ _ hl, hi.to (Same.tm e)⟩
/-- the list is stored anew -/
theorem LM.put {K : PySem.W.Frag} {p pa L : Addr} {H0 H1 : Hp} {ds es : List PyData} {ys : List V} (h : LM K p pa L H0 ds H1) (n : L ≠ p) (na : L ≠ pa) (f : H0 L = none) (hi : IsA K H1 ys es) : LM K p pa L H0 es (upd H1 L (.lst ys)) := by
  obtain ⟨P, k, xs, hl, _⟩ := h
  exact ⟨P.mut n na, k.mut f, ys, upd_same, hi.to (Tm.lst hl)⟩
theorem LM.new {K : PySem.W.Frag} {p pa L : Addr} {H0 H1 : Hp} (P : Pl p pa H1) (k : Kp p H0 H1) (f : H1 L = none) : LM K p pa L H0 [] (upd H1 L (.lst [])) :=
  ⟨P.same (same_upd f), k.trans (.new f), [], upd_same, .nil⟩
end Z

namespace Z
open PySem PySem.Spec PyProof.Rows L2
/-! ### points -/
structure PtsOk (js : List Job) (ps : List Int) : Prop where
  lt : ps.Pairwise (· < ·)
  mem : ∀ j ∈ js, j.c ∈ ps ∧ j.d ∈ ps
  bd : ∀ x ∈ ps, ∃ j ∈ js, j.c ≤ x ∧ x ≤ j.d
  len : ps.length ≤ 3 * js.length
theorem isA_ints {K : PySem.W.Frag} {H : Hp} : ∀ {ns : List Int} {xs : List V}, IsA K H xs (ns.map PyData.int) → xs = ns.map V.int
  | [], _, .nil => rfl
  | n :: ns, _, .cons h t => by
    cases h
    rw [isA_ints t]
    rfl
theorem ints_isA {K : PySem.W.Frag} {H : Hp} : ∀ (ns : List Int), IsA K H (ns.map V.int) (ns.map PyData.int)
  | [] => .nil
  | n :: ns => .cons (.int n) (ints_isA ns)
theorem inV_int (i : Int) : ∀ ns : List Int, inV (.int i) (ns.map V.int) = decide (i ∈ ns)
  | [] => by simp [inV]
  | n :: ns => by
    have h := inV_int i ns
    unfold inV at h ⊢
    rw [List.map_cons, List.any_cons, h]
    show ((n == i) || decide (i ∈ ns)) = _
    by_cases e : n = i
    · subst e; simp
    · have : (n == i) = false := by simpa using e
      rw [this]
      simp [List.mem_cons, Ne.symm e]
theorem flat_ints : ∀ ns : List Int, (ns.map V.int).all flatV = true
  | [] => rfl
  | n :: ns => by
    rw [List.map_cons, List.all_cons, flat_ints ns]
    rfl
theorem cut_take (xs : List V) (k : Nat) : cutV xs none (some (k : Int)) = xs.take k := by
  unfold cutV
  rw [HT.sIx_none, HT.sIx_nat]
  show (xs.drop 0).take (min k xs.length - 0) = _
  rw [List.drop_zero, Nat.sub_zero]
  by_cases h : k ≤ xs.length
  · rw [Nat.min_eq_left h]
  · rw [Nat.min_eq_right (by omega), List.take_length, List.take_of_length_le (by omega)]
theorem pw_lt {ps : List Int} (h : ps.Pairwise (· ≤ ·)) (nd : ps.Nodup) : ps.Pairwise (· < ·) := by
  have := List.Pairwise.and h nd
  exact this.imp fun ⟨a, b⟩ => by omega
/-- the points of a job list -/
def spPoints (K : PySem.W.Frag) : Sp := fun vs H Q _ => ∃ (p pa J : Addr) (xs : List V) (js : List Job), vs = [.ref p, .ref J] ∧ Pl p pa H ∧ SqT K H J xs ∧ IsA K H xs (js.map dJob) ∧ (∀ j ∈ js, JobOk j) ∧ js.length ≤ 19 ∧
  ∀ l ps H', PtsOk js ps → Kp p H H' → Pl p pa H' → H l = none → H' l = some (.lst (ps.map V.int)) → Q (.ref l) H'
/-! ### shares -/
def dSlot (s : Int × Int) : PyData := .tuple [.int s.1, .int s.2]
theorem slot_at {K : PySem.W.Frag} {H : Hp} {v : V} {s : Int × Int} (h : Is K H v (dSlot s)) : ∃ t, v = .ref t ∧ SqT K H t [.int s.1, .int s.2] := by
  obtain ⟨t, a, b, rfl, st, h1, h2⟩ := Is.two' h
  cases h1; cases h2
  exact ⟨t, rfl, st⟩
def mine (j : Job) (s : Int × Int) : Bool := decide (j.c ≤ s.1) && decide (s.2 ≤ j.d)
/-- the shares fs of the job j in the stretches sl -/
structure ShOk (j : Job) (sl : List (Int × Int)) (fs : List Rat) : Prop where
  len : fs.length = sl.length
  own : ∀ (x : Nat) (q : Rat) (s : Int × Int), fs[x]? = some q → sl[x]? = some s → q ≠ 0 → mine j s = true
  nn : ∀ q ∈ fs, 0 ≤ q
  wh : ∃ W : Int, 0 < W ∧ W ≤ 200 ∧ ∀ q ∈ fs, ∃ z : Int, 0 ≤ z ∧ z ≤ 30000 ∧ q * (W : Rat) = (z : Rat)
  sum : rsum fs = (j.w : Rat)
theorem ShOk.sz {j : Job} {sl : List (Int × Int)} {fs : List Rat} (h : ShOk j sl fs) : ∀ q ∈ fs, Sz 16 q := fun q hq => by
  obtain ⟨W, w0, w1, hw⟩ := h.wh
  obtain ⟨z, z0, z1, e⟩ := hw q hq
  exact sz_of_whole e (by omega) (by omega) (by omega)
theorem rsum_set : ∀ {xs : List Rat} {i : Nat} {x y : Rat}, xs[i]? = some x → rsum (xs.set i y) = rsum xs - x + y
  | [], i, x, y, h => by simp at h
  | a :: r, 0, x, y, h => by
    have e : a = x := Option.some.inj h
    subst e
    show y + rsum r = a + rsum r - a + y
    grind
  | a :: r, i + 1, x, y, h => by
    have ih := rsum_set (xs := r) (i := i) (x := x) (y := y) h
    show a + rsum (r.set i y) = a + rsum r - x + y
    rw [ih]
    grind
theorem rsum_zeros : ∀ n : Nat, rsum (List.replicate n (0 : Rat)) = 0
  | 0 => rfl
  | n + 1 => by
    show 0 + rsum (List.replicate n (0 : Rat)) = 0
    rw [rsum_zeros n]
    grind
/-- the indexes of the stretches of a job -/
def owns (j : Job) (sl : List (Int × Int)) (n : Nat) : List Nat := (List.range n).filter fun k => mine j (sl.getD k (0, 0))
theorem owns_yes {j : Job} {sl : List (Int × Int)} {n : Nat} (h : mine j (sl.getD n (0, 0)) = true) : owns j sl (n + 1) = owns j sl n ++ [n] := by
  unfold owns
  rw [List.range_succ, List.filter_append, List.filter_cons_of_pos (p := fun k => mine j (sl.getD k (0, 0))) h]
  rfl
theorem owns_no {j : Job} {sl : List (Int × Int)} {n : Nat} (h : mine j (sl.getD n (0, 0)) = false) : owns j sl (n + 1) = owns j sl n := by
  unfold owns
  rw [List.range_succ, List.filter_append, List.filter_cons_of_neg (p := fun k => mine j (sl.getD k (0, 0))) (by rw [h]; decide)]
  exact List.append_nil _
theorem owns_len (j : Job) (sl : List (Int × Int)) (n : Nat) : (owns j sl n).length ≤ n := by
  have h := List.length_filter_le (fun k => mine j (sl.getD k (0, 0))) (List.range n)
  rw [List.length_range] at h
  exact h
theorem owns_nodup (j : Job) (sl : List (Int × Int)) (n : Nat) : (owns j sl n).Nodup := List.Pairwise.filter _ List.nodup_range
theorem owns_mem {j : Job} {sl : List (Int × Int)} {n k : Nat} : k ∈ owns j sl n ↔ k < n ∧ mine j (sl.getD k (0, 0)) = true := by
  unfold owns
  rw [List.mem_filter, List.mem_range]
theorem getD_at {α : Type} {xs : List α} {i : Nat} {x d : α} (h : xs[i]? = some x) : xs.getD i d = x := by
  rw [List.getD_eq_getElem?_getD, h]
  rfl
/-- i of the weights are shared out -/
structure ShMid (j : Job) (sl : List (Int × Int)) (os : List Nat) (ws : List Int) (W : Int) (i : Nat) (fs : List Rat) : Prop where
  len : fs.length = sl.length
  own : ∀ (x : Nat) (q : Rat) (s : Int × Int), fs[x]? = some q → sl[x]? = some s → q ≠ 0 → mine j s = true
  rest : ∀ k x : Nat, i ≤ k → os[k]? = some x → fs[x]? = some 0
  wh : ∀ q ∈ fs, ∃ z : Int, 0 ≤ z ∧ z ≤ 30000 ∧ q * (W : Rat) = (z : Rat)
  sum : rsum fs * (W : Rat) = ((j.w * (ws.take i).sum : Int) : Rat)
theorem ShMid.zero {j : Job} {sl : List (Int × Int)} {os : List Nat} {ws : List Int} {W : Int} (h : ∀ x ∈ os, x < sl.length) : ShMid j sl os ws W 0 (List.replicate sl.length 0) where
  len := List.length_replicate
  own := fun x q s hq _ n => absurd (List.eq_of_mem_replicate (List.mem_of_getElem? hq)) n
  rest := fun k x _ hx => by
    rw [List.getElem?_replicate, if_pos (h x (List.mem_of_getElem? hx))]
  wh := fun q hq => ⟨0, Int.le_refl _, by decide, by rw [List.eq_of_mem_replicate hq]; grind⟩
  sum := by
    rw [rsum_zeros]
    show 0 * (W : Rat) = ((j.w * 0 : Int) : Rat)
    rw [Int.mul_zero]
    grind
theorem ShMid.next {j : Job} {sl : List (Int × Int)} {os : List Nat} {ws : List Int} {W : Int} {i x : Nat} {w : Int} {fs : List Rat} (h : ShMid j sl os ws W i fs) (hj : JobOk j) (nd : os.Nodup) (hx : os[i]? = some x) (hw : ws[i]? = some w) (w0 : 0 ≤ w) (w3 : w ≤ 3)
    (hW : 0 < W) (hm : ∀ s, sl[x]? = some s → mine j s = true) : ShMid j sl os ws W (i + 1) (fs.set x (Rat.divInt (j.w * w) W)) := by
  have hWr : (W : Rat) ≠ 0 := fun c => by
    have := Rat.intCast_eq_zero_iff.mp c
    omega
  have eq : Rat.divInt (j.w * w) W * (W : Rat) = ((j.w * w : Int) : Rat) := by
    rw [divInt_div]
    grind
  refine ⟨by rw [List.length_set]; exact h.len, fun y q s hq hs n => ?_, fun k y hk hy => ?_, fun q hq => ?_, ?_⟩
  · by_cases e : x = y
    · subst e
      exact hm s hs
    · rw [List.getElem?_set_ne e] at hq
      exact h.own y q s hq hs n
  · have e : x ≠ y := fun e => by
      subst e
      have := nd_ix nd hx hy
      omega
    rw [List.getElem?_set_ne e]
    exact h.rest k y (by omega) hy
  · rcases List.mem_or_eq_of_mem_set hq with hq | hq
    · exact h.wh q hq
    · subst hq
      have a := hj.w0
      have b := hj.w1
      refine ⟨j.w * w, Int.mul_nonneg (by omega) w0, ?_, eq⟩
      have : j.w * w ≤ 10000 * 3 := Int.mul_le_mul b w3 w0 (by decide)
      omega
  · have z := h.rest i x (Nat.le_refl _) hx
    rw [rsum_set z]
    have e2 : (ws.take (i + 1)).sum = (ws.take i).sum + w := sum_take hw
    rw [e2, Int.mul_add]
    have e3 := h.sum
    have e4 : ((j.w * (ws.take i).sum + j.w * w : Int) : Rat) = ((j.w * (ws.take i).sum : Int) : Rat) + ((j.w * w : Int) : Rat) := Rat.intCast_add _ _
    rw [e4, ← e3, ← eq]
    grind
theorem ShMid.done {j : Job} {sl : List (Int × Int)} {os : List Nat} {ws : List Int} {W : Int} {fs : List Rat} (h : ShMid j sl os ws W ws.length fs) (hW : 0 < W) (h2 : W ≤ 200) (e : ws.sum = W) : ShOk j sl fs := by
  have hWr : (W : Rat) ≠ 0 := fun c => by
    have := Rat.intCast_eq_zero_iff.mp c
    omega
  have hWp : (0 : Rat) < (W : Rat) := Rat.intCast_pos.mpr hW
  refine ⟨h.len, h.own, fun q hq => ?_, ⟨W, hW, h2, h.wh⟩, ?_⟩
  · obtain ⟨z, z0, _, e⟩ := h.wh q hq
    have z1 : (0 : Rat) ≤ (z : Rat) := Rat.intCast_nonneg.mpr z0
    have e2 : q = (z : Rat) / (W : Rat) := by
      rw [← e]
      grind
    rw [e2]
    rw [Rat.div_def]
    exact Rat.mul_nonneg z1 (Rat.le_of_lt (Rat.inv_pos.mpr hWp))
  · have e1 := h.sum
    rw [List.take_length, e, Rat.intCast_mul] at e1
    grind
theorem sum_nonneg : ∀ {ws : List Int}, (∀ w ∈ ws, 0 ≤ w) → 0 ≤ ws.sum
  | [], _ => Int.le_refl _
  | w :: ws, h => by
    have h1 := sum_nonneg (ws := ws) fun y hy => h y (List.mem_cons_of_mem _ hy)
    have h2 := h w (List.mem_cons_self ..)
    rw [List.sum_cons]
    omega
theorem sum_le3 : ∀ {ws : List Int}, (∀ w ∈ ws, w ≤ 3) → ws.sum ≤ 3 * (ws.length : Int)
  | [], _ => by show (0 : Int) ≤ 3 * ((0 : Nat) : Int); omega
  | w :: ws, h => by
    have h1 := sum_le3 (ws := ws) fun y hy => h y (List.mem_cons_of_mem _ hy)
    have h2 := h w (List.mem_cons_self ..)
    rw [List.sum_cons, List.length_cons]
    omega
def spShares (K : PySem.W.Frag) : Sp := fun vs H Q _ => ∃ (p pa S : Addr) (v : V) (sx : List V) (j : Job) (sl : List (Int × Int)), vs = [.ref p, v, .ref S] ∧ Pl p pa H ∧ Is K H v (dJob j) ∧ JobOk j ∧ H S = some (.lst sx) ∧ S ≠ p ∧ IsA K H sx (sl.map dSlot) ∧ sl.length ≤ 60 ∧
  (∃ s ∈ sl, mine j s = true) ∧ ∀ l xs fs H', ShOk j sl fs → Kp p H H' → Pl p pa H' → H l = none → H' l = some (.lst xs) → IsA K H' xs (fs.map rat2) → Q (.ref l) H'
theorem is_slots {K : PySem.W.Frag} {H : Hp} {sx : List V} {sl : List (Int × Int)} {i : Nat} (h : IsA K H sx (sl.map dSlot)) (hi : i < sl.length) : ∃ t, sx[i]? = some (.ref t) ∧ SqT K H t [.int (sl.getD i (0, 0)).1, .int (sl.getD i (0, 0)).2] := by
  have g : sl[i]? = some sl[i] := List.getElem?_eq_getElem hi
  obtain ⟨v, gv, iv⟩ := h.get (i := i) (d := dSlot sl[i]) (by rw [List.getElem?_map, g]; rfl)
  obtain ⟨t, rfl, st⟩ := slot_at iv
  rw [getD_at g]
  exact ⟨t, gv, st⟩
def vN (k : Nat) : V := .int (k : Int)
theorem le_sum : ∀ {ws : List Int} {x : Int}, (∀ w ∈ ws, 0 ≤ w) → x ∈ ws → x ≤ ws.sum
  | [], _, _, h => (nomatch h)
  | w :: ws, x, h, hx => by
    have h1 := sum_nonneg (ws := ws) fun y hy => h y (List.mem_cons_of_mem _ hy)
    have h2 := h w (List.mem_cons_self ..)
    rw [List.sum_cons]
    rcases List.mem_cons.mp hx with e | e
    · omega
    · have := le_sum (ws := ws) (fun y hy => h y (List.mem_cons_of_mem _ hy)) e
      omega
theorem ixN_of {n : Nat} {i : Int} (h0 : 0 ≤ i) (h1 : i < n) : ixN n i = some i.toNat := by
  unfold ixN
  rw [if_pos h0, if_pos h1]
end Z

namespace Z
open PySem PySem.Spec PyProof.Rows L2
/-! ### plans -/
structure Pc where
  s : Rat
  e : Rat
  n : Str
  v : Rat
def dPc (p : Pc) : PyData := .tuple [rat2 p.s, rat2 p.e, .str p.n, rat2 p.v]
def workOf (n : Str) (ps : List Pc) : Rat := rsum ((ps.filter fun p => decide (p.n = n)).map fun p => p.v * (p.e - p.s))
theorem workOf_push (n : Str) (ps : List Pc) (p : Pc) : workOf n (ps ++ [p]) = workOf n ps + (if p.n = n then p.v * (p.e - p.s) else 0) := by
  unfold workOf
  rw [List.filter_append, List.map_append, rsum_append]
  by_cases h : p.n = n
  · rw [List.filter_cons_of_pos (by exact decide_eq_true h), if_pos h]
    show _ + (p.v * (p.e - p.s) + 0) = _
    grind
  · rw [List.filter_cons_of_neg (by rw [decide_eq_false h]; decide), if_neg h]
    rfl
/-- a piece of the rival -/
structure PcOk (js : List Job) (sl : List (Int × Int)) (fss : List (List Rat)) (p : Pc) : Prop where
  at' : ∃ j ∈ js, ∃ s ∈ sl, p.n = j.n ∧ mine j s = true ∧ ((s.1 : Int) : Rat) ≤ p.s ∧ p.e ≤ ((s.2 : Int) : Rat)
  lt : p.s < p.e
  v0 : 0 < p.v
  zs : Sz 200 p.s
  ze : Sz 200 p.e
  zv : Sz 200 p.v
  vb : p.v ≤ 600000
  wk : ∃ k a : Nat, p.v * (p.e - p.s) = (fss.getD a []).getD k 0
  vk : ∃ (k : Nat) (t : Int × Int), sl[k]? = some t ∧ p.v = rsum (fss.map fun fs => fs.getD k 0) / ((t.2 - t.1 : Int) : Rat)
/-- a whole number -/
def IsI (q : Rat) : Prop := ∃ z : Int, 0 ≤ z ∧ z ≤ 100000 ∧ q = (z : Rat)
/-- one piece goes on at the speed of the one in front of it, or whole times stand between them -/
def RunR (p q : Pc) : Prop := (p.e = q.s ∧ p.v = q.v) ∨ (IsI p.e ∧ IsI q.s)
structure RunC (ps : List Pc) : Prop where
  hd : ∀ p, ps[0]? = some p → IsI p.s
  ch : ∀ (i : Nat) (p q : Pc), ps[i]? = some p → ps[i + 1]? = some q → RunR p q
/-- what stands at the end of the pieces -/
def LastP (ps : List Pc) (X : Pc → Prop) : Prop := ∀ p, ps[ps.length - 1]? = some p → X p
theorem RunC.nil : RunC [] := ⟨fun _ h => by simp at h, fun _ _ _ h => by simp at h⟩
theorem RunC.push {ps : List Pc} {q : Pc} (h : RunC ps) (h0 : ps = [] → IsI q.s) (hl : LastP ps fun p => RunR p q) : RunC (ps ++ [q]) := by
  refine ⟨fun p hp => ?_, fun i p r hp hr => ?_⟩
  · cases ps with
    | nil =>
      have : q = p := by simpa using hp
      subst this
      exact h0 rfl
    | cons a r =>
      have : a = p := by simpa using hp
      subst this
      exact h.hd a rfl
  · by_cases hi : i + 1 < ps.length
    · rw [List.getElem?_append_left (by omega)] at hp
      rw [List.getElem?_append_left hi] at hr
      exact h.ch i p r hp hr
    · have hl2 := (List.getElem?_eq_some_iff.mp hr).1
      rw [List.length_append, List.length_singleton] at hl2
      have e : ps.length = i + 1 := by omega
      rw [List.getElem?_append_left (by omega)] at hp
      rw [List.getElem?_append_right (by omega), show i + 1 - ps.length = 0 by omega] at hr
      have er : q = r := by simpa using hr
      subst er
      exact hl p (by rw [e]; exact hp)
theorem lastP_push {ps : List Pc} {q : Pc} {X : Pc → Prop} (h : X q) : LastP (ps ++ [q]) X := fun p hp => by
  rw [List.length_append, List.length_singleton, Nat.add_sub_cancel, List.getElem?_append_right (Nat.le_refl _), Nat.sub_self] at hp
  have e : q = p := by simpa using hp
  subst e
  exact h
structure SlOk (sl : List (Int × Int)) : Prop where
  bd : ∀ s ∈ sl, 0 ≤ s.1 ∧ s.1 < s.2 ∧ s.2 ≤ 10000
  pw : sl.Pairwise fun s t => s.2 ≤ t.1
structure RHyp (js : List Job) (sl : List (Int × Int)) (fss : List (List Rat)) : Prop where
  jok : JobsOk js
  nj : js.length ≤ 19
  sok : SlOk sl
  len : fss.length = js.length
  sh : ∀ (a : Nat) (j : Job) (fs : List Rat), js[a]? = some j → fss[a]? = some fs → ShOk j sl fs
def col (fss : List (List Rat)) (k a : Nat) : Rat := (fss.getD a []).getD k 0
def load (fss : List (List Rat)) (k : Nat) : Rat := rsum (fss.map fun fs => fs.getD k 0)
theorem cols_range (fss : List (List Rat)) (k : Nat) : (List.range fss.length).map (col fss k) = fss.map fun fs => fs.getD k 0 := by
  apply List.ext_getElem?
  intro i
  rw [List.getElem?_map, List.getElem?_map]
  by_cases h : i < fss.length
  · rw [List.getElem?_range h, List.getElem?_eq_getElem h]
    show some ((fss.getD i []).getD k 0) = _
    rw [getD_at (List.getElem?_eq_getElem h)]
    rfl
  · rw [List.getElem?_eq_none (by rw [List.length_range]; omega), List.getElem?_eq_none (by omega)]
    rfl
theorem rot_load (fss : List (List Rat)) (k : Nat) {s : Nat} (h : s ≤ fss.length) : rsum ((rot s fss.length).map (col fss k)) = load fss k := by
  rw [rsum_perm ((rot_perm h).map _), cols_range]
  rfl
section
variable {js : List Job} {sl : List (Int × Int)} {fss : List (List Rat)}
theorem RHyp.col0 (h : RHyp js sl fss) (k a : Nat) : 0 ≤ col fss k a := by
  unfold col
  by_cases ha : a < fss.length
  · have g := List.getElem?_eq_getElem ha
    rw [getD_at g]
    by_cases hk : k < (fss[a]).length
    · rw [getD_at (List.getElem?_eq_getElem hk)]
      have hj : js[a]? = some (js[a]'(by have := h.len; omega)) := List.getElem?_eq_getElem _
      exact (h.sh a _ _ hj g).nn _ (List.getElem_mem hk)
    · rw [List.getD_eq_getElem?_getD, List.getElem?_eq_none (by omega)]
      show (0 : Rat) ≤ 0
      grind
  · have e : fss.getD a [] = [] := by
      rw [List.getD_eq_getElem?_getD, List.getElem?_eq_none (by omega)]
      rfl
    rw [e]
    show (0 : Rat) ≤ 0
    grind
/-- one number with which all shares become whole -/
theorem whole_all : ∀ {fss : List (List Rat)}, (∀ fs ∈ fss, ∃ W : Int, 0 < W ∧ W ≤ 200 ∧ ∀ q ∈ fs, ∃ z : Int, 0 ≤ z ∧ z ≤ 30000 ∧ q * (W : Rat) = (z : Rat)) →
    ∃ D : Int, 0 < D ∧ D ≤ 200 ^ fss.length ∧ ∀ fs ∈ fss, ∀ q ∈ fs, ∃ z : Int, 0 ≤ z ∧ z ≤ 30000 * D ∧ q * (D : Rat) = (z : Rat)
  | [], _ => ⟨1, by decide, by decide, fun _ h => (nomatch h)⟩
  | fs :: r, h => by
    obtain ⟨D, d0, d1, hD⟩ := whole_all (fss := r) fun x hx => h x (List.mem_cons_of_mem _ hx)
    obtain ⟨W, w0, w1, hW⟩ := h fs (List.mem_cons_self ..)
    have wd : 0 < W * D := Int.mul_pos w0 d0
    have dle : D ≤ W * D := by
      have : 1 * D ≤ W * D := Int.mul_le_mul_of_nonneg_right (by omega) (by omega)
      omega
    refine ⟨W * D, wd, ?_, fun x hx q hq => ?_⟩
    · rw [List.length_cons, Int.pow_succ, Int.mul_comm]
      exact Int.mul_le_mul d1 w1 (by omega) (Int.pow_nonneg (by decide))
    · rw [Rat.intCast_mul]
      rcases List.mem_cons.mp hx with e | hx
      · subst e
        obtain ⟨z, z0, z1, e⟩ := hW q hq
        refine ⟨z * D, Int.mul_nonneg z0 (by omega), ?_, by rw [Rat.intCast_mul, ← e]; grind⟩
        refine Int.le_trans (Int.mul_le_mul_of_nonneg_right z1 (by omega)) ?_
        omega
      · obtain ⟨z, z0, z1, e⟩ := hD x hx q hq
        refine ⟨W * z, Int.mul_nonneg (by omega) z0, ?_, by rw [Rat.intCast_mul, ← e]; grind⟩
        have := Int.mul_le_mul_of_nonneg_left z1 (show 0 ≤ W by omega)
        rw [show W * (30000 * D) = 30000 * (W * D) by rw [← Int.mul_assoc, Int.mul_comm W 30000, Int.mul_assoc]] at this
        exact this
/-- a sum of such numbers -/
theorem whole_sum {D : Int} (d0 : 0 < D) : ∀ {qs : List Rat}, (∀ q ∈ qs, ∃ z : Int, 0 ≤ z ∧ z ≤ 30000 * D ∧ q * (D : Rat) = (z : Rat)) → ∃ z : Int, 0 ≤ z ∧ z ≤ 30000 * D * (qs.length : Int) ∧ rsum qs * (D : Rat) = (z : Rat)
  | [], _ => ⟨0, Int.le_refl _, by simp, by show 0 * (D : Rat) = 0; grind⟩
  | q :: r, h => by
    obtain ⟨z, z0, z1, e⟩ := whole_sum d0 (qs := r) fun x hx => h x (List.mem_cons_of_mem _ hx)
    obtain ⟨y, y0, y1, e2⟩ := h q (List.mem_cons_self ..)
    refine ⟨y + z, by omega, ?_, ?_⟩
    · rw [List.length_cons]
      have : 30000 * D * ((r.length + 1 : Nat) : Int) = 30000 * D * (r.length : Int) + 30000 * D := by
        rw [Int.natCast_add, Int.mul_add]
        omega
      omega
    · rw [Rat.intCast_add, ← e, ← e2]
      show (q + rsum r) * (D : Rat) = _
      grind
end

/-! ### a slot gone through -/
section
variable {js : List Job} {sl : List (Int × Int)} {fss : List (List Rat)}
/-- behind the first k slots -/
structure OutMid (js : List Job) (sl : List (Int × Int)) (fss : List (List Rat)) (k : Nat) (ps : List Pc) : Prop where
  A : ∀ p ∈ ps, PcOk js sl fss p
  B : ps.Pairwise fun p q => p.e ≤ q.s
  C : ∀ p ∈ ps, ∀ (i : Nat) (s : Int × Int), k ≤ i → sl[i]? = some s → p.e ≤ ((s.1 : Int) : Rat)
  D : ∀ (a : Nat) (j : Job) (fs : List Rat), js[a]? = some j → fss[a]? = some fs → workOf j.n ps = rsum (fs.take k)
  R : RunC ps
  Q : LastP ps fun p => IsI p.e
/-- within the slot k from lo to hi, behind the first i of the order -/
structure InMid (js : List Job) (sl : List (Int × Int)) (fss : List (List Rat)) (k : Nat) (lo hi : Int) (od : List Nat) (i : Nat) (now : Rat) (ps : List Pc) : Prop where
  A : ∀ p ∈ ps, PcOk js sl fss p
  B : ps.Pairwise fun p q => p.e ≤ q.s
  C : ∀ p ∈ ps, p.e ≤ now
  D : ∀ (a : Nat) (j : Job) (fs : List Rat), js[a]? = some j → fss[a]? = some fs → workOf j.n ps = rsum (fs.take k) + (if a ∈ od.take i then col fss k a else 0)
  N : now * load fss k = (lo : Rat) * load fss k + ((hi - lo : Int) : Rat) * rsum ((od.take i).map (col fss k))
  Z : load fss k = 0 → now = (lo : Rat)
  R : RunC ps
  Q : LastP ps fun p => (p.e = now ∧ p.v = load fss k / ((hi - lo : Int) : Rat)) ∨ (IsI p.e ∧ now = (lo : Rat))
  Q0 : ps = [] → now = (lo : Rat)
theorem OutMid.zero : OutMid js sl fss 0 [] :=
  ⟨fun _ h => (nomatch h), .nil, fun _ h => (nomatch h), fun _ _ fs _ _ => by show (0 : Rat) = rsum (fs.take 0); rfl, .nil, fun _ h => by simp at h⟩
theorem OutMid.start {k : Nat} {lo hi : Int} {ps : List Pc} {od : List Nat} (h : OutMid js sl fss k ps) (hs : sl[k]? = some (lo, hi)) : InMid js sl fss k lo hi od 0 (lo : Rat) ps where
  A := h.A
  B := h.B
  C := fun p hp => h.C p hp k (lo, hi) (Nat.le_refl _) hs
  D := fun a j fs hj hf => by
    rw [h.D a j fs hj hf, List.take_zero, if_neg (by simp)]
    grind
  N := by
    rw [List.take_zero]
    show _ = _ + _ * (0 : Rat)
    grind
  Z := fun _ => rfl
  R := h.R
  Q := fun p hp => .inr ⟨h.Q p hp, rfl⟩
  Q0 := fun _ => rfl
theorem load0 (H : RHyp js sl fss) {k a : Nat} (ha : a < fss.length) : col fss k a ≤ load fss k := by
  have e : load fss k = rsum ((List.range fss.length).map (col fss k)) := by rw [cols_range]; rfl
  rw [e]
  have g : ((List.range fss.length).map (col fss k))[a]? = some (col fss k a) := by
    rw [List.getElem?_map, List.getElem?_range ha]
    rfl
  have nn : ∀ x ∈ (List.range fss.length).map (col fss k), (0 : Rat) ≤ x := fun x hx => by
    obtain ⟨b, _, rfl⟩ := List.mem_map.mp hx
    exact H.col0 k b
  have h1 := rsum_take g
  have h2 := rsum_take_le nn (a + 1)
  have h3 := rsum_nonneg (xs := ((List.range fss.length).map (col fss k)).take a) fun x hx => nn x (List.mem_of_mem_take hx)
  grind
theorem loadnn (H : RHyp js sl fss) (k : Nat) : 0 ≤ load fss k := by
  unfold load
  rw [← cols_range]
  exact rsum_nonneg fun x hx => by
    obtain ⟨b, _, rfl⟩ := List.mem_map.mp hx
    exact H.col0 k b
theorem InMid.skip {k i a : Nat} {lo hi : Int} {od : List Nat} {now : Rat} {ps : List Pc} (h : InMid js sl fss k lo hi od i now ps) (ha : od[i]? = some a) (hc : col fss k a = 0) : InMid js sl fss k lo hi od (i + 1) now ps where
  A := h.A
  B := h.B
  C := h.C
  D := fun b j fs hj hf => by
    rw [h.D b j fs hj hf, List.take_add_one, ha]
    by_cases e : b = a
    · subst e
      rw [hc]
      simp
    · congr 1
      have : b ∈ od.take i ++ (some a).toList ↔ b ∈ od.take i := by simp [e]
      simp only [this]
  N := by
    rw [h.N, List.take_add_one, ha]
    show _ = _ + _ * rsum ((od.take i ++ [a]).map (col fss k))
    rw [List.map_append, rsum_append]
    show _ = _ + _ * (_ + (col fss k a + 0))
    rw [hc]
    grind
  Z := h.Z
  R := h.R
  Q := h.Q
  Q0 := h.Q0
end
section
variable {js : List Job} {sl : List (Int × Int)} {fss : List (List Rat)}
theorem col_whole {D : Int} (hD : ∀ fs ∈ fss, ∀ q ∈ fs, ∃ z : Int, 0 ≤ z ∧ z ≤ 30000 * D ∧ q * (D : Rat) = (z : Rat)) (d0 : 0 < D) (k a : Nat) : ∃ z : Int, 0 ≤ z ∧ z ≤ 30000 * D ∧ col fss k a * (D : Rat) = (z : Rat) := by
  have zero : ∃ z : Int, 0 ≤ z ∧ z ≤ 30000 * D ∧ (0 : Rat) * (D : Rat) = (z : Rat) := ⟨0, Int.le_refl _, by omega, by grind⟩
  unfold col
  by_cases ha : a < fss.length
  · rw [getD_at (List.getElem?_eq_getElem ha)]
    by_cases hk : k < (fss[a]).length
    · rw [getD_at (List.getElem?_eq_getElem hk)]
      exact hD _ (List.getElem_mem ha) _ (List.getElem_mem hk)
    · have e : (fss[a]).getD k 0 = 0 := by
        rw [List.getD_eq_getElem?_getD, List.getElem?_eq_none (by omega)]
        rfl
      rw [e]
      exact zero
  · have e : fss.getD a [] = [] := by
      rw [List.getD_eq_getElem?_getD, List.getElem?_eq_none (by omega)]
      rfl
    rw [e]
    exact zero
/-- all times and speeds are small -/
theorem RHyp.small (H : RHyp js sl fss) : ∃ D : Int, 0 < D ∧ D ≤ 200 ^ 19 ∧ ∀ (k : Nat) (as : List Nat), ∃ z : Int, 0 ≤ z ∧ z ≤ 30000 * D * (as.length : Int) ∧ rsum (as.map (col fss k)) * (D : Rat) = (z : Rat) := by
  obtain ⟨D, d0, d1, hD⟩ := whole_all (fss := fss) fun fs hfs => by
    obtain ⟨a, ha⟩ := List.getElem?_of_mem hfs
    have hl := (List.getElem?_eq_some_iff.mp ha).1
    exact (H.sh a _ fs (List.getElem?_eq_getElem (by have := H.len; omega)) ha).wh
  refine ⟨D, d0, Int.le_trans d1 ?_, fun k as => ?_⟩
  · have : fss.length ≤ 19 := by have := H.len; have := H.nj; omega
    have h2 : (200 : Nat) ^ fss.length ≤ 200 ^ 19 := Nat.pow_le_pow_right (by decide) this
    have e1 : ((200 : Int) ^ fss.length) = (((200 : Nat) ^ fss.length : Nat) : Int) := by rw [Int.natCast_pow]; rfl
    have e2 : ((200 : Int) ^ 19) = (((200 : Nat) ^ 19 : Nat) : Int) := by decide +kernel
    rw [e1, e2]
    exact Int.ofNat_le.mpr h2
  · have h := whole_sum d0 (qs := as.map (col fss k)) fun q hq => by
      obtain ⟨a, _, rfl⟩ := List.mem_map.mp hq
      exact col_whole hD d0 k a
    rw [List.length_map] at h
    exact h
theorem p19 : ((200 : Int) ^ 19) < 2 ^ 146 := by decide +kernel
theorem szV (H : RHyp js sl fss) (k : Nat) {h : Int} (h0 : 0 < h) (h1 : h ≤ 10000) : Sz 200 (load fss k / (h : Rat)) := by
  obtain ⟨D, d0, d1, hD⟩ := H.small
  obtain ⟨z, z0, z1, e⟩ := hD k (List.range fss.length)
  rw [cols_range, List.length_range] at *
  have e' : load fss k * (D : Rat) = (z : Rat) := e
  have hh : (h : Rat) ≠ 0 := fun c => by
    have := Rat.intCast_eq_zero_iff.mp c
    omega
  have key : load fss k / (h : Rat) * ((D * h : Int) : Rat) = (z : Rat) := by
    rw [Rat.intCast_mul, ← e']
    grind
  have pp := p19
  have l19 : (fss.length : Int) ≤ 19 := by have := H.len; have := H.nj; omega
  have dh : D * h ≤ 2 ^ 146 * 10000 := Int.mul_le_mul (by omega) h1 (by omega) (by decide)
  have dh0 : 0 < D * h := Int.mul_pos d0 h0
  have zz : z ≤ 30000 * 2 ^ 146 * 19 := Int.le_trans z1 (Int.mul_le_mul (by omega) l19 (by omega) (by decide))
  refine sz_of_whole key (by omega) ?_ ?_
  · have : (2 : Nat) ^ 146 * 10000 < 2 ^ 200 := by decide +kernel
    omega
  · have : (30000 * 2 ^ 146 * 19 : Nat) < 2 ^ 200 := by decide +kernel
    omega
theorem szN (H : RHyp js sl fss) (k : Nat) {lo h : Int} {as : List Nat} {now : Rat} (la : as.length ≤ 19) (lo0 : 0 ≤ lo) (lo1 : lo ≤ 10000) (h0 : 0 < h) (h1 : h ≤ 10000) (hL : 0 < load fss k) (e : now * load fss k = (lo : Rat) * load fss k + (h : Rat) * rsum (as.map (col fss k))) : Sz 200 now := by
  obtain ⟨D, d0, d1, hD⟩ := H.small
  obtain ⟨z, z0, z1, ez⟩ := hD k (List.range fss.length)
  obtain ⟨t, t0, t1, et⟩ := hD k as
  rw [cols_range, List.length_range] at *
  have ez' : load fss k * (D : Rat) = (z : Rat) := ez
  have dr : (0 : Rat) < (D : Rat) := Rat.intCast_pos.mpr d0
  have zpos : 0 < z := by
    have : (0 : Rat) < (z : Rat) := by rw [← ez']; exact Rat.mul_pos hL dr
    exact Rat.intCast_pos.mp this
  have key : now * (z : Rat) = ((lo * z + h * t : Int) : Rat) := by
    rw [Rat.intCast_add, Rat.intCast_mul, Rat.intCast_mul, ← ez', ← et]
    grind
  have pp := p19
  have l19 : (fss.length : Int) ≤ 19 := by have := H.len; have := H.nj; omega
  have la' : (as.length : Int) ≤ 19 := by omega
  have zz : z ≤ 30000 * 2 ^ 146 * 19 := Int.le_trans z1 (Int.mul_le_mul (by omega) l19 (by omega) (by decide))
  have tt : t ≤ 30000 * 2 ^ 146 * 19 := Int.le_trans t1 (Int.mul_le_mul (by omega) la' (by omega) (by decide))
  have b1 : lo * z ≤ 10000 * (30000 * 2 ^ 146 * 19) := Int.mul_le_mul lo1 zz (by omega) (by decide)
  have b2 : h * t ≤ 10000 * (30000 * 2 ^ 146 * 19) := Int.mul_le_mul h1 tt t0 (by decide)
  have b3 : 0 ≤ lo * z := Int.mul_nonneg lo0 (by omega)
  have b4 : 0 ≤ h * t := Int.mul_nonneg (by omega) t0
  have big : (20000 * (30000 * 2 ^ 146 * 19) : Nat) < 2 ^ 200 := by decide +kernel
  refine sz_of_whole key (by omega) (by omega) (by omega)
theorem load_le (H : RHyp js sl fss) (k : Nat) : load fss k ≤ 570000 := by
  obtain ⟨D, d0, d1, hD⟩ := H.small
  obtain ⟨z, z0, z1, e⟩ := hD k (List.range fss.length)
  rw [cols_range, List.length_range] at *
  have e' : load fss k * (D : Rat) = (z : Rat) := e
  have dr : (0 : Rat) < (D : Rat) := Rat.intCast_pos.mpr d0
  have l19 : (fss.length : Int) ≤ 19 := by have := H.len; have := H.nj; omega
  have zz : z ≤ 570000 * D := by
    have h1 : 30000 * D * (fss.length : Int) ≤ 30000 * D * 19 := Int.mul_le_mul_of_nonneg_left l19 (by omega)
    omega
  have c : (z : Rat) ≤ ((570000 * D : Int) : Rat) := Rat.intCast_le_intCast.mpr zz
  rw [Rat.intCast_mul, ← e'] at c
  exact Rat.le_of_mul_le_mul_right c dr
theorem InMid.add (H : RHyp js sl fss) {k i a s : Nat} {lo hi : Int} {now : Rat} {ps : List Pc} {j : Job} {fs : List Rat} (h : InMid js sl fss k lo hi (rot s fss.length) i now ps) (hs0 : s ≤ fss.length) (ha : (rot s fss.length)[i]? = some a) (hj : js[a]? = some j) (hf : fss[a]? = some fs)
    (hs : sl[k]? = some (lo, hi)) (hc : 0 < col fss k a) :
    0 < load fss k / ((hi - lo : Int) : Rat) ∧ Sz 200 (load fss k / ((hi - lo : Int) : Rat)) ∧ Sz 16 (col fss k a) ∧ Sz 200 now ∧
    InMid js sl fss k lo hi (rot s fss.length) (i + 1) (now + col fss k a / (load fss k / ((hi - lo : Int) : Rat))) (ps ++ [⟨now, now + col fss k a / (load fss k / ((hi - lo : Int) : Rat)), j.n, load fss k / ((hi - lo : Int) : Rat)⟩]) := by
  have bs := H.sok.bd _ (List.mem_of_getElem? hs)
  have hl0 : 0 < hi - lo := by have := bs.2.1; simp only at this; omega
  have hl1 : hi - lo ≤ 10000 := by have := bs.2.2; have := bs.1; simp only at *; omega
  have al : a < fss.length := (List.getElem?_eq_some_iff.mp hf).1
  have L0 := load0 H (k := k) al
  have Lp : 0 < load fss k := by grind
  have il : i < (rot s fss.length).length := (List.getElem?_eq_some_iff.mp ha).1
  rw [rot_len hs0] at il
  have nl : fss.length ≤ 19 := by have := H.len; have := H.nj; omega
  have hr : (0 : Rat) < ((hi - lo : Int) : Rat) := Rat.intCast_pos.mpr hl0
  generalize hd : ((hi - lo : Int) : Rat) = d at *
  have vp : 0 < load fss k / d := by
    rw [Rat.div_def]
    exact Rat.mul_pos Lp (Rat.inv_pos.mpr hr)
  have zv : Sz 200 (load fss k / d) := by rw [← hd]; exact szV H k hl0 hl1
  have ec : col fss k a / (load fss k / d) = col fss k a * d / load fss k := by grind
  have ecp : 0 < col fss k a / (load fss k / d) := by
    rw [Rat.div_def]
    exact Rat.mul_pos hc (Rat.inv_pos.mpr vp)
  have nod : (rot s fss.length).Nodup := (rot_perm hs0).nodup_iff.mpr List.nodup_range
  have anot : a ∉ (rot s fss.length).take i := fun hm => by
    obtain ⟨x, hx⟩ := List.getElem?_of_mem hm
    have xl := (List.getElem?_eq_some_iff.mp hx).1
    rw [List.length_take] at xl
    rw [List.getElem?_take_of_lt (by omega)] at hx
    have := nd_ix nod hx ha
    omega
  have et : (rot s fss.length).take (i + 1) = (rot s fss.length).take i ++ [a] := by rw [List.take_add_one, ha]; rfl
  have es : rsum (((rot s fss.length).take (i + 1)).map (col fss k)) = rsum (((rot s fss.length).take i).map (col fss k)) + col fss k a := by
    rw [et, List.map_append, rsum_append]
    show _ + (col fss k a + 0) = _
    grind
  have nnc : ∀ x ∈ (rot s fss.length).map (col fss k), (0 : Rat) ≤ x := fun x hx => by
    obtain ⟨b, _, rfl⟩ := List.mem_map.mp hx
    exact H.col0 k b
  have le1 : rsum (((rot s fss.length).take (i + 1)).map (col fss k)) ≤ load fss k := by
    rw [← rot_load fss k hs0, List.map_take]
    exact rsum_take_le nnc (i + 1)
  have ge0 : 0 ≤ rsum (((rot s fss.length).take i).map (col fss k)) := by
    rw [List.map_take]
    exact rsum_nonneg fun x hx => nnc x (List.mem_of_mem_take hx)
  have N := h.N
  rw [hd] at N
  have N' : (now + col fss k a / (load fss k / d)) * load fss k = (lo : Rat) * load fss k + d * rsum (((rot s fss.length).take (i + 1)).map (col fss k)) := by
    rw [es, ec]
    grind
  have zs : Sz 200 now := szN H k (as := (rot s fss.length).take i) (h := hi - lo) (by rw [List.length_take, rot_len hs0]; omega) bs.1 (by have := bs.2.2; have := bs.2.1; simp only at *; omega) hl0 hl1 Lp (by rw [hd]; exact N)
  have ze : Sz 200 (now + col fss k a / (load fss k / d)) := szN H k (as := (rot s fss.length).take (i + 1)) (h := hi - lo) (by rw [List.length_take, rot_len hs0]; omega) bs.1 (by have := bs.2.2; have := bs.2.1; simp only at *; omega) hl0 hl1 Lp (by rw [hd]; exact N')
  have sh := H.sh a j fs hj hf
  have kl : k < sl.length := (List.getElem?_eq_some_iff.mp hs).1
  have gk : fs[k]? = some (col fss k a) := by
    have g := List.getElem?_eq_getElem (l := fs) (i := k) (by rw [sh.len]; exact kl)
    rw [g]
    unfold col
    rw [getD_at hf, getD_at g]
  have zc : Sz 16 (col fss k a) := sh.sz _ (List.mem_of_getElem? gk)
  have hm : mine j (lo, hi) = true := sh.own k _ _ gk hs (by grind)
  have low : (lo : Rat) ≤ now := by
    have m : (lo : Rat) * load fss k ≤ now * load fss k := by
      have := Rat.mul_nonneg (Rat.le_of_lt hr) ge0
      grind
    exact Rat.le_of_mul_le_mul_right m Lp
  have hid : (hi : Rat) = (lo : Rat) + d := by
    rw [← hd, Rat.intCast_sub]
    grind
  have high : now + col fss k a / (load fss k / d) ≤ (hi : Rat) := by
    have m : (now + col fss k a / (load fss k / d)) * load fss k ≤ (hi : Rat) * load fss k := by
      have := Rat.mul_le_mul_of_nonneg_left le1 (Rat.le_of_lt hr)
      rw [N', hid]
      grind
    exact Rat.le_of_mul_le_mul_right m Lp
  have ilo : IsI (lo : Rat) := ⟨lo, bs.1, by have := bs.2.2; have := bs.2.1; simp only at *; omega, rfl⟩
  refine ⟨vp, zv, zc, zs, ?_, ?_, ?_, ?_, ?_, ?_, ?_, ?_, ?_⟩
  · intro p hp
    rcases List.mem_append.mp hp with hp | hp
    · exact h.A p hp
    · rw [List.mem_singleton.mp hp]
      refine ⟨⟨j, List.mem_of_getElem? hj, (lo, hi), List.mem_of_getElem? hs, rfl, hm, low, high⟩, by show now < now + _; grind, vp, zs, ze, zv, ?_, ⟨k, a, ?_⟩, ⟨k, (lo, hi), hs, by show load fss k / d = load fss k / ((hi - lo : Int) : Rat); rw [hd]⟩⟩
      · have ll := load_le H k
        have d1 : (1 : Rat) ≤ d := by
          rw [← hd]
          exact Rat.intCast_le_intCast.mpr (show (1 : Int) ≤ hi - lo by omega)
        have m : load fss k / d * 1 ≤ load fss k / d * d := Rat.mul_le_mul_of_nonneg_left d1 (Rat.le_of_lt vp)
        have e : load fss k / d * d = load fss k := by grind
        show load fss k / d ≤ 600000
        grind
      · show load fss k / d * (now + col fss k a / (load fss k / d) - now) = col fss k a
        grind
  · rw [List.pairwise_append]
    refine ⟨h.B, List.pairwise_singleton _ _, fun p hp q hq => ?_⟩
    rw [List.mem_singleton.mp hq]
    exact h.C p hp
  · intro p hp
    rcases List.mem_append.mp hp with hp | hp
    · have := h.C p hp
      grind
    · rw [List.mem_singleton.mp hp]
      exact Rat.le_refl
  · intro b j' fs' hj' hf'
    rw [workOf_push, h.D b j' fs' hj' hf', et]
    by_cases e : b = a
    · subst e
      rw [hj] at hj'
      cases hj'
      rw [if_neg anot, if_pos rfl, if_pos (by simp)]
      show _ + 0 + load fss k / d * (now + col fss k b / (load fss k / d) - now) = _
      grind
    · have nm : ¬ j.n = j'.n := fun z => by
        have h1 := H.jok.nm a j hj
        rw [z] at h1
        exact e ((H.jok.nm b j' hj').inj h1)
      have : b ∈ (rot s fss.length).take i ++ [a] ↔ b ∈ (rot s fss.length).take i := by simp [e]
      simp only [this]
      rw [if_neg nm]
      grind
  · rw [hd]
    exact N'
  · intro z
    grind
  · refine h.R.push (fun z => ?_) fun p hp => ?_
    · show IsI now
      rw [h.Q0 z]
      exact ilo
    · rcases h.Q p hp with ⟨z1, z2⟩ | ⟨z1, z2⟩
      · refine .inl ⟨z1, ?_⟩
        rw [hd] at z2
        exact z2
      · refine .inr ⟨z1, ?_⟩
        show IsI now
        rw [z2]
        exact ilo
  · refine lastP_push (.inl ⟨rfl, ?_⟩)
    show load fss k / d = load fss k / ((hi - lo : Int) : Rat)
    rw [hd]
  · intro z
    simp at z
theorem InMid.finish (H : RHyp js sl fss) {k s : Nat} {lo hi : Int} {now : Rat} {ps : List Pc} (h : InMid js sl fss k lo hi (rot s fss.length) fss.length now ps) (hs0 : s ≤ fss.length) (hs : sl[k]? = some (lo, hi)) : OutMid js sl fss (k + 1) ps := by
  have bs := H.sok.bd _ (List.mem_of_getElem? hs)
  have N := h.N
  have lhi : (lo : Rat) ≤ (hi : Rat) := by
    have := bs.2.1
    exact Rat.intCast_le_intCast.mpr (by simp only at this; omega)
  rw [List.take_of_length_le (by rw [rot_len hs0]; exact Nat.le_refl _), rot_load fss k hs0] at N
  have bs1 : 0 ≤ lo := bs.1
  have bs2 : lo < hi := bs.2.1
  have bs3 : hi ≤ 10000 := bs.2.2
  have nh2 : now ≤ (hi : Rat) ∧ IsI now := by
    by_cases z : load fss k = 0
    · rw [h.Z z]
      exact ⟨lhi, lo, bs1, by omega, rfl⟩
    · rw [Rat.intCast_sub] at N
      have : now = (hi : Rat) := by grind
      rw [this]
      exact ⟨Rat.le_refl, hi, by omega, by omega, rfl⟩
  have nh := nh2.1
  refine ⟨h.A, h.B, fun p hp i t hi2 ht => ?_, fun a j fs hj hf => ?_, h.R, fun p hp => ?_⟩
  · have c := h.C p hp
    have pw := H.sok.pw
    have : ((lo, hi) : Int × Int).2 ≤ t.1 := by
      have hil := (List.getElem?_eq_some_iff.mp ht)
      have hkl := (List.getElem?_eq_some_iff.mp hs)
      obtain ⟨h1, e1⟩ := hil
      obtain ⟨h2, e2⟩ := hkl
      have := List.pairwise_iff_getElem.mp pw k i h2 h1 (by omega)
      rw [e1, e2] at this
      exact this
    have r : (hi : Rat) ≤ (t.1 : Rat) := Rat.intCast_le_intCast.mpr this
    grind
  · rw [h.D a j fs hj hf]
    have al : a < fss.length := (List.getElem?_eq_some_iff.mp hf).1
    have am : a ∈ (rot s fss.length).take fss.length := by
      rw [List.take_of_length_le (by rw [rot_len hs0]; exact Nat.le_refl _)]
      exact ((rot_perm hs0).mem_iff).mpr (List.mem_range.mpr al)
    rw [if_pos am]
    have sh := H.sh a j fs hj hf
    have kl : k < sl.length := (List.getElem?_eq_some_iff.mp hs).1
    have gk : fs[k]? = some (col fss k a) := by
      have g := List.getElem?_eq_getElem (l := fs) (i := k) (by rw [sh.len]; exact kl)
      rw [g]
      unfold col
      rw [getD_at hf, getD_at g]
    rw [rsum_take gk]
  · rcases h.Q p hp with ⟨z1, _⟩ | ⟨z1, _⟩
    · rw [z1]
      exact nh2.2
    · exact z1
/-- the product of the lengths of the slots -/
def lens : List (Int × Int) → Int
  | [] => 1
  | t :: r => (t.2 - t.1) * lens r
theorem lens_ok : ∀ {sl : List (Int × Int)}, (∀ s ∈ sl, 0 ≤ s.1 ∧ s.1 < s.2 ∧ s.2 ≤ 10000) → 0 < lens sl ∧ lens sl ≤ 10000 ^ sl.length ∧ ∀ t ∈ sl, ∃ m : Int, lens sl = (t.2 - t.1) * m
  | [], _ => ⟨by decide, by decide, fun _ h => (nomatch h)⟩
  | t :: r, h => by
    obtain ⟨a, b, c⟩ := lens_ok (sl := r) fun s hs => h s (List.mem_cons_of_mem _ hs)
    have ht := h t (List.mem_cons_self ..)
    refine ⟨Int.mul_pos (by omega) a, ?_, fun u hu => ?_⟩
    · show (t.2 - t.1) * lens r ≤ _
      rw [List.length_cons, Int.pow_succ, Int.mul_comm]
      exact Int.mul_le_mul b (by omega) (by omega) (Int.pow_nonneg (by decide))
    · rcases List.mem_cons.mp hu with rfl | hu
      · exact ⟨_, rfl⟩
      · obtain ⟨m, e⟩ := c u hu
        refine ⟨(t.2 - t.1) * m, ?_⟩
        show (t.2 - t.1) * lens r = _
        rw [e]
        grind
/-- the rival as it is made -/
structure RivOk (js : List Job) (ps : List Pc) : Prop where
  pc : ∀ p ∈ ps, p.s < p.e ∧ 0 < p.v ∧ Sz 200 p.s ∧ Sz 200 p.e ∧ Sz 200 p.v ∧ ∃ j ∈ js, p.n = j.n ∧ ((j.c : Int) : Rat) ≤ p.s ∧ p.e ≤ ((j.d : Int) : Rat)
  ord : ps.Pairwise fun p q => p.e ≤ q.s
  work : ∀ j ∈ js, workOf j.n ps = (j.w : Rat)
  vb : ∀ p ∈ ps, p.v ≤ 600000
  wh : ∃ D : Int, 0 < D ∧ D ≤ 200 ^ 19 ∧ ∀ p ∈ ps, ∃ z : Int, p.v * (p.e - p.s) * (D : Rat) = (z : Rat)
  run : RunC ps
  re : LastP ps fun p => IsI p.e
  ve : ∃ E : Int, 0 < E ∧ E ≤ 2 ^ 950 ∧ ∀ p ∈ ps, ∃ z : Int, p.v * (E : Rat) = (z : Rat)
theorem p950 : ((200 : Int) ^ 19) * 10000 ^ 60 ≤ 2 ^ 950 := by decide +kernel
theorem OutMid.done (H : RHyp js sl fss) (hsl : sl.length ≤ 60) {ps : List Pc} (h : OutMid js sl fss sl.length ps) : RivOk js ps := by
  obtain ⟨D, d0, d1, hD⟩ := H.small
  obtain ⟨l0, l1, l2⟩ := lens_ok H.sok.bd
  have l60 : lens sl ≤ 10000 ^ 60 := by
    refine Int.le_trans l1 ?_
    have h2 : (10000 : Nat) ^ sl.length ≤ 10000 ^ 60 := Nat.pow_le_pow_right (by decide) hsl
    have e1 : ((10000 : Int) ^ sl.length) = (((10000 : Nat) ^ sl.length : Nat) : Int) := by rw [Int.natCast_pow]; rfl
    have e2 : ((10000 : Int) ^ 60) = (((10000 : Nat) ^ 60 : Nat) : Int) := by decide +kernel
    rw [e1, e2]
    exact Int.ofNat_le.mpr h2
  refine ⟨fun p hp => ?_, h.B, fun j hj => ?_, fun p hp => (h.A p hp).vb, ⟨D, d0, d1, fun p hp => ?_⟩, h.R, h.Q, D * lens sl, Int.mul_pos d0 l0, Int.le_trans (Int.mul_le_mul d1 l60 (by omega) (by decide +kernel)) p950, fun p hp => ?_⟩
  · have o := h.A p hp
    obtain ⟨j, hj, s, hs, hn, hm, h1, h2⟩ := o.at'
    unfold mine at hm
    rw [Bool.and_eq_true] at hm
    have m1 : ((j.c : Int) : Rat) ≤ ((s.1 : Int) : Rat) := Rat.intCast_le_intCast.mpr (of_decide_eq_true hm.1)
    have m2 : ((s.2 : Int) : Rat) ≤ ((j.d : Int) : Rat) := Rat.intCast_le_intCast.mpr (of_decide_eq_true hm.2)
    exact ⟨o.lt, o.v0, o.zs, o.ze, o.zv, j, hj, hn, by grind, by grind⟩
  · obtain ⟨a, ha⟩ := List.getElem?_of_mem hj
    have al := (List.getElem?_eq_some_iff.mp ha).1
    have hf := List.getElem?_eq_getElem (l := fss) (i := a) (by have := H.len; omega)
    have sh := H.sh a j _ ha hf
    rw [h.D a j _ ha hf, ← sh.len, List.take_length]
    exact sh.sum
  · obtain ⟨k, a, e⟩ := (h.A p hp).wk
    obtain ⟨z, _, _, ez⟩ := hD k [a]
    refine ⟨z, ?_⟩
    rw [e, ← ez]
    show _ = (col fss k a + 0) * (D : Rat)
    unfold col
    grind
  · obtain ⟨k, t, ht, ev⟩ := (h.A p hp).vk
    obtain ⟨z, _, _, ez⟩ := hD k (List.range fss.length)
    rw [cols_range] at ez
    obtain ⟨m, em⟩ := l2 t (List.mem_of_getElem? ht)
    have bt := H.sok.bd _ (List.mem_of_getElem? ht)
    have tn : ((t.2 - t.1 : Int) : Rat) ≠ 0 := fun c => by
      have := Rat.intCast_eq_zero_iff.mp c
      omega
    refine ⟨z * m, ?_⟩
    rw [ev, em, Rat.intCast_mul, Rat.intCast_mul, Rat.intCast_mul, ← ez]
    generalize rsum (fss.map fun fs => fs.getD k 0) = L
    generalize ((t.2 - t.1 : Int) : Rat) = d at tn
    grind
end

/-! ### the slots between the points -/
def slotsOf (ps : List Int) : List (Int × Int) := (List.range (ps.length - 1)).map fun k => (ps.getD k 0, ps.getD (k + 1) 0)
theorem slots_at {ps : List Int} {k : Nat} (h : k < ps.length - 1) : (slotsOf ps)[k]? = some (ps.getD k 0, ps.getD (k + 1) 0) := by
  unfold slotsOf
  rw [List.getElem?_map, List.getElem?_range h]
  rfl
theorem slots_len (ps : List Int) : (slotsOf ps).length = ps.length - 1 := by
  unfold slotsOf
  rw [List.length_map, List.length_range]
theorem pts_lt {ps : List Int} (h : ps.Pairwise (· < ·)) {a b : Nat} (hb : b < ps.length) (hab : a < b) : ps.getD a 0 < ps.getD b 0 := by
  have := List.pairwise_iff_getElem.mp h a b (by omega) hb hab
  rw [getD_at (List.getElem?_eq_getElem (show a < ps.length by omega)), getD_at (List.getElem?_eq_getElem hb)]
  exact this
theorem pts_mem {ps : List Int} {a : Nat} (h : a < ps.length) : ps.getD a 0 ∈ ps := by
  rw [getD_at (List.getElem?_eq_getElem h)]
  exact List.getElem_mem h
theorem slots_ok {js : List Job} {ps : List Int} (h : PtsOk js ps) (hj : ∀ j ∈ js, JobOk j) : SlOk (slotsOf ps) := by
  refine ⟨fun s hs => ?_, ?_⟩
  · obtain ⟨k, hk⟩ := List.getElem?_of_mem hs
    have kl := (List.getElem?_eq_some_iff.mp hk).1
    rw [slots_len] at kl
    rw [slots_at kl] at hk
    cases hk
    have lt := pts_lt h.lt (a := k) (b := k + 1) (by omega) (by omega)
    obtain ⟨j, jm, h1, h2⟩ := h.bd _ (pts_mem (ps := ps) (a := k) (by omega))
    obtain ⟨j2, jm2, h3, h4⟩ := h.bd _ (pts_mem (ps := ps) (a := k + 1) (by omega))
    have := (hj j jm).c0
    have := (hj j2 jm2).d1
    exact ⟨by omega, lt, by omega⟩
  · refine List.pairwise_iff_getElem.mpr fun a b ha hb hab => ?_
    have ga := List.getElem?_eq_getElem ha
    have gb := List.getElem?_eq_getElem hb
    rw [slots_len] at ha hb
    rw [slots_at ha] at ga
    rw [slots_at hb] at gb
    rw [← Option.some.inj ga, ← Option.some.inj gb]
    show ps.getD (a + 1) 0 ≤ ps.getD b 0
    by_cases e : a + 1 = b
    · rw [e]; exact Int.le_refl _
    · exact Int.le_of_lt (pts_lt h.lt (by omega) (by omega))
theorem slots_mine {js : List Job} {ps : List Int} (h : PtsOk js ps) {j : Job} (hj : j ∈ js) (oj : JobOk j) : ∃ s ∈ slotsOf ps, mine j s = true := by
  obtain ⟨m1, m2⟩ := h.mem j hj
  obtain ⟨a, ha⟩ := List.getElem?_of_mem m1
  obtain ⟨b, hb⟩ := List.getElem?_of_mem m2
  have al := (List.getElem?_eq_some_iff.mp ha).1
  have bl := (List.getElem?_eq_some_iff.mp hb).1
  have ea := getD_at (d := (0 : Int)) ha
  have eb := getD_at (d := (0 : Int)) hb
  have cd := oj.cd
  have ab : a < b := by
    by_cases z : a < b
    · exact z
    · by_cases e : a = b
      · subst e; omega
      · have := pts_lt h.lt (a := b) (b := a) al (by omega)
        omega
  refine ⟨_, List.mem_of_getElem? (slots_at (ps := ps) (k := a) (by omega)), ?_⟩
  unfold mine
  rw [Bool.and_eq_true]
  refine ⟨decide_eq_true (by simp only; omega), decide_eq_true ?_⟩
  show ps.getD (a + 1) 0 ≤ j.d
  rw [← eb]
  by_cases e : a + 1 = b
  · rw [e]; exact Int.le_refl _
  · exact Int.le_of_lt (pts_lt h.lt bl (by omega))
/-! ### rows of shares -/
def RowsAt (K : PySem.W.Frag) (p R : Addr) (H : Hp) (ras : List Addr) (fss : List (List Rat)) : Prop :=
  ras.length = fss.length ∧ ∀ (a : Nat) (ra : Addr) (fs : List Rat), ras[a]? = some ra → fss[a]? = some fs → ra ≠ p ∧ ra ≠ R ∧ ∃ xs, H ra = some (.lst xs) ∧ IsA K H xs (fs.map rat2)
theorem RowsAt.kp {K : PySem.W.Frag} {p R pa : Addr} {H H' : Hp} {ras : List Addr} {fss : List (List Rat)} (h : RowsAt K p R H ras fss) (P : Pl p pa H) (e : Kp p H H') : RowsAt K p R H' ras fss :=
  ⟨h.1, fun a ra fs h1 h2 => by
    obtain ⟨n1, n2, xs, hx, hi⟩ := h.2 a ra fs h1 h2
    exact ⟨n1, n2, xs, e _ _ n1 hx, hi.to (P.tm e)⟩⟩
theorem rd_of_div {q : Rat} {h : Int} (h0 : h ≠ 0) : Rat.divInt q.num ((q.den : Int) * h) = q / (h : Rat) := by
  rw [divInt_div, Rat.intCast_mul, Rat.div_def, Rat.div_def]
  have e : (q.num : Rat) * ((q.den : Int) : Rat)⁻¹ = q := by
    rw [← Rat.div_def, ← divInt_div]
    exact Rat.num_divInt_den q
  have d0 : ((q.den : Int) : Rat) ≠ 0 := fun c => denz q (Rat.intCast_eq_zero_iff.mp c)
  have h1 : (h : Rat) ≠ 0 := fun c => h0 (Rat.intCast_eq_zero_iff.mp c)
  conv => rhs; rw [← e]
  grind
/-- a rival plan of a job list -/
def spRival (K : PySem.W.Frag) : Sp := fun vs H Q _ => ∃ (p pa J : Addr) (xs : List V) (js : List Job), vs = [.ref p, .ref J] ∧ Pl p pa H ∧ SqT K H J xs ∧ IsA K H xs (js.map dJob) ∧ JobsOk js ∧ js.length ≤ 19 ∧
  ∀ t ys ps H', RivOk js ps → ps.length ≤ 3 * js.length * js.length → Kp p H H' → Pl p pa H' → H t = none → H' t = some (.tup ys) → IsA K H' ys (ps.map dPc) → Q (.ref t) H'
theorem is_pc {K : PySem.W.Frag} {H : Hp} {t : Addr} {a b c : V} {q : Pc} (h : SqT K H t [a, b, .str q.n, c]) (ha : Is K H a (rat2 q.s)) (hb : Is K H b (rat2 q.e)) (hc : Is K H c (rat2 q.v)) : Is K H (.ref t) (dPc q) :=
  .tup h (.cons ha (.cons hb (.cons (.str _) (.cons hc .nil))))
theorem pc_at {K : PySem.W.Frag} {H : Hp} {v : V} {q : Pc} (h : Is K H v (dPc q)) : ∃ t a b c, v = .ref t ∧ SqT K H t [a, b, .str q.n, c] ∧ Is K H a (rat2 q.s) ∧ Is K H b (rat2 q.e) ∧ Is K H c (rat2 q.v) := by
  obtain ⟨t, xs, rfl, s, a⟩ := h.tup'
  cases a with
  | cons h1 a => cases a with
    | cons h2 a => cases a with
      | cons h3 a => cases a with
        | cons h4 a =>
          cases a; cases h3
          exact ⟨t, _, _, _, rfl, s, h1, h2, h4⟩
theorem rat_at {K : PySem.W.Frag} {H : Hp} {v : V} {q : Rat} (h : Is K H v (rat2 q)) : ∃ t, v = .ref t ∧ SqT K H t [.int q.num, .int (q.den : Int)] := by
  obtain ⟨t, a, b, rfl, s, h1, h2⟩ := Is.two' h
  cases h1; cases h2
  exact ⟨t, rfl, s⟩
theorem num_pos {q : Rat} : (0 < q.num) ↔ 0 < q := by
  rw [Rat.lt_iff]
  show 0 < q.num ↔ (0 : Int) * (q.den : Int) < q.num * ((1 : Nat) : Int)
  omega
end Z

namespace Z
open PySem PySem.Spec PyProof.Rows L2
/-! ### equal data -/
theorem eqv_rat2 (p q : Rat) : PyData.eqv (rat2 p) (rat2 q) = decide (p = q) := by
  show PyData.eqv (.tuple _) (.tuple _) = _
  rw [PyData.eqv, PyData.eqvAll, PyData.eqvAll, PyData.eqvAll, PyData.eqv, PyData.eqv, Bool.and_true]
  by_cases h : p = q
  · subst h
    simp
  · rw [decide_eq_false h, Bool.and_eq_false_iff]
    by_cases h1 : p.num = q.num
    · refine .inr (beq_eq_false_iff_ne.mpr fun h2 => h (Rat.ext h1 (by omega)))
    · exact .inl (beq_eq_false_iff_ne.mpr h1)
theorem lay_rat2 (p : Rat) : (rat2 p).canLay0 = true := by
  unfold rat2
  rw [PyData.canLay0, PyData.canLayAll0, PyData.canLayAll0, PyData.canLayAll0, PyData.canLay0, PyData.canLay0]
  rfl
theorem depth_rat2 (p : Rat) : (rat2 p).depth = 1 := by
  unfold rat2
  simp [PyData.depth, PyData.depthAll]
theorem shaped_rat2 (p : Rat) : SeqAt.shaped (rat2 p) = true := by
  unfold SeqAt.shaped
  rw [lay_rat2, depth_rat2]
  rfl
theorem shaped_str {x : Str} (h : PyData.strOk x = true) : SeqAt.shaped (.str x) = true := by
  unfold SeqAt.shaped
  rw [PyData.canLay0, h]
  simp [PyData.depth]
theorem eqv_str (x y : Str) : PyData.eqv (.str x) (.str y) = decide (x = y) := by
  rw [PyData.eqv]
  by_cases h : x = y
  · subst h; simp
  · rw [decide_eq_false h]
    exact beq_eq_false_iff_ne.mpr h
theorem eqv_pair (x y : Str) (p q : Rat) : PyData.eqv (.tuple [.str x, rat2 p]) (.tuple [.str y, rat2 q]) = (decide (x = y) && decide (p = q)) := by
  rw [PyData.eqv, PyData.eqvAll, PyData.eqvAll, PyData.eqvAll, eqv_str, eqv_rat2, Bool.and_true]
theorem shaped_pair {x : Str} (h : PyData.strOk x = true) (p : Rat) : SeqAt.shaped (.tuple [.str x, rat2 p]) = true := by
  unfold SeqAt.shaped
  rw [PyData.canLay0, PyData.canLayAll0, PyData.canLayAll0, PyData.canLayAll0, PyData.canLay0, h, lay_rat2]
  simp [PyData.depth, PyData.depthAll, depth_rat2]
theorem lay_dPc {p : Pc} (h : PyData.strOk p.n = true) : (dPc p).canLay0 = true := by
  unfold dPc
  rw [PyData.canLay0, PyData.canLayAll0, PyData.canLayAll0, PyData.canLayAll0, PyData.canLayAll0, PyData.canLayAll0, PyData.canLay0, h, lay_rat2, lay_rat2, lay_rat2]
  rfl
theorem depth_dPc (p : Pc) : (dPc p).depth = 2 := by
  unfold dPc
  simp [PyData.depth, PyData.depthAll, depth_rat2]
def POk (ps : List Pc) : Prop := ∀ p ∈ ps, PyData.strOk p.n = true
theorem lay_dPcs : ∀ {ps : List Pc}, POk ps → PyData.canLayAll0 (ps.map dPc) = true
  | [], _ => by rw [List.map_nil, PyData.canLayAll0]
  | p :: ps, h => by
    rw [List.map_cons, PyData.canLayAll0, lay_dPc (h p (List.mem_cons_self ..)), lay_dPcs (ps := ps) fun q hq => h q (List.mem_cons_of_mem _ hq)]
    rfl
theorem depth_dPcs : ∀ (ps : List Pc), PyData.depthAll (ps.map dPc) ≤ 2
  | [] => by simp [PyData.depthAll]
  | p :: ps => by
    have := depth_dPcs ps
    rw [List.map_cons, PyData.depthAll, depth_dPc]
    omega
theorem shaped_list {ps : List Pc} (h : POk ps) : SeqAt.shaped (.list (ps.map dPc)) = true := by
  unfold SeqAt.shaped
  have := depth_dPcs ps
  rw [PyData.canLay0, lay_dPcs h, PyData.depth]
  simp
  omega
theorem shaped_nil : SeqAt.shaped (.list []) = true := by
  unfold SeqAt.shaped
  simp [PyData.canLay0, PyData.canLayAll0, PyData.depth, PyData.depthAll]
theorem eqv_nil (ps : List Pc) : PyData.eqv (.list (ps.map dPc)) (.list []) = decide (ps = []) := by
  cases ps with
  | nil => simp [PyData.eqv, PyData.eqvAll]
  | cons p ps => simp [PyData.eqv, PyData.eqvAll]
theorem plain_dPc (p : Pc) : plainD (dPc p) = true := by
  unfold dPc
  rw [plainD, plainDs, plainDs, plainDs, plainDs, plainDs, plain_rat2, plain_rat2, plain_rat2, plainD]
  rfl
theorem plain_dPcs : ∀ ps : List Pc, plainDs (ps.map dPc) = true
  | [] => by rw [List.map_nil, plainDs]
  | p :: ps => by
    rw [List.map_cons, plainDs, plain_dPc, plain_dPcs ps]
    rfl
def dPlan (ps : List Pc) : PyData := .tuple (ps.map dPc)
theorem plain_plan {ps : List Pc} (h : ps.length ≤ 1000) : plainD (dPlan ps) = true := by
  unfold dPlan
  rw [plainD, plain_dPcs, List.length_map, decide_eq_true h]
  rfl
theorem dep_dPc (p : Pc) : depD (dPc p) = 2 := by
  simp [dPc, depD, depDs, dep_rat2]
theorem dep_dPcs : ∀ ps : List Pc, depDs (ps.map dPc) ≤ 2
  | [] => by simp [depDs]
  | p :: ps => by
    have := dep_dPcs ps
    rw [List.map_cons, depDs, dep_dPc]
    omega
theorem dep_plan (ps : List Pc) : depD (dPlan ps) < 4 := by
  have := dep_dPcs ps
  unfold dPlan
  rw [depD]
  omega
theorem nm_str {k : Nat} {x : Str} (h : NmOk k x) : PyData.strOk x = true := by
  unfold PyData.strOk
  rw [Array.all_eq_true']
  intro c hc
  have := h.low c (by simpa using hc)
  exact decide_eq_true (by omega)
/-! ### tidy plans -/
def goesOn (p q : Pc) : Bool := decide (p.e = q.s) && (decide (p.n = q.n) && decide (p.v = q.v))
def tidyStep (acc : List Pc) (p : Pc) : List Pc :=
  match acc.getLast? with
  | none => acc ++ [p]
  | some l => if goesOn l p then acc.dropLast ++ [⟨l.s, p.e, p.n, p.v⟩] else acc ++ [p]
def tidyL (ps : List Pc) : List Pc := ps.foldl tidyStep []
theorem step_nil (p : Pc) : tidyStep [] p = [p] := rfl
theorem step_yes {acc : List Pc} {l p : Pc} (h : goesOn l p = true) : tidyStep (acc ++ [l]) p = acc ++ [⟨l.s, p.e, p.n, p.v⟩] := by
  unfold tidyStep
  rw [List.getLast?_concat]
  show (if goesOn l p then _ else _) = _
  rw [if_pos h, List.dropLast_concat]
theorem step_no {acc : List Pc} {l p : Pc} (h : goesOn l p = false) : tidyStep (acc ++ [l]) p = acc ++ [l] ++ [p] := by
  unfold tidyStep
  rw [List.getLast?_concat]
  show (if goesOn l p then _ else _) = _
  rw [if_neg (by rw [h]; decide)]
theorem snoc_or (acc : List Pc) : acc = [] ∨ ∃ i l, acc = i ++ [l] := by
  rcases List.eq_nil_or_concat acc with h | ⟨i, l, h⟩
  · exact .inl h
  · exact .inr ⟨i, l, by rw [h, List.concat_eq_append]⟩
theorem tidy_take {ps : List Pc} {i : Nat} {p : Pc} (h : ps[i]? = some p) : tidyL (ps.take (i + 1)) = tidyStep (tidyL (ps.take i)) p := by
  unfold tidyL
  rw [List.take_add_one, h, List.foldl_append]
  rfl
theorem step_len (acc : List Pc) (p : Pc) : (tidyStep acc p).length ≤ acc.length + 1 := by
  rcases snoc_or acc with rfl | ⟨i, l, rfl⟩
  · exact Nat.le_refl _
  · cases h : goesOn l p with
    | true => rw [step_yes h]; simp
    | false => rw [step_no h]; simp
theorem tidy_len (ps : List Pc) : ∀ i, (tidyL (ps.take i)).length ≤ i
  | 0 => Nat.le_refl _
  | i + 1 => by
    have ih := tidy_len ps i
    cases h : ps[i]? with
    | none =>
      have : ps.length ≤ i := List.getElem?_eq_none_iff.mp h
      rw [List.take_of_length_le (by omega)]
      rw [List.take_of_length_le (by omega)] at ih
      omega
    | some p =>
      rw [tidy_take h]
      have := step_len (tidyL (ps.take i)) p
      omega
def Tidy (ps : List Pc) : Prop := ∀ (k : Nat) (p q : Pc), ps[k]? = some p → ps[k + 1]? = some q → goesOn p q = false
theorem goes_last {l l' p : Pc} (e : l.s = l'.s ∧ l.n = l'.n ∧ l.v = l'.v) (h : goesOn p l = goesOn p l) : goesOn p l = goesOn p l' := by
  unfold goesOn
  rw [e.1, e.2.1, e.2.2]
theorem tidy_push {acc : List Pc} {l : Pc} (h : Tidy acc) (hl : ∀ x, acc.getLast? = some x → goesOn x l = false) : Tidy (acc ++ [l]) := by
  intro k p q hp hq
  have lk : k + 1 < (acc ++ [l]).length := (List.getElem?_eq_some_iff.mp hq).1
  rw [List.length_append, List.length_singleton] at lk
  rw [List.getElem?_append_left (by omega)] at hp
  by_cases e : k + 1 < acc.length
  · rw [List.getElem?_append_left e] at hq
    exact h k p q hp hq
  · have e2 : k + 1 = acc.length := by omega
    rw [List.getElem?_append_right (by omega), e2, Nat.sub_self] at hq
    have : l = q := Option.some.inj hq
    subst this
    refine hl p ?_
    rw [List.getLast?_eq_getElem?, show acc.length - 1 = k by omega]
    exact hp
theorem Tidy.init {acc : List Pc} {l : Pc} (h : Tidy (acc ++ [l])) : Tidy acc := fun k p q hp hq => by
  have lk : k + 1 < acc.length := (List.getElem?_eq_some_iff.mp hq).1
  exact h k p q (by rw [List.getElem?_append_left (by omega)]; exact hp) (by rw [List.getElem?_append_left lk]; exact hq)
theorem Tidy.last {acc : List Pc} {l x : Pc} (h : Tidy (acc ++ [l])) (hx : acc.getLast? = some x) : goesOn x l = false := by
  rw [List.getLast?_eq_getElem?] at hx
  have lx : acc.length - 1 < acc.length := (List.getElem?_eq_some_iff.mp hx).1
  refine h (acc.length - 1) x l (by rw [List.getElem?_append_left lx]; exact hx) ?_
  rw [List.getElem?_append_right (by omega), show acc.length - 1 + 1 - acc.length = 0 by omega]
  rfl
theorem tidy_step {acc : List Pc} (h : Tidy acc) (p : Pc) : Tidy (tidyStep acc p) := by
  rcases snoc_or acc with rfl | ⟨i, l, rfl⟩
  · rw [step_nil]
    exact fun k a b _ hb => by simp at hb
  · cases e : goesOn l p with
    | true =>
      rw [step_yes e]
      refine tidy_push h.init fun x hx => ?_
      have := h.last hx
      unfold goesOn at e this ⊢
      simp only [Bool.and_eq_true, decide_eq_true_eq] at e
      rw [← e.2.1, ← e.2.2]
      exact this
    | false =>
      rw [step_no e]
      refine tidy_push h fun x hx => ?_
      rw [List.getLast?_concat] at hx
      rw [← Option.some.inj hx]
      exact e
theorem tidy_fold : ∀ (ps : List Pc) {acc : List Pc}, Tidy acc → Tidy (ps.foldl tidyStep acc)
  | [], _, h => h
  | p :: ps, _, h => tidy_fold ps (tidy_step h p)
theorem tidyL_tidy (ps : List Pc) : Tidy (tidyL ps) := tidy_fold ps fun k a b _ hb => by simp at hb
theorem tidy_same_fold : ∀ (ps acc : List Pc), Tidy (acc ++ ps) → ps.foldl tidyStep acc = acc ++ ps
  | [], acc, _ => (List.append_nil acc).symm
  | p :: ps, acc, h => by
    have e : tidyStep acc p = acc ++ [p] := by
      rcases snoc_or acc with rfl | ⟨i, l, rfl⟩
      · rfl
      · refine step_no ?_
        refine h i.length l p ?_ ?_
        · rw [List.append_assoc, List.getElem?_append_right (Nat.le_refl _), Nat.sub_self]
          rfl
        · rw [List.append_assoc, List.getElem?_append_right (by omega), show i.length + 1 - i.length = 1 by omega]
          rfl
    show ps.foldl tidyStep (tidyStep acc p) = _
    rw [e, tidy_same_fold ps (acc ++ [p]) (by rw [List.append_assoc]; exact h), List.append_assoc]
    rfl
theorem tidyL_same {ps : List Pc} (h : Tidy ps) : tidyL ps = ps := by
  have := tidy_same_fold ps [] h
  exact this
theorem step_ok {acc : List Pc} {p : Pc} (h : POk acc) (hp : PyData.strOk p.n = true) : POk (tidyStep acc p) := by
  rcases snoc_or acc with rfl | ⟨i, l, rfl⟩
  · intro x hx
    rw [List.mem_singleton.mp hx]
    exact hp
  · cases e : goesOn l p with
    | true =>
      rw [step_yes e]
      intro x hx
      rcases List.mem_append.mp hx with z | z
      · exact h x (List.mem_append_left _ z)
      · rw [List.mem_singleton.mp z]
        exact hp
    | false =>
      rw [step_no e]
      intro x hx
      rcases List.mem_append.mp hx with z | z
      · exact h x z
      · rw [List.mem_singleton.mp z]
        exact hp
theorem tidy_ok {ps : List Pc} (h : POk ps) : ∀ i, POk (tidyL (ps.take i))
  | 0 => fun _ z => (nomatch z)
  | i + 1 => by
    cases e : ps[i]? with
    | none =>
      have : ps.length ≤ i := List.getElem?_eq_none_iff.mp e
      have ih := tidy_ok h i
      rw [List.take_of_length_le (by omega)]
      rw [List.take_of_length_le (by omega)] at ih
      exact ih
    | some p =>
      rw [tidy_take e]
      exact step_ok (tidy_ok h i) (h p (List.mem_of_getElem? e))
/-- a list of data that ends in d -/
theorem IsA.snoc {K : PySem.W.Frag} {H : Hp} : ∀ {ds : List PyData} {xs : List V} {d : PyData}, IsA K H xs (ds ++ [d]) → ∃ ys v, xs = ys ++ [v] ∧ IsA K H ys ds ∧ Is K H v d
  | [], _, d, h => by
    cases h with
    | cons a b => cases b; exact ⟨[], _, rfl, .nil, a⟩
  | e :: ds, _, d, h => by
    cases h with
    | cons a b =>
      obtain ⟨ys, v, rfl, h1, h2⟩ := IsA.snoc b
      exact ⟨_ :: ys, v, rfl, .cons a h1, h2⟩
def spTidy (K : PySem.W.Frag) : Sp := fun vs H Q _ => ∃ (A : Addr) (xs : List V) (ps : List Pc), vs = [.ref A] ∧ SqT K H A xs ∧ IsA K H xs (ps.map dPc) ∧ POk ps ∧ ps.length ≤ 1000 ∧
  ∀ t ys H', Same H H' → H t = none → H' t = some (.tup ys) → IsA K H' ys ((tidyL ps).map dPc) → Q (.ref t) H'
def spIsTidy (K : PySem.W.Frag) : Sp := fun vs H Q _ => ∃ (A : Addr) (xs : List V) (ps : List Pc), vs = [.ref A] ∧ SqT K H A xs ∧ IsA K H xs (ps.map dPc) ∧ POk ps ∧ ps.length ≤ 1000 ∧ Tidy ps ∧ ∀ H', Same H H' → Q (.bl true) H'
def spGoes (K : PySem.W.Frag) : Sp := fun vs H Q _ => ∃ (a b : V) (p q : Pc), vs = [a, b] ∧ Is K H a (dPc p) ∧ Is K H b (dPc q) ∧ ∀ H', Same H H' → Q (.bl (goesOn p q)) H'
def spCut (K : PySem.W.Frag) : Sp := fun vs H Q _ => ∃ (p pa : Addr) (v : V) (c : Pc), vs = [.ref p, v] ∧ Pl p pa H ∧ Is K H v (dPc c) ∧ PyData.strOk c.n = true ∧ Sz 200 c.s ∧ Sz 200 c.e ∧
  ∀ l xs qs H', POk qs → qs.length ≤ 3 → Kp p H H' → Pl p pa H' → H l = none → H' l = some (.lst xs) → IsA K H' xs (qs.map dPc) → Q (.ref l) H'
theorem unit_rat {n : Int} (h : 0 < n) : rat2 (Rat.divInt 1 n) = .tuple [.int 1, .int n] := by
  unfold rat2
  rw [Rat.num_divInt, Rat.den_divInt, if_neg (by omega), Int.sign_eq_one_of_pos h]
  have : n.gcd 1 = 1 := by rw [Int.gcd_comm]; exact Int.one_gcd
  rw [this]
  simp
  omega
end Z

namespace Z
open PySem PySem.Spec PyProof.Rows L2
/-! ### pairs that stand for ratios, in lowest terms or not -/
def dP (t : Int × Int) : PyData := .tuple [.int t.1, .int t.2]
structure PrOk (t : Int × Int) : Prop where
  d0 : 0 < t.2
  n1 : t.1.natAbs < 2 ^ 3900
  d1 : t.2.natAbs < 2 ^ 3900
def val (t : Int × Int) : Rat := Rat.divInt t.1 t.2
theorem val_less {a b : Int × Int} (ha : PrOk a) (hb : PrOk b) : (a.1 * b.2 < b.1 * a.2) ↔ val a < val b := by
  have a0 : (0 : Rat) < (a.2 : Rat) := Rat.intCast_pos.mpr ha.d0
  have b0 : (0 : Rat) < (b.2 : Rat) := Rat.intCast_pos.mpr hb.d0
  have ea : val a * (a.2 : Rat) = (a.1 : Rat) := by
    unfold val
    rw [divInt_div]
    grind
  have eb : val b * (b.2 : Rat) = (b.1 : Rat) := by
    unfold val
    rw [divInt_div]
    grind
  rw [← Rat.intCast_lt_intCast, Rat.intCast_mul, Rat.intCast_mul, ← ea, ← eb]
  have p := Rat.mul_pos a0 b0
  have e1 : val a * (a.2 : Rat) * (b.2 : Rat) = val a * ((a.2 : Rat) * (b.2 : Rat)) := by grind
  have e2 : val b * (b.2 : Rat) * (a.2 : Rat) = val b * ((a.2 : Rat) * (b.2 : Rat)) := by grind
  rw [e1, e2]
  refine ⟨fun h => ?_, fun h => Rat.mul_lt_mul_of_pos_right h p⟩
  by_cases z : val a < val b
  · exact z
  · have z2 : val b ≤ val a := Rat.not_lt.mp z
    have := Rat.mul_le_mul_of_nonneg_right z2 (Rat.le_of_lt p)
    grind
def ofR (q : Rat) : Int × Int := (q.num, (q.den : Int))
theorem dP_ofR (q : Rat) : dP (ofR q) = rat2 q := rfl
theorem val_ofR (q : Rat) : val (ofR q) = q := Rat.num_divInt_den q
theorem pr_ofR {q : Rat} (h : Sz 3900 q) : PrOk (ofR q) := ⟨by have := q.den_nz; show 0 < (q.den : Int); omega, h.1, by show ((q.den : Int)).natAbs < _; rw [Int.natAbs_natCast]; exact h.2⟩
def spLessP (K : PySem.W.Frag) : Sp := fun vs H Q _ => ∃ (x y : V) (a b : Int × Int), vs = [x, y] ∧ Is K H x (dP a) ∧ Is K H y (dP b) ∧ PrOk a ∧ PrOk b ∧ Q (.bl (decide (val a < val b))) H
theorem less_imp {K : PySem.W.Frag} : ∀ vs H Q E, spLess K vs H Q E → spLessP K vs H Q E := by
  rintro vs H Q E ⟨x, y, p, q, rfl, hx, hy, zp, zq, k⟩
  refine ⟨x, y, ofR p, ofR q, rfl, hx, hy, pr_ofR zp, pr_ofR zq, ?_⟩
  rw [val_ofR, val_ofR]
  exact k
theorem dp_at {K : PySem.W.Frag} {H : Hp} {v : V} {a : Int × Int} (h : Is K H v (dP a)) : ∃ t, v = .ref t ∧ SqT K H t [.int a.1, .int a.2] := by
  obtain ⟨t, x, y, rfl, s, h1, h2⟩ := Is.two' h
  cases h1; cases h2
  exact ⟨t, rfl, s⟩
/-! ### the lesser, the greater -/
def minR (p q : Rat) : Rat := if q < p then q else p
def maxR (p q : Rat) : Rat := if p < q then q else p
/-! ### idle times -/
def dGap (g : Rat × Rat) : PyData := .tuple [rat2 g.1, rat2 g.2]
def gapStep (last : Rat) (a : Rat × List (Rat × Rat)) (p : Pc) : Rat × List (Rat × Rat) :=
  (maxR a.1 p.e, if a.1 < minR p.s last then a.2 ++ [(a.1, minR p.s last)] else a.2)
def gapsL (begin last : Rat) (ps : List Pc) : Rat × List (Rat × Rat) := ps.foldl (gapStep last) (begin, [])
def gapsD (begin last : Rat) (ps : List Pc) : List (Rat × Rat) :=
  if (gapsL begin last ps).1 < last then (gapsL begin last ps).2 ++ [((gapsL begin last ps).1, last)] else (gapsL begin last ps).2
theorem gaps_take {begin last : Rat} {ps : List Pc} {i : Nat} {p : Pc} (h : ps[i]? = some p) : gapsL begin last (ps.take (i + 1)) = gapStep last (gapsL begin last (ps.take i)) p := by
  unfold gapsL
  rw [List.take_add_one, h, List.foldl_append]
  rfl
theorem maxR_sz {n : Nat} {p q : Rat} (h : Sz n p) (k : Sz n q) : Sz n (maxR p q) := by
  unfold maxR
  split
  · exact k
  · exact h
theorem minR_sz {n : Nat} {p q : Rat} (h : Sz n p) (k : Sz n q) : Sz n (minR p q) := by
  unfold minR
  split
  · exact k
  · exact h
theorem gaps_sz {begin last : Rat} {ps : List Pc} (hb : Sz 200 begin) (h : ∀ p ∈ ps, Sz 200 p.e) : ∀ i, Sz 200 (gapsL begin last (ps.take i)).1
  | 0 => hb
  | i + 1 => by
    cases e : ps[i]? with
    | none =>
      have : ps.length ≤ i := List.getElem?_eq_none_iff.mp e
      have ih := gaps_sz (last := last) hb h i
      rw [List.take_of_length_le (by omega)]
      rw [List.take_of_length_le (by omega)] at ih
      exact ih
    | some p =>
      rw [gaps_take e]
      exact maxR_sz (gaps_sz hb h i) (h p (List.mem_of_getElem? e))
theorem gaps_len {begin last : Rat} {ps : List Pc} : ∀ i, (gapsL begin last (ps.take i)).2.length ≤ i
  | 0 => Nat.le_refl _
  | i + 1 => by
    cases e : ps[i]? with
    | none =>
      have : ps.length ≤ i := List.getElem?_eq_none_iff.mp e
      have ih := gaps_len (begin := begin) (last := last) (ps := ps) i
      rw [List.take_of_length_le (by omega)]
      rw [List.take_of_length_le (by omega)] at ih
      omega
    | some p =>
      have ih := gaps_len (begin := begin) (last := last) (ps := ps) i
      rw [gaps_take e]
      unfold gapStep
      dsimp only
      split
      · rw [List.length_append]; exact Nat.succ_le_succ ih
      · omega
theorem gapsD_len {begin last : Rat} {ps : List Pc} : (gapsD begin last ps).length ≤ ps.length + 1 := by
  have h := gaps_len (begin := begin) (last := last) (ps := ps) ps.length
  rw [List.take_length] at h
  unfold gapsD
  split
  · rw [List.length_append]; exact Nat.succ_le_succ h
  · omega
/-- the law's own turn is the same -/
theorem min_both {a s l : Rat} : (a < minR s l) ↔ (a < s ∧ a < l) := by
  unfold minR
  split
  · constructor <;> grind
  · constructor <;> grind
theorem plain_gaps : ∀ gs : List (Rat × Rat), plainDs (gs.map dGap) = true
  | [] => by rw [List.map_nil, plainDs]
  | g :: gs => by
    rw [List.map_cons, plainDs, plain_gaps gs]
    unfold dGap
    rw [plainD, plainDs, plainDs, plainDs, plain_rat2, plain_rat2]
    rfl
theorem plain_gap {gs : List (Rat × Rat)} (h : gs.length ≤ 1000) : plainD (.tuple (gs.map dGap)) = true := by
  rw [plainD, plain_gaps, List.length_map, decide_eq_true h]
  rfl
theorem dep_gaps : ∀ gs : List (Rat × Rat), depDs (gs.map dGap) ≤ 2
  | [] => by simp [depDs]
  | g :: gs => by
    have := dep_gaps gs
    rw [List.map_cons, depDs]
    have e : depD (dGap g) = 2 := by simp [dGap, depD, depDs, dep_rat2]
    rw [e]
    omega
theorem dep_gap (gs : List (Rat × Rat)) : depD (.tuple (gs.map dGap)) < 4 := by
  have := dep_gaps gs
  rw [depD]
  omega
def spSel (K : PySem.W.Frag) (g : Rat → Rat → Rat) : Sp := fun vs H Q _ => ∃ (x y : V) (p q : Rat), vs = [x, y] ∧ Is K H x (rat2 p) ∧ Is K H y (rat2 q) ∧ Sz 3900 p ∧ Sz 3900 q ∧ ∀ v, Is K H v (rat2 (g p q)) → Q v H
/-- begin and last are integers -/
def spGaps (K : PySem.W.Frag) : Sp := fun vs H Q _ => ∃ (A : Addr) (xs : List V) (ps : List Pc) (b e : Int), vs = [.ref A, .int b, .int e] ∧ SqT K H A xs ∧ IsA K H xs (ps.map dPc) ∧ (∀ p ∈ ps, Sz 200 p.s ∧ Sz 200 p.e) ∧ ps.length ≤ 900 ∧ b.natAbs < 2 ^ 100 ∧ e.natAbs < 2 ^ 100 ∧
  ∀ t ys H', Same H H' → H' t = some (.tup ys) → IsA K H' ys ((gapsD (b : Rat) (e : Rat) ps).map dGap) → Q (.ref t) H'
theorem int_rat (b : Int) : rat2 (b : Rat) = .tuple [.int b, .int 1] := rfl
theorem sz_int {b : Int} {n : Nat} (h : b.natAbs < 2 ^ n) (n0 : 0 < n) : Sz n (b : Rat) := ⟨h, by show 1 < 2 ^ n; exact Nat.one_lt_two_pow (by omega)⟩
theorem one_rat (b : Int) : Rat.divInt b 1 = (b : Rat) := by
  rw [divInt_div]
  show (b : Rat) / ((1 : Int) : Rat) = (b : Rat)
  grind
/-! ### the speed at a time -/
def speedL (t : Rat) : List Pc → Rat
  | [] => 0
  | p :: ps => if ¬ t < p.s ∧ t < p.e then p.v else speedL t ps
def spSpeed (K : PySem.W.Frag) : Sp := fun vs H Q _ => ∃ (A : Addr) (xs : List V) (ps : List Pc) (v : V) (t : Int × Int), vs = [.ref A, v] ∧ SqT K H A xs ∧ IsA K H xs (ps.map dPc) ∧ (∀ p ∈ ps, Sz 200 p.s ∧ Sz 200 p.e) ∧ Is K H v (dP t) ∧ PrOk t ∧
  ∀ u H', Same H H' → Is K H' u (rat2 (speedL (val t) ps)) → Q u H'
theorem speed_drop {t : Rat} {ps : List Pc} {i : Nat} {p : Pc} (h : ps[i]? = some p) : speedL t (ps.drop i) = if ¬ t < p.s ∧ t < p.e then p.v else speedL t (ps.drop (i + 1)) := by
  obtain ⟨hi, e⟩ := List.getElem?_eq_some_iff.mp h
  rw [List.drop_eq_getElem_cons hi, e]
  rfl
def spPick : Sp := fun vs H Q _ => ∃ (p pa R : Addr) (ns : List Int), vs = [.ref p, .ref R] ∧ Pl p pa H ∧ R ≠ p ∧ H R = some (.lst (ns.map V.int)) ∧ 0 < ns.length ∧ ns.length ≤ 1000 ∧ ∀ x H', x ∈ ns → Kp p H H' → Pl p pa H' → Q (.int x) H'
end Z
namespace Z
open PySem PySem.Spec PyProof.Rows L2
/-! ### slices and sums of tuples, whole or not -/
def rSlW (K : PySem.W.Frag) : V → Option Int → Option Int → Hp → VK → Prop := fun x lo hi H Q => ∃ a xs, x = .ref a ∧ SqT K H a xs ∧ ∀ b H', Same H H' → SqT K H' b (cutV xs lo hi) → Q (.ref b) H'
theorem cut_whole {xs : List V} {lo hi : Option Int} (h : HT.sIx xs.length 0 lo = 0 ∧ HT.sIx xs.length xs.length hi = xs.length) : cutV xs lo hi = xs := by
  unfold cutV
  rw [h.1, h.2, List.drop_zero, Nat.sub_zero, List.take_length]
theorem slW_A {K : PySem.W.Frag} {x : V} {lo hi : Option Int} {H : Hp} {Q : VK} (h : rSlW K x lo hi H Q) : rSlA K x lo hi H Q := by
  obtain ⟨a, xs, rfl, hs, q⟩ := h
  refine ⟨a, xs, rfl, hs, fun w => q a H (Same.refl _) (by rw [cut_whole w]; exact hs), fun _ p np => q p _ (same_upd np) (SqT.of upd_same)⟩
section
variable {X : Cx} {K : PySem.W.Frag}
theorem sl_tupW : SlR X (rSlW X.K) := by
  intro pins s σ H x v vl vu lo hi sl Q I rx hs pl pu h
  exact sl_tupA pins s σ H x v vl vu lo hi sl Q I rx hs pl pu (slW_A h)
theorem sl_tupWK (h : X.K = K) : SlR X (rSlW K) := h ▸ sl_tupW
def rCatW (K : PySem.W.Frag) : R2 := fun x y H Q => ∃ a b xs ys, x = .ref a ∧ y = .ref b ∧ SqT K H a xs ∧ SqT K H b ys ∧ xs.length + ys.length ≤ sizeLine ∧ ∀ c H', Same H H' → SqT K H' c (xs ++ ys) → Q (.ref c) H'
theorem op_catW : OpR X (binaryOp .Add) (rCatW X.K) := by
  intro pins s σ H x y v u Q I rx ry h
  obtain ⟨a, b, xs, ys, rfl, rfl, ha, hb, hl, q⟩ := h
  refine op_catA pins s σ H _ _ v u Q I rx ry ⟨a, b, xs, ys, rfl, rfl, ha, hb, hl, fun e => ?_, fun _ e => ?_, fun _ _ p np => q p _ (same_upd np) (SqT.of upd_same)⟩
  · subst e
    exact q b H (Same.refl _) hb
  · subst e
    exact q a H (Same.refl _) (by rw [List.append_nil]; exact ha)
end
end Z

namespace Z
open PySem PySem.Spec PyProof.Rows L2
/-! ### faults of plans -/
def jobOf (js : List Job) (n : Str) : Option Job := js.find? fun j => decide (j.n = n)
def inWin (p : Pc) (j : Job) : Bool := !decide (p.s < (j.c : Rat)) && !decide ((j.d : Rat) < p.e)
def outWin (js : List Job) (p : Pc) : Bool := match jobOf js p.n with
  | some j => !inWin p j
  | none => false
def wrongWork (ps : List Pc) (j : Job) : Bool := !decide (workOf j.n ps = (j.w : Rat))
def faultD (js : List Job) (ps : List Pc) : PyData :=
  match ps.findIdx? fun p => (jobOf js p.n).isNone with
  | some i => .tuple [.str ("unknown" : Str), .int (i : Int)]
  | none => match ps.findIdx? (outWin js) with
    | some i => .tuple [.str ("window" : Str), .int (i : Int)]
    | none => match js.find? (wrongWork ps) with
      | some j => .tuple [.str ("work" : Str), .str j.n]
      | none => .none
theorem first_some {α : Type} {f : α → Bool} {l : List α} {i : Nat} {x : α} (h : ∀ (k : Nat) (y : α), k < i → l[k]? = some y → f y = false) (hx : l[i]? = some x) (fx : f x = true) : l.findIdx? f = some i := by
  obtain ⟨hi, e⟩ := List.getElem?_eq_some_iff.mp hx
  refine List.findIdx?_eq_some_iff_getElem.mpr ⟨hi, by rw [e]; exact fx, fun j hj => ?_⟩
  rw [h j _ hj (List.getElem?_eq_getElem (by omega))]
  decide
theorem first_none {α : Type} {f : α → Bool} {l : List α} (h : ∀ (k : Nat) (y : α), l[k]? = some y → f y = false) : l.findIdx? f = none := by
  refine List.findIdx?_eq_none_iff.mpr fun x hx => ?_
  obtain ⟨k, hk⟩ := List.getElem?_of_mem hx
  exact h k x hk
theorem find_some {α : Type} {f : α → Bool} : ∀ {l : List α} {i : Nat} {x : α}, (∀ (k : Nat) (y : α), k < i → l[k]? = some y → f y = false) → l[i]? = some x → f x = true → l.find? f = some x
  | [], _, _, _, h, _ => by simp at h
  | a :: l, 0, x, _, h, fx => by
    have e : a = x := Option.some.inj h
    subst e
    exact List.find?_cons_of_pos fx
  | a :: l, i + 1, x, hk, h, fx => by
    rw [List.find?_cons_of_neg (by rw [hk 0 a (by omega) rfl]; decide)]
    exact find_some (fun k y hy h2 => hk (k + 1) y (by omega) h2) h fx
theorem find_none {α : Type} {f : α → Bool} {l : List α} (h : ∀ (k : Nat) (y : α), l[k]? = some y → f y = false) : l.find? f = none := by
  refine List.find?_eq_none.mpr fun x hx => ?_
  obtain ⟨k, hk⟩ := List.getElem?_of_mem hx
  rw [h k x hk]
  decide
/-- jobs whose names differ -/
structure JsOk (js : List Job) : Prop where
  ok : ∀ j ∈ js, JobOk j
  nd : (js.map (·.n)).Nodup
  st : ∀ j ∈ js, PyData.strOk j.n = true
  len : js.length ≤ 19
theorem JobsOk.js {js : List Job} (h : JobsOk js) (hl : js.length ≤ 19) : JsOk js := by
  refine ⟨h.ok, ?_, fun j hj => ?_, hl⟩
  · refine List.pairwise_iff_getElem.mpr fun a b ha hb hab => ?_
    rw [List.length_map] at ha hb
    rw [List.getElem_map, List.getElem_map]
    intro e
    have h1 := h.nm a _ (List.getElem?_eq_getElem ha)
    have h2 := h.nm b _ (List.getElem?_eq_getElem hb)
    rw [← e] at h2
    have := h1.inj h2
    omega
  · obtain ⟨i, hi⟩ := List.getElem?_of_mem hj
    exact nm_str (h.nm i j hi)
theorem jobOf_at {js : List Job} (h : JsOk js) {i : Nat} {j : Job} (hj : js[i]? = some j) : jobOf js j.n = some j := by
  unfold jobOf
  refine find_some (i := i) (fun k y hk hy => ?_) hj (decide_eq_true rfl)
  refine decide_eq_false fun e => ?_
  have := nd_ix h.nd (i := k) (j := i) (x := j.n) (by rw [List.getElem?_map, hy]; exact congrArg some e) (by rw [List.getElem?_map, hj]; rfl)
  omega
theorem jobOf_mem {js : List Job} {n : Str} {j : Job} (h : jobOf js n = some j) : j ∈ js ∧ j.n = n := by
  refine ⟨List.mem_of_find?_eq_some h, ?_⟩
  exact of_decide_eq_true (List.find?_some (p := fun j : Job => decide (j.n = n)) h)
theorem jobOf_take {js : List Job} (h : JsOk js) {i : Nat} {j : Job} (hj : js[i]? = some j) (n : Str) : jobOf (js.take (i + 1)) n = if n = j.n then some j else jobOf (js.take i) n := by
  have e : js.take (i + 1) = js.take i ++ [j] := by rw [List.take_add_one, hj]; rfl
  rw [e]
  unfold jobOf
  rw [List.find?_append]
  by_cases c : n = j.n
  · rw [if_pos c]
    have : (js.take i).find? (fun j => decide (j.n = n)) = none := by
      refine List.find?_eq_none.mpr fun x hx => ?_
      obtain ⟨k, hk⟩ := List.getElem?_of_mem hx
      have kl := (List.getElem?_eq_some_iff.mp hk).1
      rw [List.length_take] at kl
      rw [List.getElem?_take_of_lt (by omega)] at hk
      intro z
      have z2 : x.n = j.n := (of_decide_eq_true z).trans c
      have := nd_ix h.nd (i := k) (j := i) (x := j.n) (by rw [List.getElem?_map, hk]; exact congrArg some z2) (by rw [List.getElem?_map, hj]; rfl)
      omega
    rw [this, List.find?_cons_of_pos (by exact decide_eq_true c.symm)]
    rfl
  · rw [if_neg c, List.find?_cons_of_neg (by rw [decide_eq_false (Ne.symm c)]; decide)]
    show Option.or _ none = _
    rw [Option.or_none]
/-- the sizes that the texts need -/
structure PSz (ps : List Pc) : Prop where
  s : ∀ p ∈ ps, Sz 1200 p.s ∧ Sz 1200 p.e ∧ Sz 1200 p.v
  w : ∀ (n : Str) (i : Nat), Sz 3900 (workOf n (ps.take i))
  len : ps.length ≤ 900
theorem PSz.term {ps : List Pc} (h : PSz ps) {p : Pc} (hp : p ∈ ps) : Sz 2401 (p.e - p.s) ∧ Sz 3601 (p.v * (p.e - p.s)) := by
  obtain ⟨h1, h2, h3⟩ := h.s p hp
  have a := h2.sub h1
  exact ⟨a.mono (by decide), (h3.mul a).mono (by decide)⟩
theorem work_take {ps : List Pc} {i : Nat} {p : Pc} (h : ps[i]? = some p) (n : Str) : workOf n (ps.take (i + 1)) = workOf n (ps.take i) + (if p.n = n then p.v * (p.e - p.s) else 0) := by
  rw [List.take_add_one, h]
  exact workOf_push n _ p
theorem work_nil (n : Str) : workOf n [] = 0 := rfl
theorem filter_take {α : Type} (f : α → Bool) : ∀ (l : List α) (i : Nat), ∃ k, (l.filter f).take i = (l.take k).filter f
  | [], _ => ⟨0, by simp⟩
  | a :: l, i => by
    cases h : f a with
    | true =>
      cases i with
      | zero => exact ⟨0, by simp⟩
      | succ i =>
        obtain ⟨k, hk⟩ := filter_take f l i
        refine ⟨k + 1, ?_⟩
        rw [List.filter_cons_of_pos h, List.take_succ_cons, List.take_succ_cons, List.filter_cons_of_pos h, hk]
    | false =>
      obtain ⟨k, hk⟩ := filter_take f l i
      refine ⟨k + 1, ?_⟩
      rw [List.filter_cons_of_neg (by rw [h]; decide), List.take_succ_cons, List.filter_cons_of_neg (by rw [h]; decide), hk]
theorem sumL_rsum (qs : List Rat) : sumL 0 qs = rsum qs := by
  unfold sumL
  rw [foldl_rsum]
  grind
/-! ### promises -/
def spWinP (K : PySem.W.Frag) : Sp := fun vs H Q _ => ∃ (a b : V) (p : Pc) (j : Job), vs = [a, b] ∧ Is K H a (dPc p) ∧ Is K H b (dJob j) ∧ JobOk j ∧ Sz 1200 p.s ∧ Sz 1200 p.e ∧ ∀ H', Same H H' → Q (.bl (inWin p j)) H'
/-- a dict of the works -/
def WorkD (K : PySem.W.Frag) (H : Hp) (kvs : List (Key × V)) (ps : List Pc) : Prop := ∀ n : Str, match valV kvs (Sum.inr n) with
  | none => workOf n ps = 0
  | some v => Is K H v (rat2 (workOf n ps))
def spWorks (K : PySem.W.Frag) : Sp := fun vs H Q _ => ∃ (A : Addr) (xs : List V) (ps : List Pc), vs = [.ref A] ∧ SqT K H A xs ∧ IsA K H xs (ps.map dPc) ∧ PSz ps ∧
  ∀ D kvs H', Same H H' → H' D = some (.dK kvs) → WorkD K H' kvs ps → Q (.ref D) H'
def spFault (K : PySem.W.Frag) : Sp := fun vs H Q _ => ∃ (J A : Addr) (jx xs : List V) (js : List Job) (ps : List Pc), vs = [.ref J, .ref A] ∧ SqT K H J jx ∧ IsA K H jx (js.map dJob) ∧ JsOk js ∧ SqT K H A xs ∧ IsA K H xs (ps.map dPc) ∧ PSz ps ∧
  ∀ v H', Same H H' → Is K H' v (faultD js ps) → Q v H'
theorem plain_fault (js : List Job) (ps : List Pc) : plainD (faultD js ps) = true ∧ depD (faultD js ps) < 2 := by
  unfold faultD
  split
  · constructor
    · rw [plainD, plainDs, plainDs, plainDs, plainD, plainD]; rfl
    · simp [depD, depDs]
  · split
    · constructor
      · rw [plainD, plainDs, plainDs, plainDs, plainD, plainD]; rfl
      · simp [depD, depDs]
    · split
      · constructor
        · rw [plainD, plainDs, plainDs, plainDs, plainD, plainD]; rfl
        · simp [depD, depDs]
      · constructor
        · rw [plainD]
        · simp [depD]
theorem jobsz {j : Job} (h : JobOk j) : Sz 20 ((j.c : Int) : Rat) ∧ Sz 20 ((j.d : Int) : Rat) ∧ Sz 20 ((j.w : Int) : Rat) := by
  have := h.c0
  have := h.cd
  have := h.d1
  have := h.w0
  have := h.w1
  exact ⟨sz_int (by omega) (by decide), sz_int (by omega) (by decide), sz_int (by omega) (by decide)⟩
/-- by name -/
def ByName (K : PySem.W.Frag) (H : Hp) (kvs : List (Key × V)) (js : List Job) : Prop := ∀ n : Str, match jobOf js n with
  | none => valV kvs (Sum.inr n) = none
  | some j => ∃ v, valV kvs (Sum.inr n) = some v ∧ Is K H v (dJob j)
theorem ByName.tm {K : PySem.W.Frag} {H H' : Hp} {kvs : List (Key × V)} {js : List Job} (h : ByName K H kvs js) (e : Tm H H') : ByName K H' kvs js := fun n => by
  have z := h n
  split at z
  · exact z
  · obtain ⟨v, h1, h2⟩ := z
    exact ⟨v, h1, h2.to e⟩
theorem WorkD.tm {K : PySem.W.Frag} {H H' : Hp} {kvs : List (Key × V)} {ps : List Pc} (h : WorkD K H kvs ps) (e : Tm H H') : WorkD K H' kvs ps := fun n => by
  have z := h n
  split at z
  · exact z
  · exact z.to e
/-- a dict is stored -/
theorem Tm.dk {p : Addr} {H : Hp} {xs ys : List (Key × V)} (hp : H p = some (.dK xs)) : Tm H (upd H p (.dK ys)) := fun a zs h => by
  have n : a ≠ p := by
    rintro rfl
    rcases h with h | ⟨o, h⟩ <;> (rw [hp] at h; cases h)
  rcases h with h | ⟨o, h⟩
  · exact .inl (by rw [upd_ne n]; exact h)
  · exact .inr ⟨o, by rw [upd_ne n]; exact h⟩
end Z
namespace Z
open PySem PySem.Spec PyProof.Rows L2
theorem eqV_str (x y : Str) : eqV (.str x) (.str y) = decide (x = y) := by
  show (x == y) = _
  by_cases h : x = y
  · subst h; simp
  · rw [decide_eq_false h]
    exact beq_eq_false_iff_ne.mpr h
theorem inV_str (x : Str) : ∀ xs : List Str, inV (.str x) (xs.map V.str) = decide (x ∈ xs)
  | [] => by simp [inV]
  | y :: xs => by
    have h := inV_str x xs
    unfold inV at h ⊢
    rw [List.map_cons, List.any_cons, h, eqV_str]
    by_cases e : y = x
    · subst e; simp
    · rw [decide_eq_false e]
      simp [List.mem_cons, Ne.symm e]
theorem flat_strs : ∀ ns : List Str, (ns.map V.str).all flatV = true
  | [] => rfl
  | n :: ns => by
    rw [List.map_cons, List.all_cons, flat_strs ns]
    rfl
def spDone (K : PySem.W.Frag) : Sp := fun vs H Q _ => ∃ (A : Addr) (xs : List V) (ps : List Pc) (n : Str), vs = [.ref A, .str n] ∧ SqT K H A xs ∧ IsA K H xs (ps.map dPc) ∧ PSz ps ∧ ∀ v H', Same H H' → Is K H' v (rat2 (workOf n ps)) → Q v H'
theorem jobOf_in {js : List Job} {n : Str} : (jobOf js n).isNone = false ↔ n ∈ js.map (·.n) := by
  unfold jobOf
  cases h : js.find? (fun j => decide (j.n = n)) with
  | none =>
    refine ⟨fun z => (Bool.noConfusion z), fun z => ?_⟩
    obtain ⟨j, hj, e⟩ := List.mem_map.mp z
    have := List.find?_eq_none.mp h j hj
    exact absurd (decide_eq_true e) this
  | some j =>
    refine ⟨fun _ => ?_, fun _ => rfl⟩
    have := List.find?_some (p := fun j : Job => decide (j.n = n)) h
    exact List.mem_map.mpr ⟨j, List.mem_of_find?_eq_some h, of_decide_eq_true this⟩
theorem jobOf_ix {js : List Job} (h : JsOk js) {n : Str} {j : Job} (e : jobOf js n = some j) : ∃ i, js[i]? = some j ∧ j.n = n ∧ ∀ (m : Nat) (j' : Job), m < i → js[m]? = some j' → j'.n ≠ n := by
  obtain ⟨hm, hn⟩ := jobOf_mem e
  obtain ⟨i, hi⟩ := List.getElem?_of_mem hm
  refine ⟨i, hi, hn, fun m j' hmi hj' z => ?_⟩
  have := nd_ix h.nd (i := m) (j := i) (x := n) (by rw [List.getElem?_map, hj']; exact congrArg some z) (by rw [List.getElem?_map, hi]; exact congrArg some hn)
  omega
theorem works_list (n : Str) (ps : List Pc) (hz : PSz ps) : (∀ q ∈ (ps.filter fun p => decide (p.n = n)).map (fun p => p.v * (p.e - p.s)), Sz 3900 q) ∧ ∀ i, Sz 3900 (sumL 0 (((ps.filter fun p => decide (p.n = n)).map (fun p => p.v * (p.e - p.s))).take i)) := by
  refine ⟨fun q hq => ?_, fun i => ?_⟩
  · obtain ⟨p, hp, rfl⟩ := List.mem_map.mp hq
    exact (hz.term (List.mem_filter.mp hp).1).2.mono (by decide)
  · obtain ⟨k, hk⟩ := filter_take (fun p : Pc => decide (p.n = n)) ps i
    rw [← List.map_take, hk, sumL_rsum]
    exact hz.w n k
end Z

namespace Z
open PySem PySem.Spec PyProof.Rows L2
/-! ### prices -/
def px (ts : List (Int × Int)) (i : Nat) : Int := (ts.getD i (0, 0)).1
def py (ts : List (Int × Int)) (i : Nat) : Int := (ts.getD i (0, 0)).2
/-- the points of a table, as whole numbers -/
structure TabOk (ts : List (Int × Int)) : Prop where
  n2 : 2 ≤ ts.length
  n6 : ts.length ≤ 6
  x0 : px ts 0 = 0
  up : ∀ i, i + 1 < ts.length → px ts i < px ts (i + 1)
  cv : ∀ i, i + 2 < ts.length → (py ts (i + 1) - py ts i) * (px ts (i + 2) - px ts (i + 1)) ≤ (py ts (i + 2) - py ts (i + 1)) * (px ts (i + 1) - px ts i)
  bx : ∀ i, (px ts i).natAbs < 2 ^ 60
  bY : ∀ i, (py ts i).natAbs < 2 ^ 60
def slo (ts : List (Int × Int)) (i : Nat) : Rat := ((py ts (i + 1) - py ts i : Int) : Rat) / ((px ts (i + 1) - px ts i : Int) : Rat)
def lin (ts : List (Int × Int)) (i : Nat) (s : Rat) : Rat := (py ts i : Rat) + slo ts i * (s - (px ts i : Rat))
theorem ratlt {a b : Int} (h : a < b) : (a : Rat) < (b : Rat) := Rat.intCast_lt_intCast.mpr h
theorem ratle {a b : Int} (h : a ≤ b) : (a : Rat) ≤ (b : Rat) := Rat.intCast_le_intCast.mpr h
theorem slo_mul {ts : List (Int × Int)} {i : Nat} (h : TabOk ts) (hi : i + 1 < ts.length) : slo ts i * ((px ts (i + 1) : Rat) - (px ts i : Rat)) = (py ts (i + 1) : Rat) - (py ts i : Rat) := by
  have h1 := ratlt (h.up i hi)
  unfold slo
  rw [Rat.intCast_sub, Rat.intCast_sub]
  have : (px ts (i + 1) : Rat) - (px ts i : Rat) ≠ 0 := by grind
  grind
theorem rmul_cancel {a b c : Rat} (hc : 0 < c) (h : a * c ≤ b * c) : a ≤ b := Rat.le_of_mul_le_mul_right h hc
theorem slo_up {ts : List (Int × Int)} {i : Nat} (h : TabOk ts) (hi : i + 2 < ts.length) : slo ts i ≤ slo ts (i + 1) := by
  have c := ratle (h.cv i hi)
  have e1 := slo_mul h (i := i) (by omega)
  have e2 := slo_mul h (i := i + 1) (by omega)
  have p1 := ratlt (h.up i (by omega))
  have p2 := ratlt (h.up (i + 1) (by omega))
  rw [Rat.intCast_mul, Rat.intCast_mul, Rat.intCast_sub, Rat.intCast_sub, Rat.intCast_sub, Rat.intCast_sub] at c
  have d1 : (0 : Rat) < (px ts (i + 1) : Rat) - (px ts i : Rat) := by grind
  have d2 : (0 : Rat) < (px ts (i + 2) : Rat) - (px ts (i + 1) : Rat) := by
    have : (px ts (i + 1) : Rat) < (px ts (i + 2) : Rat) := p2
    grind
  have e2' : slo ts (i + 1) * ((px ts (i + 2) : Rat) - (px ts (i + 1) : Rat)) = (py ts (i + 2) : Rat) - (py ts (i + 1) : Rat) := e2
  have e3 := Rat.mul_pos d1 d2
  refine rmul_cancel e3 ?_
  rw [← e1, ← e2'] at c
  grind
/-- one line above the next -/
theorem lin_step {ts : List (Int × Int)} {i : Nat} (h : TabOk ts) (hi : i + 2 < ts.length) (s : Rat) : lin ts (i + 1) s - lin ts i s = (slo ts (i + 1) - slo ts i) * (s - (px ts (i + 1) : Rat)) := by
  have e1 := slo_mul h (i := i) (by omega)
  unfold lin
  grind
theorem rmul_nn {a b : Rat} (ha : 0 ≤ a) (hb : 0 ≤ b) : 0 ≤ a * b := Rat.mul_nonneg ha hb
theorem lin_up {ts : List (Int × Int)} {i : Nat} (h : TabOk ts) (hi : i + 2 < ts.length) {s : Rat} (hs : (px ts (i + 1) : Rat) ≤ s) : lin ts i s ≤ lin ts (i + 1) s := by
  have e := lin_step h hi s
  have a := slo_up h hi
  have := rmul_nn (a := slo ts (i + 1) - slo ts i) (b := s - (px ts (i + 1) : Rat)) (by grind) (by grind)
  grind
theorem lin_dn {ts : List (Int × Int)} {i : Nat} (h : TabOk ts) (hi : i + 2 < ts.length) {s : Rat} (hs : s ≤ (px ts (i + 1) : Rat)) : lin ts (i + 1) s ≤ lin ts i s := by
  have e := lin_step h hi s
  have a := slo_up h hi
  have := rmul_nn (a := slo ts (i + 1) - slo ts i) (b := (px ts (i + 1) : Rat) - s) (by grind) (by grind)
  grind
theorem px_mono {ts : List (Int × Int)} (h : TabOk ts) : ∀ {i j : Nat}, i ≤ j → j < ts.length → px ts i ≤ px ts j := by
  intro i j hij
  induction hij with
  | refl => intro _; exact Int.le_refl _
  | step hm ih =>
    intro hj
    have a1 := h.up _ hj
    have a2 := ih (by omega)
    exact Int.le_trans a2 (Int.le_of_lt a1)
/-- the place of a speed -/
structure Sel (ts : List (Int × Int)) (s : Rat) (k : Nat) : Prop where
  lt : k + 1 < ts.length
  lo : (px ts k : Rat) ≤ s
  hi : k + 2 = ts.length ∨ s ≤ (px ts (k + 1) : Rat)
theorem Sel.top {ts : List (Int × Int)} {s : Rat} {k : Nat} (h : TabOk ts) (S : Sel ts s k) : ∀ j, j + 1 < ts.length → lin ts j s ≤ lin ts k s := by
  intro j hj
  rcases Nat.le_total j k with hjk | hjk
  · -- below
    have : ∀ d, j + d ≤ k → lin ts j s ≤ lin ts (j + d) s := by
      intro d
      induction d with
      | zero => intro _; exact Rat.le_refl
      | succ d ih =>
        intro hd
        have h1 := ih (by omega)
        have hx : (px ts (j + d + 1) : Rat) ≤ s := Rat.le_trans (ratle (px_mono h (by omega) (by have := S.lt; omega))) S.lo
        exact Rat.le_trans h1 (lin_up h (by have := S.lt; omega) hx)
    have h2 := this (k - j) (by omega)
    rwa [show j + (k - j) = k by omega] at h2
  · rcases S.hi with e | e
    · have : j = k := by omega
      subst this
      exact Rat.le_refl
    · have : ∀ d, k + d + 1 < ts.length → lin ts (k + d) s ≤ lin ts k s := by
        intro d
        induction d with
        | zero => intro _; exact Rat.le_refl
        | succ d ih =>
          intro hd
          have h1 := ih (by omega)
          have hx : s ≤ (px ts (k + d + 1) : Rat) := Rat.le_trans e (ratle (px_mono h (by omega) (by omega)))
          exact Rat.le_trans (lin_dn h (by omega) hx) h1
      have h2 := this (j - k) (by omega)
      rwa [show k + (j - k) = j by omega] at h2
/-- the value: the greatest of the lines -/
def maxL (ts : List (Int × Int)) (s : Rat) : Nat → Rat
  | 0 => lin ts 0 s
  | n + 1 => if maxL ts s n < lin ts (n + 1) s then lin ts (n + 1) s else maxL ts s n
def tabV (ts : List (Int × Int)) (s : Rat) : Rat := maxL ts s (ts.length - 2)
theorem maxL_ge {ts : List (Int × Int)} {s : Rat} : ∀ {n j : Nat}, j ≤ n → lin ts j s ≤ maxL ts s n
  | 0, j, h => by
    have : j = 0 := by omega
    subst this
    exact Rat.le_refl
  | n + 1, j, h => by
    unfold maxL
    by_cases e : j = n + 1
    · subst e
      split
      · exact Rat.le_refl
      · grind
    · have := maxL_ge (ts := ts) (s := s) (n := n) (j := j) (by omega)
      split
      · grind
      · exact this
theorem maxL_at {ts : List (Int × Int)} {s : Rat} : ∀ {n : Nat}, ∃ j, j ≤ n ∧ maxL ts s n = lin ts j s
  | 0 => ⟨0, Nat.le_refl _, rfl⟩
  | n + 1 => by
    unfold maxL
    split
    · exact ⟨n + 1, Nat.le_refl _, rfl⟩
    · obtain ⟨j, h, e⟩ := maxL_at (ts := ts) (s := s) (n := n)
      exact ⟨j, by omega, e⟩
theorem Sel.val {ts : List (Int × Int)} {s : Rat} {k : Nat} (h : TabOk ts) (S : Sel ts s k) : lin ts k s = tabV ts s := by
  have n2 := h.n2
  have a := maxL_ge (ts := ts) (s := s) (n := ts.length - 2) (j := k) (by have := S.lt; omega)
  obtain ⟨j, hj, e⟩ := maxL_at (ts := ts) (s := s) (n := ts.length - 2)
  have b := S.top h j (by omega)
  unfold tabV
  rw [e] at a ⊢
  exact Rat.le_antisymm a b
/-- convex -/
theorem tab_convex {ts : List (Int × Int)} (a b : Rat) : ¬ (tabV ts a + tabV ts b) * Rat.divInt 1 2 < tabV ts ((a + b) * Rat.divInt 1 2) := by
  obtain ⟨j, hj, e⟩ := maxL_at (ts := ts) (s := (a + b) * Rat.divInt 1 2) (n := ts.length - 2)
  have h1 := maxL_ge (ts := ts) (s := a) hj
  have h2 := maxL_ge (ts := ts) (s := b) hj
  have half : Rat.divInt 1 2 = 1 / 2 := by rw [divInt_div]; rfl
  show ¬ (maxL ts a (ts.length - 2) + maxL ts b (ts.length - 2)) * Rat.divInt 1 2 < maxL ts ((a + b) * Rat.divInt 1 2) (ts.length - 2)
  rw [e]
  generalize maxL ts a (ts.length - 2) = x at h1
  generalize maxL ts b (ts.length - 2) = y at h2
  unfold lin at h1 h2 ⊢
  rw [half]
  generalize slo ts j = m at h1 h2 ⊢
  generalize (py ts j : Rat) = q at h1 h2 ⊢
  generalize (px ts j : Rat) = r at h1 h2 ⊢
  grind
theorem sq_convex (a b : Rat) : ¬ (a * a + b * b) * Rat.divInt 1 2 < ((a + b) * Rat.divInt 1 2) * ((a + b) * Rat.divInt 1 2) := by
  have half : Rat.divInt 1 2 = 1 / 2 := by rw [divInt_div]; rfl
  rw [half]
  have h : 0 ≤ (a - b) * (a - b) := by
    rcases Rat.le_total (a := a - b) (b := 0) with h | h
    · have := Rat.mul_nonneg (a := -(a - b)) (b := -(a - b)) (by grind) (by grind)
      grind
    · exact Rat.mul_nonneg h h
  grind
/-! ### data -/
/-- a price: the square, or a table -/
abbrev Pr := Option (List (Int × Int))
def dPt (t : Int × Int) : PyData := .tuple [.int t.1, .int t.2]
def dPr : Pr → PyData
  | none => .tuple [.str ("square" : Str)]
  | some ts => .tuple [.str ("table" : Str), .tuple (ts.map dPt)]
def PriceOk : Pr → Prop
  | none => True
  | some ts => TabOk ts
def prV : Pr → Rat → Rat
  | none, s => s * s
  | some ts, s => tabV ts s
theorem pr_convex (pr : Pr) (a b : Rat) : ¬ (prV pr a + prV pr b) * Rat.divInt 1 2 < prV pr ((a + b) * Rat.divInt 1 2) := by
  cases pr with
  | none => exact sq_convex a b
  | some ts => exact tab_convex a b
theorem sz_cast {z : Int} {n : Nat} (h : z.natAbs < 2 ^ n) (hn : 1 ≤ n) : Sz n (z : Rat) := sz_int h hn
theorem TabOk.szx {ts : List (Int × Int)} (h : TabOk ts) (i : Nat) : Sz 60 (px ts i : Rat) := sz_cast (h.bx i) (by decide)
theorem TabOk.szy {ts : List (Int × Int)} (h : TabOk ts) (i : Nat) : Sz 60 (py ts i : Rat) := sz_cast (h.bY i) (by decide)
theorem TabOk.dx {ts : List (Int × Int)} (h : TabOk ts) (i : Nat) : (px ts (i + 1) - px ts i).natAbs < 2 ^ 61 := by
  have := h.bx i
  have := h.bx (i + 1)
  omega
theorem TabOk.dy {ts : List (Int × Int)} (h : TabOk ts) (i : Nat) : (py ts (i + 1) - py ts i).natAbs < 2 ^ 61 := by
  have := h.bY i
  have := h.bY (i + 1)
  omega
theorem slo_div (ts : List (Int × Int)) (i : Nat) : Rat.divInt (py ts (i + 1) - py ts i) (px ts (i + 1) - px ts i) = slo ts i := divInt_div _ _
theorem TabOk.szs {ts : List (Int × Int)} (h : TabOk ts) {i : Nat} (hi : i + 1 < ts.length) : Sz 61 (slo ts i) := by
  rw [← slo_div]
  have := h.up i hi
  exact Sz.divInt (by omega) (h.dy i) (h.dx i)
theorem sz_line {n : Nat} {s m : Rat} {x y : Int} (hs : Sz n s) (hx : Sz 60 (x : Rat)) (hy : Sz 60 (y : Rat)) (hm : Sz 61 m) : Sz (60 + n + 60 + 61 + 2 + 61) ((y : Rat) + m * (s - (x : Rat))) := by
  have h1 := hs.sub hx
  have h2 := hm.mul h1
  have h3 := hy.add h2
  exact h3.mono (by omega)
theorem prV_sz {pr : Pr} {n : Nat} {s : Rat} (h : PriceOk pr) (hs : Sz n s) : Sz (2 * n + 400) (prV pr s) := by
  cases pr with
  | none => exact (hs.mul hs).mono (by omega)
  | some ts =>
    obtain ⟨j, hj, e⟩ := maxL_at (ts := ts) (s := s) (n := ts.length - 2)
    have n2 := TabOk.n2 h
    have := sz_line hs (TabOk.szx h j) (TabOk.szy h j) (TabOk.szs h (i := j) (by omega))
    show Sz _ (maxL ts s (ts.length - 2))
    rw [e]
    exact this.mono (by omega)
/-- the price at a speed -/
def spPrice (K : PySem.W.Frag) : Sp := fun vs H Q _ => ∃ (x y : V) (pr : Pr) (s : Rat), vs = [x, y] ∧ Is K H x (dPr pr) ∧ Is K H y (rat2 s) ∧ PriceOk pr ∧ 0 ≤ s ∧ Sz 1700 s ∧ ∀ v H', Same H H' → Is K H' v (rat2 (prV pr s)) → Q v H'
theorem pt_at {K : PySem.W.Frag} {H : Hp} {v : V} {t : Int × Int} (h : Is K H v (dPt t)) : ∃ p, v = .ref p ∧ SqT K H p [.int t.1, .int t.2] := by
  obtain ⟨p, a, b, rfl, s, h1, h2⟩ := Is.two' h
  cases h1; cases h2
  exact ⟨p, rfl, s⟩
theorem pts_get {K : PySem.W.Frag} {H : Hp} {xs : List V} {ts : List (Int × Int)} {i : Nat} (h : IsA K H xs (ts.map dPt)) (hi : i < ts.length) : ∃ p, xs[i]? = some (.ref p) ∧ SqT K H p [.int (px ts i), .int (py ts i)] := by
  obtain ⟨v, e, iv⟩ := h.get (i := i) (d := dPt ts[i]) (by rw [List.getElem?_map, List.getElem?_eq_getElem hi]; rfl)
  obtain ⟨p, rfl, s⟩ := pt_at iv
  refine ⟨p, e, ?_⟩
  have : ts.getD i (0, 0) = ts[i] := by rw [List.getD_eq_getElem?_getD, List.getElem?_eq_getElem hi]; rfl
  unfold px py
  rw [this]
  exact s
theorem tabL_get {xs : List V} {ts : List (Int × Int)} {i : Nat} {v : V} {K : PySem.W.Frag} {H : Hp} (h : IsA K H xs (ts.map dPt)) (e : xs[i]? = some v) : i < ts.length := by
  have := h.len
  rw [List.length_map] at this
  have := (List.getElem?_eq_some_iff.mp e).1
  omega
theorem cut_drop1 (xs : List V) : cutV xs (some 1) none = xs.drop 1 := by
  unfold cutV
  rw [HT.sIx_none, show (1 : Int) = ((1 : Nat) : Int) from rfl, HT.sIx_nat]
  by_cases h : 1 ≤ xs.length
  · rw [Nat.min_eq_left h]
    exact List.take_of_length_le (by rw [List.length_drop]; exact Nat.le_refl _)
  · have : xs = [] := List.eq_nil_of_length_eq_zero (by omega)
    subst this
    rfl
theorem pr_none {K : PySem.W.Frag} {H : Hp} {v : V} (h : Is K H v (dPr none)) : ∃ a, v = .ref a ∧ SqT K H a [.str ("square" : Str)] := by
  obtain ⟨a, xs, rfl, s, q⟩ := Is.tup' h
  cases q with
  | cons h1 q => cases q; cases h1; exact ⟨a, rfl, s⟩
theorem pr_some {K : PySem.W.Frag} {H : Hp} {v : V} {ts : List (Int × Int)} (h : Is K H v (dPr (some ts))) : ∃ a b xs, v = .ref a ∧ SqT K H a [.str ("table" : Str), .ref b] ∧ SqT K H b xs ∧ IsA K H xs (ts.map dPt) := by
  obtain ⟨a, x, y, rfl, s, h1, h2⟩ := Is.two' h
  cases h1
  obtain ⟨b, xs, rfl, sb, q⟩ := Is.tup' h2
  exact ⟨a, b, xs, rfl, s, sb, q⟩
theorem is_whole {K : PySem.W.Frag} {H : Hp} {t : Addr} {z : Int} : Is K (upd H t (.tup [.int z, .int 1])) (.ref t) (rat2 (z : Rat)) := .tup (SqT.of upd_same) (.two (.int _) (.int _))
/-! ### how a table is made -/
theorem px_push {ts : List (Int × Int)} {t : Int × Int} {k : Nat} (h : k < ts.length) : px (ts ++ [t]) k = px ts k := by
  unfold px
  rw [List.getD_eq_getElem?_getD, List.getD_eq_getElem?_getD, List.getElem?_append_left h]
theorem py_push {ts : List (Int × Int)} {t : Int × Int} {k : Nat} (h : k < ts.length) : py (ts ++ [t]) k = py ts k := by
  unfold py
  rw [List.getD_eq_getElem?_getD, List.getD_eq_getElem?_getD, List.getElem?_append_left h]
theorem px_last {ts : List (Int × Int)} {t : Int × Int} : px (ts ++ [t]) ts.length = t.1 := by
  unfold px
  rw [List.getD_eq_getElem?_getD, List.getElem?_append_right (Nat.le_refl _), Nat.sub_self]
  rfl
theorem py_last {ts : List (Int × Int)} {t : Int × Int} : py (ts ++ [t]) ts.length = t.2 := by
  unfold py
  rw [List.getD_eq_getElem?_getD, List.getElem?_append_right (Nat.le_refl _), Nat.sub_self]
  rfl
/-- i lines of a table are made; m is the next slope -/
structure TbMid (i : Nat) (m : Int) (ts : List (Int × Int)) : Prop where
  len : ts.length = i + 1
  i5 : i ≤ 5
  m0 : m.natAbs ≤ 3 + 63 * i
  x0 : px ts 0 = 0
  up : ∀ k, k + 1 < ts.length → px ts k < px ts (k + 1)
  cv : ∀ k, k + 2 < ts.length → (py ts (k + 1) - py ts k) * (px ts (k + 2) - px ts (k + 1)) ≤ (py ts (k + 2) - py ts (k + 1)) * (px ts (k + 1) - px ts k)
  la : ∀ k, k + 1 < ts.length → py ts (k + 1) - py ts k ≤ m * (px ts (k + 1) - px ts k)
  bd : ∀ k, k < ts.length → 0 ≤ px ts k ∧ px ts k ≤ 6 * i ∧ (py ts k).natAbs ≤ 2400 * i
theorem TbMid.one {m : Int} (h : m.natAbs ≤ 3) : TbMid 0 m [(0, 0)] := by
  refine ⟨rfl, by decide, h, rfl, fun k hk => ?_, fun k hk => ?_, fun k hk => ?_, fun k hk => ?_⟩
  · simp at hk
  · simp at hk
  · simp at hk
  · have : k = 0 := by simpa using hk
    subst this
    decide
theorem mul_up {a m x y : Int} (h : m ≤ y) (hx : 0 ≤ x) (ha : a ≤ m * x) : a ≤ y * x := Int.le_trans ha (Int.mul_le_mul_of_nonneg_right h hx)
theorem TbMid.push {i : Nat} {m st d : Int} {ts : List (Int × Int)} (h : TbMid i m ts) (hi : i < 5) (s0 : 1 ≤ st) (s1 : st ≤ 6) (d0 : 0 ≤ d) (d1 : d ≤ 63) : TbMid (i + 1) (m + d) (ts ++ [(px ts i + st, py ts i + m * st)]) := by
  have hl := h.len
  have lst : ts.length = i + 1 := hl
  have ex : px (ts ++ [(px ts i + st, py ts i + m * st)]) (i + 1) = px ts i + st := by
    have := px_last (ts := ts) (t := (px ts i + st, py ts i + m * st))
    rw [hl] at this
    exact this
  have ey : py (ts ++ [(px ts i + st, py ts i + m * st)]) (i + 1) = py ts i + m * st := by
    have := py_last (ts := ts) (t := (px ts i + st, py ts i + m * st))
    rw [hl] at this
    exact this
  have ll : (ts ++ [(px ts i + st, py ts i + m * st)]).length = i + 2 := by rw [List.length_append, hl]; rfl
  have m0 := h.m0
  have bmul : (m * st).natAbs ≤ 400 * 6 := by
    rw [Int.natAbs_mul]
    exact Nat.mul_le_mul (by omega) (by omega)
  generalize et : (px ts i + st, py ts i + m * st) = t at *
  refine ⟨by rw [ll], by omega, by omega, ?_, ?_, ?_, ?_, ?_⟩
  · rw [px_push (by omega)]; exact h.x0
  · intro k hk
    rw [ll] at hk
    by_cases e : k = i
    · subst e
      rw [ex, px_push (by omega)]
      omega
    · rw [px_push (by omega), px_push (by omega)]
      exact h.up k (by omega)
  · intro k hk
    rw [ll] at hk
    by_cases e : k + 1 = i
    · subst e
      rw [show k + 2 = k + 1 + 1 from rfl, ex, ey, px_push (k := k + 1) (by omega), px_push (k := k) (by omega), py_push (k := k + 1) (by omega), py_push (k := k) (by omega)]
      have la := h.la k (by omega)
      have := Int.mul_le_mul_of_nonneg_right la (show (0 : Int) ≤ st by omega)
      rw [show px ts (k + 1) + st - px ts (k + 1) = st by omega, show py ts (k + 1) + m * st - py ts (k + 1) = m * st by omega]
      rw [Int.mul_right_comm] at this
      exact this
    · rw [px_push (by omega), px_push (by omega), px_push (by omega), py_push (by omega), py_push (by omega), py_push (by omega)]
      exact h.cv k (by omega)
  · intro k hk
    rw [ll] at hk
    by_cases e : k = i
    · subst e
      rw [ex, ey, px_push (by omega), py_push (by omega), show px ts k + st - px ts k = st by omega, show py ts k + m * st - py ts k = m * st by omega]
      exact Int.mul_le_mul_of_nonneg_right (by omega) (by omega)
    · rw [px_push (by omega), px_push (by omega), py_push (by omega), py_push (by omega)]
      have u := h.up k (by omega)
      exact mul_up (by omega) (by omega) (h.la k (by omega))
  · intro k hk
    rw [ll] at hk
    by_cases e : k = i + 1
    · subst e
      rw [ex, ey]
      have := h.bd i (by omega)
      omega
    · rw [px_push (by omega), py_push (by omega)]
      have := h.bd k (by omega)
      omega
theorem px_map {ts : List (Int × Int)} {w l : Int} {k : Nat} (h : k < ts.length) : px (ts.map fun t => (t.1 * w, t.2 + l)) k = px ts k * w := by
  unfold px
  rw [List.getD_eq_getElem?_getD, List.getD_eq_getElem?_getD, List.getElem?_map, List.getElem?_eq_getElem h]
  rfl
theorem py_map {ts : List (Int × Int)} {w l : Int} {k : Nat} (h : k < ts.length) : py (ts.map fun t => (t.1 * w, t.2 + l)) k = py ts k + l := by
  unfold py
  rw [List.getD_eq_getElem?_getD, List.getD_eq_getElem?_getD, List.getElem?_map, List.getElem?_eq_getElem h]
  rfl
theorem p_out {ts : List (Int × Int)} {k : Nat} (h : ts.length ≤ k) : px ts k = 0 ∧ py ts k = 0 := by
  unfold px py
  rw [List.getD_eq_getElem?_getD, List.getElem?_eq_none h]
  exact ⟨rfl, rfl⟩
theorem TbMid.fin {i : Nat} {m w l : Int} {ts : List (Int × Int)} (h : TbMid i m ts) (hi : 1 ≤ i) (w0 : 1 ≤ w) (w1 : w ≤ 20001) (l0 : 0 ≤ l) (l1 : l ≤ 100000) : TabOk (ts.map fun t => (t.1 * w, t.2 + l)) := by
  have hl := h.len
  have i5 := h.i5
  have ll : (ts.map fun t => (t.1 * w, t.2 + l)).length = i + 1 := by rw [List.length_map, hl]
  refine ⟨by omega, by omega, by rw [px_map (by omega), h.x0, Int.zero_mul], fun k hk => ?_, fun k hk => ?_, fun k => ?_, fun k => ?_⟩
  · rw [ll] at hk
    rw [px_map (by omega), px_map (by omega)]
    exact Int.mul_lt_mul_of_pos_right (h.up k (by omega)) (by omega)
  · rw [ll] at hk
    rw [px_map (by omega), px_map (by omega), px_map (by omega), py_map (by omega), py_map (by omega), py_map (by omega)]
    have := Int.mul_le_mul_of_nonneg_right (h.cv k (by omega)) (show (0 : Int) ≤ w by omega)
    grind
  · by_cases hk : k < ts.length
    · rw [px_map hk]
      have b := h.bd k hk
      have : (px ts k * w).natAbs ≤ 30 * 20001 := by
        rw [Int.natAbs_mul]
        exact Nat.mul_le_mul (by omega) (by omega)
      exact Nat.lt_of_le_of_lt this (by decide)
    · rw [(p_out (by rw [ll]; omega)).1]
      decide
  · by_cases hk : k < ts.length
    · rw [py_map hk]
      have b := h.bd k hk
      exact Nat.lt_of_le_of_lt (show _ ≤ 200000 by omega) (by decide)
    · rw [(p_out (by rw [ll]; omega)).2]
      decide
def spTable (K : PySem.W.Frag) : Sp := fun vs H Q _ => ∃ (p pa : Addr), vs = [.ref p] ∧ Pl p pa H ∧ ∀ v (ts : List (Int × Int)) H', TabOk ts → Kp p H H' → Pl p pa H' → Is K H' v (dPr (some ts)) → Q v H'
/-- further built-in names -/
structure BJ (mg : Str → Option Value) : Prop where
  zip : mg "zip" = none
  max : mg "max" = none
  min : mg "min" = none
/-- a loop over zip of a tuple and a shorter one -/
theorem for_zipS {K : PySem.W.Frag} {a b : Addr} {xs ys : List V} {g : TG} {tb : TS} {D : Ends} {σ : L2.St} {H : Hp} (hl : ys.length ≤ xs.length) (Pv : Nat → L2.St → Hp → Prop) (h0 : Pv 0 σ H) (hq : ∀ i σ H, Pv i σ H → SqT K H a xs ∧ SqT K H b ys)
    (hs : ∀ (i : Nat) (x y : V) (T : Addr) (σ : L2.St) (H : Hp), xs[i]? = some x → ys[i]? = some y → Pv i σ H → H T = none → g (.ref T) σ (upd H T (.tup [x, y])) fun σ2 H2 => tb { D with nx := Pv (i + 1), ct := Pv (i + 1), bk := D.nx } σ2 H2) (hd : ∀ σ H, Pv ys.length σ H → D.nx σ H) :
    ∃ W : Nat → Nat → L2.St → Hp → Prop, (∃ m, W 0 m σ H) ∧ ∀ i m σ H, W i m σ H →
      ((RZ.ItzT K a b).stop i H ∧ D.nx σ H) ∨ ((RZ.ItzT K a b).go i H ∧ ∃ N : L2.St → Hp → Prop, (∀ σ' H', N σ' H' → ∃ m', m' < m ∧ W (i + 1) m' σ' H') ∧ ∀ v H', (RZ.ItzT K a b).yld i H v H' → g v σ H' fun σ2 H2 => tb { D with nx := N, ct := N, bk := D.nx } σ2 H2) := by
  refine ⟨fun i m σ H => m = ys.length - i ∧ i ≤ ys.length ∧ Pv i σ H, ⟨ys.length, rfl, Nat.zero_le _, h0⟩, ?_⟩
  rintro i m σ H ⟨rfl, hi, p⟩
  obtain ⟨qx, qy⟩ := hq i σ H p
  by_cases hlt : i < ys.length
  · have hlt2 : i < xs.length := by omega
    have hx : xs[i]? = some xs[i] := List.getElem?_eq_getElem hlt2
    have hy : ys[i]? = some ys[i] := List.getElem?_eq_getElem hlt
    refine .inr ⟨⟨xs, ys, _, _, qx, qy, hx, hy⟩, Pv (i + 1), fun σ' H' p' => ⟨ys.length - (i + 1), by omega, rfl, hlt, p'⟩, fun v H' y => ?_⟩
    obtain ⟨T, x', y', rfl, hT, rfl, f1, f2⟩ := y
    exact hs i x' y' T σ H (f1 xs qx) (f2 ys qy) p hT
  · have e : i = ys.length := by omega
    subst e
    exact .inl ⟨⟨xs, ys, qx, qy, Or.inr (Nat.le_refl _)⟩, hd σ H p⟩
/-- the points at a -/
def spTab (K : PySem.W.Frag) : Sp := fun vs H Q _ => ∃ (a : Addr) (xs : List V) (y : V) (ts : List (Int × Int)) (s : Rat), vs = [.ref a, y] ∧ SqT K H a xs ∧ IsA K H xs (ts.map dPt) ∧ Is K H y (rat2 s) ∧ TabOk ts ∧ 0 ≤ s ∧ Sz 1700 s ∧ ∀ v H', Same H H' → Is K H' v (rat2 (tabV ts s)) → Q v H'
/-- what the program's loop holds behind i pairs -/
def TPi (ts : List (Int × Int)) (s : Rat) (i j : Nat) (sl : Rat) : Prop :=
  (∀ k, j < k → k < i → ¬ (px ts k : Rat) < s) ∧ ((j < i ∧ (px ts j : Rat) < s ∧ sl = slo ts j) ∨ (j = 0 ∧ sl = 0 ∧ (0 < i → ¬ (px ts 0 : Rat) < s)))
theorem TPi.yes {ts : List (Int × Int)} {s : Rat} {i : Nat} (h : (px ts i : Rat) < s) : TPi ts s (i + 1) i (slo ts i) := ⟨fun k a b => by omega, .inl ⟨by omega, h, rfl⟩⟩
theorem TPi.no {ts : List (Int × Int)} {s : Rat} {i j : Nat} {sl : Rat} (h : ¬ (px ts i : Rat) < s) (p : TPi ts s i j sl) : TPi ts s (i + 1) j sl := by
  refine ⟨fun k a b => ?_, ?_⟩
  · by_cases e : k = i
    · subst e; exact h
    · exact p.1 k a (by omega)
  · rcases p.2 with ⟨a, b, c⟩ | ⟨a, b, c⟩
    · exact .inl ⟨by omega, b, c⟩
    · refine .inr ⟨a, b, fun _ => ?_⟩
      by_cases e : i = 0
      · subst e; exact h
      · exact c (by omega)
theorem TPi.end' {ts : List (Int × Int)} {s sl : Rat} {j : Nat} (ht : TabOk ts) (h0 : 0 ≤ s) (p : TPi ts s (ts.length - 1) j sl) : (py ts j : Rat) + sl * (s - (px ts j : Rat)) = tabV ts s := by
  have n2 := ht.n2
  rcases p.2 with ⟨a, b, rfl⟩ | ⟨rfl, rfl, c⟩
  · have S : Sel ts s j := by
      refine ⟨by omega, by grind, ?_⟩
      by_cases e : j + 2 = ts.length
      · exact .inl e
      · exact .inr (Rat.not_lt.mp (p.1 (j + 1) (by omega) (by omega)))
    exact S.val ht
  · have c := Rat.not_lt.mp (c (by omega))
    have z : (px ts 0 : Rat) = 0 := by rw [ht.x0]; rfl
    have s0 : s = 0 := by
      rw [z] at c
      exact Rat.le_antisymm c h0
    have u := ratlt (ht.up 0 (by omega))
    have S : Sel ts s 0 := ⟨by omega, by rw [z]; exact h0, .inr (by rw [s0, ← z]; exact Rat.le_of_lt u)⟩
    rw [← S.val ht]
    unfold lin
    rw [z, s0]
    grind
/-- what the law's loop holds -/
def LPi (ts : List (Int × Int)) (s : Rat) (i j : Nat) : Prop := (∀ k, j < k → k < i → s < (px ts k : Rat)) ∧ (j = 0 ∨ (j < i ∧ ¬ s < (px ts j : Rat)))
theorem LPi.end' {ts : List (Int × Int)} {s : Rat} {j : Nat} (ht : TabOk ts) (h0 : 0 ≤ s) (p : LPi ts s (ts.length - 1) j) : lin ts j s = tabV ts s := by
  have n2 := ht.n2
  have z : (px ts 0 : Rat) = 0 := by rw [ht.x0]; rfl
  have jl : j + 1 < ts.length := by
    rcases p.2 with rfl | ⟨a, _⟩ <;> omega
  have S : Sel ts s j := by
    refine ⟨jl, ?_, ?_⟩
    · rcases p.2 with rfl | ⟨_, b⟩
      · rw [z]; exact h0
      · exact Rat.not_lt.mp b
    · by_cases e : j + 2 = ts.length
      · exact .inl e
      · exact .inr (Rat.le_of_lt (p.1 (j + 1) (by omega) (by omega)))
  exact S.val ht
end Z

/-! An own error class over an own class over ValueError: def __init__(self, F): super().__init__(f'pre{F}suf'); self.F = F -/
namespace ZXR
open PySem PySem.W PySem.Calls PyProof.Rows PySem.HandSPX
def eP (p1 p2 : Pos) : Arguments := { posonlyargs := [], args := [{ arg := "self", annotation := none, pos := p1 }, { arg := "reason", annotation := none, pos := p2 }], vararg := none, kwonlyargs := [], kw_defaults := [], kwarg := none, defaults := [] }
abbrev eJ (pre suf : Str) (q3 q4 q5 q6 q7 : Pos) : Expr := .JoinedStr [.Constant (.str pre) 0 q3, .FormattedValue (.Name "reason" q4) (-1) none q5] q7
abbrev eO (q0 q1 : Pos) : Expr := .Call (.Name "super" q0) [] [] q1
def eB (pre suf : Str) (q0 q1 q2 q3 q4 q5 q6 q7 q8 q9 r0 r1 r2 r3 : Pos) : List Stmt :=
  [.Expr (.Call (.Attribute (.Call (.Name "super" q0) [] [] q1) "__init__" q2) [.JoinedStr [.Constant (.str pre) 0 q3, .FormattedValue (.Name "reason" q4) (-1) none q5] q7] [] q8) q9,
   .Assign [.Attribute (.Name "self" r0) "reason" r1] (.Name "reason" r2) r3]
def eS : Scope := { kind := .function, names := [(PySem.Str.ofString "self", .local), (PySem.Str.ofString "reason", .local), (PySem.Str.ofString "__class__", .free), (PySem.Str.ofString "super", .globalImplicit)], isGenerator := false, isCoroutine := false, more := [] }
/-- what the written part says of the class at C, with the field F -/
structure ErrTxt (P : Program) (K : Frag) (mg : Str → Option Value) (C : Addr) (x pre suf qual : Str) : Prop where
  gC : mg x = some (.ref C)
  sup : mg "super" = none
  cls : ∃ nm q N bs bm sn sub ab col dd k0 k1 k2 k3 k5, K.lookup C = some (excClassObj nm q C N bs bm true sn sub ab col dd k0 k1 k2 k3 k5 "ValueError.__new__") ∧ refsVE bm = true ∧ alongIn K "__init__" bm = some (some (.builtin "ValueError.__init__"))
  sa : findIn K (.ref C) "__setattr__" = some (some (.builtin "object.__setattr__"))
  ga : findIn K (.ref C) "__getattribute__" = some (some (.builtin "BaseException.__getattribute__"))
  gg : findIn K (.ref C) "__getattr__" = some none
  noN : findIn K (.ref C) "reason" = some none
  kC : keepIn K (.ref C) = true
  exC : subIn K (.ref C) (.type "BaseException") = some true
  veC : subIn K (.ref C) (.type "ValueError") = some true
  tyC : typeIn K (.ref C) = some (.type "type")
  hdC : hasDictIn K C = true
  self : mroIn K C (.ref C) = some true
  any : nsIn K cStatics "thirdparty.any" = some none
  top : (P.main.scope.names.lookup ("super" : Str)).isSome = false
  len : pre.length ≤ 1000 ∧ suf.length ≤ 1000
  fn : ∃ (fI cc cda : Addr) (oc : Value) (od : Option Addr) (doc pm : Value) (an : Option Addr) (ct : Value) (osl : Array (Option Value)) (p1 p2 q0 q1 q2 q3 q4 q5 q6 q7 q8 q9 r0 r1 r2 r3 : Pos) (cl ccl : Value) (cld cdd : Option Addr) (csl ccs : Array (Option Value)) (vs : Array Value) (file : Str) (tf : Tok),
    findIn K (.ref C) "__init__" = some (some (.ref fI)) ∧ typeIn K (.ref fI) = some (.type "function") ∧
    K.lookup fI = some ⟨oc, od, .func (fnX "__init__" qual (eP p1 p2) (eB pre suf q0 q1 q2 q3 q4 q5 q6 q7 q8 q9 r0 r1 r2 r3) eS [("__class__", cc)] .none .none doc pm an (.ref cda) ct), osl⟩ ∧ codeIn K (.ref cda) qual = true ∧
    K.lookup cc = some ⟨cl, cld, .cell (some (.ref C)), csl⟩ ∧ K.lookup cda = some ⟨ccl, cdd, .fields vs, ccs⟩ ∧ vs[2]? = some (.str file tf) ∧ ((P.main.file : Str) == file) = true ∧
    ∀ env : Env, ∃ pl : Sem Bool, eval (.Call (.Attribute (eO q0 q1) "__init__" q2) [eJ pre suf q3 q4 q5 q6 q7] [] q8) env = (do
      let ov ← attributeBase (eO q0 q1) "__init__" env (eval (eO q0 q1) env)
      standAt q2.atName
      let (f, first) ← holding [ov] (getMethod ov "__init__" pl)
      callWith q8 f first (backTo q8 (starEach [eJ pre suf q3 q4 q5 q6 q7] env)) [])
/-- a field that can be told: a number or a text -/
def Tell (v : Value) : Prop := (∃ i t, v = .int i t ∧ i.natAbs.log2 < 1000) ∨ ∃ y t, v = .str y t ∧ y.length ≤ 100000
/-- what __init__ leaves of a fresh exception at x -/
structure InitEnd (h h' : Heap) (x C dx t1 : Addr) (v : Value) : Prop where
  keep : ∀ b o, b ≠ x → h.get? b = some o → h'.get? b = some o
  obj : h'.get? x = some { cls := .ref C, dict := some dx, data := .fields #[.ref t1, .none, .none, .none, .bool false, .none] }
  dbig : h.objs.size ≤ dx
  dne : dx ≠ x
  ns : h'.Ns1 dx (fun y => if y = "reason" then some v else none)
section
variable {prog : Program} {w : World} {A : Around} {E : Value → Shared → Prop} {s : Shared} {K : Frag} {mg : Str → Option Value} {C : Addr} {x pre suf qual : Str}
/-- the built-in __init__ that was bound to e is called -/
theorem bound_call {u e t0 : Addr} {rest : List Value} {h : Heap} {g : Array GenState} {d : Drawn} {t : Nat} {os : OsState} {Q : Value → Shared → Prop} {nm q : Str} {N : Addr} {bs bm : List Value} {hdct : Bool} {sn : List Str} {sub : List Value} {ab : Bool} {col : Option Bool} {dd : Option Addr} {k0 k1 k2 k3 k5 : Option Value}
    (hC : h.get? C = some (excClassObj nm q C N bs bm hdct sn sub ab col dd k0 k1 k2 k3 k5 "ValueError.__new__")) (he : h.get? e = some (excO C t0)) (hu : h.get? u = some (kxs_mw "ValueError.__init__" e)) (hz : rest.length ≤ sizeLine)
    (hq : ∀ h' t1, (∀ b o, b ≠ e → h.get? b = some o → h'.get? b = some o) → h'.get? e = some (excO C t1) → Q .none ⟨h', g, d, t, os⟩) : wpAny (model prog w) A (call (.ref u) rest) Q E ⟨h, g, d, t, os⟩ := by
  refine wpAny_call (codeAny_of_tree ?_)
  show wpAny _ A.in1 (callAny (.ref u) ⟨rest, []⟩) _ _ _
  simp only [callAny]
  refine wpAny_bind (wpAny_load hu ?_)
  simp only [kxs_mw, show (Value.type "method-wrapper" == Value.type "method" || Value.type "method-wrapper" == Value.type "builtin_function_or_method" || Value.type "method-wrapper" == Value.type "method-wrapper") = true by decide, if_true]
  refine KFB.if_so (by decide) ?_
  refine wpAny_bind (check_bound_init F.excBase_ValueError.toExcCallFacts hC he rfl ?_)
  refine wpAny_bind (wpAny_pure (wpAny_pure ?_))
  refine ⟨plainId_quiet F.excBase_ValueError.init.plain _, codeAny_builtin F.excBase_ValueError.initEntry ?_⟩
  exact exc_init_tree (cls := .ref C) (t0 := t0) (dv := none) (c2 := .none) (c3 := .none) (b4 := .bool false) he hz fun h' k e' _ => hq h' _ k e'
theorem err_init (T : ErrTxt prog K mg C x pre suf qual) {fI e t0 : Addr} {v : Value} {mb : Str → Option Value} {R : Result → Shared → Prop} (hfI : findIn K (.ref C) "__init__" = some (some (.ref fI))) (X : K.In s.heap) (hlim : s.heap.NoLimit)
    (hg : s.heap.Ns mainGlobals mg) (hb : s.heap.Ns builtinsNs mb) (hbv : mb "super" = bootBuiltins "super") (hx : s.heap.get? e = some (excO C t0)) (hnx : K.lookup e = none) (hroom : A.depth < recursionLimit) (ht : Tell v)
    (hq : ∀ h' tk dx t1, InitEnd s.heap h' e C dx t1 v → R (.ok (.ret .none)) { s with heap := h', toks := tk }) :
    codeAny (model prog w) A (.call (.ref fI) ⟨[.ref e, v], []⟩) R s := by
  obtain ⟨fI', cc, cda, oc, od, doc, pm, an, ct, osl, p1, p2, q0, q1, q2, q3, q4, q5, q6, q7, q8, q9, r0, r1, r2, r3, cl, ccl, cld, cdd, csl, ccs, vs, file, tf, hf, htf, ho, hcd, hcell, hcode, hvs, hfile, hMC⟩ := T.fn
  obtain rfl : fI = fI' := by
    rw [hfI] at hf
    cases hf
    rfl
  obtain ⟨nm, q, N, bs, bm, sn, sub, ab, col, dd, k0, k1, k2, k3, k5, hC, hbm, hal⟩ := T.cls
  have hcl : clsIn K C = some { name := nm, bases := bs, mro := .ref C :: bm, ns := N, qualname := q, hasDict := true, slotNames := sn, subclasses := sub, abstract := ab, collection := col, hasDel := false } := by unfold clsIn; rw [hC] <;> rfl
  obtain ⟨hp, g, d, t, os⟩ := s
  refine ks_codeAny_call_defAt (fd := fnX "__init__" qual (eP p1 p2) (eB pre suf q0 q1 q2 q3 q4 q5 q6 q7 q8 q9 r0 r1 r2 r3) eS [("__class__", cc)] .none .none doc pm an (.ref cda) ct) (body := eB pre suf q0 q1 q2 q3 q4 q5 q6 q7 q8 q9 r0 r1 r2 r3) (binds := [("self", .ref e), ("reason", v)])
    hroom (X _ _ ho) rfl hlim (codeRec_of X hcd) rfl (BindsTo.of_eq (by first | rfl | with_unfolding_all rfl)) (show ∀ z ∈ eS.names, z.2 ≠ .cell by decide) (by intro y hy; simp only [List.mem_cons, List.not_mem_nil, or_false] at hy; rcases hy with rfl | rfl <;> rfl) (fun h₁ hns hk₁ => ?_) rfl rfl rfl
  have X₁ : K.In h₁ := X.keeps hk₁
  have hx₁ := hk₁ _ _ hx
  obtain ⟨pl, hMC⟩ := hMC (ksEnv qual eS hp.objs.size fI (.ref cda) cc)
  have ecall : (callEnv (fnX "__init__" qual (eP p1 p2) (eB pre suf q0 q1 q2 q3 q4 q5 q6 q7 q8 q9 r0 r1 r2 r3) eS [("__class__", cc)] .none .none doc pm an (.ref cda) ct) hp.objs.size fI) = ksEnv qual eS hp.objs.size fI (.ref cda) cc := rfl
  show _root_.PySem.wpAt _ (A.deeper (ksEnv qual eS hp.objs.size fI (.ref cda) cc)) (.func _ (ksEnv qual eS hp.objs.size fI (.ref cda) cc)) (execs _ (ksEnv qual eS hp.objs.size fI (.ref cda) cc)) _ _ _
  refine ks_wpAt_execs_cons (ks_wpAt_Expr_any (ks_wpAt_MethodCall (pl := pl) ?_ hMC))
  obtain ⟨oD, hD1, hD2⟩ : ∃ oD, h₁.get? C = some oD ∧ oD.data = .cls { name := nm, bases := bs, mro := .ref C :: bm, ns := N, qualname := q, hasDict := true, slotNames := sn, subclasses := sub, abstract := ab, collection := col, hasDel := false } := by
    unfold clsIn at hcl
    split at hcl
    · rename_i c d cd' sl ho
      cases hcl
      exact ⟨_, X₁ _ _ ho, rfl⟩
    · cases hcl
  have gl := hg.keeps hk₁
  have bl := hb.keeps hk₁
  refine ks_wpAt_super_base (env := ksEnv qual eS hp.objs.size fI (.ref cda) cc) (attr := "__init__") rfl rfl (by decide +kernel) rfl (X₁ _ _ ho) rfl rfl rfl (X₁ _ _ hcode) rfl hvs hfile T.top ?_
  refine ks_loadName_global rfl rfl (loadGlobal_builtin (env := ksEnv qual eS hp.objs.size fI (.ref cda) cc) gl T.sup bl (hbv.trans (show bootBuiltins "super" = some (.type "super") by decide +kernel)) ⟨rfl, ?_⟩)
  refine wpAny_loadName_free rfl rfl rfl ⟨_, X₁ _ _ hcell, rfl⟩ ?_
  refine wpAny_loadName_local (v := .ref e) rfl rfl hns (by first | rfl | with_unfolding_all rfl | kernel_rfl) ?_
  refine ks_wpAny_isType_cls hD1 hD2 ⟨rfl, ?_⟩
  refine ks_wpAny_call_super hD1 hD2 hx₁ rfl (fun c z => nomatch z) (looks_mroIn X₁ T.self) (fun h₂ hso k₂ => ?_)
  have X₂ : K.In h₂ := X₁.keeps k₂
  have hx₂ := k₂ _ _ hx₁
  have I₂ : InstAt h₂ e (excO C t0) C none := ⟨hx₂, rfl, rfl, trivial⟩
  have heC : e ≠ C := fun z => by
    rw [z, hC] at hnx
    cases hnx
  refine kxs_getMethod kxs_ValueError hso (looks_opaque X₂ T.any) (l₀ := .ref C :: bm) (l := bm) (fun A Q E s k q => wpAny_bind ((looks_clsIn X₂ hcl) A _ E s k (wpAny_pure q))) (by simp [List.dropWhile_cons]) X₂ hal (I₂.type.andThen (looks_subIn X₂ T.veC)) heC (by decide +kernel) ?_
  have k₃ : ∀ b o, h₂.get? b = some o → (h₂.push (kxs_mw "ValueError.__init__" e)).get? b = some o := fun b o z => Heap.get?_push_of_some _ z
  have hu : (h₂.push (kxs_mw "ValueError.__init__" e)).get? h₂.objs.size = some (kxs_mw "ValueError.__init__" e) := Heap.get?_push_size _ rfl
  have hns₃ := (hns.keeps k₂).keeps k₃
  have X₃ := X₂.keeps k₃
  have hx₃ := k₃ _ _ hx₂
  revert k₃ hu hns₃ X₃ hx₃
  generalize h₂.push (kxs_mw "ValueError.__init__" e) = h₃
  intro k₃ hu hns₃ X₃ hx₃
  refine kxs_callWith (i := "ValueError.__init__") (x := e) rfl ?_
  refine evalArgs_plain (Calls.spliced_cons ?_)
  have lk : sizeLine = 16777216 := sizeLine_eq
  have la : ∀ a b : Str, (a ++ b).length = a.length + b.length := fun a b => by
    show (a ++ b).cps.size = _
    rw [Str.cps_append, Array.size_append]
    rfl
  have l0 : Str.empty.length = 0 := by decide +kernel
  have hlen := T.len
  -- behind the text
  have fin : ∀ (y : Str) (tk : Tok) (t' : Nat), y.length ≤ 200000 → wpAny (model prog w) (A.deeper (ksEnv qual eS hp.objs.size fI (.ref cda) cc)) (spliced []) (fun vs s₂ => KxsAt "ValueError.__init__" h₂.objs.size e s₂.heap ∧
      wpAny (model prog w) (A.deeper (ksEnv qual eS hp.objs.size fI (.ref cda) cc)) (call (.ref h₂.objs.size) (.str y tk :: vs)) (fun _ s' => _root_.PySem.wpAt (model prog w) (A.deeper (ksEnv qual eS hp.objs.size fI (.ref cda) cc)) (.func (eB pre suf q0 q1 q2 q3 q4 q5 q6 q7 q8 q9 r0 r1 r2 r3) (ksEnv qual eS hp.objs.size fI (.ref cda) cc))
        (execs [.Assign [.Attribute (.Name "self" r0) "reason" r1] (.Name "reason" r2) r3] (ksEnv qual eS hp.objs.size fI (.ref cda) cc)) (fun f s' => R (.ok (.ret (match f with | .ret v => v | _ => .none))) s')
        (fun e s' => wpAny (model prog w) (A.deeper (ksEnv qual eS hp.objs.size fI (.ref cda) cc)) (leaving (ksEnv qual eS hp.objs.size fI (.ref cda) cc) e) (fun _ s'' => R (.error e) s'') (fun e' s'' => R (.error e') s'') s') s')
        (fun e s' => wpAny (model prog w) (A.deeper (ksEnv qual eS hp.objs.size fI (.ref cda) cc)) (leaving (ksEnv qual eS hp.objs.size fI (.ref cda) cc) e) (fun _ s'' => R (.error e) s'') (fun e' s'' => R (.error e') s'') s') s₂)
      (fun e s' => wpAny (model prog w) (A.deeper (ksEnv qual eS hp.objs.size fI (.ref cda) cc)) (leaving (ksEnv qual eS hp.objs.size fI (.ref cda) cc) e) (fun _ s'' => R (.error e) s'') (fun e' s'' => R (.error e') s'') s') ⟨h₃, g, d, t', os⟩ := by
    intro y tk t' hy
    refine Calls.spliced_nil ⟨hu, bound_call (X₃ _ _ hC) hx₃ hu (by show 1 ≤ sizeLine; omega) fun h₄ t1 k₄ hx₄ => ?_⟩
    have X₄ : K.In h₄ := fun a o z => k₄ a o (fun z2 => by rw [z2, hnx] at z; cases z) (X₃ a o z)
    have hL : hp.objs.size ≠ e := Nat.ne_of_gt (Heap.lt_size hx)
    have hns₄ : h₄.Ns hp.objs.size (fun x => ([(PySem.Str.ofString "self", Value.ref e), (PySem.Str.ofString "reason", v)] : List (Str × Value)).reverse.lookup x) := by
      obtain ⟨o, es, ep, e1, r⟩ := hns₃
      exact ⟨o, es, ep, k₄ _ _ hL e1, r⟩
    refine wpAt_of_wpAny (wpAny_execs_cons (plainObj_wpAny_Assign_Attribute ?_))
    refine wpAny_Name (wpAny_loadName_local (v := v) rfl rfl hns₄ (by first | rfl | with_unfolding_all rfl | kernel_rfl) ?_) (by decide)
    refine wpAny_Name (wpAny_loadName_local (v := .ref e) rfl rfl hns₄ (by first | rfl | with_unfolding_all rfl | kernel_rfl) ?_) (by decide)
    refine set_plain X₄ (ox := excO C t1) (od := none) ⟨hx₄, rfl, rfl, trivial⟩ T.sa ?_
    refine exc_osa X₄ hx₄ hcl (show refsVE (.ref C :: bm) = true from hbm) rfl T.noN (fun h₅ tk₅ dx k₅ dn dne hx₅ hn₅ => ?_)
    refine wpAny_execs_nil (hq h₅ tk₅ dx t1 ⟨fun b o hb z => k₅ b o hb (k₄ b o hb (k₃ b o (k₂ b o (hk₁ b o z)))), hx₅, ?_, dne, hn₅⟩)
    have z : hp.objs.size < h₄.objs.size := hns₄.lt
    exact Nat.le_of_lt (Nat.lt_of_lt_of_le z dn)
  refine wpAny_JoinedStr (pos := q7) ?_
  refine Calls.Constant_str (pos := q3) ⟨pre, _, rfl, by rw [la]; omega, ?_⟩
  refine wpAny_FormattedValue_plain (pos := q5) ?_
  refine wpAny_Name (wpAny_loadName_local (v := v) rfl rfl hns₃ (by first | rfl | with_unfolding_all rfl | kernel_rfl) ?_) (by decide)
  rcases ht with ⟨i, ti, rfl, hi⟩ | ⟨y, ti, rfl, hy⟩
  · have li := PyProof.Rows.int_text_len_1921 (i := i) (by omega)
    refine wpAny_formatField_int (by omega) ⟨_, _, rfl, by simp only [la]; omega, ?_⟩
    refine ⟨by simp only [la]; omega, fin _ _ _ (by simp only [la]; omega)⟩
  · refine wpAny_formatField_str ⟨_, _, rfl, by simp only [la]; omega, ?_⟩ ⟨_, _, rfl, by simp only [la]; omega, ?_⟩ (by omega)
    · exact ⟨by simp only [la]; omega, fin _ _ _ (by simp only [la]; omega)⟩
    · exact ⟨by simp only [la]; omega, fin _ _ _ (by simp only [la]; omega)⟩
/-- such an error, made -/
structure Made (h h' : Heap) (e C d : Addr) (v : Value) : Prop where
  keep : ∀ b o, h.get? b = some o → h'.get? b = some o
  new : h.objs.size ≤ e
  obj : ∃ t1 : Addr, h'.get? e = some ({ cls := .ref C, dict := some d, data := .fields #[.ref t1, .none, .none, .none, .bool false, .none] } : Obj)
  dbig : h.objs.size ≤ d
  dne : d ≠ e
  ns : h'.Ns1 d (fun y => if y = "reason" then some v else none)
theorem err_made (T : ErrTxt prog K mg C x pre suf qual) {v : Value} {mb : Str → Option Value} {R : Result → Shared → Prop} (X : K.In s.heap) (hlim : s.heap.NoLimit) (hg : s.heap.Ns mainGlobals mg) (hb : s.heap.Ns builtinsNs mb) (hbv : mb "super" = bootBuiltins "super")
    (hroom : A.depth + 1 < recursionLimit) (ht : Tell v) (hq : ∀ h' tk e d, Made s.heap h' e C d v → R (.ok (.ret (.ref e))) { s with heap := h', toks := tk }) :
    codeAny (model prog w) A (.call (.ref C) ⟨[v], []⟩) R s := by
  obtain ⟨nm, q, N, bs, bm, sn, sub, ab, col, dd, k0, k1, k2, k3, k5, hC, hbm, hal⟩ := T.cls
  obtain ⟨fI, cc, cda, oc, od, doc, pm, an, ct, osl, p1, p2, q0, q1, q2, q3, q4, q5, q6, q7, q8, q9, r0, r1, r2, r3, cl, ccl, cld, cdd, csl, ccs, vs, file, tf, hf, htf, _⟩ := T.fn
  obtain ⟨hp, g, d, t, os⟩ := s
  have k : ∀ b o, hp.get? b = some o → ((hp.push (kdv_tup [v])).push (excO C hp.objs.size)).get? b = some o := fun b o z => Heap.get?_push_of_some _ (Heap.get?_push_of_some _ z)
  have sz : (hp.push (kdv_tup [v])).objs.size = hp.objs.size + 1 := Heap.size_push ..
  have sz2 : ((hp.push (kdv_tup [v])).push (excO C hp.objs.size)).objs.size = hp.objs.size + 1 + 1 := by rw [Heap.size_push, sz]
  have at1 : ((hp.push (kdv_tup [v])).push (excO C hp.objs.size)).get? (hp.objs.size + 1) = some (excO C hp.objs.size) := by
    have z := Heap.get?_push_size (hp.push (kdv_tup [v])) (o := excO C hp.objs.size) rfl
    rw [sz] at z
    exact z
  have hnx : K.lookup (hp.objs.size + 1) = none := by
    cases z : K.lookup (hp.objs.size + 1) with
    | none => rfl
    | some o =>
      have z2 : hp.get? (hp.objs.size + 1) = some o := X _ _ z
      exact absurd (Nat.lt_of_succ_lt (Heap.lt_size z2)) (Nat.lt_irrefl _)
  refine call_own F.excBase_ValueError (fun Y => refsVE_contains Y bm hbm) (X _ _ hC) (looks_findIn X hf) (fun self => bind_fn X self htf) (by show 1 ≤ sizeLine; decide) ?_
  refine err_init (s := ⟨(hp.push (kdv_tup [v])).push (excO C hp.objs.size), g, d, t, os⟩) T hf (X.keeps k) (hlim.keeps k) (hg.keeps k) (hb.keeps k) hbv at1 hnx hroom ht fun h' tk dx t1 M => ?_
  refine ⟨rfl, hq h' tk (hp.objs.size + 1) dx ⟨fun b o z => M.keep b o (Nat.ne_of_lt (Nat.lt_succ_of_lt (Heap.lt_size z))) (k b o z), Nat.le_succ _, ⟨t1, M.obj⟩, ?_, M.dne, M.ns⟩⟩
  · have z : ((hp.push (kdv_tup [v])).push (excO C hp.objs.size)).objs.size ≤ dx := M.dbig
    show hp.objs.size ≤ dx
    omega
end
end ZXR
namespace ZXR
open PySem PySem.Spec PyProof.Rows L2
def TellV (y : V) : Prop := (∃ i, y = .int i ∧ i.natAbs.log2 < 1000) ∨ ∃ z, y = .str z ∧ z.length ≤ 100000
theorem TellV.rel {y : V} {v : Value} (h : TellV y) (r : RelV y v) : Tell v := by
  rcases h with ⟨i, rfl, hi⟩ | ⟨z, rfl, hz⟩
  · obtain ⟨t, rfl⟩ := r
    exact .inl ⟨i, t, rfl, hi⟩
  · obtain ⟨t, rfl⟩ := r
    exact .inr ⟨z, t, rfl, hz⟩
theorem relO_f {y : V} {v : Value} (r : RelV y v) (f : Str) : RelO (List.lookup f [(("reason" : Str), y)]) (if f = "reason" then some v else none) := by
  by_cases h : f = "reason"
  · subst h
    rw [if_pos rfl]
    have q : List.lookup ("reason" : Str) [(("reason" : Str), y)] = some y := by simp [List.lookup]
    rw [q]
    exact r
  · have q : (f == ("reason" : Str)) = false := by simpa using h
    have q2 : List.lookup f [(("reason" : Str), y)] = none := by simp [List.lookup, q]
    rw [if_neg h, q2]
    trivial
section
variable {X : Cx} {C : Addr} {x pre suf qual : Str}
/-- C(e) -/
def tMk (C : Addr) (ta : TA) : L2.St → Hp → XK → Prop := fun σ H Q => ta σ H fun vs H1 => ∃ y, vs = [y] ∧ TellV y ∧ ∀ d, H1 d = none → Q (.ref C) (some d) (upd H1 d (.xd [(("reason" : Str), y)]))
theorem pmk {a : Expr} {ta : TA} {p pos : Pos} {k : Nat} (T : ErrTxt X.prog X.K X.mg C x pre suf qual) (hr : Room k X.A) (hk : 1 ≤ k) (ha : PA X [a] ta) (hg : Gl X x) (hdb : (x == ("__debug__" : Str)) = false)
    (he : starEach (a :: []) X.env = (false, eval a X.env) :: starEach [] X.env := by rfl) (hpl : (backTo pos (starEach [] X.env)).any (·.1) = false := by rfl) :
    L2N.PMk X (.Call (.Name x p) [a] [] pos) (tMk C ta) := by
  intro pins s σ H Q I h
  refine wpAny_Call_Name_kw (ld_glob I hg T.gC ?_ hdb)
  refine PySem.W.callWith_K (h₀ := X.base) I.ok.mod.kin T.kC (thn (ha.run pos pins s σ H _ I h) fun us s1 hh => ?_) he hpl
  obtain ⟨vs, H1, I1, r1, y, ev, ty, q1⟩ := hh
  subst ev
  refine ⟨I1.kIn, ?_⟩
  cases r1 with
  | cons rv rn =>
    rename_i v us'
    cases rn
    show wpAny _ _ (call (.ref C) [v]) _ _ _
    obtain ⟨mb, hb1, hb2⟩ := I1.mod.blt
    have hgl := I1.mod.glob.keeps I1.bk
    have hbl := hb1.keeps I1.bk
    have hlim := I1.nolimit
    obtain ⟨hp, g, dr, tk, os⟩ := s1
    refine wpAny_call (err_made T I1.kIn hlim hgl hbl (hb2 _ (by decide +kernel)) (by have := hr.dp; omega) (ty.rel rv) fun h' tk' e d M => ?_)
    show L2N.MkP X pins σ Q (.ref e) ⟨h', g, dr, tk', os⟩
    obtain ⟨t1, hoe⟩ := M.obj
    obtain ⟨G, g1, g2⟩ := restrict h' fun b => decide (b ≠ e)
    have gk : ∀ b, b ≠ e → G.get? b = h'.get? b := fun b hb => g1 b (decide_eq_true hb)
    have ge : G.get? e = none := g2 e (by simp)
    have old : ∀ b o, hp.get? b = some o → G.get? b = some o := fun b o z => (gk b (Nat.ne_of_lt (Nat.lt_of_lt_of_le (Heap.lt_size z) M.new))).trans (M.keep b o z)
    have ob : ObjOk X.prog X.w (upd H1 d (.xd [(("reason" : Str), y)])) G d (.xd [(("reason" : Str), y)]) := ⟨_, M.ns.at (fun o z => (gk d M.dne).trans z), fun f => relO_f rv f⟩
    have J : Inv X pins σ (upd H1 d (.xd [(("reason" : Str), y)])) ⟨G, g, dr, tk', os⟩ := I1.laid (t' := tk') old M.dbig ob
    refine ⟨e, _, _, ⟨G, g, dr, tk', os⟩, _, .ref C, some d, rfl, J, fun b o z => ?_, ge, hoe, ⟨rfl, rfl, fun vs e => by cases e; rfl⟩, rfl, rfl, ?_, rfl, I1.bare, raises_own T.exC T.tyC, q1 d (I1.hok.fresh M.dbig)⟩
    · by_cases hb : b = e
      · have z' : G.get? b = some o := z
        rw [hb, ge] at z'
        cases z'
      · exact (gk b hb).symm.trans z
    · rw [upd_ne (Ne.symm M.dne)]
      exact I1.hok.fresh M.new
/-- raise C(e) -/
def tRaise (C : Addr) (W : WX) (ta : TA) : TS := fun _ σ H => tMk C ta σ H fun cls d H' => W cls d σ H'
theorem ps_raiseE {a : Expr} {ta : TA} {W : WX} {p pos pos2 : Pos} {k : Nat} (hc : X.calm = true) (T : ErrTxt X.prog X.K X.mg C x pre suf qual) (hr : Room k X.A) (hk : 1 ≤ k) (tk : L2N.Takes X W) (ha : PA X [a] ta) (hg : Gl X x := by rfl) (hdb : (x == ("__debug__" : Str)) = false := by decide)
    (he : starEach (a :: []) X.env = (false, eval a X.env) :: starEach [] X.env := by rfl) (hpl : (backTo pos (starEach [] X.env)).any (·.1) = false := by rfl) :
    PS X (.Raise (some (.Call (.Name x p) [a] [] pos)) none pos2) (tRaise C W ta) := L2N.ps_raise hc tk (pmk T hr hk ha hg hdb he hpl)
/-- e.line, e the error that the suite holds (at a; its class cls, its dict d) -/
def tLine (C : Addr) (a : Addr) (cls : Value) (d : Option Addr) (te : TE) : TE := fun σ H Q => te σ H fun x H1 => x = .ref a ∧ cls = .ref C ∧ ∃ (dd : Addr) (v : V), d = some dd ∧ H1 dd = some (.xd [(("reason" : Str), v)]) ∧ Q v H1
theorem pe_line {a : Addr} {oe : Obj} {cls : Value} {d : Option Addr} {pn : List (Addr × Obj)} {e : Expr} {te : TE} {pos : Pos} (T : ErrTxt X.prog X.K X.mg C x pre suf qual) (hz : Zc cls d oe) (hf : ∃ vs, oe.data = .fields vs) (he : PE (X.suite a ((a, oe) :: pn)) e te)
    (hb : attributeBase e "reason" X.env (eval e X.env) = eval e X.env := by rfl) :
    PE (X.suite a ((a, oe) :: pn)) (.Attribute e "reason" pos) (tLine C a cls d te) := by
  refine ⟨fun pins s σ H Q I h => ?_⟩
  refine attr_of hb (thn (he.run pins s σ H _ I h) fun u s1 hh => ?_)
  obtain ⟨y, H1, I1, rx, ex, ec, dd, v, ed, ea, q⟩ := hh
  subst ex
  obtain rfl : u = Value.ref a := rx
  subst ec
  subst ed
  obtain ⟨ha, _⟩ := I1.pin (a, oe) (List.mem_append_left _ List.mem_cons_self)
  obtain ⟨vs, hd⟩ := hf
  have hx : ObjOk X.prog X.w H1 s1.heap dd (.xd [(("reason" : Str), v)]) := I1.hok dd _ ea
  obtain ⟨mA, hns, hr⟩ := hx
  obtain ⟨od, ho, hl⟩ := lookIn_ns hns
  have l : List.lookup ("reason" : Str) [(("reason" : Str), v)] = some v := by simp [List.lookup]
  obtain ⟨u, hu, ru⟩ := RelO.some_of (v := v) (o := mA "reason") (by rw [← l]; exact hr "reason")
  have J : PySem.W.InstAt s1.heap a oe C (some od) := ⟨ha, hz.1, by unfold PySem.W.notCls; rw [hd] <;> rfl, by rw [hz.2]; exact ho⟩
  exact HandSPX.exc_get I1.kIn J T.ga T.gg T.exC (PySem.W.findObj_own T.hdC T.noN rfl (by rw [hl, hu])) (handed_of ru) ⟨v, H1, I1.tok _, ru, q⟩
/-! ### isinstance(e, c), e the exception that the suite holds, with its own dict -/
structure IsC (K : PySem.W.Frag) (C : Addr) : Prop where
  cl : (PySem.W.clsIn K C).isSome = true
  ha : PySem.W.findIn K (.ref C) "__class__" = some (some (.builtin "object.__class__"))
  hn : PySem.W.specialIn K (.builtin "object.__class__") "__get__" = some (some (.builtin "getset_descriptor.__get__"))
  ht : PySem.W.takesIn K (.builtin "object.__class__") = some true
  hm : PySem.W.mroIn K C (.type "object") = some true
def rIsEd (K : PySem.W.Frag) (C a : Addr) (cls : Value) (d : Option Addr) : List V → Hp → VK → Prop := fun xs H Q => cls = .ref C ∧ ∃ (c : V) (cv : Value) (b : Bool) (dd : Addr) (fs : List (Str × V)), d = some dd ∧ H dd = some (.xd fs) ∧ xs = [.ref a, c] ∧
  (∀ u, RelV c u → u = cv) ∧ PySem.W.kitOne K (.ref C) cv = some b ∧ Q (.bl b) H
def rIsEt (K : PySem.W.Frag) (C a : Addr) (cls : Value) (d : Option Addr) : List V → Hp → VK → Prop := fun xs H Q => cls = .ref C ∧ ∃ (tp : Addr) (cs : List V) (us : List Value) (b : Bool) (dd : Addr) (fs : List (Str × V)), d = some dd ∧ H dd = some (.xd fs) ∧ xs = [.ref a, .ref tp] ∧
  H tp = some (.tup cs) ∧ (∀ its, Vals cs its → its = us) ∧ PySem.W.kitAny K (.ref C) us = some b ∧ Q (.bl b) H
theorem inst_at {K : PySem.W.Frag} {pins pn : List (Addr × Obj)} {σ : L2.St} {H : Hp} {s : Shared} {a : Addr} {oe : Obj} {dd : Addr} {fs : List (Str × V)} (I : Inv (X.suite a ((a, oe) :: pn)) pins σ H s) (hz : Zc (.ref C) (some dd) oe) (hf : ∃ vs, oe.data = .fields vs) (hd : H dd = some (.xd fs)) :
    ∃ od, PySem.W.InstAt s.heap a oe C (some od) := by
  obtain ⟨hget, _⟩ := I.pin (a, oe) (List.mem_append.mpr (.inl List.mem_cons_self))
  obtain ⟨vs, hv⟩ := hf
  have hx : ObjOk X.prog X.w H s.heap dd (.xd fs) := I.hok dd _ hd
  obtain ⟨mA, hns, _⟩ := hx
  obtain ⟨od, es, ep, ho, _⟩ := hns
  exact ⟨od, hget, hz.1, by unfold PySem.W.notCls; rw [hv] <;> rfl, by rw [hz.2]; exact ho⟩
theorem call_isEd {a : Addr} {oe : Obj} {cls : Value} {d : Option Addr} {pn : List (Addr × Obj)} (T : ErrTxt X.prog X.K X.mg C x pre suf qual) (S : IsC X.K C) (hz : Zc cls d oe) (hf : ∃ vs, oe.data = .fields vs) : CallR (X.suite a ((a, oe) :: pn)) (.builtin "isinstance") (rIsEd X.K C a cls d) := by
  intro pins s σ H xs us Q I r h
  obtain ⟨rfl, c, cv, b, dd, fs, rfl, hd, rfl, hcv, e, q⟩ := h
  cases r with
  | cons rx rr =>
    cases rr with
    | cons rt rr =>
      cases rr
      cases rx
      have ec := hcv _ rt
      subst ec
      obtain ⟨od, J⟩ := inst_at (K := X.K) I hz hf hd
      exact PySem.W.kia_one (PySem.W.kitx_exc S.cl T.ga T.gg T.exC S.ha S.hn S.ht S.hm) I.kIn J e (fun z => nomatch z) fun tk => ⟨.bl b, H, I.kept (t' := tk) fun _ _ z => z, rfl, q⟩
theorem call_isEt {a : Addr} {oe : Obj} {cls : Value} {d : Option Addr} {pn : List (Addr × Obj)} (T : ErrTxt X.prog X.K X.mg C x pre suf qual) (S : IsC X.K C) (hz : Zc cls d oe) (hf : ∃ vs, oe.data = .fields vs) : CallR (X.suite a ((a, oe) :: pn)) (.builtin "isinstance") (rIsEt X.K C a cls d) := by
  intro pins s σ H xs us Q I r h
  obtain ⟨rfl, tp, cs, ws, b, dd, fs, rfl, hd, rfl, ht, hus, e, q⟩ := h
  cases r with
  | cons rx rr =>
    cases rr with
    | cons rt rr =>
      cases rr
      cases rx
      cases rt
      obtain ⟨od, J⟩ := inst_at (K := X.K) I hz hf hd
      obtain ⟨_, its, rv, o, htp, hc, n, hdt⟩ := I.hok tp _ ht
      have := hus _ rv
      subst this
      obtain ⟨oc, odd, oda, osl⟩ := o
      dsimp only at hc hdt
      subst hc hdt
      exact PySem.W.kia_tup (PySem.W.kitx_exc S.cl T.ga T.gg T.exC S.ha S.hn S.ht S.hm) I.kIn J htp e (fun z => nomatch z) fun tk => ⟨.bl b, H, I.kept (t' := tk) fun _ _ z => z, rfl, q⟩
end
end ZXR

namespace Z
open PySem PySem.Spec PyProof.Rows L2
/-! ### methods of own classes -/
structure MAt (K : PySem.W.Frag) (C : Addr) (m qual : Str) (st : Stmt) (ps : List Str) : Prop where
  ex : ∃ (f : Addr) (fd : FuncData), Cls K C ∧ Meth K C m f ∧ Fun K m qual st f fd ∧ Binds K fd ps []
section
variable {P : Program} {w : World} {K : PySem.W.Frag} {mg : Str → Option Value} {base : Heap} {C : Addr} {m qual : Str} {st : Stmt} {ps N : List Str} {k : Nat} {sp : Sp}
theorem MAt.ok (F : MAt K C m qual st ps) (S : FnScope N ps (defScope st)) (len : ∀ vs H Q E, sp vs H Q E → vs.length = ps.length)
    (hbody : ∀ (f : Addr) (cdv : Value) (A : Around) (outer : List Env) (s : Shared) (H : Hp) (vs : List V) (Q : VK) (E : XK), Room k (A.deeper (envOfC qual (defScope st) s.heap.objs.size f cdv)) → sp vs H Q E →
      ∃ t, PSs (cxOf CX0 P w K mg base N qual (defScope st) f cdv A outer s H E).nox (defBody st) t ∧ t { nx := fun _ H' => Q .non H', rt := Q } (start N vs) H) : C8.Met P w K mg base (k + 1) C m sp [] := by
  obtain ⟨f, fd, c, me, F, b⟩ := F.ex
  exact ⟨f, fd, ps, [], c, me, F.ok S len (fun cdv A outer s H vs Q E hr h => hbody f cdv A outer s H vs Q E hr h), b, .nil⟩
end
/-- a method that errors leave -/
structure MetX (P : Program) (w : World) (K : PySem.W.Frag) (mg : Str → Option Value) (base : Heap) (k : Nat) (C : Addr) (m : Str) (sp : Sp) : Prop where
  ex : ∃ (f : Addr) (fd : FuncData) (ps : List Str), Cls K C ∧ Meth K C m f ∧ FnOk P w K mg base (L2N.CX P w) k f fd ps sp ∧ Binds K fd ps []
theorem MAt.okX {P : Program} {w : World} {K : PySem.W.Frag} {mg : Str → Option Value} {base : Heap} {C : Addr} {m qual : Str} {st : Stmt} {ps N : List Str} {k : Nat} {sp : Sp} (F : MAt K C m qual st ps) (S : FnScope N ps (defScope st)) (len : ∀ vs H Q E, sp vs H Q E → vs.length = ps.length)
    (hbody : ∀ (f : Addr) (cdv : Value) (A : Around) (outer : List Env) (s : Shared) (H : Hp) (vs : List V) (Q : VK) (E : XK), Room k (A.deeper (envOfC qual (defScope st) s.heap.objs.size f cdv)) → sp vs H Q E →
      ∃ t, PSs (cxOf (L2N.CX P w) P w K mg base N qual (defScope st) f cdv A outer s H E) (defBody st) t ∧ t { nx := fun _ H' => Q .non H', rt := Q } (start N vs) H) : MetX P w K mg base (k + 1) C m sp := by
  obtain ⟨f, fd, c, me, F, b⟩ := F.ex
  obtain ⟨oc, od, kV, doc, pm, an, cdv, ct, osl, rfl, lk, hcd⟩ := F.ex
  exact ⟨f, _, _, c, me, fn_of lk hcd S len fun A outer s H vs Q E hr hsp => hbody f cdv A outer s H vs Q E hr hsp, b⟩
theorem Tm.ins {p C dx : Addr} {H : Hp} {fs gs : List (Str × V)} (hp : H p = some (.ins C dx fs)) : Tm H (upd H p (.ins C dx gs)) := fun a zs h => by
  have n : a ≠ p := by
    rintro rfl
    rcases h with h | ⟨o, h⟩ <;> (rw [hp] at h; cases h)
  rcases h with h | ⟨o, h⟩
  · exact .inl (by rw [upd_ne n]; exact h)
  · exact .inr ⟨o, by rw [upd_ne n]; exact h⟩
theorem putF_len {f : Str} {v y : V} : ∀ {fs : List (Str × V)}, List.lookup f fs = some y → (putF f v fs).length = fs.length
  | [], h => by cases h
  | (g, x) :: r, h => by
    unfold putF
    by_cases e : g = f
    · rw [if_pos e]
      rfl
    · rw [if_neg e, List.length_cons, List.length_cons]
      have h2 : List.lookup f r = some y := by
        rw [List.lookup_cons] at h
        have : (f == g) = false := by
          rw [beq_eq_false_iff_ne]
          exact fun z => e z.symm
        rw [this] at h
        exact h
      rw [putF_len h2]
/-- few fields, none of the name of a method -/
def BkF (fs : List (Str × V)) : Prop := fs.length < 100 ∧ ∀ m ∈ ([("put" : Str), ("drop" : Str), ("jobs" : Str), ("plan" : Str), ("worked" : Str)] : List Str), List.lookup m fs = none
theorem BkF.put {f : Str} {v : V} {fs : List (Str × V)} (h : BkF fs) (l : (L2.putF f v fs).length < 100) (n : f ∉ ([("put" : Str), ("drop" : Str), ("jobs" : Str), ("plan" : Str), ("worked" : Str)] : List Str)) : BkF (L2.putF f v fs) :=
  ⟨l, fun m hm => by rw [lookup_putF, if_neg (fun z : m = f => n (by rw [← z]; exact hm))]; exact h.2 m hm⟩
/-- a book whose jobs are js, in the list at L -/
structure BookAt (K : PySem.W.Frag) (C b L : Addr) (js : List Job) (H : Hp) : Prop where
  ex : ∃ (dx : Addr) (fs : List (Str × V)) (xs : List V), H b = some (.ins C dx fs) ∧ List.lookup ("_jobs" : Str) fs = some (V.ref L) ∧ H L = some (.lst xs) ∧ L ≠ b ∧ IsA K H xs (js.map dJob) ∧ BkF fs
def spBDrop (K : PySem.W.Frag) (C CR : Addr) : Sp := fun vs H Q E => ∃ (b L : Addr) (js : List Job) (n : Str), vs = [.ref b, .str n] ∧ BookAt K C b L js H ∧ js.length ≤ 19 ∧
  ((∀ j ∈ js, j.n ≠ n) → ∀ d H', Same H H' → H' d = none → E (.ref CR) (some d) (upd H' d (.xd [(("reason" : Str), .str ("unknown" : Str))]))) ∧
  ((∃ j ∈ js, j.n = n) → ∀ L' H', H L' = none → (∀ x o, x ≠ b → H x = some o → H' x = some o) → BookAt K C b L' (js.filter fun j => decide (j.n ≠ n)) H' → Q .non H')
def spBInit (K : PySem.W.Frag) (C : Addr) : Sp := fun vs H Q _ => ∃ (b dx : Addr), vs = [.ref b] ∧ H b = some (.ins C dx []) ∧ ∀ L H', H L = none → (∀ x o, x ≠ b → H x = some o → H' x = some o) → BookAt K C b L [] H' → Q .non H'
/-- a job is put -/
def putJ (j : Job) (js : List Job) : List Job := match js.findIdx? fun i => decide (i.n = j.n) with
  | some i => js.set i j
  | none => js ++ [j]
def spBPut (K : PySem.W.Frag) (C CR : Addr) : Sp := fun vs H Q E => ∃ (b L : Addr) (v : V) (js : List Job) (j : Job), vs = [.ref b, v] ∧ BookAt K C b L js H ∧ Is K H v (dJob j) ∧ (js.map (·.n)).Nodup ∧ js.length ≤ 12 ∧
  (j.n ∉ js.map (·.n) → 12 ≤ js.length → ∀ d H', Same H H' → H' d = none → E (.ref CR) (some d) (upd H' d (.xd [(("reason" : Str), .str ("full" : Str))]))) ∧
  ((j.n ∈ js.map (·.n) ∨ js.length < 12) → ∀ H', (∀ x o, x ≠ b → x ≠ L → H x = some o → H' x = some o) → BookAt K C b L (putJ j js) H' → Q .non H')
/-- the jobs of a book -/
def spBJobs (K : PySem.W.Frag) (C : Addr) : Sp := fun vs H Q _ => ∃ (b dx L : Addr) (fs : List (Str × V)) (xs : List V), vs = [.ref b] ∧ H b = some (.ins C dx fs) ∧ List.lookup ("_jobs" : Str) fs = some (V.ref L) ∧ SqL K H L xs ∧ ∀ t H', Same H H' → H t = none → SqT K H' t xs → Q (.ref t) H'
end Z

namespace Z
open PySem PySem.Spec PyProof.Rows L2
/-! ### methods that errors leave, called -/
def tMethS (C : Addr) (m : Str) (sp : Sp) (E : L2.St → XK) (ta : TE) (t : TA) : TE := fun σ H Q => ta σ H fun x H1 => ∃ a dx fs, x = .ref a ∧ H1 a = some (.ins C dx fs) ∧ fs.lookup m = none ∧ t σ H1 fun vs H2 => sp (x :: vs) H2 Q (E σ)
theorem pasX0 {X : Cx} {σ : L2.St} : PassesAt (L2N.CX X.prog X.w) X σ E0 := fun _ _ _ _ _ _ h => by
  obtain ⟨a, B, H', cls, d, _, _, _, _, _, _, _, hE⟩ := h
  exact hE.elim
section
variable {X : Cx} {k j : Nat} {C : Addr} {m : Str} {sp : Sp} {E : L2.St → XK} {apos pos : Pos} {e o : Expr} {es : List Expr} {ta : TE} {t : TA}
theorem pe_mtS {pl : Sem Bool} (c : MetX X.prog X.w X.K X.mg X.base k C m sp) (hr : Room j X.A) (hk : k ≤ j) (hx : ∀ σ, PassesAt (L2N.CX X.prog X.w) X σ (E σ)) (he : PE X o ta) (ha : PA X (e :: es) t)
    (hst : starEach (e :: es) X.env = (false, eval e X.env) :: starEach es X.env := by rfl) (hpl : (backTo pos (starEach es X.env)).any (·.1) = false := by rfl)
    (ht : eval (.Call (.Attribute o m apos) (e :: es) [] pos) X.env = (do
      let ov ← eval o X.env
      standAt apos.atName
      let (f, first) ← holding [ov] (getMethod ov m pl)
      callWith pos f first (backTo pos (starEach (e :: es) X.env)) (backToKw pos (keywordEach [] X.env))) := by rfl) :
    PE X (.Call (.Attribute o m apos) (e :: es) [] pos) (tMethS C m sp E ta t) := by
  obtain ⟨f, fd, ps, hc, hm, F, b⟩ := c.ex
  refine ⟨fun pins s σ H Q I h => ?_⟩
  refine PySem.W.methodCall_KW (pl := pl) (thn (he.run pins s σ H _ I h) fun u s1 ⟨x, H1, I1, rx, a, dx, fs, ex, ea, l, q⟩ => ?_) ht
  subst ex
  obtain rfl : u = Value.ref a := rx
  refine getmeth_ok I1 ea hc hm l ?_
  refine PySem.W.callWith_K (first := [.ref a]) (h₀ := X.base) I.ok.mod.kin hm.kp (thn (ha.run pos pins s1 σ H1 _ I1 q) fun us s2 ⟨vs, H2, I2, r, q2⟩ => ⟨I2.kIn, ?_⟩) hst hpl
  exact run_fnS (us := .ref a :: us) (vs := .ref a :: vs) F (hr.mono hk) b (hx σ) I2 (.cons rfl r) q2
end
/-- a class is made: its __init__ is the method -/
theorem mak_of {P : Program} {w : World} {K : PySem.W.Frag} {mg : Str → Option Value} {base : Heap} {k : Nat} {x : Str} {C f : Addr} {sp : Sp} {dvs : List V} (M : C8.Met P w K mg base k C "__init__" sp dvs) (Mk : Mk K C f) (hg : mg x = some (.ref C)) : C8.Mak P w K mg base k x C sp dvs := by
  obtain ⟨f', fd, ps, ds, c, me, F, b, d⟩ := M.ex
  have e : f = f' := by
    have h1 := Mk.init
    have h2 := me.at_
    rw [h1] at h2
    cases h2
    rfl
  subst e
  exact ⟨f, fd, ps, ds, Mk, F, hg, b, d⟩
end Z
namespace Z
open PySem PySem.Spec PyProof.Rows L2
section
variable {X : Cx} {k j : Nat} {C : Addr} {x : Str} {sp : Sp} {dvs : List V} {p pos : Pos}
theorem pe_mk0 (c : C8.Mak X.prog X.w X.K X.mg X.base k x C sp dvs) (hr : Room j X.A) (hk : k + 1 ≤ j) (hg : Gl X x) (hdb : (x == ("__debug__" : Str)) = false := by decide) :
    PE X (.Call (.Name x p) [] [] pos) (tMake C sp dvs E0 tNil) := by
  obtain ⟨f, fd, ps, ds, M, F, hm, b, d⟩ := c.ex
  exact pe_make0 M F (hr.mono hk) hg hm b d pass0 hdb
end
theorem Pl.keep {p a : Addr} {H H' : Hp} (h : Pl p a H) (k1 : ∀ o, H p = some o → H' p = some o) (k2 : ∀ o, H a = some o → H' a = some o) : Pl p a H' := by
  obtain ⟨ns, i, rest, last, cnt, n, h, h1, h2⟩ := h
  exact ⟨ns, i, rest, last, cnt, n, k1 _ h, k2 _ h1, h2⟩
theorem BookAt.keep {K : PySem.W.Frag} {C b L : Addr} {js : List Job} {H H' : Hp} (h : BookAt K C b L js H) (hb : ∀ o, H b = some o → H' b = some o) (hL : ∀ o, H L = some o → H' L = some o) (tm : Tm H H') : BookAt K C b L js H' := by
  obtain ⟨dx, fs, xs, h1, h2, h3, h4, h5, h6⟩ := h.ex
  exact ⟨dx, fs, xs, hb _ h1, h2, hL _ h3, h4, h5.to tm, h6⟩
theorem plain_dJob (j : Job) : plainD (dJob j) = true := by
  simp [dJob, plainD, plainDs]
theorem plain_dJobs : ∀ js : List Job, plainDs (js.map dJob) = true
  | [] => by simp [plainDs]
  | j :: js => by
    rw [List.map_cons, plainDs, plain_dJob, plain_dJobs js]
    rfl
theorem plain_jobs {js : List Job} (h : js.length ≤ 1000) : plainD (.tuple (js.map dJob)) = true := by
  rw [plainD, plain_dJobs, List.length_map, decide_eq_true h]
  rfl
theorem dep_jobs (js : List Job) : depD (.tuple (js.map dJob)) < 3 := by
  have : ∀ js : List Job, depDs (js.map dJob) ≤ 1 := by
    intro js
    induction js with
    | nil => simp [depDs]
    | cons j js ih =>
      rw [List.map_cons, depDs]
      have : depD (dJob j) = 1 := by simp [dJob, depD, depDs]
      omega
  have := this js
  rw [depD]
  omega
end Z

namespace Z
open PySem PySem.Spec PyProof.Rows L2
def topS (i : Nat) : Stmt := PySem.Challenge.pw_sparewatts_k21_edits_of_a_book.main.body.getD i (.Pass ⟨0, 0, 0, 0⟩)
abbrev s_law_pool : Stmt := topS 45
abbrev s_law_draw : Stmt := topS 46
abbrev s_law_same : Stmt := topS 47
abbrev s_law_window : Stmt := topS 48
abbrev s_law_put : Stmt := topS 49
abbrev s_law_drop : Stmt := topS 50
abbrev slaw : Stmt := topS 51
abbrev sBook___init__ : Stmt := (C8.clsBody (topS 43)).getD 0 (.Pass ⟨0, 0, 0, 0⟩)
abbrev sBook_put : Stmt := (C8.clsBody (topS 43)).getD 1 (.Pass ⟨0, 0, 0, 0⟩)
abbrev sBook_drop : Stmt := (C8.clsBody (topS 43)).getD 2 (.Pass ⟨0, 0, 0, 0⟩)
abbrev sBook_jobs : Stmt := (C8.clsBody (topS 43)).getD 3 (.Pass ⟨0, 0, 0, 0⟩)
theorem sc_law_pool : FnScope ["script"] ["script"] (defScope s_law_pool) := ⟨rfl, rfl, rfl, by decide +kernel, rfl, by decide +kernel, by decide +kernel⟩
theorem sc_law_draw : FnScope ["pool", "many", "found", "cell", "mixed"] ["pool", "many"] (defScope s_law_draw) := ⟨rfl, rfl, rfl, by decide +kernel, rfl, by decide +kernel, by decide +kernel⟩
theorem sc_law_same : FnScope ["actual", "due", "k"] ["actual", "due"] (defScope s_law_same) := ⟨rfl, rfl, rfl, by decide +kernel, rfl, by decide +kernel, by decide +kernel⟩
theorem sc_law_window : FnScope ["pool", "wide", "comes"] ["pool", "wide"] (defScope s_law_window) := ⟨rfl, rfl, rfl, by decide +kernel, rfl, by decide +kernel, by decide +kernel⟩
theorem sc_law_put : FnScope ["book", "rows", "job", "names", "e", "row"] ["book", "rows", "job"] (defScope s_law_put) := ⟨rfl, rfl, rfl, by decide +kernel, rfl, by decide +kernel, by decide +kernel⟩
theorem sc_law_drop : FnScope ["book", "rows", "name", "names", "e", "row"] ["book", "rows", "name"] (defScope s_law_drop) := ⟨rfl, rfl, rfl, by decide +kernel, rfl, by decide +kernel, by decide +kernel⟩
theorem sclaw : FnScope ["script", "pool", "book", "other", "rows", "k", "name", "comes", "due"] ["script"] (defScope slaw) := ⟨rfl, rfl, rfl, by decide +kernel, rfl, by decide +kernel, by decide +kernel⟩
theorem scBook___init__ : FnScope ["self"] ["self"] (defScope sBook___init__) := ⟨rfl, rfl, rfl, by decide +kernel, rfl, by decide +kernel, by decide +kernel⟩
theorem scBook_put : FnScope ["self", "job", "names", "each"] ["self", "job"] (defScope sBook_put) := ⟨rfl, rfl, rfl, by decide +kernel, rfl, by decide +kernel, by decide +kernel⟩
theorem scBook_drop : FnScope ["self", "name", "kept", "job"] ["self", "name"] (defScope sBook_drop) := ⟨rfl, rfl, rfl, by decide +kernel, rfl, by decide +kernel, by decide +kernel⟩
theorem scBook_jobs : FnScope ["self"] ["self"] (defScope sBook_jobs) := ⟨rfl, rfl, rfl, by decide +kernel, rfl, by decide +kernel, by decide +kernel⟩
section
variable {P : Program} {w : World} {K : PySem.W.Frag} {mg : Str → Option Value} {base : Heap}
theorem m_Book_jobs {C : Addr} (B : BI mg) (na : NoAttr K C "_jobs") (F : MAt K C "jobs" "Book.jobs" sBook_jobs ["self"]) : C8.Met P w K mg base 1 C "jobs" (spBJobs K C) [] := by
  refine F.ok scBook_jobs (fun vs H Q E h => ?_) (fun f cdv A outer s H vs Q E hr h => ?_)
  · obtain ⟨b, dx, L, fs, xs, rfl, _⟩ := h
    rfl
  obtain ⟨b, dx, L, fs, xs, rfl, hb, hl, hL, q⟩ := h
  refine ⟨_, (pss_one (ps_ret (pe_callTy call_tuple_of rfl B.tuple (by decide +kernel) (pa_cons (pe_fld (pv 0) rfl) pa_nil)))), ?_⟩
  have c : Cls K C := by
    obtain ⟨_, _, c, _⟩ := F.ex
    exact c
  refine ⟨_, rfl, b, C, dx, fs, _, rfl, hb, c, na, hl, L, xs, rfl, .inl ⟨hL, fun t nt => ?_⟩⟩
  exact q t _ (same_upd nt) nt (SqT.of upd_same)

theorem m_Book_drop {C CR : Addr} {qual pre suf : Str} (B : BI mg) (na : NoAttr K C "_jobs") (TRefused : ZXR.ErrTxt P K mg CR "Refused" pre suf qual) (F : MAt K C "drop" "Book.drop" sBook_drop ["self", "name"]) : MetX P w K mg base 2 C "drop" (spBDrop K C CR) := by
  refine F.okX scBook_drop (fun vs H Q E h => ?_) (fun f cdv A outer s H vs Q E hr h => ?_)
  · obtain ⟨b, L, js, n, rfl, _⟩ := h
    rfl
  obtain ⟨b, L, js, n, rfl, hb, hl, q0, q1⟩ := h
  obtain ⟨dx, fs, xs, hb, hf, hL, nb, hI, fl⟩ := hb
  refine ⟨_, (pss_cons (ps_setLc (i := 2) (own := [("job", 3)]) (g := gName 3) (tt := _) rfl scBook_drop.nd rfl rfl (sw_true rfl rfl rfl (by decide +kernel)) (pi_list (pe_fld (pv 0) rfl)) (blkOk_by (own := [("job", 3)]) (N := ["self", "name", "kept", "job"]) (sc := defScope sBook_drop) (by decide +kernel)) (fun _ _ _ _ _ => (pg_name (i := 3) scBook_drop.nd rfl (Or.inl rfl))) (fun _ _ _ _ _ => (pts_one (pt_cmpR op_ne (pe_ix (ix_tupK (K := K) rfl) (pv 3) pe_int (fun _ _ => rfl)) (pv 1) (nomark _)))) (fun _ _ _ _ _ => (pv 3)))
      (pss_cons (ps_if (pt_cmpR op_eq (pe_callB call_len_seq rfl B.len PySem.boot_len (pa_cons (pv 2) pa_nil)) (pe_callB call_len_seq rfl B.len PySem.boot_len (pa_cons (pe_fld (pv 0) rfl) pa_nil)) (nomark _))
        (pss_one (ZXR.ps_raiseE rfl TRefused hr (by decide) (L2N.takes_of rfl rfl rfl rfl) (pa_cons pe_str pa_nil)))
        pss_nil)
      (pss_one (ps_fld (pv 0) (pv 2) rfl)))), ?_⟩
  have c : Cls K C := by
    obtain ⟨_, _, c, _⟩ := F.ex
    exact c
  have lx : xs.length = js.length := by rw [hI.len, List.length_map]
  refine ⟨_, rfl, b, C, dx, fs, _, rfl, hb, c, na, hf, ?_⟩
  refine ⟨L, rfl, ⟨_, SqL.of hL⟩, fun D hD => ?_⟩
  refine lc_list (xs := xs) (fun i H8 => Same H H8 ∧ ∃ cs, H8 D = some (.lst cs) ∧ cs.length ≤ i ∧ IsA K H8 cs (((js.take i).filter fun j => decide (j.n ≠ n)).map dJob)) ⟨same_upd hD, [], upd_same, Nat.le_refl _, .nil⟩ (fun i H8 _ h => SqL.of (h.1 _ _ hL)) ?_ ?_
  · rintro i x H8 hx ⟨sm, cs, hc, cl, ic⟩
    obtain ⟨d, hd, ix⟩ := hI.at hx
    obtain ⟨j, hj, rfl⟩ := getJ hd
    have il : i < js.length := (List.getElem?_eq_some_iff.mp hj).1
    have ix8 := ix.to (Same.tm sm)
    obtain ⟨tj, rfl, sj⟩ := job_at ix8
    have et : (js.take (i + 1)).filter (fun j => decide (j.n ≠ n)) = (js.take i).filter (fun j => decide (j.n ≠ n)) ++ if j.n ≠ n then [j] else [] := by
      rw [List.take_add_one, hj, List.filter_append]
      congr 1
      show List.filter _ [j] = _
      by_cases g : j.n = n
      · rw [if_neg (fun z => z g), List.filter_cons, if_neg (by simp [g])]
        rfl
      · rw [if_pos g, List.filter_cons, if_pos (by simp [g])]
        rfl
    refine ⟨rfl, _, rfl, tj, _, 0, _, rfl, rfl, sj, rfl, _, rfl, rfl, _, rfl, ite2 (fun e => ?_) (fun e => ?_)⟩
    · have e1 : j.n ≠ n := fun z => by rw [z, decide_eq_true rfl] at e; cases e
      refine ⟨_, rfl, cs, hc, small5' (by omega), Z.Same.mut sm hD, _, upd_same, by rw [List.length_append]; exact Nat.succ_le_succ cl, ?_⟩
      rw [et, if_pos e1, List.map_append]
      exact (ic.push ix8).to (Tm.lst hc)
    · have e1 : ¬ j.n ≠ n := fun z => e (by rw [decide_eq_false (fun h => z (V.str.inj h))]; rfl)
      refine ⟨sm, cs, hc, by omega, ?_⟩
      rw [et, if_neg e1, List.append_nil]
      exact ic
  rintro H3 ⟨s3, cs, h3, cl, i3⟩
  rw [lx, List.take_length] at i3
  have lc : cs.length = (js.filter fun j => decide (j.n ≠ n)).length := by rw [i3.len, List.length_map]
  have hb3 := s3 _ _ hb
  have hL3 := s3 _ _ hL
  refine ⟨_, rfl, D, cs, rfl, .inl (SqL.of h3), _, rfl, b, C, dx, fs, _, rfl, hb3, c, na, hf, L, xs, rfl, .inl (SqL.of hL3), rfl, _, rfl, ite2 (fun e => ?_) (fun e => ?_)⟩
  · have e1 : cs.length = xs.length := by have := V.int.inj (of_decide_eq_true e); omega
    have no : ∀ j ∈ js, j.n ≠ n := fun j hj => by
      rw [lc, lx] at e1
      have := List.length_filter_eq_length_iff.mp e1 j hj
      exact of_decide_eq_true this
    exact ⟨_, rfl, .inr ⟨_, rfl, by decide⟩, fun d hd => q0 no d _ s3 hd⟩
  · have e1 : ¬ cs.length = xs.length := fun z => e (decide_eq_true (by rw [z]))
    have ex : ∃ j ∈ js, j.n = n := by
      by_cases g : ∃ j ∈ js, j.n = n
      · exact g
      · exact absurd (by rw [lc, lx]; exact List.length_filter_eq_length_iff.mpr fun j hj => decide_eq_true fun z => g ⟨j, hj, z⟩) e1
    refine ⟨_, rfl, _, rfl, b, C, dx, fs, rfl, hb3, c, na, by have := fl.1; omega, ?_⟩
    have nD : D ≠ b := by
      rintro rfl
      rw [hb] at hD
      cases hD
    refine q1 ex D _ hD (fun x o hx ho => ?_) ⟨dx, _, cs, upd_same, ?_, ?_, nD, ?_, ?_⟩
    · rw [upd_ne hx]
      exact s3 _ _ ho
    · rw [lookup_putF, if_pos rfl]
    · rw [upd_ne nD]
      exact h3
    · exact i3.to (Tm.ins hb3)
    · exact fl.put (by rw [putF_len hf]; exact fl.1) (by decide +kernel)

theorem m_Book_init {C : Addr} (B : BI mg) (n1 : NoAttr K C "_jobs") (n2 : NoAttr K C "_plans") (n3 : NoAttr K C "_worked") (F : MAt K C "__init__" "Book.__init__" sBook___init__ ["self"]) : C8.Met P w K mg base 1 C "__init__" (spBInit K C) [] := by
  refine F.ok scBook___init__ (fun vs H Q E h => ?_) (fun f cdv A outer s H vs Q E hr h => ?_)
  · obtain ⟨b, dx, rfl, _⟩ := h
    rfl
  obtain ⟨b, dx, rfl, hb, q⟩ := h
  refine ⟨_, (pss_cons (ps_fld (pv 0) (pe_lst pa_nil) rfl)
      (pss_cons (ps_fld (pv 0) pe_dnewK rfl)
      (pss_one (ps_fld (pv 0) pe_int rfl)))), ?_⟩
  have c : Cls K C := by
    obtain ⟨_, _, c, _⟩ := F.ex
    exact c
  refine ⟨(by show 0 ≤ sizeLine; decide), fun L nL => ?_⟩
  have nb : L ≠ b := by
    rintro rfl
    rw [hb] at nL
    cases nL
  refine ⟨_, rfl, b, C, dx, [], rfl, by rw [upd_ne (Ne.symm nb)]; exact hb, c, n1, by decide, ?_⟩
  have z1 : BkF (putF (PySem.Str.ofString "_jobs") (V.ref L) []) := BkF.put (fs := []) ⟨by decide, fun _ _ => rfl⟩ (by have := length_putF (PySem.Str.ofString "_jobs") (V.ref L) []; exact Nat.lt_of_le_of_lt this (by decide)) (by decide +kernel)
  generalize hf1 : putF (PySem.Str.ofString "_jobs") (V.ref L) [] = f1 at z1
  have l1 : f1.length ≤ 1 := by rw [← hf1]; exact length_putF _ _ _
  have k1 : List.lookup ("_jobs" : Str) f1 = some (V.ref L) := by rw [← hf1]; exact (lookup_putF _ _ _ _).trans (if_pos rfl)
  have h1b : (upd (upd H L (.lst [])) b (.ins C dx f1)) b = some (.ins C dx f1) := upd_same
  have h1L : (upd (upd H L (.lst [])) b (.ins C dx f1)) L = some (.lst []) := by rw [upd_ne nb]; exact upd_same
  have keep1 : ∀ x o, x ≠ b → H x = some o → (upd (upd H L (.lst [])) b (.ins C dx f1)) x = some o := fun x o hx ho => by
    rw [upd_ne hx, upd_ne (by rintro rfl; rw [nL] at ho; cases ho)]
    exact ho
  generalize upd (upd H L (.lst [])) b (.ins C dx f1) = H1 at h1b h1L keep1
  intro D nD
  have nDb : b ≠ D := by
    rintro rfl
    rw [h1b] at nD
    cases nD
  have nDL : L ≠ D := by
    rintro rfl
    rw [h1L] at nD
    cases nD
  refine ⟨_, rfl, b, C, dx, f1, rfl, by rw [upd_ne nDb]; exact h1b, c, n2, by omega, ?_⟩
  refine ⟨_, rfl, b, C, dx, _, rfl, upd_same, c, n3, by have := length_putF (PySem.Str.ofString "_plans") (V.ref D) f1; omega, ?_⟩
  refine q L _ nL (fun x o hx ho => ?_) ⟨dx, _, [], upd_same, ?_, ?_, nb, .nil, ?_⟩
  · rw [upd_ne hx, upd_ne hx, upd_ne (by rintro rfl; rw [keep1 _ _ hx ho] at nD; cases nD)]
    exact keep1 _ _ hx ho
  · rw [lookup_putF, if_neg (by decide +kernel), lookup_putF, if_neg (by decide +kernel)]
    exact k1
  · rw [upd_ne nb, upd_ne nb, upd_ne nDL]
    exact h1L
  · have a := length_putF (PySem.Str.ofString "_plans") (V.ref D) f1
    have b := length_putF (PySem.Str.ofString "_worked") (V.int 0) (putF (PySem.Str.ofString "_plans") (V.ref D) f1)
    exact (z1.put (f := PySem.Str.ofString "_plans") (v := V.ref D) (by omega) (by decide +kernel)).put (by omega) (by decide +kernel)

theorem m_Book_put {C CR : Addr} {qual pre suf : Str} (B : BI mg) (hMOST : ∃ t, mg "MOST_JOBS" = some (.int 12 t)) (na : NoAttr K C "_jobs") (TRefused : ZXR.ErrTxt P K mg CR "Refused" pre suf qual) (F : MAt K C "put" "Book.put" sBook_put ["self", "job"]) : MetX P w K mg base 2 C "put" (spBPut K C CR) := by
  refine F.okX scBook_put (fun vs H Q E h => ?_) (fun f cdv A outer s H vs Q E hr h => ?_)
  · obtain ⟨b, L, v, js, j, rfl, _⟩ := h
    rfl
  obtain ⟨b, L, v, js, j, rfl, hb, iv, nd, hl, q0, q1⟩ := h
  obtain ⟨dx, fs, xs, hb, hf, hL, nb, hI, fl⟩ := hb
  obtain ⟨tM, hMOST_JOBS⟩ := hMOST
  refine ⟨_, (pss_cons (ps_setLc (i := 2) (own := [("each", 3)]) (g := gName 3) (tt := tYes) rfl scBook_put.nd rfl rfl (sw_true rfl rfl rfl (by decide +kernel)) (pi_list (pe_fld (pv 0) rfl)) (blkOk_by (own := [("each", 3)]) (N := ["self", "job", "names", "each"]) (sc := defScope sBook_put) (by decide +kernel)) (fun _ _ _ _ _ => (pg_name (i := 3) scBook_put.nd rfl (Or.inl rfl))) (fun _ _ _ _ _ => pts_nil) (fun _ _ _ _ _ => (pe_ix (ix_tupK (K := K) rfl) (pv 3) pe_int (fun _ _ => rfl))))
      (pss_one (ps_if (pt_cmpR op_in_seq (pe_ix ix_tup (pv 1) pe_int (fun _ _ => rfl)) (pv 2) rfl)
        (pss_one (ps_asg (pv 1) (pg_sub (pe_fld (pv 0) rfl) (pe_bm PySem.F.plainAttrs_list PySem.F.slot_list_index PySem.F.type_list_index mt_index (pv 2) (pa_cons (pe_ix ix_tup (pv 1) pe_int (fun _ _ => rfl)) pa_nil)) set_list)))
        (pss_one (ps_if (pt_cmpR op_ge (pe_callB call_len_seq rfl B.len PySem.boot_len (pa_cons (pv 2) pa_nil)) (pe_glob (v := .int 12) rfl hMOST_JOBS ⟨_, rfl⟩) (nomark _))
          (pss_one (ZXR.ps_raiseE rfl TRefused hr (by decide) (L2N.takes_of rfl rfl rfl rfl) (pa_cons pe_str pa_nil)))
          (pss_one (ps_expr (pe_bm PySem.F.plainAttrs_list PySem.F.slot_list_append PySem.F.type_list_append mt_append (pe_fld (pv 0) rfl) (pa_cons (pv 1) pa_nil))))))))), ?_⟩
  have c : Cls K C := by
    obtain ⟨_, _, c, _⟩ := F.ex
    exact c
  have lx : xs.length = js.length := by rw [hI.len, List.length_map]
  obtain ⟨tj, rfl, sj⟩ := job_at iv
  refine ⟨_, rfl, b, C, dx, fs, _, rfl, hb, c, na, hf, ?_⟩
  refine ⟨L, rfl, ⟨_, SqL.of hL⟩, fun D hD => ?_⟩
  refine lc_list (xs := xs) (fun i H8 => Same H H8 ∧ H8 D = some (.lst (((js.take i).map (·.n)).map V.str))) ⟨same_upd hD, upd_same⟩ (fun i H8 _ h => SqL.of (h.1 _ _ hL)) ?_ ?_
  · rintro i x H8 hx ⟨sm, hc⟩
    obtain ⟨d, hd, ix⟩ := hI.at hx
    obtain ⟨k, hk, rfl⟩ := getJ hd
    have il : i < js.length := (List.getElem?_eq_some_iff.mp hk).1
    obtain ⟨tk, rfl, sk⟩ := job_at (ix.to (Same.tm sm))
    refine ⟨rfl, _, rfl, tk, _, 0, _, rfl, rfl, sk, rfl, _, hc, small5' (by rw [List.length_map, List.length_map, List.length_take]; omega), Z.Same.mut sm hD, ?_⟩
    rw [upd_same, List.take_add_one, hk]
    simp only [Option.toList, List.map_append, List.map_cons, List.map_nil]
  rintro H3 ⟨s3, h3⟩
  rw [lx, List.take_length] at h3
  have hb3 := s3 _ _ hb
  have hL3 := s3 _ _ hL
  have sj3 := Tm.sq (Same.tm s3) sj
  refine ⟨_, rfl, tj, _, 0, _, rfl, rfl, sj3, rfl, _, rfl, D, _, rfl, .inl (SqL.of h3), rfl, List.all_eq_true.mpr (fun z hz => ?_), _, rfl, ?_⟩
  · obtain ⟨j', _, rfl⟩ := List.mem_map.mp hz
    rfl
  show ite (inV (V.str j.n) ((js.map (·.n)).map V.str) = true) _ _
  rw [inV_str]
  have fl3 : ((js.map (·.n)).map V.str).all flatV = true := List.all_eq_true.mpr fun z hz => by
    obtain ⟨j', _, rfl⟩ := List.mem_map.mp hz
    rfl
  cases fi : js.findIdx? fun i => decide (i.n = j.n) with
  | some i0 =>
    obtain ⟨i1, i2, i3⟩ := List.findIdx?_eq_some_iff_getElem.mp fi
    have en : js[i0].n = j.n := of_decide_eq_true i2
    have m : j.n ∈ js.map (·.n) := by rw [← en]; exact List.mem_map_of_mem (List.getElem_mem i1)
    have pj : putJ j js = js.set i0 j := by unfold putJ; rw [fi]
    rw [pj] at q1
    rw [decide_eq_true m]
    have get : ∀ k, (h : k < js.length) → ((js.map (·.n)).map V.str)[k]? = some (V.str js[k].n) := fun k h => by
      rw [List.getElem?_map, List.getElem?_map, List.getElem?_eq_getElem h]
      rfl
    refine iteT ⟨_, rfl, _, rfl, b, C, dx, fs, _, rfl, hb3, c, na, hf, _, rfl, .inl ⟨rfl, _, SqL.of h3⟩, _, rfl, tj, _, 0, _, rfl, rfl, sj3, rfl, D, _, _, i0, _, rfl, rfl, SqL.of h3, rfl, fl3, get i0 i1, by rw [en, eqV_str]; exact decide_eq_true rfl, fun k z hk hz => ?_, L, xs, i0, i0, rfl, rfl, hL3, ?_, ?_⟩
    · have kl : k < js.length := by omega
      rw [get k kl] at hz
      cases hz
      rw [eqV_str]
      have := i3 k hk
      exact decide_eq_false fun z => this (decide_eq_true z)
    · unfold ixN
      rw [if_pos (by omega), if_pos (by omega)]
      rfl
    · refine q1 (.inl m) _ (fun x o hx hy ho => ?_) ⟨dx, fs, _, by rw [upd_ne (Ne.symm nb)]; exact hb3, hf, upd_same, nb, ?_, fl⟩
      · rw [upd_ne hy]
        exact s3 _ _ ho
      · rw [List.map_set]
        exact ((hI.to (Same.tm s3)).set (iv.to (Same.tm s3)) i0).to (Tm.lst hL3)
  | none =>
    have m : j.n ∉ js.map (·.n) := fun h => by
      obtain ⟨k, hk, e⟩ := List.mem_map.mp h
      have := List.findIdx?_eq_none_iff.mp fi k hk
      rw [decide_eq_true e] at this
      cases this
    have pj : putJ j js = js ++ [j] := by unfold putJ; rw [fi]
    rw [pj] at q1
    rw [decide_eq_false m]
    refine iteF ⟨_, rfl, D, _, rfl, .inl (SqL.of h3), _, _, rfl, rfl, _, rfl, ite2 (fun e => ?_) (fun e => ?_)⟩
    · have e1 : 12 ≤ js.length := by
        have := of_decide_eq_true e
        rw [List.length_map, List.length_map] at this
        omega
      exact ⟨_, rfl, .inr ⟨_, rfl, by decide⟩, fun d hd => q0 m e1 d _ s3 hd⟩
    · have e1 : js.length < 12 := by
        have : ¬ ((12 : Int) ≤ ((((js.map (·.n)).map V.str).length : Nat) : Int)) := of_decide_eq_false (Bool.eq_false_iff.mpr e)
        rw [List.length_map, List.length_map] at this
        omega
      refine ⟨_, rfl, b, C, dx, fs, _, rfl, hb3, c, na, hf, .inl ⟨rfl, _, SqL.of hL3⟩, _, rfl, L, xs, _, rfl, rfl, hL3, small5' (by omega), ?_⟩
      refine q1 (.inr e1) _ (fun x o hx hy ho => ?_) ⟨dx, fs, _, by rw [upd_ne (Ne.symm nb)]; exact hb3, hf, upd_same, nb, ?_, fl⟩
      · rw [upd_ne hy]
        exact s3 _ _ ho
      · rw [List.map_append]
        exact ((hI.to (Same.tm s3)).push (iv.to (Same.tm s3))).to (Tm.lst hL3)

end
end Z

namespace Z
open PySem PySem.Spec PyProof.Rows L2
section
variable {P : Program} {w : World} {K : PySem.W.Frag} {mg : Str → Option Value} {base : Heap}
/-- _law_same(x, y) of two texts, where an exception is handled -/
def spSameT : Sp := fun vs H Q _ => ∃ i j : Str, vs = [.str i, .str j] ∧ Q (.bl (decide (i = j))) H
theorem ok_same_hotS {f : Addr} {fd : FuncData} (B : BI mg) (F : Fun K "_law_same" "_law_same" s_law_same f fd) : L2H.FnH P w K mg base CX0 1 f fd ["actual", "due"] spSameT := by
  obtain ⟨oc, od, kV, doc, pm, an, cdv, ct, osl, rfl, lk, hcd⟩ := F.ex
  refine L2H.fn_ofH lk hcd sc_law_same (fun vs H Q E h => ?_) (fun A outer s H vs Q E p hot hr h => ?_)
  · obtain ⟨i, j, rfl, _⟩ := h
    rfl
  obtain ⟨i, j, rfl, k⟩ := h
  refine ⟨_, (pss_cons (ps_if (pt_val (pe_callB call_isi rfl B.isinstance (by decide +kernel) (pa_cons (pv 1) (pa_cons (pe_bltn (v := .ty "tuple") (by rfl) B.tuple (by decide +kernel) rfl) pa_nil))))
        (pss_cons ps_never (pss_one ps_never))
        pss_nil)
      (pss_cons (ps_if (pt_cmpR op_isN (pv 1) pe_non (nomark _))
        (pss_one ps_never)
        pss_nil)
      (pss_cons (ps_if (pt_val (pe_callB call_isi rfl B.isinstance (by decide +kernel) (pa_cons (pv 1) (pa_cons (pe_bltn (v := .ty "str") (by rfl) B.str (by decide +kernel) rfl) pa_nil))))
        (pss_one (ps_ret (pe_and (pe_callB call_isi rfl B.isinstance (by decide +kernel) (pa_cons (pv 0) (pa_cons (pe_bltn (v := .ty "str") (by rfl) B.str (by decide +kernel) rfl) pa_nil))) (pe_one (pe_cmpR op_eq (pv 0) (pv 1) (nomark _))))))
        pss_nil)
      (pss_one ps_never)))), ?_⟩
  have I1 : Is K H (.str i) (.str i) := .str i
  have J1 : Is K H (.str j) (.str j) := .str j
  refine ⟨_, rfl, _, _, _, _, _, rfl, .ty _, J1.ty, kt_of (.str j) (by simp [plainD]) "tuple" (.inl rfl), _, rfl, ?_⟩
  refine iteF ⟨_, rfl, rfl, _, rfl, ?_⟩
  rw [decide_eq_false (show ¬ V.str j = V.non from fun z => nomatch z)]
  refine iteF ⟨_, rfl, _, _, _, _, _, rfl, .ty _, J1.ty, kt_of (.str j) (by simp [plainD]) "str" (.inr (.inl rfl)), _, rfl, ?_⟩
  refine iteT ⟨_, rfl, _, _, _, _, _, rfl, .ty _, I1.ty, kt_of (.str i) (by simp [plainD]) "str" (.inr (.inl rfl)), _, rfl, iteT ?_⟩
  refine ⟨_, rfl, _, rfl, rfl, ?_⟩
  rw [show decide (V.str i = V.str j) = decide (i = j) from decide_eq_decide.mpr ⟨fun z => V.str.inj z, fun z => by rw [z]⟩]
  exact k

/-- the rows behind a put -/
def putR (j : Job) (js : List Job) : List Job := if j.n ∈ js.map (·.n) ∨ js.length < 12 then putJ j js else js
theorem putJ_in {j : Job} {js : List Job} {i : Nat} (h : js.findIdx? (fun i => decide (i.n = j.n)) = some i) : putJ j js = js.set i j := by unfold putJ; rw [h]
theorem putJ_new {j : Job} {js : List Job} (h : j.n ∉ js.map (·.n)) : putJ j js = js ++ [j] := by
  unfold putJ
  cases fi : js.findIdx? fun i => decide (i.n = j.n) with
  | none => rfl
  | some i =>
    obtain ⟨i1, i2, _⟩ := List.findIdx?_eq_some_iff_getElem.mp fi
    have en : js[i].n = j.n := of_decide_eq_true i2
    exact absurd (by rw [← en]; exact List.mem_map_of_mem (List.getElem_mem i1)) h
theorem putJ_names {j : Job} {js : List Job} (h : j.n ∈ js.map (·.n)) : (putJ j js).map (·.n) = js.map (·.n) := by
  cases fi : js.findIdx? fun i => decide (i.n = j.n) with
  | none =>
    obtain ⟨k, hk, e⟩ := List.mem_map.mp h
    have := List.findIdx?_eq_none_iff.mp fi k hk
    rw [decide_eq_true e] at this
    cases this
  | some i =>
    obtain ⟨i1, i2, _⟩ := List.findIdx?_eq_some_iff_getElem.mp fi
    have en : js[i].n = j.n := of_decide_eq_true i2
    rw [putJ_in fi, List.map_set, ← en]
    have := List.set_getElem_self (as := js.map (·.n)) (i := i) (by rw [List.length_map]; exact i1)
    rw [List.getElem_map] at this
    exact this
theorem putR_nd {j : Job} {js : List Job} (h : (js.map (·.n)).Nodup) : ((putR j js).map (·.n)).Nodup := by
  unfold putR
  split
  · by_cases m : j.n ∈ js.map (·.n)
    · rw [putJ_names m]
      exact h
    · rw [putJ_new m, List.map_append]
      refine List.nodup_append.mpr ⟨h, by simp, ?_⟩
      rintro a ha b hb rfl
      simp at hb
      exact m (hb ▸ ha)
  · exact h
theorem putR_len {j : Job} {js : List Job} (h : js.length ≤ 12) : (putR j js).length ≤ 12 := by
  unfold putR
  split
  · rename_i c
    by_cases m : j.n ∈ js.map (·.n)
    · have := congrArg List.length (putJ_names m)
      rw [List.length_map, List.length_map] at this
      omega
    · rw [putJ_new m, List.length_append, List.length_singleton]
      rcases c with c | c
      · exact absurd c m
      · omega
  · exact h
def spLPut (K : PySem.W.Frag) (C : Addr) : Sp := fun vs H Q _ => ∃ (b L R : Addr) (v : V) (xs : List V) (js : List Job) (j : Job), vs = [.ref b, .ref R, v] ∧ BookAt K C b L js H ∧ H R = some (.lst xs) ∧ IsA K H xs (js.map dJob) ∧ R ≠ b ∧ R ≠ L ∧ Is K H v (dJob j) ∧ (js.map (·.n)).Nodup ∧ js.length ≤ 12 ∧
  ∀ H' xs', (∀ x o, x ≠ b → x ≠ L → x ≠ R → H x = some o → H' x = some o) → BookAt K C b L (putR j js) H' → H' R = some (.lst xs') → IsA K H' xs' ((putR j js).map dJob) → Q (.bl true) H'
theorem tk0 {X : Cx} : L2N.Takes X (fun _ _ _ _ => False) := fun _ _ x => by
  obtain ⟨a, B, sI, pins, σ, H, cls, d, e, I, nb, up, sky, na, os, ag, w⟩ := x
  exact w.elim
theorem pas0 {X : Cx} {σ : L2.St} {E : XK} : PassesAt CX0 X σ E := fun _ _ _ _ _ _ h => h.elim
theorem hot_of {X : Cx} {a : Addr} {oe : Obj} {cls : Value} {d : Option Addr} {pn : List (Addr × Obj)} (hz : L2N.Zn cls d oe) (hf : ∃ vs, oe.data = .fields vs) : L2H.HotC (X.suite a ((a, oe) :: pn)) := by
  obtain ⟨vs, hv⟩ := hf
  exact ⟨(a, oe), ⟨rfl, vs, hv, hz.2.2 vs hv⟩, List.mem_cons_self⟩
theorem ok_law_put {C CWattsError CBadText CBadJournal CRefused CTooFast fS : Addr} {fdS : FuncData} {qualRefused preRefused sufRefused : Str} (B : BI mg) (F : At K mg "_law_put" s_law_put ["book", "rows", "job"]) (M_Book_put : MetX P w K mg base 2 C "put" (spBPut K C CRefused))
    (TRefused : ZXR.ErrTxt P K mg CRefused "Refused" preRefused sufRefused qualRefused) (IRefused : ZXR.IsC K CRefused) (gWattsError : mg "WattsError" = some (.ref CWattsError)) (gRefused : mg "Refused" = some (.ref CRefused)) (gBadText : mg "BadText" = some (.ref CBadText)) (gBadJournal : mg "BadJournal" = some (.ref CBadJournal)) (gTooFast : mg "TooFast" = some (.ref CTooFast))
    (eW : PySem.W.exmOne K (.ref CRefused) (.ref CWattsError) = some true) (kR : PySem.W.kitOne K (.ref CRefused) (.ref CRefused) = some true) (kA : PySem.W.kitAny K (.ref CRefused) [.ref CBadJournal, .ref CBadText, .ref CTooFast] = some false)
    (GS1 : L2H.FnH P w K mg base CX0 1 fS fdS ["actual", "due"] spSameT) (mS : mg "_law_same" = some (.ref fS)) (kS : PySem.W.keepIn K (.ref fS) = true) (bS : Binds K fdS ["actual", "due"] []) : Ok P w K mg base 3 "_law_put" ["book", "rows", "job"] [] (spLPut K C) := by
  refine F.ok sc_law_put (fun vs H Q E h => ?_) (fun f cdv A outer s H vs Q E hr h => ?_)
  · obtain ⟨b, L, R, v, xs, js, j, rfl, _⟩ := h
    rfl
  obtain ⟨b, L, R, v, xs, js, j, rfl, hB, hR, hI, nRb, nRL, iv, nd, hl, q⟩ := h
  have hH : L2H.RoomH 1 _ := L2H.roomH_of (hr.mono (by decide))
  refine ⟨_, (pss_cons (ps_setLc (i := 3) (own := [("row", 5)]) (g := gName 5) (tt := tYes) rfl sc_law_put.nd rfl rfl (sw_true rfl rfl rfl (by decide +kernel)) (pi_list (pv 1)) (blkOk_by (own := [("row", 5)]) (N := ["book", "rows", "job", "names", "e", "row"]) (sc := defScope s_law_put) (by decide +kernel)) (fun _ _ _ _ _ => (pg_name (i := 5) sc_law_put.nd rfl (Or.inl rfl))) (fun _ _ _ _ _ => pts_nil) (fun _ _ _ _ _ => (pe_ix (ix_tupK (K := K) rfl) (pv 5) pe_int (fun _ _ => rfl))))
      (pss_cons (ps_if (pt_cmpR op_in_seq (pe_ix ix_tup (pv 2) pe_int (fun _ _ => rfl)) (pv 3) rfl)
        (pss_cons (ps_asg (pv 2) (pg_sub (pv 1) (pe_bm PySem.F.plainAttrs_list PySem.F.slot_list_index PySem.F.type_list_index mt_index (pv 3) (pa_cons (pe_ix ix_tup (pv 2) pe_int (fun _ _ => rfl)) pa_nil)) set_list))
        (pss_cons (ps_expr (pe_mtS (E := fun _ => E0) M_Book_put hr (by first | decide | exact Nat.le_refl _) (fun _ => pasX0) (pv 0) (pa_cons (pv 2) pa_nil)))
        (pss_one (ps_ret pe_bl))))
        pss_nil)
      (pss_cons (L2N.ps_try_as (i := 4) (Wout := fun _ _ _ _ => False) rfl rfl sc_law_put.nd rfl rfl ⟨rfl, by decide, Or.inl gWattsError⟩ tk0
      (fun W pn xe tk _ => (pss_one (ps_expr (by exact (pe_mtS M_Book_put hr (by first | decide | exact Nat.le_refl _) (fun σ => L2N.passAt tk σ) (pv 0) (pa_cons (pv 2) pa_nil))))))
      (fun a oe cls d pn hz hf => (pss_cons (ps_if (PW.pt (pw_or (pt_not (pt_val (pe_callB (ZXR.call_isEd TRefused IRefused hz.zc hf) rfl B.isinstance (by decide +kernel) (pa_cons (pv 4) (pa_cons (pe_glob (v := .ref CRefused) rfl gRefused rfl) pa_nil))))) (pw_or1 (pt_val (pe_callB (ZXR.call_isEt TRefused IRefused hz.zc hf) rfl B.isinstance (by decide +kernel) (pa_cons (pv 4) (pa_cons (pe_tup (pa_cons (pe_glob (v := .ref CBadJournal) rfl gBadJournal rfl) (pa_cons (pe_glob (v := .ref CBadText) rfl gBadText rfl) (pa_cons (pe_glob (v := .ref CTooFast) rfl gTooFast rfl) pa_nil)))) pa_nil)))))))
          (pss_one (ps_ret pe_bl))
          pss_nil)
        (pss_one (ps_ret (pe_and (pe_cmpR op_eq (pe_callB (call_lenK (K := K) rfl) rfl B.len PySem.boot_len (pa_cons (pv 1) pa_nil)) pe_int (nomark _)) (pe_one (L2H.pe_callH (E := fun _ => E0) GS1 ⟨hH.dp, hH.un⟩ (hot_of hz hf) rfl mS kS bS (fun _ => pas0) (pa_cons (ZXR.pe_line TRefused hz.zc hf (pv 4)) (pa_cons pe_str pa_nil))))))))))
      (pss_cons (ps_expr (pe_bm PySem.F.plainAttrs_list PySem.F.slot_list_append PySem.F.type_list_append mt_append (pv 1) (pa_cons (pv 2) pa_nil)))
      (pss_one (ps_ret (pe_cmpR op_le (pe_callB call_len_seq rfl B.len PySem.boot_len (pa_cons (pv 1) pa_nil)) pe_int (nomark _)))))))), ?_⟩
  have c : Cls K C := by
    obtain ⟨_, _, _, c, _⟩ := M_Book_put.ex
    exact c
  obtain ⟨dx, fs, ys, hb, hf, hL, nb, hJ, fl⟩ := hB.ex
  have lx : xs.length = js.length := by rw [hI.len, List.length_map]
  obtain ⟨tj, rfl, sj⟩ := job_at iv
  refine ⟨_, rfl, R, rfl, ⟨_, SqL.of hR⟩, fun D hD => ?_⟩
  have nDR : R ≠ D := by
    rintro rfl
    rw [hR] at hD
    cases hD
  refine lc_list (xs := xs) (fun i H8 => Same H H8 ∧ H8 D = some (.lst (((js.take i).map (·.n)).map V.str))) ⟨same_upd hD, upd_same⟩ (fun i H8 _ h => SqL.of (h.1 _ _ hR)) ?_ ?_
  · rintro i x H8 hx ⟨sm, hc⟩
    obtain ⟨d, hd, ix⟩ := hI.at hx
    obtain ⟨k, hk, rfl⟩ := getJ hd
    have il : i < js.length := (List.getElem?_eq_some_iff.mp hk).1
    obtain ⟨tk, rfl, sk⟩ := job_at (ix.to (Same.tm sm))
    refine ⟨rfl, _, rfl, tk, _, 0, _, rfl, rfl, sk, rfl, _, hc, small5' (by rw [List.length_map, List.length_map, List.length_take]; omega), Z.Same.mut sm hD, ?_⟩
    rw [upd_same, List.take_add_one, hk]
    simp only [Option.toList, List.map_append, List.map_cons, List.map_nil]
  rintro H3 ⟨s3, h3⟩
  rw [lx, List.take_length] at h3
  have hb3 := s3 _ _ hb
  have hR3 := s3 _ _ hR
  have sj3 := Tm.sq (Same.tm s3) sj
  have B3 : BookAt K C b L js H3 := hB.keep (fun o h => s3 _ _ h) (fun o h => s3 _ _ h) (Same.tm s3)
  refine ⟨_, rfl, tj, _, 0, _, rfl, rfl, sj3, rfl, _, rfl, D, _, rfl, .inl (SqL.of h3), rfl, List.all_eq_true.mpr (fun z hz => ?_), _, rfl, ?_⟩
  · obtain ⟨j', _, rfl⟩ := List.mem_map.mp hz
    rfl
  show ite (inV (V.str j.n) ((js.map (·.n)).map V.str) = true) _ _
  rw [inV_str]
  have fl3 : ((js.map (·.n)).map V.str).all flatV = true := List.all_eq_true.mpr fun z hz => by
    obtain ⟨j', _, rfl⟩ := List.mem_map.mp hz
    rfl
  have lkp : List.lookup ("put" : Str) fs = none := fl.2 _ (List.mem_cons_self ..)
  cases fi : js.findIdx? fun i => decide (i.n = j.n) with
  | some i0 =>
    obtain ⟨i1, i2, i3⟩ := List.findIdx?_eq_some_iff_getElem.mp fi
    have en : js[i0].n = j.n := of_decide_eq_true i2
    have m : j.n ∈ js.map (·.n) := by rw [← en]; exact List.mem_map_of_mem (List.getElem_mem i1)
    have pj : putJ j js = js.set i0 j := putJ_in fi
    have pr : putR j js = putJ j js := if_pos (.inl m)
    rw [decide_eq_true m]
    have get : ∀ k, (h : k < js.length) → ((js.map (·.n)).map V.str)[k]? = some (V.str js[k].n) := fun k h => by
      rw [List.getElem?_map, List.getElem?_map, List.getElem?_eq_getElem h]
      rfl
    refine iteT ⟨_, rfl, _, rfl, _, rfl, .inl ⟨rfl, _, SqL.of h3⟩, _, rfl, tj, _, 0, _, rfl, rfl, sj3, rfl, D, _, _, i0, _, rfl, rfl, SqL.of h3, rfl, fl3, get i0 i1, by rw [en, eqV_str]; exact decide_eq_true rfl, fun k z hk hz => ?_, R, xs, i0, i0, rfl, rfl, hR3, ?_, ?_⟩
    · have kl : k < js.length := by omega
      rw [get k kl] at hz
      cases hz
      rw [eqV_str]
      have := i3 k hk
      exact decide_eq_false fun z => this (decide_eq_true z)
    · unfold ixN
      rw [if_pos (by omega), if_pos (by omega)]
      rfl
    · have tmR : Tm H3 (upd H3 R (.lst (xs.set i0 (.ref tj)))) := Tm.lst hR3
      have hb4 : (upd H3 R (.lst (xs.set i0 (.ref tj)))) b = some (.ins C dx fs) := by rw [upd_ne (Ne.symm nRb)]; exact hb3
      refine ⟨_, rfl, b, dx, fs, rfl, hb4, lkp, _, rfl, b, L, _, js, j, rfl, B3.keep (fun o h => by rw [upd_ne (Ne.symm nRb)]; exact h) (fun o h => by rw [upd_ne (Ne.symm nRL)]; exact h) tmR, (iv.to (Same.tm s3)).to tmR, nd, hl, fun z => absurd m z, fun _ H5 k5 B5 => ?_⟩
      refine q H5 (xs.set i0 (.ref tj)) (fun x o h1 h2 h3' ho => k5 x o h1 h2 (by rw [upd_ne h3']; exact s3 _ _ ho)) (by rw [pr]; exact B5) (k5 _ _ nRb nRL upd_same) ?_
      rw [pr, pj, List.map_set]
      refine IsA.to (((hI.to (Same.tm s3)).set (iv.to (Same.tm s3)) i0).to tmR) fun a zs h => ?_
      rcases h with h | ⟨o, h⟩
      · refine .inl (k5 _ _ ?_ ?_ h)
        · rintro rfl
          rw [hb4] at h
          cases h
        · rintro rfl
          rw [upd_ne (Ne.symm nRL), s3 _ _ hL] at h
          cases h
      · refine .inr ⟨o, k5 _ _ ?_ ?_ h⟩
        · rintro rfl
          rw [hb4] at h
          cases h
        · rintro rfl
          rw [upd_ne (Ne.symm nRL), s3 _ _ hL] at h
          cases h
  | none =>
    have m : j.n ∉ js.map (·.n) := fun h => by
      obtain ⟨k, hk, e⟩ := List.mem_map.mp h
      have := List.findIdx?_eq_none_iff.mp fi k hk
      rw [decide_eq_true e] at this
      cases this
    rw [decide_eq_false m]
    refine iteF ⟨_, rfl, b, dx, fs, rfl, hb3, lkp, _, rfl, b, L, _, js, j, rfl, B3, iv.to (Same.tm s3), nd, hl, fun _ l12 d H5 s5 hd => ?_, fun z H5 k5 B5 => ?_⟩
    · refine ⟨true, eW, fun _ a0 _ => ?_, fun z => Bool.noConfusion z⟩
      refine ⟨_, rfl, rfl, .ref CRefused, .ref CRefused, true, d, _, rfl, upd_same, rfl, fun u r => r, kR, _, rfl, ?_⟩
      refine iteF ⟨_, rfl, (by show 3 ≤ sizeLine; decide), fun tt ntt => ?_⟩
      have stt := same_upd (o := .tup [.ref CBadJournal, .ref CBadText, .ref CTooFast]) ntt
      refine ⟨rfl, tt, _, [.ref CBadJournal, .ref CBadText, .ref CTooFast], false, d, _, rfl, stt _ _ upd_same, rfl, upd_same, fun its r => ?_, kA, _, rfl, iteF ?_⟩
      · cases r with
        | cons r1 r => cases r with
          | cons r2 r => cases r with
            | cons r3 r =>
              cases r
              cases r1; cases r2; cases r3
              rfl
      have hR5 : (upd (upd H5 d (.xd [(("reason" : Str), .str ("full" : Str))])) tt (.tup [.ref CBadJournal, .ref CBadText, .ref CTooFast])) R = some (.lst xs) := stt _ _ ((same_upd hd) _ _ (s5 _ _ hR3))
      have lx12 : xs.length = 12 := by omega
      refine ⟨_, rfl, R, _, rfl, .inl (SqL.of hR5), rfl, _, rfl, ?_⟩
      rw [lx12]
      refine iteT ⟨_, rfl, rfl, rfl, d, _, rfl, stt _ _ upd_same, ("full" : Str), ("full" : Str), rfl, ?_⟩
      rw [decide_eq_true rfl]
      have kp : ∀ x o, H x = some o → (upd (upd H5 d (.xd [(("reason" : Str), .str ("full" : Str))])) tt (.tup [.ref CBadJournal, .ref CBadText, .ref CTooFast])) x = some o := fun x o ho => stt _ _ ((same_upd hd) _ _ (s5 _ _ (s3 _ _ ho)))
      have pr : putR j js = js := if_neg fun z => by
        rcases z with z | z
        · exact m z
        · omega
      refine q _ xs (fun x o _ _ _ ho => kp x o ho) ?_ hR5 ?_
      · rw [pr]
        exact hB.keep (fun o h => kp _ _ h) (fun o h => kp _ _ h) (Same.tm fun x o h => kp x o h)
      · rw [pr]
        exact hI.to (Same.tm fun x o h => kp x o h)
    · have e12 : js.length < 12 := by
        rcases z with z | z
        · exact absurd z m
        · exact z
      have pr : putR j js = js ++ [j] := by
        unfold putR
        rw [if_pos (.inr e12), putJ_new m]
      rw [putJ_new m] at B5
      have tm5 : Tm H3 H5 := fun a zs h => by
        rcases h with h | ⟨o, h⟩
        · refine .inl (k5 _ _ ?_ ?_ h)
          · rintro rfl
            rw [hb3] at h
            cases h
          · rintro rfl
            rw [s3 _ _ hL] at h
            cases h
        · refine .inr ⟨o, k5 _ _ ?_ ?_ h⟩
          · rintro rfl
            rw [hb3] at h
            cases h
          · rintro rfl
            rw [s3 _ _ hL] at h
            cases h
      have hR5 := k5 _ _ nRb nRL hR3
      refine ⟨_, rfl, .inl ⟨rfl, _, SqL.of hR5⟩, _, rfl, R, xs, _, rfl, rfl, hR5, small5' (by omega), ?_⟩
      refine ⟨_, rfl, R, _, rfl, .inl (SqL.of upd_same), _, _, rfl, rfl, ?_⟩
      have e13 : decide (((xs ++ [V.ref tj]).length : Int) ≤ 12) = true := decide_eq_true (by rw [List.length_append, List.length_singleton]; omega)
      show Q (V.bl (decide (((xs ++ [V.ref tj]).length : Int) ≤ 12))) _
      rw [e13]
      have tmR : Tm H5 (upd H5 R (.lst (xs ++ [.ref tj]))) := Tm.lst hR5
      refine q _ (xs ++ [.ref tj]) (fun x o h1 h2 h3' ho => ?_) ?_ upd_same ?_
      · rw [upd_ne h3']
        exact k5 _ _ h1 h2 (s3 _ _ ho)
      · rw [pr]
        exact B5.keep (fun o h => by rw [upd_ne (Ne.symm nRb)]; exact h) (fun o h => by rw [upd_ne (Ne.symm nRL)]; exact h) tmR
      · rw [pr, List.map_append]
        exact (((hI.to (Same.tm s3)).to tm5).push ((iv.to (Same.tm s3)).to tm5)).to tmR

end
end Z

namespace Z
open PySem PySem.Spec PyProof.Rows L2
section
variable {P : Program} {w : World} {K : PySem.W.Frag} {mg : Str → Option Value} {base : Heap}
theorem filter_erase {n : Str} : ∀ {js : List Job} {k : Nat} {j : Job}, (js.map (·.n)).Nodup → js[k]? = some j → j.n = n → (js.filter fun j => decide (j.n ≠ n)) = js.eraseIdx k
  | [], _, _, _, h, _ => by simp at h
  | a :: r, 0, j, nd, h, e => by
    have e1 : a = j := by simpa using h
    subst e1
    have nd2 := List.nodup_cons.mp nd
    rw [List.filter_cons, if_neg (by simp [e])]
    show _ = r
    refine List.filter_eq_self.mpr fun x hx => decide_eq_true fun z => nd2.1 ?_
    show a.n ∈ r.map (·.n)
    rw [show a.n = x.n by rw [e, z]]
    exact List.mem_map_of_mem hx
  | a :: r, k + 1, j, nd, h, e => by
    have nd2 := List.nodup_cons.mp nd
    have h1 : r[k]? = some j := by simpa using h
    have na : a.n ≠ n := fun z => nd2.1 (by
      show a.n ∈ r.map (·.n)
      rw [z, ← e]
      exact List.mem_map_of_mem (List.mem_of_getElem? h1))
    rw [List.filter_cons, if_pos (by simp [na])]
    show _ = a :: r.eraseIdx k
    rw [filter_erase nd2.2 h1 e]
theorem isA_erase {K : PySem.W.Frag} {H : Hp} : ∀ {vs : List V} {ds : List PyData} (i : Nat), IsA K H vs ds → IsA K H (vs.eraseIdx i) (ds.eraseIdx i)
  | _, _, _, .nil => .nil
  | _, _, 0, .cons _ t => t
  | _, _, i + 1, .cons h t => .cons h (isA_erase i t)
theorem erase_map {α β : Type} (f : α → β) : ∀ (l : List α) (k : Nat), (l.eraseIdx k).map f = (l.map f).eraseIdx k
  | [], _ => rfl
  | a :: r, 0 => rfl
  | a :: r, k + 1 => by
    show f a :: (r.eraseIdx k).map f = f a :: (r.map f).eraseIdx k
    rw [erase_map f r k]
def spLDrop (K : PySem.W.Frag) (C : Addr) : Sp := fun vs H Q _ => ∃ (b L R : Addr) (n : Str) (xs : List V) (js : List Job), vs = [.ref b, .ref R, .str n] ∧ BookAt K C b L js H ∧ H R = some (.lst xs) ∧ IsA K H xs (js.map dJob) ∧ R ≠ b ∧ R ≠ L ∧ (js.map (·.n)).Nodup ∧ js.length ≤ 12 ∧
  ∀ L' H' xs', (∀ x o, x ≠ b → x ≠ L → x ≠ R → H x = some o → H' x = some o) → (L' = L ∨ H L' = none) → BookAt K C b L' (js.filter fun j => decide (j.n ≠ n)) H' → H' R = some (.lst xs') → IsA K H' xs' ((js.filter fun j => decide (j.n ≠ n)).map dJob) → Q (.bl true) H'
theorem ok_law_drop {C CWattsError CRefused fS : Addr} {fdS : FuncData} {qualRefused preRefused sufRefused : Str} (B : BI mg) (F : At K mg "_law_drop" s_law_drop ["book", "rows", "name"]) (M_Book_drop : MetX P w K mg base 2 C "drop" (spBDrop K C CRefused))
    (TRefused : ZXR.ErrTxt P K mg CRefused "Refused" preRefused sufRefused qualRefused) (IRefused : ZXR.IsC K CRefused) (gWattsError : mg "WattsError" = some (.ref CWattsError)) (gRefused : mg "Refused" = some (.ref CRefused))
    (eW : PySem.W.exmOne K (.ref CRefused) (.ref CWattsError) = some true) (kR : PySem.W.kitOne K (.ref CRefused) (.ref CRefused) = some true)
    (GS1 : L2H.FnH P w K mg base CX0 1 fS fdS ["actual", "due"] spSameT) (mS : mg "_law_same" = some (.ref fS)) (kS : PySem.W.keepIn K (.ref fS) = true) (bS : Binds K fdS ["actual", "due"] []) : Ok P w K mg base 3 "_law_drop" ["book", "rows", "name"] [] (spLDrop K C) := by
  refine F.ok sc_law_drop (fun vs H Q E h => ?_) (fun f cdv A outer s H vs Q E hr h => ?_)
  · obtain ⟨b, L, R, n, xs, js, rfl, _⟩ := h
    rfl
  obtain ⟨b, L, R, n, xs, js, rfl, hB, hR, hI, nRb, nRL, nd, hl, q⟩ := h
  have hH : L2H.RoomH 1 _ := L2H.roomH_of (hr.mono (by decide))
  refine ⟨_, (pss_cons (ps_setLc (i := 3) (own := [("row", 5)]) (g := gName 5) (tt := tYes) rfl sc_law_drop.nd rfl rfl (sw_true rfl rfl rfl (by decide +kernel)) (pi_list (pv 1)) (blkOk_by (own := [("row", 5)]) (N := ["book", "rows", "name", "names", "e", "row"]) (sc := defScope s_law_drop) (by decide +kernel)) (fun _ _ _ _ _ => (pg_name (i := 5) sc_law_drop.nd rfl (Or.inl rfl))) (fun _ _ _ _ _ => pts_nil) (fun _ _ _ _ _ => (pe_ix (ix_tupK (K := K) rfl) (pv 5) pe_int (fun _ _ => rfl))))
      (pss_cons (L2N.ps_try_as (i := 4) (Wout := fun _ _ _ _ => False) rfl rfl sc_law_drop.nd rfl rfl ⟨rfl, by decide, Or.inl gWattsError⟩ tk0
      (fun W pn xe tk _ => (pss_one (ps_expr (by exact (pe_mtS M_Book_drop hr (by first | decide | exact Nat.le_refl _) (fun σ => L2N.passAt tk σ) (pv 0) (pa_cons (pv 2) pa_nil))))))
      (fun a oe cls d pn hz hf => (pss_one (ps_ret (pe_and (pe_cmpR (op_notInK (K := K) rfl) (pv 2) (pv 3) rfl) (pe_and (pe_callB (ZXR.call_isEd TRefused IRefused hz.zc hf) rfl B.isinstance (by decide +kernel) (pa_cons (pv 4) (pa_cons (pe_glob (v := .ref CRefused) rfl gRefused rfl) pa_nil))) (pe_one (L2H.pe_callH (E := fun _ => E0) GS1 ⟨hH.dp, hH.un⟩ (hot_of hz hf) rfl mS kS bS (fun _ => pas0) (pa_cons (ZXR.pe_line TRefused hz.zc hf (pv 4)) (pa_cons pe_str pa_nil))))))))))
      (pss_cons (ps_if (pt_cmpR op_notIn_seq (pv 2) (pv 3) rfl)
        (pss_one (ps_ret pe_bl))
        pss_nil)
      (pss_cons (ps_expr (pe_bm PySem.F.plainAttrs_list PySem.F.slot_list_pop PySem.F.type_list_pop mt_popAt (pv 1) (pa_cons (pe_bm PySem.F.plainAttrs_list PySem.F.slot_list_index PySem.F.type_list_index mt_index (pv 3) (pa_cons (pv 2) pa_nil)) pa_nil)))
      (pss_one (ps_ret pe_bl)))))), ?_⟩
  have c : Cls K C := by
    obtain ⟨_, _, _, c, _⟩ := M_Book_drop.ex
    exact c
  obtain ⟨dx, fs, ys, hb, hf, hL, nb, hJ, fl⟩ := hB.ex
  have lx : xs.length = js.length := by rw [hI.len, List.length_map]
  refine ⟨_, rfl, R, rfl, ⟨_, SqL.of hR⟩, fun D hD => ?_⟩
  have nDR : R ≠ D := by
    rintro rfl
    rw [hR] at hD
    cases hD
  refine lc_list (xs := xs) (fun i H8 => Same H H8 ∧ H8 D = some (.lst (((js.take i).map (·.n)).map V.str))) ⟨same_upd hD, upd_same⟩ (fun i H8 _ h => SqL.of (h.1 _ _ hR)) ?_ ?_
  · rintro i x H8 hx ⟨sm, hc⟩
    obtain ⟨d, hd, ix⟩ := hI.at hx
    obtain ⟨k, hk, rfl⟩ := getJ hd
    have il : i < js.length := (List.getElem?_eq_some_iff.mp hk).1
    obtain ⟨tk, rfl, sk⟩ := job_at (ix.to (Same.tm sm))
    refine ⟨rfl, _, rfl, tk, _, 0, _, rfl, rfl, sk, rfl, _, hc, small5' (by rw [List.length_map, List.length_map, List.length_take]; omega), Z.Same.mut sm hD, ?_⟩
    rw [upd_same, List.take_add_one, hk]
    simp only [Option.toList, List.map_append, List.map_cons, List.map_nil]
  rintro H3 ⟨s3, h3⟩
  rw [lx, List.take_length] at h3
  have hb3 := s3 _ _ hb
  have hR3 := s3 _ _ hR
  have B3 : BookAt K C b L js H3 := hB.keep (fun o h => s3 _ _ h) (fun o h => s3 _ _ h) (Same.tm s3)
  have lkp : List.lookup ("drop" : Str) fs = none := fl.2 _ (List.mem_cons_of_mem _ (List.mem_cons_self ..))
  have fl3 : ((js.map (·.n)).map V.str).all flatV = true := List.all_eq_true.mpr fun z hz => by
    obtain ⟨j', _, rfl⟩ := List.mem_map.mp hz
    rfl
  refine ⟨_, rfl, b, dx, fs, rfl, hb3, lkp, _, rfl, b, L, js, n, rfl, B3, by omega, fun no d H5 s5 hd => ?_, fun ex L' H5 nL' k5 B5 => ?_⟩
  · refine ⟨true, eW, fun _ a0 _ => ?_, fun z => Bool.noConfusion z⟩
    have kp : ∀ x o, H x = some o → (upd H5 d (.xd [(("reason" : Str), .str ("unknown" : Str))])) x = some o := fun x o ho => ((same_upd hd) _ _ (s5 _ _ (s3 _ _ ho)))
    have m : n ∉ js.map (·.n) := fun z => by
      obtain ⟨j, hj, e⟩ := List.mem_map.mp z
      exact no j hj e
    refine ⟨_, rfl, _, rfl, D, _, rfl, .inl (SqL.of ((same_upd hd) _ _ (s5 _ _ h3))), rfl, fl3, ?_⟩
    refine ⟨_, rfl, ?_⟩
    show ite ((!inV (V.str n) ((js.map (·.n)).map V.str)) = true) _ _
    rw [show inV (V.str n) ((js.map (·.n)).map V.str) = false by rw [inV_str]; exact decide_eq_false m]
    refine iteT ⟨_, rfl, rfl, .ref CRefused, .ref CRefused, true, d, _, rfl, upd_same, rfl, fun u r => r, kR, _, rfl, iteT ?_⟩
    refine ⟨_, rfl, rfl, rfl, d, _, rfl, upd_same, ("unknown" : Str), ("unknown" : Str), rfl, ?_⟩
    rw [decide_eq_true rfl]
    have fe : (js.filter fun j => decide (j.n ≠ n)) = js := List.filter_eq_self.mpr fun j hj => decide_eq_true (no j hj)
    rw [fe] at q
    exact q L _ xs (fun x o _ _ _ ho => kp x o ho) (.inl rfl) (hB.keep (fun o h => kp _ _ h) (fun o h => kp _ _ h) (Same.tm fun x o h => kp x o h)) (kp _ _ hR) (hI.to (Same.tm fun x o h => kp x o h))
  · obtain ⟨j, hj, en⟩ := ex
    have m : n ∈ js.map (·.n) := by rw [← en]; exact List.mem_map_of_mem hj
    have h5 : H5 D = some (.lst ((js.map (·.n)).map V.str)) := k5 _ _ (by rintro rfl; rw [hb] at hD; cases hD) h3
    have hR5 := k5 _ _ nRb hR3
    refine ⟨_, rfl, _, rfl, D, _, rfl, .inl (SqL.of h5), rfl, fl3, _, rfl, ?_⟩
    show ite ((!inV (V.str n) ((js.map (·.n)).map V.str)) = true) _ _
    rw [show inV (V.str n) ((js.map (·.n)).map V.str) = true by rw [inV_str]; exact decide_eq_true m]
    cases fi : js.findIdx? fun i => decide (i.n = n) with
    | none =>
      obtain ⟨k, hk, e⟩ := List.mem_map.mp m
      have := List.findIdx?_eq_none_iff.mp fi k hk
      rw [decide_eq_true e] at this
      cases this
    | some i0 =>
    obtain ⟨i1, i2, i3⟩ := List.findIdx?_eq_some_iff_getElem.mp fi
    have en0 : js[i0].n = n := of_decide_eq_true i2
    have get : ∀ k, (h : k < js.length) → ((js.map (·.n)).map V.str)[k]? = some (V.str js[k].n) := fun k h => by
      rw [List.getElem?_map, List.getElem?_map, List.getElem?_eq_getElem h]
      rfl
    have fe := filter_erase (n := n) nd (List.getElem?_eq_getElem i1) en0
    refine iteF ⟨_, rfl, .inl ⟨rfl, _, SqL.of hR5⟩, _, rfl, .inl ⟨rfl, _, SqL.of h5⟩, _, rfl, D, _, _, i0, _, rfl, rfl, SqL.of h5, rfl, fl3, get i0 i1, by rw [en0, eqV_str]; exact decide_eq_true rfl, fun k z hk hz => ?_, R, xs, i0, i0, xs[i0]'(by omega), rfl, rfl, hR5, by omega, by omega, ?_, List.getElem?_eq_getElem (by omega), ?_⟩
    · have kl : k < js.length := by omega
      rw [get k kl] at hz
      cases hz
      rw [eqV_str]
      have := i3 k hk
      exact decide_eq_false fun z => this (decide_eq_true z)
    · unfold seqIndex?
      have e1 : ¬ ((i0 : Int) < 0) := by omega
      simp only [if_neg e1]
      rw [if_pos (by rw [Bool.and_eq_true, decide_eq_true_eq, decide_eq_true_eq]; omega)]
      rfl
    · have tm5 : Tm H3 H5 := fun a zs h => by
        rcases h with h | ⟨o, h⟩
        · exact .inl (k5 _ _ (by rintro rfl; rw [hb3] at h; cases h) h)
        · exact .inr ⟨o, k5 _ _ (by rintro rfl; rw [hb3] at h; cases h) h⟩
      have nL : L' ≠ R := by
        rintro rfl
        rw [hR3] at nL'
        cases nL'
      have tmR : Tm H5 (upd H5 R (.lst (xs.eraseIdx i0))) := Tm.lst hR5
      refine q L' _ (xs.eraseIdx i0) (fun x o h1 h2 h3' ho => ?_) (.inr ?_) ?_ upd_same ?_
      · rw [upd_ne h3']
        exact k5 _ _ h1 (s3 _ _ ho)
      · cases z : H L' with
        | none => rfl
        | some o =>
          rw [s3 _ _ z] at nL'
          cases nL'
      · exact B5.keep (fun o h => by rw [upd_ne (Ne.symm nRb)]; exact h) (fun o h => by rw [upd_ne nL]; exact h) tmR
      · rw [fe, erase_map]
        exact (isA_erase i0 ((hI.to (Same.tm s3)).to tm5)).to tmR

end
end Z

namespace Z
open PySem PySem.Spec PyProof.Rows L2
section
variable {P : Program} {w : World} {K : PySem.W.Frag} {mg : Str → Option Value} {base : Heap}
theorem ok_law_pool (B : BI mg) (F : At K mg "_law_pool" s_law_pool ["script"]) : Ok P w K mg base 1 "_law_pool" ["script"] [] (spPool K) := by
  refine F.ok sc_law_pool (fun vs H Q E h => ?_) (fun f cdv A outer s H vs Q E hr h => ?_)
  · obtain ⟨a, ns, rfl, _⟩ := h
    rfl
  obtain ⟨a, ns, rfl, hS, hl, q⟩ := h
  refine ⟨_, (pss_one (ps_ret (pe_lst (pa_cons (pe_callTy call_list_of rfl B.list (by decide +kernel) (pa_cons (pv 0) pa_nil)) (pa_cons pe_int (pa_cons pe_int (pa_cons pe_int (pa_cons pe_int pa_nil)))))))), ?_⟩
  refine ⟨_, rfl, a, _, rfl, .inl hS, fun l hl' => ⟨(by show 5 ≤ sizeLine; decide), fun p hp => ?_⟩⟩
  have n : p ≠ l := fun e => by rw [e, upd_same] at hp; cases hp
  refine q p l _ ?_ (fun b o e => ?_) ⟨ns, 0, 0, 0, 0, n.symm, upd_same, by rw [upd_ne n.symm, upd_same], hl, by omega, by omega, by omega, by omega, by omega⟩
  · rw [upd_ne n] at hp
    exact hp
  · rw [upd_ne (fun z => by rw [z] at e; rw [upd_ne n] at hp; rw [hp] at e; cases e), upd_ne (ne_of_none e hl')]
    exact e

theorem ok_law_draw (B : BI mg) (F : At K mg "_law_draw" s_law_draw ["pool", "many"]) : Ok P w K mg base 1 "_law_draw" ["pool", "many"] [] spDraw := by
  refine F.ok sc_law_draw (fun vs H Q E h => ?_) (fun f cdv A outer s H vs Q E hr h => ?_)
  · obtain ⟨p, a, m, rfl, _⟩ := h
    rfl
  obtain ⟨p, a, m, rfl, hP, m0, m1, q⟩ := h
  refine ⟨_, (pss_cons (ps_if (pt_cmpR op_gt (pe_ix ix_list (pv 0) pe_int (fun _ _ => rfl)) pe_int (nomark _))
        (pss_cons (ps_set (i := 2) sc_law_draw.nd rfl (Or.inl rfl) (pe_op op_modN (pe_callTy call_int1 rfl B.int (by decide +kernel) (pa_cons (pe_ix ix_list (pv 0) pe_int (fun _ _ => rfl)) pa_nil)) (pv 1)))
        (pss_cons (ps_asg (pe_op op_fdivX (pe_ix ix_list (pv 0) pe_int (fun _ _ => rfl)) (pv 1)) (pg_sub (pv 0) pe_int set_list))
        (pss_one (ps_ret (pv 2)))))
        pss_nil)
      (Evl.pss_cut (ps_if (PW.pt (pw_and (pt_cmpR op_eq (pe_op op_modN (pe_callTy call_int1 rfl B.int (by decide +kernel) (pa_cons (pe_ix ix_list (pv 0) pe_int (fun _ _ => rfl)) pa_nil)) pe_int) pe_int (nomark _)) (pw_and1 (pt_cmpR op_lt (pe_ix ix_list (pv 0) pe_int (fun _ _ => rfl)) (pe_callB call_len_seq rfl B.len PySem.boot_len (pa_cons (pe_ix ix_list (pv 0) pe_int (fun _ _ => rfl)) pa_nil)) (nomark _)))))
        (pss_cons (ps_set (i := 3) sc_law_draw.nd rfl (Or.inl rfl) (pe_callB call_abs rfl B.abs (by decide +kernel) (pa_cons (pe_ix ix_list (pe_ix ix_list (pv 0) pe_int (fun _ _ => rfl)) (pe_ix ix_list (pv 0) pe_int (fun _ _ => rfl)) (fun _ _ => rfl)) pa_nil)))
        (pss_cons (ps_asg (pe_op op_add (pe_ix ix_list (pv 0) pe_int (fun _ _ => rfl)) pe_int) (pg_sub (pv 0) pe_int set_list))
        (pss_cons (ps_if (pt_cmpR op_ge (pv 3) (pe_op op_pow pe_int pe_int) (nomark _))
          (pss_cons (ps_asg (pe_op op_fdivX (pv 3) (pv 1)) (pg_sub (pv 0) pe_int set_list))
          (pss_one (ps_ret (pe_op op_modN (pe_callTy call_int1 rfl B.int (by decide +kernel) (pa_cons (pv 3) pa_nil)) (pv 1)))))
          pss_nil)
        (pss_one (ps_asg (pv 3) (pg_sub (pv 0) pe_int set_list))))))
        pss_nil)
      (pss_cons (ps_asg (pe_op op_add (pe_ix ix_list (pv 0) pe_int (fun _ _ => rfl)) pe_int) (pg_sub (pv 0) pe_int set_list))
      (pss_cons (ps_set (i := 4) sc_law_draw.nd rfl (Or.inl rfl) (pe_op op_modN (pe_callTy call_int1 rfl B.int (by decide +kernel) (pa_cons (pe_op op_add (pe_op op_add (pe_op op_mulX (pe_ix ix_list (pv 0) pe_int (fun _ _ => rfl)) pe_int) (pe_op op_mulX (pe_ix ix_list (pv 0) pe_int (fun _ _ => rfl)) pe_int)) pe_int) pa_nil)) pe_int))
      (pss_cons (ps_set (i := 4) sc_law_draw.nd rfl (Or.inl rfl) (pe_op op_modN (pe_callTy call_int1 rfl B.int (by decide +kernel) (pa_cons (pe_op op_add (pe_op op_mulX (pv 4) (pv 4)) (pe_op op_mulX (pe_ix ix_list (pv 0) pe_int (fun _ _ => rfl)) pe_int)) pa_nil)) pe_int))
      (pss_one (ps_ret (pe_op op_modN (pe_callTy call_int1 rfl B.int (by decide +kernel) (pa_cons (pv 4) pa_nil)) (pv 1))))))))), ?_⟩
  obtain ⟨ns, i, rest, last, cnt, na, hp, ha, hn, i0, r0, l0, l1, c0⟩ := hP
  have mne : m ≠ 0 := by omega
  -- what is stored at p keeps the pool
  have keep : ∀ (H' : Hp) (i' rest' last' cnt' : Int), H' p = some (.lst [.ref a, .int i', .int rest', .int last', .int cnt']) → H' a = H a → 0 ≤ i' → 0 ≤ rest' → 0 ≤ last' → last' < 1000000000000000000 → 0 ≤ cnt' → Pl p a H' :=
    fun H' i' rest' last' cnt' h1 h2 h3 h4 h5 h6 h7 => ⟨ns, i', rest', last', cnt', na, h1, by rw [h2]; exact ha, hn, h3, h4, h5, h6, h7⟩
  -- if pool[2] > 0
  refine ⟨_, rfl, p, _, 2, _, rfl, rfl, SqL.of hp, rfl, _, _, rfl, rfl, _, rfl, ite2 (fun e => ?_) (fun e => ?_)⟩
  · have e1 : 0 < rest := of_decide_eq_true e
    refine ⟨_, rfl, p, _, 2, _, rfl, rfl, SqL.of hp, rfl, .inl ⟨_, rfl, _, rfl, _, _, rfl, rfl, mne, ?_⟩⟩
    refine ⟨_, rfl, p, _, 2, _, rfl, rfl, SqL.of hp, rfl, _, rfl, _, _, rfl, rfl, divX m0 m1, ?_⟩
    refine ⟨_, rfl, p, _, 2, _, rfl, rfl, hp, rfl, ?_⟩
    exact ⟨_, rfl, q _ _ (fm0 m0) (fm1 m0) .sto (keep _ _ _ _ _ upd_same (by rw [upd_ne na]) i0 (fd0 m0 r0) l0 l1 c0)⟩
  -- behind the second if: the count is as it was
  refine ⟨fun σ' H' => ∃ (i' last' : Int) (y2 y3 y4 : Option V), σ' = [some (.ref p), some (.int m), y2, y3, y4] ∧ Kp p H H' ∧ H' p = some (.lst [.ref a, .int i', .int rest, .int last', .int cnt]) ∧ H' a = H a ∧ 0 ≤ i' ∧ 0 ≤ last' ∧ last' < 1000000000000000000, ?_, ?_⟩
  · -- the second if
    refine ⟨_, rfl, p, _, 4, _, rfl, rfl, SqL.of hp, rfl, .inl ⟨_, rfl, _, _, rfl, rfl, (show (8 : Int) ≠ 0 by decide), rfl, _, rfl, ite2 (fun e2 => ?_) (fun e2 => iteF ?_)⟩⟩
    · refine ⟨_, rfl, p, _, 1, _, rfl, rfl, SqL.of hp, rfl, _, rfl, p, _, 0, _, rfl, rfl, SqL.of hp, rfl, a, _, rfl, .inl (SqL.of ha), _, _, rfl, rfl, _, rfl, ite2 (fun e3 => ?_) (fun e3 => ?_)⟩
      · have e4 : i < ((ns.map V.int).length : Int) := of_decide_eq_true e3
        rw [List.length_map] at e4
        have hi : i.toNat < ns.length := by omega
        have g0 : (ns.map V.int)[i.toNat]? = some (.int ns[i.toNat]) := by
          rw [List.getElem?_map, List.getElem?_eq_getElem hi]
          rfl
        have g : atI (ns.map V.int) i = some (.int ns[i.toNat]) := at_of (by omega) g0
        -- cell = abs(..)
        refine ⟨_, rfl, p, _, 0, _, rfl, rfl, SqL.of hp, rfl, _, rfl, p, _, 1, _, rfl, rfl, SqL.of hp, rfl, a, _, i, _, rfl, rfl, SqL.of ha, g, _, rfl, ?_⟩
        generalize hc : (if ns[i.toNat] < 0 then -ns[i.toNat] else ns[i.toNat]) = cell
        have cell0 : 0 ≤ cell := by rw [← hc]; split <;> omega
        -- pool[1] = pool[1] + 1
        refine ⟨_, rfl, p, _, 1, _, rfl, rfl, SqL.of hp, rfl, _, _, rfl, rfl, _, rfl, p, _, 1, _, rfl, rfl, hp, rfl, ?_⟩
        have h7 : (upd H p (.lst [.ref a, .int (i + 1), .int rest, .int last, .int cnt])) p = some (.lst [.ref a, .int (i + 1), .int rest, .int last, .int cnt]) := upd_same
        -- if cell >= 10 ** 18
        refine ⟨_, rfl, _, _, rfl, rfl, ⟨by decide, by decide, by decide⟩, _, _, rfl, rfl, _, rfl, ite2 (fun e5 => ?_) (fun e5 => ?_)⟩
        · refine ⟨_, rfl, _, rfl, _, _, rfl, rfl, divX m0 m1, _, rfl, p, _, 2, _, rfl, rfl, h7, rfl, ?_⟩
          refine ⟨_, rfl, .inl ⟨_, rfl, _, rfl, _, _, rfl, rfl, mne, ?_⟩⟩
          exact q _ _ (fm0 m0) (fm1 m0) (Kp.sto.trans .sto) (keep _ _ _ _ _ upd_same (by rw [upd_ne na, upd_ne na]) (by omega) (fd0 m0 cell0) l0 l1 c0)
        · have e6 : cell < 1000000000000000000 := by
            have z : ¬ ((10 : Int) ^ (18 : Int).toNat ≤ cell) := of_decide_eq_false (Bool.eq_false_iff.mpr e5)
            have y : (10 : Int) ^ (18 : Int).toNat = 1000000000000000000 := by decide +kernel
            omega
          refine ⟨_, rfl, _, rfl, p, _, 3, _, rfl, rfl, h7, rfl, ?_⟩
          exact ⟨i + 1, cell, none, some (.int cell), none, rfl, Kp.sto.trans .sto, upd_same, by rw [upd_ne na, upd_ne na], by omega, cell0, e6⟩
      · exact ⟨i, last, none, none, none, rfl, .refl _ _, hp, rfl, i0, l0, l1⟩
    · exact ⟨i, last, none, none, none, rfl, .refl _ _, hp, rfl, i0, l0, l1⟩
  · rintro σ' H' ⟨i', last', y2, y3, y4, rfl, k, h1, h2, h3, h5, h6⟩
    refine ⟨_, rfl, p, _, 4, _, rfl, rfl, SqL.of h1, rfl, _, _, rfl, rfl, _, rfl, p, _, 4, _, rfl, rfl, h1, rfl, ?_⟩
    have h7 : (upd H' p (.lst [.ref a, .int i', .int rest, .int last', .int (cnt + 1)])) p = some (.lst [.ref a, .int i', .int rest, .int last', .int (cnt + 1)]) := upd_same
    refine ⟨_, rfl, p, _, 3, _, rfl, rfl, SqL.of h7, rfl, _, _, rfl, rfl, mulR ⟨by decide, by decide⟩, ?_⟩
    refine ⟨_, rfl, p, _, 4, _, rfl, rfl, SqL.of h7, rfl, _, _, rfl, rfl, mulR ⟨by decide, by decide⟩, ?_⟩
    refine ⟨_, _, rfl, rfl, _, _, rfl, rfl, .inl ⟨_, rfl, _, _, rfl, rfl, (show (2147483647 : Int) ≠ 0 by decide), ?_⟩⟩
    refine ⟨_, rfl, _, rfl, _, _, rfl, rfl, mulF, ?_⟩
    refine ⟨_, rfl, p, _, 4, _, rfl, rfl, SqL.of h7, rfl, _, _, rfl, rfl, mulR ⟨by decide, by decide⟩, ?_⟩
    refine ⟨_, _, rfl, rfl, .inl ⟨_, rfl, _, _, rfl, rfl, (show (2147483399 : Int) ≠ 0 by decide), ?_⟩⟩
    refine ⟨_, rfl, .inl ⟨_, rfl, ?_⟩⟩
    refine ⟨_, rfl, _, _, rfl, rfl, mne, ?_⟩
    exact q _ _ (fm0 m0) (fm1 m0) (k.trans .sto) (keep _ _ _ _ _ h7 (by rw [upd_ne na]; exact h2) h3 r0 h5 h6 (by omega))

theorem ok_law_same_step (B : BI mg) (F : At K mg "_law_same" s_law_same ["actual", "due"]) {n : Nat} (C_law_same : Ok P w K mg base n "_law_same" ["actual", "due"] [] (spSame K n)) :
    Ok P w K mg base (n + 1) "_law_same" ["actual", "due"] [] (spSame K (n + 1)) := by
  refine F.ok sc_law_same (fun vs H Q E h => ?_) (fun f cdv A outer s H vs Q E hr h => ?_)
  · obtain ⟨x, y, d, e, rfl, _⟩ := h
    rfl
  obtain ⟨x, y, d, e, rfl, hx, hy, pd, pe, dp, q⟩ := h
  refine ⟨_, (pss_cons (ps_if (pt_val (pe_callB call_isi rfl B.isinstance (by decide +kernel) (pa_cons (pv 1) (pa_cons (pe_bltn (v := .ty "tuple") (by rfl) B.tuple (by decide +kernel) rfl) pa_nil))))
        (pss_cons (ps_if (PW.pt (pw_or (pt_not (pt_val (pe_callB call_isi rfl B.isinstance (by decide +kernel) (pa_cons (pv 0) (pa_cons (pe_bltn (v := .ty "tuple") (by rfl) B.tuple (by decide +kernel) rfl) pa_nil))))) (pw_or1 (pt_cmpR op_ne (pe_callB call_len_seq rfl B.len PySem.boot_len (pa_cons (pv 0) pa_nil)) (pe_callB call_len_seq rfl B.len PySem.boot_len (pa_cons (pv 1) pa_nil)) (nomark _)))))
          (pss_one (ps_ret pe_bl))
          pss_nil)
        (pss_one (ps_ret (pe_cmpR op_eq (pe_callB call_len_seq rfl B.len PySem.boot_len (pa_cons (pe_lc (own := [("k", 2)]) (g := gName 2) (tt := _) rfl sc_law_same.nd (pi_range1 rfl B.range (pa_cons (pe_callB call_len_seq rfl B.len PySem.boot_len (pa_cons (pv 1) pa_nil)) pa_nil)) (blkOk_by (own := [("k", 2)]) (N := ["actual", "due", "k"]) (sc := defScope s_law_same) (by decide +kernel)) (fun _ _ _ _ _ => (pg_name (i := 2) sc_law_same.nd rfl (Or.inl rfl))) (fun _ _ _ _ _ => (pts_one (pt_not (pt_val (pe_ok C_law_same (hr.mono (by first | decide | exact Nat.le_refl _)) rfl (pa_cons (pe_ix (ix_tupK (K := K) rfl) (pv 0) (pv 2) (fun _ _ => rfl)) (pa_cons (pe_ix (ix_tupK (K := K) rfl) (pv 1) (pv 2) (fun _ _ => rfl)) pa_nil))))))) (fun _ _ _ _ _ => (pv 2))) pa_nil)) pe_int (nomark _)))))
        pss_nil)
      (pss_cons (ps_if (pt_cmpR op_isN (pv 1) pe_non (nomark _))
        (pss_one (ps_ret (pe_cmpR op_isN (pv 0) pe_non (nomark _))))
        pss_nil)
      (pss_cons (ps_if (pt_val (pe_callB call_isi rfl B.isinstance (by decide +kernel) (pa_cons (pv 1) (pa_cons (pe_bltn (v := .ty "str") (by rfl) B.str (by decide +kernel) rfl) pa_nil))))
        (pss_one (ps_ret (pe_and (pe_callB call_isi rfl B.isinstance (by decide +kernel) (pa_cons (pv 0) (pa_cons (pe_bltn (v := .ty "str") (by rfl) B.str (by decide +kernel) rfl) pa_nil))) (pe_one (pe_cmpR op_eq (pv 0) (pv 1) (nomark _))))))
        pss_nil)
      (pss_one (ps_ret (pe_and (pe_callB call_isi rfl B.isinstance (by decide +kernel) (pa_cons (pv 0) (pa_cons (pe_bltn (v := .ty "int") (by rfl) B.int (by decide +kernel) rfl) pa_nil))) (pe_and (pe_not (pe_callB call_isi rfl B.isinstance (by decide +kernel) (pa_cons (pv 0) (pa_cons (pe_bltn (v := .ty "bool") (by rfl) B.bool (by decide +kernel) rfl) pa_nil)))) (pe_one (pe_cmpR op_eq (pv 0) (pv 1) (nomark _)))))))))), ?_⟩
  refine ⟨_, rfl, _, _, _, _, _, rfl, .ty _, hy.ty, kt_of e pe "tuple" (.inl rfl), _, rfl, ite2 (fun c => ?_) (fun c => ?_)⟩
  · obtain ⟨es, rfl, le, pes⟩ := ty_tuple pe (of_decide_eq_true c)
    obtain ⟨ya, ys, rfl, sy, ay⟩ := hy.tup'
    refine ⟨_, rfl, _, _, _, _, _, rfl, .ty _, hx.ty, kt_of d pd "tuple" (.inl rfl), _, rfl, ite2 (fun c2 => iteT ?_) (fun c2 => ?_)⟩
    · have c3 : ¬ tyD d = "tuple" := fun z => by rw [decide_eq_true z] at c2; cases c2
      exact q false _ (Same.refl _) ⟨fun z => (Bool.false_ne_true z).elim, fun z => by subst z; exact absurd rfl c3⟩
    · have c3 : tyD d = "tuple" := by
        by_cases z : tyD d = "tuple"
        · exact z
        · rw [decide_eq_false z] at c2
          exact absurd rfl c2
      obtain ⟨ds, rfl, _, pds⟩ := ty_tuple pd c3
      obtain ⟨xa, xs, rfl, sx, ax⟩ := hx.tup'
      refine ⟨_, rfl, xa, _, rfl, .inr sx, _, rfl, ya, _, rfl, .inr sy, rfl, _, rfl, ite2 (fun c4 => ?_) (fun c4 => ?_)⟩
      · have c5 : ¬ xs.length = ys.length := fun z => by
          rw [z, decide_eq_true rfl] at c4
          cases c4
        rw [ax.len, ay.len] at c5
        exact q false _ (Same.refl _) ⟨fun z => (Bool.false_ne_true z).elim, fun z => by rw [PyData.tuple.inj z] at c5; exact absurd rfl c5⟩
      · have c5 : xs.length = ys.length := by
          by_cases z : (xs.length : Int) = (ys.length : Int)
          · omega
          · rw [decide_eq_false (fun y => z (V.int.inj y))] at c4
            exact absurd rfl c4
        have ly : ys.length ≤ 1000 := by rw [ay.len]; exact le
        have ly2 : (ys.length : Int) < 2 ^ 62 := by omega
        have hl : ds.length = es.length := by rw [← ax.len, ← ay.len]; exact c5
        refine ⟨_, rfl, ya, _, rfl, .inr sy, _, rfl, by omega, ly2, fun D hD => ?_⟩
        refine lc_range (lo := 0) (fun i H' => Same H H' ∧ ∃ acc, H' D = some (.lst acc) ∧ acc.length ≤ i ∧ (acc = [] ↔ ∀ j < i, ds[j]? = es[j]?))
          ⟨same_upd hD, [], upd_same, Nat.le_refl _, ⟨fun _ j hj => absurd hj (Nat.not_lt_zero j), fun _ => rfl⟩⟩ ?_ ?_
        · rintro i H' hi ⟨sm, acc, hacc, lacc, hiff⟩
          have hi2 : i < es.length := by rw [← ay.len]; exact (by simpa using hi)
          have ge : es[i]? = some es[i] := List.getElem?_eq_getElem hi2
          have gd : ds[i]? = some (ds[i]'(by omega)) := List.getElem?_eq_getElem (by omega)
          obtain ⟨v, gv, iv⟩ := ax.get gd
          obtain ⟨u, gu, iu⟩ := ay.get ge
          have tm := Same.tm sm
          refine ⟨rfl, _, rfl, _, rfl, xa, _, _, v, rfl, rfl, tm.sq sx, ?_, _, rfl, _, rfl, ya, _, _, u, rfl, rfl, tm.sq sy, ?_, ?_⟩
          · show atI xs (0 + (i : Int)) = some v
            rw [Int.zero_add]
            exact atI_nat gv
          · show atI ys (0 + (i : Int)) = some u
            rw [Int.zero_add]
            exact atI_nat gu
          · have de := dep_get ge
            refine ⟨v, u, _, _, rfl, iv.to tm, iu.to tm, plain_get pds gd, plain_get pes ge, ?_, fun b H2 s2 hb => ?_⟩
            · have : depDs es + 1 < n + 1 := dp
              omega
            · refine ⟨b, rfl, ?_⟩
              cases b with
              | true =>
                refine iteF ⟨sm.trans s2, acc, s2 _ _ hacc, by omega, hiff.trans ⟨fun z j hj => ?_, fun z j hj => z j (by omega)⟩⟩
                by_cases hj2 : j < i
                · exact z j hj2
                · have : j = i := by omega
                  subst this
                  rw [gd, ge, hb.mp rfl]
              | false =>
                refine iteT ⟨_, rfl, acc, s2 _ _ hacc, ?_, ?_⟩
                · exact small5' (by omega)
                · refine ⟨Z.Same.mut (sm.trans s2) hD, _, upd_same, ?_, ?_⟩
                  · rw [List.length_append]
                    exact Nat.succ_le_succ lacc
                  · refine ⟨fun z => absurd z (by simp), fun z => ?_⟩
                    have := z i (by omega)
                    rw [gd, ge] at this
                    exact absurd (hb.mpr (Option.some.inj this)) (by decide)
        · rintro H' ⟨sm, acc, hacc, lacc, hiff⟩
          refine ⟨D, acc, rfl, .inl (SqL.of hacc), rfl, ?_⟩
          refine q _ _ sm ?_
          have key : (∀ j < ys.length, ds[j]? = es[j]?) ↔ PyData.tuple ds = PyData.tuple es := by
            rw [ay.len]
            exact ⟨fun z => congrArg _ (ext_of hl z), fun z => by rw [PyData.tuple.inj z]; intro j _; rfl⟩
          rw [← key]
          refine Iff.trans ?_ (by simpa using hiff)
          rw [decide_eq_true_iff]
          refine ⟨fun z => ?_, fun z => by rw [z]; rfl⟩
          have z2 := V.int.inj z
          exact List.eq_nil_of_length_eq_zero (by omega)
  · have nt : ¬ tyD e = "tuple" := fun z => c (decide_eq_true z)
    refine ⟨_, rfl, rfl, _, rfl, ite2 (fun c2 => ?_) (fun c2 => ?_)⟩
    · have e1 : y = .non := of_decide_eq_true c2
      subst e1
      cases hy
      refine ⟨_, rfl, rfl, ?_⟩
      refine q _ _ (Same.refl _) ?_
      rw [decide_eq_true_iff]
      exact ⟨fun z => by subst z; cases hx; rfl, fun z => by subst z; cases hx; rfl⟩
    · have e1 : ¬ y = .non := fun z => c2 (decide_eq_true z)
      refine ⟨_, rfl, _, _, _, _, _, rfl, .ty _, hy.ty, kt_of e pe "str" (.inr (.inl rfl)), _, rfl, ite2 (fun c3 => ?_) (fun c3 => ?_)⟩
      · rcases no_tuple pe nt with rfl | ⟨i, rfl⟩ | ⟨z, rfl⟩
        · cases hy; exact absurd rfl e1
        · exact absurd (of_decide_eq_true c3) (show ¬ "int" = "str" by decide)
        cases hy
        refine ⟨_, rfl, _, _, _, _, _, rfl, .ty _, hx.ty, kt_of d pd "str" (.inr (.inl rfl)), _, rfl, ite2 (fun c4 => ?_) (fun c4 => ?_)⟩
        · have : ∃ z2, d = .str z2 := by
            have c5 := of_decide_eq_true c4
            cases d with
            | str z2 => exact ⟨z2, rfl⟩
            | none => exact absurd c5 (show ¬ "NoneType" = "str" by decide)
            | int i => exact absurd c5 (show ¬ "int" = "str" by decide)
            | tuple ds => exact absurd c5 (show ¬ "tuple" = "str" by decide)
            | bool b => simp [plainD] at pd
            | list ds => simp [plainD] at pd
            | dict ds => simp [plainD] at pd
          obtain ⟨z2, rfl⟩ := this
          cases hx
          refine ⟨_, rfl, _, rfl, rfl, ?_⟩
          refine q _ _ (Same.refl _) ?_
          rw [decide_eq_true_iff]
          exact ⟨fun z => congrArg PyData.str (V.str.inj z), fun z => congrArg V.str (PyData.str.inj z)⟩
        · refine q false _ (Same.refl _) ⟨fun z => (Bool.false_ne_true z).elim, fun z => ?_⟩
          subst z
          exact absurd (decide_eq_true (show "str" = "str" by rfl)) c4
      · have : ∃ i, e = .int i := by
          rcases no_tuple pe nt with rfl | ⟨i, rfl⟩ | ⟨z, rfl⟩
          · cases hy; exact absurd rfl e1
          · exact ⟨i, rfl⟩
          · exact absurd (decide_eq_true (show "str" = "str" by rfl)) c3
        obtain ⟨i, rfl⟩ := this
        cases hy
        refine ⟨_, rfl, _, _, _, _, _, rfl, .ty _, hx.ty, kt_of d pd "int" (.inr (.inr rfl)), _, rfl, ite2 (fun c4 => ?_) (fun c4 => ?_)⟩
        · have : ∃ j, d = .int j := by
            have c5 := of_decide_eq_true c4
            cases d with
            | int j => exact ⟨j, rfl⟩
            | none => exact absurd c5 (show ¬ "NoneType" = "int" by decide)
            | str i => exact absurd c5 (show ¬ "str" = "int" by decide)
            | tuple ds => exact absurd c5 (show ¬ "tuple" = "int" by decide)
            | bool b => simp [plainD] at pd
            | list ds => simp [plainD] at pd
            | dict ds => simp [plainD] at pd
          obtain ⟨j, rfl⟩ := this
          cases hx
          refine ⟨_, rfl, _, _, _, _, _, rfl, .ty _, (Is.int (K := K) (H := H) j).ty, ktB j, _, rfl, _, rfl, iteT ?_⟩
          refine ⟨_, rfl, _, rfl, rfl, ?_⟩
          refine q _ _ (Same.refl _) ?_
          rw [decide_eq_true_iff]
          exact ⟨fun z => congrArg PyData.int (V.int.inj z), fun z => congrArg V.int (PyData.int.inj z)⟩
        · refine q false _ (Same.refl _) ⟨fun z => (Bool.false_ne_true z).elim, fun z => ?_⟩
          subst z
          exact absurd (decide_eq_true (show "int" = "int" by rfl)) c4
theorem ok_law_same (B : BI mg) (F : At K mg "_law_same" s_law_same ["actual", "due"]) : ∀ n : Nat, Ok P w K mg base n "_law_same" ["actual", "due"] [] (spSame K n)
  | 0 => by
    obtain ⟨f, fd, F, m, b⟩ := F.ex
    have no : ∀ vs H Q E, ¬ spSame K 0 vs H Q E := fun vs H Q E h => by
      obtain ⟨x, y, d, e, _, _, _, _, _, h, _⟩ := h
      omega
    exact ⟨f, fd, [], ⟨fun vs H Q E h => absurd h (no vs H Q E), fun A outer s H args us vs Q E _ _ _ _ h => absurd h (no vs H Q E)⟩, m, F.kp, b, .nil⟩
  | n + 1 => ok_law_same_step B F (ok_law_same B F n)

theorem ok_law_window (B : BI mg) (F : At K mg "_law_window" s_law_window ["pool", "wide"]) (C_law_draw : Ok P w K mg base 1 "_law_draw" ["pool", "many"] [] spDraw) : Ok P w K mg base 2 "_law_window" ["pool", "wide"] [] (spWin K) := by
  refine F.ok sc_law_window (fun vs H Q E h => ?_) (fun f cdv A outer s H vs Q E hr h => ?_)
  · obtain ⟨p, pa, b, rfl, _⟩ := h
    rfl
  obtain ⟨p, pa, b, rfl, hP, q⟩ := h
  refine ⟨_, (pss_cons (ps_if (pt_val (pv 1))
        (pss_cons (ps_set (i := 2) sc_law_window.nd rfl (Or.inl rfl) (pe_ok C_law_draw (hr.mono (by first | decide | exact Nat.le_refl _)) rfl (pa_cons (pv 0) (pa_cons pe_int pa_nil))))
        (pss_one (ps_ret (pe_tup (pa_cons (pv 2) (pa_cons (pe_op op_add (pe_op op_add (pv 2) pe_int) (pe_ok C_law_draw (hr.mono (by first | decide | exact Nat.le_refl _)) rfl (pa_cons (pv 0) (pa_cons (pe_op op_sub pe_int (pv 2)) pa_nil)))) pa_nil))))))
        pss_nil)
      (pss_cons (ps_set (i := 2) sc_law_window.nd rfl (Or.inl rfl) (pe_ok C_law_draw (hr.mono (by first | decide | exact Nat.le_refl _)) rfl (pa_cons (pv 0) (pa_cons pe_int pa_nil))))
      (pss_one (ps_ret (pe_tup (pa_cons (pv 2) (pa_cons (pe_op op_add (pe_op op_add (pv 2) pe_int) (pe_ok C_law_draw (hr.mono (by first | decide | exact Nat.le_refl _)) rfl (pa_cons (pv 0) (pa_cons pe_int pa_nil)))) pa_nil))))))), ?_⟩
  refine ⟨_, rfl, b, rfl, ite2 (fun e => ?_) (fun e => ?_)⟩
  · refine ⟨_, rfl, p, pa, 10000, rfl, hP, by decide, by decide, fun c H1 c0 c1 k1 P1 => ?_⟩
    refine ⟨_, rfl, _, rfl, _, _, rfl, rfl, ?_⟩
    refine ⟨_, rfl, _, rfl, _, _, rfl, rfl, p, pa, 10000 - c, rfl, P1, by omega, by omega, fun r H2 r0 r1 k2 P2 => ?_⟩
    refine ⟨_, _, rfl, rfl, (by show 2 ≤ sizeLine; decide), fun t nt => ?_⟩
    have nt2 := P2.ne nt
    exact q t c _ _ c0 (by omega) (by omega) ((k1.trans k2).trans (.new nt)) (P2.mut nt2.1 nt2.2) (P2.free (k1.trans k2) nt) upd_same
  · refine ⟨_, rfl, p, pa, 20, rfl, hP, by decide, by decide, fun c H1 c0 c1 k1 P1 => ?_⟩
    refine ⟨_, rfl, _, rfl, _, _, rfl, rfl, ?_⟩
    refine ⟨_, rfl, p, pa, 12, rfl, P1, by omega, by omega, fun r H2 r0 r1 k2 P2 => ?_⟩
    refine ⟨_, _, rfl, rfl, (by show 2 ≤ sizeLine; decide), fun t nt => ?_⟩
    have nt2 := P2.ne nt
    exact q t c _ _ c0 (by omega) (by omega) ((k1.trans k2).trans (.new nt)) (P2.mut nt2.1 nt2.2) (P2.free (k1.trans k2) nt) upd_same

structure LwI (K : PySem.W.Frag) (C p pa b b2 L2 R L : Addr) (js : List Job) (H : Hp) : Prop where
  P : Pl p pa H
  bk : BookAt K C b L js H
  bo : BookAt K C b2 L2 [] H
  r : ∃ xs, H R = some (.lst xs) ∧ IsA K H xs (js.map dJob)
  nd : (js.map (·.n)).Nodup
  len : js.length ≤ 12
  nL : L ≠ p ∧ L ≠ pa ∧ L ≠ b2 ∧ L ≠ L2 ∧ L ≠ R
  nb : b ≠ p ∧ b ≠ pa ∧ b ≠ b2 ∧ b ≠ L2 ∧ b ≠ R
  nR : R ≠ p ∧ R ≠ pa ∧ R ≠ b2 ∧ R ≠ L2
  n2 : b2 ≠ p ∧ L2 ≠ p
theorem LwI.kp {K : PySem.W.Frag} {C p pa b b2 L2 R L : Addr} {js : List Job} {H H' : Hp} (h : LwI K C p pa b b2 L2 R L js H) (k : Kp p H H') (P' : Pl p pa H') : LwI K C p pa b b2 L2 R L js H' := by
  have tm := h.P.tm k
  obtain ⟨xs, hR, hI⟩ := h.r
  exact ⟨P', h.bk.keep (fun o => k _ _ h.nb.1) (fun o => k _ _ h.nL.1) tm, h.bo.keep (fun o => k _ _ h.n2.1) (fun o => k _ _ h.n2.2) tm, ⟨xs, k _ _ h.nR.1 hR, hI.to tm⟩, h.nd, h.len, h.nL, h.nb, h.nR, h.n2⟩
theorem LwI.same {K : PySem.W.Frag} {C p pa b b2 L2 R L : Addr} {js : List Job} {H H' : Hp} (h : LwI K C p pa b b2 L2 R L js H) (k : Same H H') : LwI K C p pa b b2 L2 R L js H' := h.kp (.of k) (h.P.same k)
/-- where a place is known, it is no new one -/
theorem ne_new {H : Hp} {a b : Addr} {o : HO} (h : H a = some o) (n : H b = none) : b ≠ a := by
  rintro rfl
  rw [h] at n
  cases n
theorem LwI.edit {K : PySem.W.Frag} {C p pa b b2 L2 R L L' : Addr} {js js' : List Job} {H H' : Hp} {xs : List V} (h : LwI K C p pa b b2 L2 R L js H) (k : ∀ x o, x ≠ b → x ≠ L → x ≠ R → H x = some o → H' x = some o) (n : L' = L ∨ H L' = none) (B : BookAt K C b L' js' H') (hR : H' R = some (.lst xs))
    (hI : IsA K H' xs (js'.map dJob)) (nd : (js'.map (·.n)).Nodup) (len : js'.length ≤ 12) : LwI K C p pa b b2 L2 R L' js' H' := by
  obtain ⟨a1, a2, a3, a4, a5⟩ := h.nL
  obtain ⟨b1, b2', b3, b4, b5⟩ := h.nb
  obtain ⟨c1, c2, c3, c4⟩ := h.nR
  obtain ⟨ns, i, rest, last, cnt, np, hp, hpa, hh⟩ := h.P
  obtain ⟨dx, fs, ys, hb, hf, hL, nbb, hJ, fl⟩ := h.bk.ex
  obtain ⟨dx2, fs2, ys2, hb2, hf2, hL2, nbb2, hJ2, fl2⟩ := h.bo.ex
  obtain ⟨xs0, hR0, hI0⟩ := h.r
  have tm : Tm H H' := fun a zs g => by
    have key : ∀ o, H a = some o → (∀ us, o ≠ .lst us) → (∀ c d e, o ≠ .ins c d e) → H' a = some o := fun o ho g1 g2 => k _ _ (by rintro rfl; rw [hb] at ho; exact g2 _ _ _ (Option.some.inj ho).symm) (by rintro rfl; rw [hL] at ho; exact g1 _ (Option.some.inj ho).symm) (by rintro rfl; rw [hR0] at ho; exact g1 _ (Option.some.inj ho).symm) ho
    rcases g with g | ⟨o, g⟩
    · exact .inl (key _ g (fun _ z => nomatch z) (fun _ _ _ z => nomatch z))
    · exact .inr ⟨o, key _ g (fun _ z => nomatch z) (fun _ _ _ z => nomatch z)⟩
  refine ⟨⟨ns, i, rest, last, cnt, np, k _ _ (Ne.symm b1) (Ne.symm a1) (Ne.symm c1) hp, k _ _ (Ne.symm b2') (Ne.symm a2) (Ne.symm c2) hpa, hh⟩, B, h.bo.keep (fun o => k _ _ (Ne.symm b3) (Ne.symm a3) (Ne.symm c3)) (fun o => k _ _ (Ne.symm b4) (Ne.symm a4) (Ne.symm c4)) tm, ⟨xs, hR, hI⟩, nd, len, ?_, h.nb, h.nR, h.n2⟩
  rcases n with rfl | n
  · exact h.nL
  · exact ⟨ne_new hp n, ne_new hpa n, ne_new hb2 n, ne_new hL2 n, ne_new hR0 n⟩
theorem z_len (n : Nat) : (⟨#[97 + n]⟩ : Str).length + (("z" : Str)).length ≤ sizeLine := by
  have h1 : (("z" : Str)).length = 1 := by decide +kernel
  have h2 : (⟨#[97 + n]⟩ : Str).length = 1 := rfl
  rw [h1, h2]
  decide
theorem nineteen : ∀ k < 19, ((("abcdefghijklmnopqrs" : Str)).cps.toList)[k]? = some (97 + k) := by decide +kernel
theorem nodup_filter {n : Str} {js : List Job} (h : (js.map (·.n)).Nodup) : ((js.filter fun j => decide (j.n ≠ n)).map (·.n)).Nodup := List.Nodup.sublist (List.filter_sublist.map _) h
theorem oklaw {f C : Addr} {fd : FuncData} (B : BI mg) (F : Fun K "law" "law" slaw f fd) (C_law_pool : Ok P w K mg base 1 "_law_pool" ["script"] [] (spPool K)) (C_law_draw : Ok P w K mg base 1 "_law_draw" ["pool", "many"] [] spDraw) (C_law_window : Ok P w K mg base 2 "_law_window" ["pool", "wide"] [] (spWin K))
    (N_Book : C8.Mak P w K mg base 1 "Book" C (spBInit K C) []) (C_law_put : Ok P w K mg base 3 "_law_put" ["book", "rows", "job"] [] (spLPut K C)) (C_law_drop : Ok P w K mg base 3 "_law_drop" ["book", "rows", "name"] [] (spLDrop K C)) (M_Book_jobs : C8.Met P w K mg base 1 C "jobs" (spBJobs K C) [])
    (C_law_same : Ok P w K mg base 5 "_law_same" ["actual", "due"] [] (spSame K 5)) : FnOk P w K mg base CX0 6 f fd ["script"] (spLaw K) := by
  refine F.ok sclaw (fun vs H Q E h => ?_) (fun cdv A outer s H vs Q E hr h => ?_)
  · obtain ⟨a, ns, rfl, _⟩ := h
    rfl
  obtain ⟨a, ns, rfl, hS, hl, q⟩ := h
  refine ⟨_, (pss_cons (ps_set (i := 1) sclaw.nd rfl (Or.inl rfl) (pe_ok C_law_pool (hr.mono (by first | decide | exact Nat.le_refl _)) rfl (pa_cons (pv 0) pa_nil)))
      (pss_cons (ps_set (i := 2) sclaw.nd rfl (Or.inl rfl) (pe_mk0 N_Book hr (by first | decide | exact Nat.le_refl _) rfl))
      (pss_cons (ps_set (i := 3) sclaw.nd rfl (Or.inl rfl) (pe_mk0 N_Book hr (by first | decide | exact Nat.le_refl _) rfl))
      (pss_cons (ps_set (i := 4) sclaw.nd rfl (Or.inl rfl) (pe_lst pa_nil))
      (pss_cons (ps_for PassesOwn.never rfl (pi_range1 rfl B.range (pa_cons (pe_ok C_law_draw (hr.mono (by first | decide | exact Nat.le_refl _)) rfl (pa_cons (pv 1) (pa_cons pe_int pa_nil))) pa_nil)) (pg_name (i := 5) sclaw.nd rfl (Or.inl rfl))
        (pss_cons (ps_set (i := 6) sclaw.nd rfl (Or.inl rfl) (pe_op op_add_str (pe_ix ix_str pe_str (pe_ok C_law_draw (hr.mono (by first | decide | exact Nat.le_refl _)) rfl (pa_cons (pv 1) (pa_cons pe_int pa_nil))) (fun _ _ => rfl)) pe_str))
        (Evl.pss_cut (ps_if (pt_cmpR op_eq (pe_ok C_law_draw (hr.mono (by first | decide | exact Nat.le_refl _)) rfl (pa_cons (pv 1) (pa_cons pe_int pa_nil))) pe_int (nomark _))
          (pss_one (ps_if (pt_not (pt_val (pe_ok C_law_drop (hr.mono (by first | decide | exact Nat.le_refl _)) rfl (pa_cons (pv 2) (pa_cons (pv 4) (pa_cons (pv 6) pa_nil))))))
            (pss_one (ps_ret pe_bl))
            pss_nil))
          (pss_cons (ps_asg (pe_ok C_law_window (hr.mono (by first | decide | exact Nat.le_refl _)) rfl (pa_cons (pv 1) (pa_cons (pe_cmpR op_eq (pe_ok C_law_draw (hr.mono (by first | decide | exact Nat.le_refl _)) rfl (pa_cons (pv 1) (pa_cons pe_int pa_nil))) pe_int (nomark _)) pa_nil))) (pg_tup rfl (pgs_cons (pg_name (i := 7) sclaw.nd rfl (Or.inl rfl)) (pgs_cons (pg_name (i := 8) sclaw.nd rfl (Or.inl rfl)) pgs_nil))))
          (pss_one (ps_if (pt_not (pt_val (pe_ok C_law_put (hr.mono (by first | decide | exact Nat.le_refl _)) rfl (pa_cons (pv 2) (pa_cons (pv 4) (pa_cons (pe_tup (pa_cons (pv 6) (pa_cons (pv 7) (pa_cons (pv 8) (pa_cons (pe_op op_add pe_int (pe_ok C_law_draw (hr.mono (by first | decide | exact Nat.le_refl _)) rfl (pa_cons (pv 1) (pa_cons pe_int pa_nil)))) pa_nil))))) pa_nil))))))
            (pss_one (ps_ret pe_bl))
            pss_nil))))
        (pss_one (ps_if (pt_not (pt_val (pe_ok C_law_same (hr.mono (by first | decide | exact Nat.le_refl _)) rfl (pa_cons (C8.pe_mt0 M_Book_jobs hr (by first | decide | exact Nat.le_refl _) (pv 2)) (pa_cons (pe_callTy call_tuple_of rfl B.tuple (by decide +kernel) (pa_cons (pv 4) pa_nil)) pa_nil)))))
          (pss_one (ps_ret pe_bl))
          pss_nil)))))
      (pss_one (ps_ret (pe_ok C_law_same (hr.mono (by first | decide | exact Nat.le_refl _)) rfl (pa_cons (C8.pe_mt0 M_Book_jobs hr (by first | decide | exact Nat.le_refl _) (pv 3)) (pa_cons (pe_tup pa_nil) pa_nil)))))))))), ?_⟩
  refine ⟨_, rfl, a, ns, rfl, hS, hl, fun p pa H1 np s1 P1 => ?_⟩
  intro b dx nb ndx nbx
  have sb : Same H1 (upd (upd H1 dx (.own b)) b (.ins C dx [])) := fun x o ho => by
    rw [upd_ne (by rintro rfl; rw [ho] at nb; cases nb), upd_ne (by rintro rfl; rw [ho] at ndx; cases ndx)]
    exact ho
  refine ⟨b, dx, rfl, upd_same, fun L H2 nL k2 B2 => ⟨rfl, ?_⟩⟩
  have s12 : Same H1 H2 := fun x o ho => k2 _ _ (by rintro rfl; rw [ho] at nb; cases nb) (sb _ _ ho)
  intro b2 dx2 nb2 ndx2 nbx2
  have sb2 : Same H2 (upd (upd H2 dx2 (.own b2)) b2 (.ins C dx2 [])) := fun x o ho => by
    rw [upd_ne (by rintro rfl; rw [ho] at nb2; cases nb2), upd_ne (by rintro rfl; rw [ho] at ndx2; cases ndx2)]
    exact ho
  refine ⟨b2, dx2, rfl, upd_same, fun L2 H3 nL2 k3 B3 => ⟨rfl, ?_⟩⟩
  have s23 : Same H2 H3 := fun x o ho => k3 _ _ (by rintro rfl; rw [ho] at nb2; cases nb2) (sb2 _ _ ho)
  refine ⟨(by show 0 ≤ sizeLine; decide), fun R nR => ?_⟩
  have sR := same_upd (o := .lst []) nR
  have nLa : H1 L = none := by
    cases z : H1 L with
    | none => rfl
    | some o =>
      rw [sb _ _ z] at nL
      cases nL
  have nL2a : H2 L2 = none := by
    cases z : H2 L2 with
    | none => rfl
    | some o =>
      rw [sb2 _ _ z] at nL2
      cases nL2
  obtain ⟨ns1, i1, rest1, last1, cnt1, npa, hp1, hpa1, _⟩ := id P1
  obtain ⟨dxa, fsa, ysa, hba, hfa, hLa, nba, _⟩ := B2.ex
  obtain ⟨dxo, fso, yso, hbo, hfo, hLo, nbo, _⟩ := B3.ex
  have s3R := s23.trans sR
  have B2R : BookAt K C b L [] (upd H3 R (.lst [])) := B2.keep (fun o h => s3R _ _ h) (fun o h => s3R _ _ h) (Same.tm s3R)
  have B3R : BookAt K C b2 L2 [] (upd H3 R (.lst [])) := B3.keep (fun o h => sR _ _ h) (fun o h => sR _ _ h) (Same.tm sR)
  have P4 := (P1.same s12).same s3R
  have I0 : LwI K C p pa b b2 L2 R L [] (upd H3 R (.lst [])) := ⟨P4, B2R, B3R, ⟨[], upd_same, .nil⟩, List.nodup_nil, by decide,
    ⟨ne_new hp1 nLa, ne_new hpa1 nLa, (ne_new hLa nb2).symm, (ne_new hLa nL2a).symm, (ne_new (s23 _ _ hLa) nR).symm⟩,
    ⟨ne_new hp1 nb, ne_new hpa1 nb, (ne_new hba nb2).symm, (ne_new hba nL2a).symm, (ne_new (s23 _ _ hba) nR).symm⟩,
    ⟨ne_new (s23 _ _ (s12 _ _ hp1)) nR, ne_new (s23 _ _ (s12 _ _ hpa1)) nR, ne_new hbo nR, ne_new hLo nR⟩,
    ⟨ne_new (s12 _ _ hp1) nb2, ne_new (s12 _ _ hp1) nL2a⟩⟩
  generalize upd H3 R (.lst []) = H4 at I0
  refine ⟨_, rfl, p, pa, 31, rfl, I0.P, by decide, by decide, fun r H5 r0 r1 k5 P5 => ?_⟩
  have I5 := I0.kp k5 P5
  refine ⟨r, rfl, by omega, by omega, for_range (lo := 0) (n := r.toNat) (fun i σ' H' => ∃ (y5 y6 y7 y8 : Option V) (L : Addr) (js : List Job), σ' = [some (.ref a), some (.ref p), some (.ref b), some (.ref b2), some (.ref R), y5, y6, y7, y8] ∧ LwI K C p pa b b2 L2 R L js H') ?_ ?_ ?_⟩
  · exact ⟨none, none, none, none, L, [], rfl, I5⟩
  · clear I5 I0 P5 k5 P4 B2R B3R nba nLa hLa
    rintro i σ' H' hi ⟨y5, y6, y7, y8, L, js, rfl, I⟩
    refine ⟨_, rfl, p, pa, 19, rfl, I.P, by decide, by decide, fun r6 H6 r60 r61 k6 P6 => ?_⟩
    have I6 := I.kp k6 P6
    obtain ⟨n6, rfl⟩ := Int.eq_ofNat_of_zero_le r60
    refine ⟨_, (n6 : Int), _, rfl, rfl, (by show 19 ≤ sizeLine; decide), atI_nat (nineteen n6 (by omega)), (⟨#[97 + n6]⟩ : Str), ("z" : Str), rfl, rfl, z_len n6, ?_⟩
    generalize (⟨#[97 + n6]⟩ : Str) ++ ("z" : Str) = nm
    refine ⟨fun σ' H' => ∃ (y7 y8 : Option V) (L : Addr) (js : List Job), σ' = [some (.ref a), some (.ref p), some (.ref b), some (.ref b2), some (.ref R), some (.int (0 + (i : Int))), some (.str nm), y7, y8] ∧ LwI K C p pa b b2 L2 R L js H', ?_, ?_⟩
    · refine ⟨_, rfl, p, pa, 4, rfl, I6.P, by decide, by decide, fun r7 H7 r70 r71 k7 P7 => ?_⟩
      have I7 := I6.kp k7 P7
      obtain ⟨xs, hR, hI⟩ := I7.r
      refine ⟨rfl, _, rfl, ite2 (fun e => ?_) (fun e => ?_)⟩
      · refine ⟨_, rfl, _, rfl, _, rfl, b, L, R, nm, xs, js, rfl, I7.bk, hR, hI, I7.nb.2.2.2.2.symm, I7.nL.2.2.2.2.symm, I7.nd, I7.len, fun L' H8 xs' k8 n8 B8 hR8 hI8 => ⟨_, rfl, iteF ?_⟩⟩
        have l8 := List.length_filter_le (fun j : Job => decide (j.n ≠ nm)) js
        exact ⟨y7, y8, L', _, rfl, I7.edit k8 n8 B8 hR8 hI8 (nodup_filter I7.nd) (Nat.le_trans l8 I7.len)⟩
      · refine ⟨_, rfl, _, rfl, p, pa, 4, rfl, I7.P, by decide, by decide, fun r8 H8 r80 r81 k8 P8 => ?_⟩
        have I8 := I7.kp k8 P8
        refine ⟨rfl, p, pa, _, rfl, P8, fun t c d H9 c0 cd d1 k9 P9 nt ht => ?_⟩
        have I9 := I8.kp k9 P9
        refine ⟨t, _, rfl, SqT.of ht, rfl, .int c, _, rfl, .int d, _, rfl, rfl, ?_⟩
        refine ⟨_, rfl, _, rfl, _, rfl, _, rfl, _, rfl, _, rfl, p, pa, 10000, rfl, P9, by decide, by decide, fun r10 H10 r100 r101 k10 P10 => ?_⟩
        have I10 := I9.kp k10 P10
        refine ⟨_, _, rfl, rfl, (by show 4 ≤ sizeLine; decide), fun u nu => ?_⟩
        have su := same_upd (o := .tup [.str nm, .int c, .int d, .int (1 + r10)]) nu
        have I11 := I10.same su
        obtain ⟨xs, hR, hI⟩ := I11.r
        refine ⟨b, L, R, _, xs, js, ⟨nm, c, d, 1 + r10⟩, rfl, I11.bk, hR, hI, I11.nb.2.2.2.2.symm, I11.nL.2.2.2.2.symm, is_job (SqT.of upd_same), I11.nd, I11.len, fun H12 xs' k12 B12 hR12 hI12 => ⟨_, rfl, iteF ?_⟩⟩
        exact ⟨_, _, L, _, rfl, I11.edit k12 (.inl rfl) B12 hR12 hI12 (putR_nd I11.nd) (putR_len I11.len)⟩
    · clear I6 I P6 k6
      rintro σ7 H7 ⟨y7, y8, L, js, rfl, I⟩
      obtain ⟨dx9, fs9, ys9, h9, hf9, hL9, nb9, hI9, fl9⟩ := I.bk.ex
      refine ⟨_, rfl, b, dx9, fs9, rfl, h9, fl9.2 _ (by decide +kernel), b, dx9, L, fs9, ys9, rfl, h9, hf9, SqL.of hL9, fun t H10 s10 nt ht => ?_⟩
      obtain ⟨xs, hR, hI⟩ := (I.same s10).r
      refine ⟨_, rfl, R, _, rfl, .inl ⟨SqL.of hR, fun u nu => ?_⟩⟩
      have su := same_upd (o := .tup xs) nu
      have e1 := js.length
      refine ⟨_, _, .tuple (js.map dJob), .tuple (js.map dJob), rfl, .tup (Tm.sq (Same.tm su) ht) (hI9.to (Same.tm (s10.trans su))), .tup (SqT.of upd_same) (hI.to (Same.tm su)), ?_, ?_, ?_, fun c H11 s11 hc => ?_⟩
      · exact plain_jobs (by have := I.len; omega)
      · exact plain_jobs (by have := I.len; omega)
      · exact Nat.lt_trans (dep_jobs js) (by decide)
      · obtain rfl : c = true := hc.mpr rfl
        exact ⟨_, rfl, iteF ⟨_, _, y7, y8, L, js, rfl, (I.same s10).same (su.trans s11)⟩⟩
  · rintro σ9 H9 ⟨y5, y6, y7, y8, L, js, rfl, I⟩
    obtain ⟨dx9, fs9, ys9, h9, hf9, hL9, nb9, hI9, fl9⟩ := I.bo.ex
    refine ⟨_, rfl, b2, dx9, fs9, rfl, h9, fl9.2 _ (by decide +kernel), b2, dx9, L2, fs9, ys9, rfl, h9, hf9, SqL.of hL9, fun t H10 s10 nt ht => ?_⟩
    refine ⟨(by show 0 ≤ sizeLine; decide), fun u nu => ?_⟩
    have su := same_upd (o := .tup []) nu
    have e0 : ys9 = [] := by
      cases hI9
      rfl
    subst e0
    refine ⟨_, _, .tuple [], .tuple [], rfl, .tup (Tm.sq (Same.tm su) ht) .nil, .tup (SqT.of upd_same) .nil, plain_jobs (js := []) (by decide), plain_jobs (js := []) (by decide), Nat.lt_trans (dep_jobs []) (by decide), fun c H11 s11 hc => ?_⟩
    obtain rfl : c = true := hc.mpr rfl
    exact q _

end
end Z

namespace Z
open PySem PySem.Spec PyProof.Rows L2
section
variable {P : Program} {w : World} {K : PySem.W.Frag} {mg : Str → Option Value} {base : Heap}
theorem all {flaw : Addr} {fdlaw : FuncData} {CBook fBook___init__ : Addr} {CWattsError CBadText CBadJournal CRefused CTooFast : Addr} {qualRefused preRefused sufRefused : Str} (B : BI mg) (B2 : BJ mg) (G : (∃ t, mg "MOST_JOBS" = some (.int 12 t))) (gWattsError : mg "WattsError" = some (.ref CWattsError)) (gBadText : mg "BadText" = some (.ref CBadText)) (gBadJournal : mg "BadJournal" = some (.ref CBadJournal)) (gRefused : mg "Refused" = some (.ref CRefused)) (gTooFast : mg "TooFast" = some (.ref CTooFast)) (TRefused : ZXR.ErrTxt P K mg CRefused "Refused" preRefused sufRefused qualRefused) (IRefused : ZXR.IsC K CRefused) (eRefused_WattsError : PySem.W.exmOne K (.ref CRefused) (.ref CWattsError) = some true) (kRefused_BadJournal_BadText_TooFast : PySem.W.kitAny K (.ref CRefused) [.ref CBadJournal, .ref CBadText, .ref CTooFast] = some false) (kRefused_Refused : PySem.W.kitOne K (.ref CRefused) (.ref CRefused) = some true) (NBook : Mk K CBook fBook___init__) (gBook : mg "Book" = some (.ref CBook)) (nBook_jobs : NoAttr K CBook "_jobs") (nBook_plans : NoAttr K CBook "_plans") (nBook_worked : NoAttr K CBook "_worked") (FBook___init__ : MAt K CBook "__init__" "Book.__init__" sBook___init__ ["self"]) (FBook_put : MAt K CBook "put" "Book.put" sBook_put ["self", "job"]) (FBook_drop : MAt K CBook "drop" "Book.drop" sBook_drop ["self", "name"]) (FBook_jobs : MAt K CBook "jobs" "Book.jobs" sBook_jobs ["self"]) (F_law_pool : At K mg "_law_pool" s_law_pool ["script"]) (F_law_draw : At K mg "_law_draw" s_law_draw ["pool", "many"]) (F_law_same : At K mg "_law_same" s_law_same ["actual", "due"]) (F_law_window : At K mg "_law_window" s_law_window ["pool", "wide"]) (F_law_put : At K mg "_law_put" s_law_put ["book", "rows", "job"]) (F_law_drop : At K mg "_law_drop" s_law_drop ["book", "rows", "name"]) (Flaw : Fun K "law" "law" slaw flaw fdlaw) : FnOk P w K mg base CX0 6 flaw fdlaw ["script"] (spLaw K) := by
  have D_draw := ok_law_draw (P := P) (w := w) (base := base) B F_law_draw
  obtain ⟨fS, fdS, FS, mS, bS⟩ := F_law_same.ex
  have hot := ok_same_hotS (P := P) (w := w) (base := base) B FS
  exact oklaw B Flaw (ok_law_pool B F_law_pool) D_draw (ok_law_window B F_law_window D_draw) (mak_of (m_Book_init (P := P) (w := w) (base := base) B nBook_jobs nBook_plans nBook_worked FBook___init__) NBook gBook)
    (ok_law_put B F_law_put (m_Book_put (P := P) (w := w) (base := base) B G nBook_jobs TRefused FBook_put) TRefused IRefused gWattsError gRefused gBadText gBadJournal gTooFast eRefused_WattsError kRefused_Refused kRefused_BadJournal_BadText_TooFast hot mS FS.kp bS)
    (ok_law_drop B F_law_drop (m_Book_drop (P := P) (w := w) (base := base) B nBook_jobs TRefused FBook_drop) TRefused IRefused gWattsError gRefused eRefused_WattsError kRefused_Refused hot mS FS.kp bS)
    (m_Book_jobs (P := P) (w := w) (base := base) B nBook_jobs FBook_jobs) (ok_law_same (P := P) (w := w) (base := base) B F_law_same 5)
end
theorem all_mk {l : PySem.W.OpenLaw} {w : World} {K : PySem.W.Frag} {h : Heap} {mg : Str → Option Value} {fa f1 f2 f3 f4 f5 f6 f7 : Addr} (X : K.In h) (G : h.Ns mainGlobals mg) (hfa : mg "law" = some (.ref fa))
    {od1 an1 od2 an2 od3 an3 od4 an4 od5 an5 od6 an6 od7 an7 : Option Addr} {sl1 sl2 sl3 sl4 sl5 sl6 sl7 : Array (Option Value)} {oc1 kV1 dc1 pm1 cd1 ct1 oc2 kV2 dc2 pm2 cd2 ct2 oc3 kV3 dc3 pm3 cd3 ct3 oc4 kV4 dc4 pm4 cd4 ct4 oc5 kV5 dc5 pm5 cd5 ct5 oc6 kV6 dc6 pm6 cd6 ct6 oc7 kV7 dc7 pm7 cd7 ct7 : Value}
    (a1 : PySem.W.nsIn K mainGlobals "_law_pool" = some (some (.ref f1))) (l1 : K.lookup f1 = some ⟨oc1, od1, .func (PySem.W.fnOf "_law_pool" "_law_pool" (defArgs s_law_pool) (defBody s_law_pool) (defScope s_law_pool) .none kV1 dc1 pm1 an1 cd1 ct1), sl1⟩) (c1 : PySem.W.codeIn K cd1 "_law_pool" = true) (k1 : PySem.W.keepIn K (.ref f1) = true)
    (a2 : PySem.W.nsIn K mainGlobals "_law_draw" = some (some (.ref f2))) (l2 : K.lookup f2 = some ⟨oc2, od2, .func (PySem.W.fnOf "_law_draw" "_law_draw" (defArgs s_law_draw) (defBody s_law_draw) (defScope s_law_draw) .none kV2 dc2 pm2 an2 cd2 ct2), sl2⟩) (c2 : PySem.W.codeIn K cd2 "_law_draw" = true) (k2 : PySem.W.keepIn K (.ref f2) = true)
    (a3 : PySem.W.nsIn K mainGlobals "_law_same" = some (some (.ref f3))) (l3 : K.lookup f3 = some ⟨oc3, od3, .func (PySem.W.fnOf "_law_same" "_law_same" (defArgs s_law_same) (defBody s_law_same) (defScope s_law_same) .none kV3 dc3 pm3 an3 cd3 ct3), sl3⟩) (c3 : PySem.W.codeIn K cd3 "_law_same" = true) (k3 : PySem.W.keepIn K (.ref f3) = true)
    (a4 : PySem.W.nsIn K mainGlobals "_law_window" = some (some (.ref f4))) (l4 : K.lookup f4 = some ⟨oc4, od4, .func (PySem.W.fnOf "_law_window" "_law_window" (defArgs s_law_window) (defBody s_law_window) (defScope s_law_window) .none kV4 dc4 pm4 an4 cd4 ct4), sl4⟩) (c4 : PySem.W.codeIn K cd4 "_law_window" = true) (k4 : PySem.W.keepIn K (.ref f4) = true)
    (a5 : PySem.W.nsIn K mainGlobals "_law_put" = some (some (.ref f5))) (l5 : K.lookup f5 = some ⟨oc5, od5, .func (PySem.W.fnOf "_law_put" "_law_put" (defArgs s_law_put) (defBody s_law_put) (defScope s_law_put) .none kV5 dc5 pm5 an5 cd5 ct5), sl5⟩) (c5 : PySem.W.codeIn K cd5 "_law_put" = true) (k5 : PySem.W.keepIn K (.ref f5) = true)
    (a6 : PySem.W.nsIn K mainGlobals "_law_drop" = some (some (.ref f6))) (l6 : K.lookup f6 = some ⟨oc6, od6, .func (PySem.W.fnOf "_law_drop" "_law_drop" (defArgs s_law_drop) (defBody s_law_drop) (defScope s_law_drop) .none kV6 dc6 pm6 an6 cd6 ct6), sl6⟩) (c6 : PySem.W.codeIn K cd6 "_law_drop" = true) (k6 : PySem.W.keepIn K (.ref f6) = true)
    (a7 : PySem.W.nsIn K mainGlobals "law" = some (some (.ref f7))) (l7 : K.lookup f7 = some ⟨oc7, od7, .func (PySem.W.fnOf "law" "law" (defArgs slaw) (defBody slaw) (defScope slaw) .none kV7 dc7 pm7 an7 cd7 ct7), sl7⟩) (c7 : PySem.W.codeIn K cd7 "law" = true) (k7 : PySem.W.keepIn K (.ref f7) = true)
    (z_len : PySem.W.nsIn K mainGlobals "len" = some none)
    (z_int : PySem.W.nsIn K mainGlobals "int" = some none)
    (z_abs : PySem.W.nsIn K mainGlobals "abs" = some none)
    (z_list : PySem.W.nsIn K mainGlobals "list" = some none)
    (z_tuple : PySem.W.nsIn K mainGlobals "tuple" = some none)
    (z_range : PySem.W.nsIn K mainGlobals "range" = some none)
    (z_isinstance : PySem.W.nsIn K mainGlobals "isinstance" = some none)
    (z_str : PySem.W.nsIn K mainGlobals "str" = some none)
    (z_bool : PySem.W.nsIn K mainGlobals "bool" = some none)
    (z_sum : PySem.W.nsIn K mainGlobals "sum" = some none)
    (z_sorted : PySem.W.nsIn K mainGlobals "sorted" = some none)
    (z_enumerate : PySem.W.nsIn K mainGlobals "enumerate" = some none)
    (z_zip : PySem.W.nsIn K mainGlobals "zip" = some none)
    (z_max : PySem.W.nsIn K mainGlobals "max" = some none)
    (z_min : PySem.W.nsIn K mainGlobals "min" = some none)
    {CWattsError CBadText CBadJournal CRefused CTooFast : Addr}
    (xWattsError : PySem.W.nsIn K mainGlobals "WattsError" = some (some (.ref CWattsError)))
    (xBadText : PySem.W.nsIn K mainGlobals "BadText" = some (some (.ref CBadText)))
    (xBadJournal : PySem.W.nsIn K mainGlobals "BadJournal" = some (some (.ref CBadJournal)))
    (xRefused : PySem.W.nsIn K mainGlobals "Refused" = some (some (.ref CRefused)))
    (xTooFast : PySem.W.nsIn K mainGlobals "TooFast" = some (some (.ref CTooFast)))
    (xS : PySem.W.nsIn K mainGlobals "super" = some none)
    (xany : PySem.W.nsIn K cStatics "thirdparty.any" = some none)
    (xtop : (l.prog.main.scope.names.lookup ("super" : Str)).isSome = false)
    {fIRefused ccRefused cdaRefused N0Refused : Addr} {nm0Refused q0Refused : Str} {bs0Refused : List Value} {sn0Refused : List Str} {sub0Refused : List Value} {ab0Refused : Bool} {col0Refused : Option Bool} {dd0Refused : Option Addr} {m0Refused m1Refused m2Refused m3Refused m5Refused : Option Value} {od0Refused an0Refused cldRefused cddRefused : Option Addr} {sl0Refused cslRefused ccsRefused : Array (Option Value)} {oc0Refused dc0Refused pm0Refused ct0Refused cl0Refused cclRefused : Value} {fvsRefused : Array Value} {fileRefused : Str} {tfRefused : Tok}
    (xLRefused : K.lookup CRefused = some (excClassObj nm0Refused q0Refused CRefused N0Refused bs0Refused [.ref CWattsError, .type "ValueError", .type "Exception", .type "BaseException", .type "object"] true sn0Refused sub0Refused ab0Refused col0Refused dd0Refused m0Refused m1Refused m2Refused m3Refused m5Refused "ValueError.__new__"))
    (xA : PySem.W.alongIn K "__init__" [.ref CWattsError, .type "ValueError", .type "Exception", .type "BaseException", .type "object"] = some (some (.builtin "ValueError.__init__")))
    (xsaRefused : PySem.W.findIn K (.ref CRefused) "__setattr__" = some (some (.builtin "object.__setattr__")))
    (xgaRefused : PySem.W.findIn K (.ref CRefused) "__getattribute__" = some (some (.builtin "BaseException.__getattribute__")))
    (xggRefused : PySem.W.findIn K (.ref CRefused) "__getattr__" = some none)
    (xnlRefused : PySem.W.findIn K (.ref CRefused) "reason" = some none)
    (xkRefused : PySem.W.keepIn K (.ref CRefused) = true)
    (xeRefused : PySem.W.subIn K (.ref CRefused) (.type "BaseException") = some true)
    (xvRefused : PySem.W.subIn K (.ref CRefused) (.type "ValueError") = some true)
    (xtRefused : PySem.W.typeIn K (.ref CRefused) = some (.type "type"))
    (xhRefused : PySem.W.hasDictIn K CRefused = true)
    (xselfRefused : PySem.W.mroIn K CRefused (.ref CRefused) = some true)
    (xiRefused : PySem.W.findIn K (.ref CRefused) "__init__" = some (some (.ref fIRefused)))
    (xitRefused : PySem.W.typeIn K (.ref fIRefused) = some (.type "function"))
    (xilRefused : K.lookup fIRefused = some ⟨oc0Refused, od0Refused, .func (PySem.W.fnX "__init__" "Refused.__init__" (ZXR.eP ⟨20, 17, 20, 21⟩ ⟨20, 23, 20, 29⟩) (ZXR.eB "refused: " "" ⟨21, 8, 21, 13⟩ ⟨21, 8, 21, 15⟩ ⟨21, 8, 21, 24⟩ ⟨21, 27, 21, 36⟩ ⟨21, 37, 21, 43⟩ ⟨21, 36, 21, 44⟩ ⟨21, 36, 21, 44⟩ ⟨21, 25, 21, 45⟩ ⟨21, 8, 21, 46⟩ ⟨21, 8, 21, 46⟩ ⟨22, 8, 22, 12⟩ ⟨22, 8, 22, 19⟩ ⟨22, 22, 22, 28⟩ ⟨22, 8, 22, 28⟩) ZXR.eS [("__class__", ccRefused)] .none .none dc0Refused pm0Refused an0Refused (.ref cdaRefused) ct0Refused), sl0Refused⟩)
    (xicRefused : PySem.W.codeIn K (.ref cdaRefused) "Refused.__init__" = true)
    (xccRefused : K.lookup ccRefused = some ⟨cl0Refused, cldRefused, .cell (some (.ref CRefused)), cslRefused⟩)
    (xcdRefused : K.lookup cdaRefused = some ⟨cclRefused, cddRefused, .fields fvsRefused, ccsRefused⟩)
    (xf2Refused : fvsRefused[2]? = some (.str fileRefused tfRefused))
    (xfileRefused : ((l.prog.main.file : Str) == fileRefused) = true)
    (xclRefused : PySem.W.isClsIn K CRefused = true)
    (xhaRefused : PySem.W.findIn K (.ref CRefused) "__class__" = some (some (.builtin "object.__class__")))
    (xhmRefused : PySem.W.mroIn K CRefused (.type "object") = some true)
    (xw4Refused : PySem.W.subIn K (.ref CRefused) (.ref CWattsError) = some true)
    (xhn : PySem.W.specialIn K (.builtin "object.__class__") "__get__" = some (some (.builtin "getset_descriptor.__get__")))
    (xht : PySem.W.takesIn K (.builtin "object.__class__") = some true)
    (xw1 : PySem.W.subIn K (.ref CWattsError) (.type "BaseException") = some true)
    (xw2 : PySem.W.hasDictIn K CWattsError = true)
    (xw3 : PySem.W.typeIn K (.ref CWattsError) = some (.type "type"))
    (xkRefused_BadJournal_BadText_TooFast : PySem.W.kitAny K (.ref CRefused) [.ref CBadJournal, .ref CBadText, .ref CTooFast] = some false)
    (xkRefused_Refused : PySem.W.kitOne K (.ref CRefused) (.ref CRefused) = some true)
    {CBook : Addr} {fBook___init__ fBook_put fBook_drop fBook_jobs : Addr} {odBook___init__ anBook___init__ odBook_put anBook_put odBook_drop anBook_drop odBook_jobs anBook_jobs : Option Addr} {slBook___init__ slBook_put slBook_drop slBook_jobs : Array (Option Value)} {ocBook___init__ kVBook___init__ dcBook___init__ pmBook___init__ cdBook___init__ ctBook___init__ ocBook_put kVBook_put dcBook_put pmBook_put cdBook_put ctBook_put ocBook_drop kVBook_drop dcBook_drop pmBook_drop cdBook_drop ctBook_drop ocBook_jobs kVBook_jobs dcBook_jobs pmBook_jobs cdBook_jobs ctBook_jobs : Value}
    (yBook : PySem.W.nsIn K mainGlobals "Book" = some (some (.ref CBook)))
    (yBookg : PySem.W.plainGet K CBook Str.empty = true)
    (yBookh : PySem.W.hasDictIn K CBook = true)
    (yBooko : PySem.W.plainOver K CBook = true)
    (yBooks : PySem.W.findIn K (.ref CBook) "__setattr__" = some (some (.builtin "object.__setattr__")))
    (yBookm : PySem.W.makesIn K CBook = true)
    (yBookk : PySem.W.keepIn K (.ref CBook) = true)
    (yBookn_jobs : PySem.W.findIn K (.ref CBook) "_jobs" = some none)
    (yBookn_plans : PySem.W.findIn K (.ref CBook) "_plans" = some none)
    (yBookn_worked : PySem.W.findIn K (.ref CBook) "_worked" = some none)
    (yfBook___init__ : PySem.W.findIn K (.ref CBook) "__init__" = some (some (.ref fBook___init__)))
    (yiBook___init__ : PySem.W.isFn K (.ref fBook___init__) = true)
    (ykBook___init__ : PySem.W.keepIn K (.ref fBook___init__) = true)
    (ylBook___init__ : K.lookup fBook___init__ = some ⟨ocBook___init__, odBook___init__, .func (PySem.W.fnOf "__init__" "Book.__init__" (defArgs sBook___init__) (defBody sBook___init__) (defScope sBook___init__) .none kVBook___init__ dcBook___init__ pmBook___init__ anBook___init__ cdBook___init__ ctBook___init__), slBook___init__⟩)
    (ycBook___init__ : PySem.W.codeIn K cdBook___init__ "Book.__init__" = true)
    (yfBook_put : PySem.W.findIn K (.ref CBook) "put" = some (some (.ref fBook_put)))
    (yiBook_put : PySem.W.isFn K (.ref fBook_put) = true)
    (ykBook_put : PySem.W.keepIn K (.ref fBook_put) = true)
    (ylBook_put : K.lookup fBook_put = some ⟨ocBook_put, odBook_put, .func (PySem.W.fnOf "put" "Book.put" (defArgs sBook_put) (defBody sBook_put) (defScope sBook_put) .none kVBook_put dcBook_put pmBook_put anBook_put cdBook_put ctBook_put), slBook_put⟩)
    (ycBook_put : PySem.W.codeIn K cdBook_put "Book.put" = true)
    (yfBook_drop : PySem.W.findIn K (.ref CBook) "drop" = some (some (.ref fBook_drop)))
    (yiBook_drop : PySem.W.isFn K (.ref fBook_drop) = true)
    (ykBook_drop : PySem.W.keepIn K (.ref fBook_drop) = true)
    (ylBook_drop : K.lookup fBook_drop = some ⟨ocBook_drop, odBook_drop, .func (PySem.W.fnOf "drop" "Book.drop" (defArgs sBook_drop) (defBody sBook_drop) (defScope sBook_drop) .none kVBook_drop dcBook_drop pmBook_drop anBook_drop cdBook_drop ctBook_drop), slBook_drop⟩)
    (ycBook_drop : PySem.W.codeIn K cdBook_drop "Book.drop" = true)
    (yfBook_jobs : PySem.W.findIn K (.ref CBook) "jobs" = some (some (.ref fBook_jobs)))
    (yiBook_jobs : PySem.W.isFn K (.ref fBook_jobs) = true)
    (ykBook_jobs : PySem.W.keepIn K (.ref fBook_jobs) = true)
    (ylBook_jobs : K.lookup fBook_jobs = some ⟨ocBook_jobs, odBook_jobs, .func (PySem.W.fnOf "jobs" "Book.jobs" (defArgs sBook_jobs) (defBody sBook_jobs) (defScope sBook_jobs) .none kVBook_jobs dcBook_jobs pmBook_jobs anBook_jobs cdBook_jobs ctBook_jobs), slBook_jobs⟩)
    (ycBook_jobs : PySem.W.codeIn K cdBook_jobs "Book.jobs" = true)
    {ztMOST_JOBS : Tok} (zgMOST_JOBS : PySem.W.nsIn K mainGlobals "MOST_JOBS" = some (some (.int 12 ztMOST_JOBS)))
    : ∃ fd : FuncData, (∀ (s : Shared) (v : Value), BindsTo s fd ⟨[v], []⟩ [("script", v)]) ∧ ∀ base : Heap, K.In base → base.Ns mainGlobals mg → FnOk l.prog w K mg base CX0 6 fa fd ["script"] (spLaw K) := by
  have e := hfa.symm.trans (PySem.W.mg_of X G a7)
  cases e
  have B : BI mg := ⟨PySem.W.mg_none_of X G z_len, PySem.W.mg_none_of X G z_int, PySem.W.mg_none_of X G z_abs, PySem.W.mg_none_of X G z_list, PySem.W.mg_none_of X G z_tuple, PySem.W.mg_none_of X G z_range, PySem.W.mg_none_of X G z_isinstance, PySem.W.mg_none_of X G z_str, PySem.W.mg_none_of X G z_bool, PySem.W.mg_none_of X G z_sum, PySem.W.mg_none_of X G z_sorted, PySem.W.mg_none_of X G z_enumerate⟩
  have B2 : BJ mg := ⟨PySem.W.mg_none_of X G z_zip, PySem.W.mg_none_of X G z_max, PySem.W.mg_none_of X G z_min⟩
  have F_law_pool : At K mg "_law_pool" s_law_pool ["script"] := ⟨_, _, fun_mk (st := s_law_pool) l1 c1 k1, PySem.W.mg_of X G a1, (fun_mk (st := s_law_pool) l1 c1 k1).binds (ps := ["script"]) fun _ _ _ _ _ _ us hl => match us, hl with | [_], _ => rfl⟩
  have F_law_draw : At K mg "_law_draw" s_law_draw ["pool", "many"] := ⟨_, _, fun_mk (st := s_law_draw) l2 c2 k2, PySem.W.mg_of X G a2, (fun_mk (st := s_law_draw) l2 c2 k2).binds (ps := ["pool", "many"]) fun _ _ _ _ _ _ us hl => match us, hl with | [_, _], _ => rfl⟩
  have F_law_same : At K mg "_law_same" s_law_same ["actual", "due"] := ⟨_, _, fun_mk (st := s_law_same) l3 c3 k3, PySem.W.mg_of X G a3, (fun_mk (st := s_law_same) l3 c3 k3).binds (ps := ["actual", "due"]) fun _ _ _ _ _ _ us hl => match us, hl with | [_, _], _ => rfl⟩
  have F_law_window : At K mg "_law_window" s_law_window ["pool", "wide"] := ⟨_, _, fun_mk (st := s_law_window) l4 c4 k4, PySem.W.mg_of X G a4, (fun_mk (st := s_law_window) l4 c4 k4).binds (ps := ["pool", "wide"]) fun _ _ _ _ _ _ us hl => match us, hl with | [_, _], _ => rfl⟩
  have F_law_put : At K mg "_law_put" s_law_put ["book", "rows", "job"] := ⟨_, _, fun_mk (st := s_law_put) l5 c5 k5, PySem.W.mg_of X G a5, (fun_mk (st := s_law_put) l5 c5 k5).binds (ps := ["book", "rows", "job"]) fun _ _ _ _ _ _ us hl => match us, hl with | [_, _, _], _ => rfl⟩
  have F_law_drop : At K mg "_law_drop" s_law_drop ["book", "rows", "name"] := ⟨_, _, fun_mk (st := s_law_drop) l6 c6 k6, PySem.W.mg_of X G a6, (fun_mk (st := s_law_drop) l6 c6 k6).binds (ps := ["book", "rows", "name"]) fun _ _ _ _ _ _ us hl => match us, hl with | [_, _, _], _ => rfl⟩
  have Flaw := fun_mk (st := slaw) l7 c7 k7
  refine ⟨PySem.W.fnOf "law" "law" (defArgs slaw) (defBody slaw) (defScope slaw) .none kV7 dc7 pm7 an7 cd7 ct7, fun s v => .of_eq rfl, fun base _ _ => ?_⟩
  have TRefused : ZXR.ErrTxt l.prog K mg CRefused "Refused" _ _ _ := ⟨PySem.W.mg_of X G xRefused, PySem.W.mg_none_of X G xS, ⟨_, _, _, _, _, _, _, _, _, _, _, _, _, _, _, xLRefused, rfl, xA⟩, xsaRefused, xgaRefused, xggRefused, xnlRefused, xkRefused, xeRefused, xvRefused, xtRefused, xhRefused, xselfRefused, xany, xtop, ⟨by decide +kernel, by decide +kernel⟩,
    ⟨_, _, _, _, _, _, _, _, _, _, _, _, _, _, _, _, _, _, _, _, _, _, _, _, _, _, _, _, _, _, _, _, _, _, _, xiRefused, xitRefused, xilRefused, xicRefused, xccRefused, xcdRefused, xf2Refused, xfileRefused, fun _ => ⟨_, rfl⟩⟩⟩
  have KBook : Cls K CBook := ⟨yBookg, yBookh, yBooko, yBooks⟩
  have FBook___init__ : MAt K CBook "__init__" "Book.__init__" sBook___init__ ["self"] := ⟨_, _, KBook, ⟨yfBook___init__, yiBook___init__, ykBook___init__⟩, fun_mk (st := sBook___init__) ylBook___init__ ycBook___init__ ykBook___init__, (fun_mk (st := sBook___init__) ylBook___init__ ycBook___init__ ykBook___init__).binds (ps := ["self"]) fun _ _ _ _ _ _ us hl => match us, hl with | [_], _ => rfl⟩
  have FBook_put : MAt K CBook "put" "Book.put" sBook_put ["self", "job"] := ⟨_, _, KBook, ⟨yfBook_put, yiBook_put, ykBook_put⟩, fun_mk (st := sBook_put) ylBook_put ycBook_put ykBook_put, (fun_mk (st := sBook_put) ylBook_put ycBook_put ykBook_put).binds (ps := ["self", "job"]) fun _ _ _ _ _ _ us hl => match us, hl with | [_, _], _ => rfl⟩
  have FBook_drop : MAt K CBook "drop" "Book.drop" sBook_drop ["self", "name"] := ⟨_, _, KBook, ⟨yfBook_drop, yiBook_drop, ykBook_drop⟩, fun_mk (st := sBook_drop) ylBook_drop ycBook_drop ykBook_drop, (fun_mk (st := sBook_drop) ylBook_drop ycBook_drop ykBook_drop).binds (ps := ["self", "name"]) fun _ _ _ _ _ _ us hl => match us, hl with | [_, _], _ => rfl⟩
  have FBook_jobs : MAt K CBook "jobs" "Book.jobs" sBook_jobs ["self"] := ⟨_, _, KBook, ⟨yfBook_jobs, yiBook_jobs, ykBook_jobs⟩, fun_mk (st := sBook_jobs) ylBook_jobs ycBook_jobs ykBook_jobs, (fun_mk (st := sBook_jobs) ylBook_jobs ycBook_jobs ykBook_jobs).binds (ps := ["self"]) fun _ _ _ _ _ _ us hl => match us, hl with | [_], _ => rfl⟩
  exact all (P := l.prog) (w := w) (base := base) B B2 ⟨_, PySem.W.mg_of X G zgMOST_JOBS⟩ (PySem.W.mg_of X G xWattsError) (PySem.W.mg_of X G xBadText) (PySem.W.mg_of X G xBadJournal) (PySem.W.mg_of X G xRefused) (PySem.W.mg_of X G xTooFast) TRefused ⟨xclRefused, xhaRefused, xhn, xht, xhmRefused⟩ (PySem.W.exm_ref xw1 xw2 xw3 xw4Refused) xkRefused_BadJournal_BadText_TooFast xkRefused_Refused ⟨yBookm, yfBook___init__, yiBook___init__, yBookk⟩ (PySem.W.mg_of X G yBook) yBookn_jobs yBookn_plans yBookn_worked FBook___init__ FBook_put FBook_drop FBook_jobs F_law_pool F_law_draw F_law_same F_law_window F_law_put F_law_drop Flaw
end Z
open PySem PySem.W PyProof.Rows
set_option maxRecDepth 100000 in
set_option maxHeartbeats 0 in
theorem PySem.Challenge.cw_sparewatts_k21_edits_of_a_book_holds : PySem.Challenge.rw_sparewatts_k21_edits_of_a_book.Holds := by
  w_on; o_law; k_head; (case hw => w_witness2)
  k_fill
  refine L2.walk_of (l := PySem.Challenge.rw_sparewatts_k21_edits_of_a_book) (n := 63) (k := 6) (x := "script") (CX := fun _ => L2.CX0) (sp := fun w => Z.spLaw _) rfl (by decide) rfl ⟨rfl, by decide, by decide⟩ (fun w h Y => PySem.W.km_in_of Y) ?F (fun _ _ a ns hl _ hS => ⟨a, ns, rfl, hS, hl, fun _ => rfl⟩) (fun _ _ _ _ _ h => h)
  case F =>
    intro w mg fa h KX G hmg
    refine' Z.all_mk KX G hmg ?a1 ?l1 ?c1 ?k1 ?a2 ?l2 ?c2 ?k2 ?a3 ?l3 ?c3 ?k3 ?a4 ?l4 ?c4 ?k4 ?a5 ?l5 ?c5 ?k5 ?a6 ?l6 ?c6 ?k6 ?a7 ?l7 ?c7 ?k7 ?z_len ?z_int ?z_abs ?z_list ?z_tuple ?z_range ?z_isinstance ?z_str ?z_bool ?z_sum ?z_sorted ?z_enumerate ?z_zip ?z_max ?z_min ?xWattsError ?xBadText ?xBadJournal ?xRefused ?xTooFast ?xS ?xany ?xtop ?xLRefused ?xA ?xsaRefused ?xgaRefused ?xggRefused ?xnlRefused ?xkRefused ?xeRefused ?xvRefused ?xtRefused ?xhRefused ?xselfRefused ?xiRefused ?xitRefused ?xilRefused ?xicRefused ?xccRefused ?xcdRefused ?xf2Refused ?xfileRefused ?xclRefused ?xhaRefused ?xhmRefused ?xw4Refused ?xhn ?xht ?xw1 ?xw2 ?xw3 ?xkRefused_BadJournal_BadText_TooFast ?xkRefused_Refused ?yBook ?yBookg ?yBookh ?yBooko ?yBooks ?yBookm ?yBookk ?yBookn_jobs ?yBookn_plans ?yBookn_worked ?yfBook___init__ ?yiBook___init__ ?ykBook___init__ ?ylBook___init__ ?ycBook___init__ ?yfBook_put ?yiBook_put ?ykBook_put ?ylBook_put ?ycBook_put ?yfBook_drop ?yiBook_drop ?ykBook_drop ?ylBook_drop ?ycBook_drop ?yfBook_jobs ?yiBook_jobs ?ykBook_jobs ?ylBook_jobs ?ycBook_jobs ?zgMOST_JOBS
    (case a1 => k_is)
    (case l1 => k_is)
    (case c1 => k_is)
    (case k1 => k_is)
    (case a2 => k_is)
    (case l2 => k_is)
    (case c2 => k_is)
    (case k2 => k_is)
    (case a3 => k_is)
    (case l3 => k_is)
    (case c3 => k_is)
    (case k3 => k_is)
    (case a4 => k_is)
    (case l4 => k_is)
    (case c4 => k_is)
    (case k4 => k_is)
    (case a5 => k_is)
    (case l5 => k_is)
    (case c5 => k_is)
    (case k5 => k_is)
    (case a6 => k_is)
    (case l6 => k_is)
    (case c6 => k_is)
    (case k6 => k_is)
    (case a7 => k_is)
    (case l7 => k_is)
    (case c7 => k_is)
    (case k7 => k_is)
    (case z_len => k_is)
    (case z_int => k_is)
    (case z_abs => k_is)
    (case z_list => k_is)
    (case z_tuple => k_is)
    (case z_range => k_is)
    (case z_isinstance => k_is)
    (case z_str => k_is)
    (case z_bool => k_is)
    (case z_sum => k_is)
    (case z_sorted => k_is)
    (case z_enumerate => k_is)
    (case z_zip => k_is)
    (case z_max => k_is)
    (case z_min => k_is)
    (case xWattsError => k_is)
    (case xBadText => k_is)
    (case xBadJournal => k_is)
    (case xRefused => k_is)
    (case xTooFast => k_is)
    (case xS => k_is)
    (case xany => k_is)
    (case xtop => rfl)
    (case xLRefused => k_is)
    (case xA => first | k_is | ks_is | kx_is | rfl | kernel_rfl | decide +kernel)
    (case xsaRefused => k_is)
    (case xgaRefused => k_is)
    (case xggRefused => k_is)
    (case xnlRefused => k_is)
    (case xkRefused => first | k_is | ks_is | kx_is | rfl | kernel_rfl | decide +kernel)
    (case xeRefused => k_is)
    (case xvRefused => k_is)
    (case xtRefused => k_is)
    (case xhRefused => k_is)
    (case xselfRefused => first | k_is | ks_is | kx_is | rfl | kernel_rfl | decide +kernel)
    (case xiRefused => k_is)
    (case xitRefused => k_is)
    (case xilRefused => k_is)
    (case xicRefused => k_is)
    (case xccRefused => k_is)
    (case xcdRefused => k_is)
    (case xf2Refused => rfl)
    (case xfileRefused => rfl)
    (case xclRefused => k_is)
    (case xhaRefused => k_is)
    (case xhmRefused => first | k_is | ks_is | kx_is | rfl | kernel_rfl | decide +kernel)
    (case xw4Refused => k_is)
    (case xhn => first | k_is | ks_is | kx_is | rfl | kernel_rfl | decide +kernel)
    (case xht => first | k_is | ks_is | kx_is | rfl | kernel_rfl | decide +kernel)
    (case xw1 => k_is)
    (case xw2 => k_is)
    (case xw3 => k_is)
    (case xkRefused_BadJournal_BadText_TooFast => first | k_is | ks_is | kx_is | rfl | kernel_rfl | decide +kernel)
    (case xkRefused_Refused => first | k_is | ks_is | kx_is | rfl | kernel_rfl | decide +kernel)
    (case yBook => k_is)
    (case yBookg => first | k_is | ks_is | kx_is | rfl | kernel_rfl | decide +kernel)
    (case yBookh => first | k_is | ks_is | kx_is | rfl | kernel_rfl | decide +kernel)
    (case yBooko => first | k_is | ks_is | kx_is | rfl | kernel_rfl | decide +kernel)
    (case yBooks => first | k_is | ks_is | kx_is | rfl | kernel_rfl | decide +kernel)
    (case yBookm => first | k_is | ks_is | kx_is | rfl | kernel_rfl | decide +kernel)
    (case yBookk => first | k_is | ks_is | kx_is | rfl | kernel_rfl | decide +kernel)
    (case yBookn_jobs => k_is)
    (case yBookn_plans => k_is)
    (case yBookn_worked => k_is)
    (case yfBook___init__ => k_is)
    (case yiBook___init__ => k_is)
    (case ykBook___init__ => k_is)
    (case ylBook___init__ => k_is)
    (case ycBook___init__ => k_is)
    (case yfBook_put => k_is)
    (case yiBook_put => k_is)
    (case ykBook_put => k_is)
    (case ylBook_put => k_is)
    (case ycBook_put => k_is)
    (case yfBook_drop => k_is)
    (case yiBook_drop => k_is)
    (case ykBook_drop => k_is)
    (case ylBook_drop => k_is)
    (case ycBook_drop => k_is)
    (case yfBook_jobs => k_is)
    (case yiBook_jobs => k_is)
    (case ykBook_jobs => k_is)
    (case ylBook_jobs => k_is)
    (case ycBook_jobs => k_is)
    (case zgMOST_JOBS => k_is)
