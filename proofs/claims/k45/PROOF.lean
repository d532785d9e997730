import PyProof.Rows.All
import Wide.All
import OpenK.AllK
import Wide.FinOn
import HandS.ForMost
import KE.GoesEnum
import HandS.DictComp
import HandS.Wide
import HandS.Gcd
import HandS.IsInst
import HandS.Defaults
import HandS.Evl
import HandS.TupAny
import HandS.Zip
import HandS.FStr
import HandS.Text
import KE.KIntText
import PyProof.Rows.Chain
import HandS.TryOnly
import PyProof.Rows.StrDigitsNeg
import KE.KExcSuper
import KE.KFromBytes
import KE.KExcIs
import KE.KIsAll
import HandS.Base
import HandS.Call
import HandS.Exc
import HandS.ExcSuper
import HandS.ExcCtx
import HandS.HotCalls
import PyProof.FString
import PyProof.FString4
import HandS.Codes
import HandS.ExcIs
import HandS.ExcOwn
import HandS.Deep
import PyProof.StrBlock2
import PySem.Challenge.RW_sparewatts_k45_wrong_plan_lines
set_option Elab.async false
set_option linter.all false
set_option maxRecDepth 100000
set_option maxHeartbeats 4000000
/-! Own mathematics: lowest terms, greatest common divisors. -/
namespace Z
theorem sgn_mul (b : Int) (hb : b ≠ 0) : b.sign * b = (b.natAbs : Int) := by
  rw [Int.mul_comm]
  exact Int.mul_sign_self b
/-- what both texts reckon: the two parts divided by the greatest common divisor with the sign of the second one -/
theorem nrm_eq (t b : Int) (hb : b ≠ 0) (s : Int) (hs : s = if b < 0 then -((Nat.gcd t.natAbs b.natAbs : Nat) : Int) else ((Nat.gcd t.natAbs b.natAbs : Nat) : Int)) :
    s ≠ 0 ∧ s.natAbs ≤ b.natAbs ∧ t.fdiv s = (Rat.divInt t b).num ∧ b.fdiv s = ((Rat.divInt t b).den : Int) := by
  have g0 : 0 < Nat.gcd t.natAbs b.natAbs := Nat.gcd_pos_of_pos_right _ (by omega)
  have gl : Nat.gcd t.natAbs b.natAbs ≤ b.natAbs := Nat.gcd_le_right _ (by omega)
  have ht : ((Nat.gcd t.natAbs b.natAbs : Nat) : Int) ∣ t := Int.ofNat_dvd_left.mpr (Nat.gcd_dvd_left _ _)
  have hbd : ((Nat.gcd t.natAbs b.natAbs : Nat) : Int) ∣ b := Int.ofNat_dvd_left.mpr (Nat.gcd_dvd_right _ _)
  have hn := Rat.num_divInt t b
  have hd := Rat.den_divInt t b
  have hg : b.gcd t = Nat.gcd t.natAbs b.natAbs := by rw [Int.gcd_comm]; rfl
  rw [hg] at hn hd
  rw [if_neg hb] at hd
  generalize hG : Nat.gcd t.natAbs b.natAbs = g at *
  have g1 : (g : Int) ≠ 0 := by omega
  obtain ⟨t', rfl⟩ := ht
  obtain ⟨b', rfl⟩ := hbd
  have b0 : b' ≠ 0 := by rintro rfl; simp at hb
  have hna : ((g : Int) * b').natAbs = g * b'.natAbs := by rw [Int.natAbs_mul]; rfl
  have dd : (Rat.divInt (↑g * t') (↑g * b')).den = b'.natAbs := by
    rw [hd, hna]
    exact Nat.mul_div_cancel_left _ g0
  have nn : (Rat.divInt (↑g * t') (↑g * b')).num = b'.sign * t' := by
    rw [hn, Int.sign_mul, Int.sign_eq_one_of_pos (show (0 : Int) < g by omega), Int.one_mul, Int.mul_left_comm]
    exact Int.mul_ediv_cancel_left _ g1
  by_cases hneg : (g : Int) * b' < 0
  · rw [if_pos hneg] at hs
    have hb' : b' < 0 := by
      rcases Int.lt_trichotomy b' 0 with h | h | h
      · exact h
      · exact absurd h b0
      · have := Int.mul_pos (show (0 : Int) < g by omega) h
        omega
    refine ⟨by omega, by omega, ?_, ?_⟩
    · rw [nn, hs, Int.sign_eq_neg_one_of_neg hb', show (g : Int) * t' = (-1 * t') * (-(g : Int)) by rw [Int.neg_mul, Int.one_mul, Int.neg_mul_neg, Int.mul_comm]]
      exact Int.mul_fdiv_cancel _ (by omega)
    · rw [dd, hs, show (g : Int) * b' = (-b') * (-(g : Int)) by rw [Int.neg_mul_neg, Int.mul_comm], Int.mul_fdiv_cancel _ (by omega)]
      omega
  · rw [if_neg hneg] at hs
    have hb' : 0 < b' := by
      rcases Int.lt_trichotomy b' 0 with h | h | h
      · have := Int.mul_neg_of_pos_of_neg (show (0 : Int) < g by omega) h
        omega
      · exact absurd h b0
      · exact h
    refine ⟨by omega, by omega, ?_, ?_⟩
    · rw [nn, hs, Int.sign_eq_one_of_pos hb', show (g : Int) * t' = (1 * t') * (g : Int) by rw [Int.one_mul, Int.mul_comm]]
      exact Int.mul_fdiv_cancel _ (by omega)
    · rw [dd, hs, Int.mul_comm, Int.mul_fdiv_cancel _ (by omega)]
      omega
theorem num_le (t b : Int) (hb : b ≠ 0) : (Rat.divInt t b).num.natAbs ≤ t.natAbs := by
  rw [Rat.num_divInt]
  refine Nat.le_trans (Int.natAbs_ediv_le_natAbs _ _) ?_
  rw [Int.natAbs_mul, Int.natAbs_sign_of_ne_zero hb, Nat.one_mul]
  exact Nat.le_refl _
theorem den_le (t b : Int) (hb : b ≠ 0) : (Rat.divInt t b).den ≤ b.natAbs := by
  rw [Rat.den_divInt, if_neg hb]
  exact Nat.div_le_self _ _
/-- the last word of a loop of greatest common divisors: after i turns the two numbers are small -/
def GStep (C i x y : Nat) : Prop := (1 ≤ i → y < x ∧ x * y * 2 ^ (i - 1) ≤ C) ∧ (2 ≤ i → x * 2 ^ (i - 2) ≤ C)
theorem GStep.zero {C x y : Nat} : GStep C 0 x y := ⟨by omega, by omega⟩
theorem GStep.next {i x y a b : Nat} (h : GStep (a * b) i x y) (h0 : i = 0 → x = a ∧ y = b) (hy : y ≠ 0) : GStep (a * b) (i + 1) y (x % y) := by
  have m1 : x % y < y := Nat.mod_lt _ (by omega)
  refine ⟨fun _ => ⟨m1, ?_⟩, fun h2 => ?_⟩
  · by_cases hi : i = 0
    · obtain ⟨rfl, rfl⟩ := h0 hi
      subst hi
      show y * (x % y) * 2 ^ 0 ≤ x * y
      rw [Nat.pow_zero, Nat.mul_one, Nat.mul_comm x y]
      exact Nat.mul_le_mul_left _ (Nat.mod_le _ _)
    · obtain ⟨h1, h2⟩ := h.1 (by omega)
      refine Nat.le_trans ?_ h2
      have e : i + 1 - 1 = (i - 1) + 1 := by omega
      rw [e, Nat.pow_succ]
      have k : 2 * (x % y) ≤ x := by
        have := Nat.div_add_mod x y
        have d : 1 ≤ x / y := Nat.div_pos (by omega) (by omega)
        have : y * 1 ≤ y * (x / y) := Nat.mul_le_mul_left _ d
        omega
      calc y * (x % y) * (2 ^ (i - 1) * 2) = y * (2 * (x % y)) * 2 ^ (i - 1) := by
            rw [Nat.mul_comm (2 ^ (i - 1)) 2, ← Nat.mul_assoc, Nat.mul_assoc y (x % y) 2, Nat.mul_comm (x % y) 2]
        _ ≤ y * x * 2 ^ (i - 1) := Nat.mul_le_mul_right _ (Nat.mul_le_mul_left _ k)
        _ = x * y * 2 ^ (i - 1) := by rw [Nat.mul_comm y x]
  · obtain ⟨h1, h3⟩ := h.1 (by omega)
    refine Nat.le_trans ?_ h3
    have e : i + 1 - 2 = i - 1 := by omega
    rw [e]
    refine Nat.mul_le_mul_right _ ?_
    have : 1 * y ≤ x * y := Nat.mul_le_mul_right _ (by omega)
    omega
theorem GStep.end {C n x y : Nat} (h : GStep C n x y) (hn : 2 ≤ n) (hC : C < 2 ^ (n - 2)) : False := by
  obtain ⟨h1, _⟩ := h.1 (by omega)
  have h2 := h.2 hn
  have : 1 * 2 ^ (n - 2) ≤ x * 2 ^ (n - 2) := Nat.mul_le_mul_right _ (by omega)
  omega
theorem gcd_turn (x y : Nat) : Nat.gcd y (x % y) = Nat.gcd x y := by
  rw [Nat.gcd_comm y, ← Nat.gcd_rec, Nat.gcd_comm]
theorem abs_nat (i : Int) : (if i < 0 then -i else i) = (i.natAbs : Int) := by split <;> omega
end Z

/-! Own mathematics: ratios as rational numbers, and how large they are. -/
namespace Z
def Sz (n : Nat) (q : Rat) : Prop := q.num.natAbs < 2 ^ n ∧ q.den < 2 ^ n
theorem Sz.mono {n m : Nat} {q : Rat} (h : Sz n q) (l : n ≤ m) : Sz m q :=
  ⟨Nat.lt_of_lt_of_le h.1 (Nat.pow_le_pow_right (by decide) l), Nat.lt_of_lt_of_le h.2 (Nat.pow_le_pow_right (by decide) l)⟩
theorem Sz.divInt {n : Nat} {t b : Int} (hb : b ≠ 0) (h : t.natAbs < 2 ^ n) (h' : b.natAbs < 2 ^ n) : Sz n (Rat.divInt t b) :=
  ⟨Nat.lt_of_le_of_lt (num_le t b hb) h, Nat.lt_of_le_of_lt (den_le t b hb) h'⟩
theorem lt_pow_mul {x y a b : Nat} (hx : x < 2 ^ a) (hy : y < 2 ^ b) : x * y < 2 ^ (a + b) := by
  rw [Nat.pow_add]
  exact Nat.mul_lt_mul'' hx hy
theorem denz (q : Rat) : (q.den : Int) ≠ 0 := by
  have := q.den_nz
  omega
theorem den_mul (p q : Rat) : (p.den : Int) * (q.den : Int) ≠ 0 := Int.mul_ne_zero (denz p) (denz q)
theorem r_add (p q : Rat) : Rat.divInt (p.num * (q.den : Int) + q.num * (p.den : Int)) ((p.den : Int) * (q.den : Int)) = p + q := by
  conv => rhs; rw [← Rat.num_divInt_den p, ← Rat.num_divInt_den q]
  rw [Rat.divInt_add_divInt _ _ (denz p) (denz q)]
theorem r_sub (p q : Rat) : Rat.divInt (p.num * (q.den : Int) - q.num * (p.den : Int)) ((p.den : Int) * (q.den : Int)) = p - q := by
  conv => rhs; rw [← Rat.num_divInt_den p, ← Rat.num_divInt_den q]
  rw [Rat.divInt_sub_divInt _ _ (denz p) (denz q)]
theorem r_mul (p q : Rat) : Rat.divInt (p.num * q.num) ((p.den : Int) * (q.den : Int)) = p * q := by
  conv => rhs; rw [← Rat.num_divInt_den p, ← Rat.num_divInt_den q]
  rw [Rat.divInt_mul_divInt _ _]
theorem r_div (p q : Rat) : Rat.divInt (p.num * (q.den : Int)) ((p.den : Int) * q.num) = p / q := by
  rw [Rat.div_def, Rat.inv_def]
  conv => rhs; rw [← Rat.num_divInt_den p]
  rw [Rat.divInt_mul_divInt _ _]
theorem r_less (p q : Rat) : (p.num * (q.den : Int) < q.num * (p.den : Int)) ↔ p < q := (Rat.lt_iff p q).symm
theorem num0 {q : Rat} (h : q ≠ 0) : q.num ≠ 0 := fun z => h (Rat.num_eq_zero.mp z)
section
variable {p q : Rat} {a b : Nat}
theorem Sz.x1 (h : Sz a p) (k : Sz b q) : (p.num * (q.den : Int)).natAbs < 2 ^ (a + b) := by
  rw [Int.natAbs_mul]
  exact lt_pow_mul h.1 k.2
theorem Sz.x2 (h : Sz a p) (k : Sz b q) : (p.num * q.num).natAbs < 2 ^ (a + b) := by
  rw [Int.natAbs_mul]
  exact lt_pow_mul h.1 k.1
theorem Sz.x3 (h : Sz a p) (k : Sz b q) : ((p.den : Int) * (q.den : Int)).natAbs < 2 ^ (a + b) := by
  rw [Int.natAbs_mul]
  exact lt_pow_mul h.2 k.2
theorem Sz.x4 (h : Sz a p) (k : Sz b q) : ((p.den : Int) * q.num).natAbs < 2 ^ (a + b) := by
  rw [Int.natAbs_mul]
  exact lt_pow_mul h.2 k.1
theorem Sz.x5 (h : Sz a p) (k : Sz b q) : (p.num * (q.den : Int) + q.num * (p.den : Int)).natAbs < 2 ^ (a + b + 1) := by
  have h1 := h.x1 k
  have h2 := k.x1 h
  rw [Nat.add_comm b a] at h2
  rw [Nat.pow_succ]
  omega
theorem Sz.x6 (h : Sz a p) (k : Sz b q) : (p.num * (q.den : Int) - q.num * (p.den : Int)).natAbs < 2 ^ (a + b + 1) := by
  have h1 := h.x1 k
  have h2 := k.x1 h
  rw [Nat.add_comm b a] at h2
  rw [Nat.pow_succ]
  omega
theorem up1 {x n : Nat} (h : x < 2 ^ n) : x < 2 ^ (n + 1) := Nat.lt_of_lt_of_le h (Nat.pow_le_pow_right (by decide) (by omega))
theorem Sz.add (h : Sz a p) (k : Sz b q) : Sz (a + b + 1) (p + q) := by
  rw [← r_add]
  exact Sz.divInt (den_mul p q) (h.x5 k) (up1 (h.x3 k))
theorem Sz.sub (h : Sz a p) (k : Sz b q) : Sz (a + b + 1) (p - q) := by
  rw [← r_sub]
  exact Sz.divInt (den_mul p q) (h.x6 k) (up1 (h.x3 k))
theorem Sz.mul (h : Sz a p) (k : Sz b q) : Sz (a + b) (p * q) := by
  rw [← r_mul]
  exact Sz.divInt (den_mul p q) (h.x2 k) (h.x3 k)
theorem Sz.div (h : Sz a p) (k : Sz b q) (hq : q ≠ 0) : Sz (a + b) (p / q) := by
  rw [← r_div]
  exact Sz.divInt (Int.mul_ne_zero (denz p) (num0 hq)) (h.x1 k) (h.x4 k)
end
theorem Sz.zero : Sz 1 0 := ⟨by decide, by decide⟩
end Z

/-! Own mathematics: lists of points, sums of shares, the rival's slots. -/
namespace Z
/-! ### sums of rationals -/
def rsum : List Rat → Rat
  | [] => 0
  | q :: r => q + rsum r
theorem rsum_append : ∀ (xs ys : List Rat), rsum (xs ++ ys) = rsum xs + rsum ys
  | [], ys => by show rsum ys = 0 + rsum ys; grind
  | x :: xs, ys => by
    have := rsum_append xs ys
    show x + rsum (xs ++ ys) = x + rsum xs + rsum ys
    grind
theorem rsum_nonneg : ∀ {xs : List Rat}, (∀ x ∈ xs, 0 ≤ x) → 0 ≤ rsum xs
  | [], _ => by show (0 : Rat) ≤ 0; grind
  | x :: xs, h => by
    have h1 := rsum_nonneg (xs := xs) fun y hy => h y (List.mem_cons_of_mem _ hy)
    have h2 := h x (List.mem_cons_self ..)
    show 0 ≤ x + rsum xs
    grind
theorem rsum_take {xs : List Rat} {i : Nat} {x : Rat} (h : xs[i]? = some x) : rsum (xs.take (i + 1)) = rsum (xs.take i) + x := by
  rw [List.take_add_one, h, rsum_append]
  show _ + (x + 0) = _
  grind
theorem rsum_take_le {xs : List Rat} (h : ∀ x ∈ xs, 0 ≤ x) (i : Nat) : rsum (xs.take i) ≤ rsum xs := by
  have e : xs = xs.take i ++ xs.drop i := (List.take_append_drop i xs).symm
  have h1 : 0 ≤ rsum (xs.drop i) := rsum_nonneg fun x hx => h x (List.mem_of_mem_drop hx)
  have h2 := rsum_append (xs.take i) (xs.drop i)
  rw [← e] at h2
  grind
theorem foldl_rsum : ∀ (xs : List Rat) (z : Rat), xs.foldl (· + ·) z = z + rsum xs
  | [], z => by show z = z + 0; grind
  | x :: xs, z => by
    show xs.foldl (· + ·) (z + x) = z + (x + rsum xs)
    rw [foldl_rsum xs (z + x)]
    grind
/-! ### the order in which a slot is gone through -/
def rot (s n : Nat) : List Nat := List.range' s (n - s) ++ List.range s
theorem rot_len {s n : Nat} (h : s ≤ n) : (rot s n).length = n := by
  unfold rot
  rw [List.length_append, List.length_range', List.length_range]
  omega
theorem rot_at {s n j : Nat} (h : s < n) (hj : j < n) : (rot s n)[j]? = some ((j + s) % n) := by
  unfold rot
  by_cases c : j < n - s
  · rw [List.getElem?_append_left (by rw [List.length_range']; exact c), List.getElem?_range' c, Nat.one_mul]
    rw [Nat.mod_eq_of_lt (by omega), Nat.add_comm]
  · rw [List.getElem?_append_right (by rw [List.length_range']; omega), List.length_range', List.getElem?_range (by omega)]
    congr 1
    have : j + s = (j - (n - s)) + n := by omega
    rw [this, Nat.add_mod_right, Nat.mod_eq_of_lt (by omega)]
theorem rot_perm {s n : Nat} (h : s ≤ n) : (rot s n).Perm (List.range n) := by
  have e : List.range n = List.range s ++ List.range' s (n - s) := by
    have z := @List.range'_append_1 0 s (n - s)
    rw [Nat.zero_add, show s + (n - s) = n by omega] at z
    rw [List.range_eq_range', List.range_eq_range', z]
  rw [e]
  unfold rot
  exact List.perm_append_comm
theorem rsum_perm {xs ys : List Rat} (h : xs.Perm ys) : rsum xs = rsum ys := by
  induction h with
  | nil => rfl
  | cons x _ ih => show x + rsum _ = x + rsum _; rw [ih]
  | swap x y l => show y + (x + rsum l) = x + (y + rsum l); grind
  | trans _ _ h1 h2 => exact h1.trans h2
theorem range_map_getD (xs : List Rat) : (List.range xs.length).map (fun i => xs.getD i 0) = xs := by
  apply List.ext_getElem?
  intro i
  rw [List.getElem?_map]
  by_cases h : i < xs.length
  · rw [List.getElem?_range h, List.getElem?_eq_getElem h]
    show some (xs.getD i 0) = _
    rw [List.getD_eq_getElem?_getD, List.getElem?_eq_getElem h]
    rfl
  · rw [List.getElem?_eq_none (by rw [List.length_range]; omega), List.getElem?_eq_none (by omega)]
    rfl
theorem rot_sum (xs : List Rat) {s : Nat} (h : s ≤ xs.length) : rsum ((rot s xs.length).map (fun i => xs.getD i 0)) = rsum xs := by
  rw [rsum_perm ((rot_perm h).map _), range_map_getD]
/-! ### whole numbers among the ratios -/
theorem divInt_div (z : Int) (n : Int) : Rat.divInt z n = (z : Rat) / (n : Rat) := by exact Rat.divInt_eq_div z n
/-- a ratio whose product with n is whole -/
theorem sz_of_whole {q : Rat} {n z : Int} {m : Nat} (h : q * (n : Rat) = (z : Rat)) (n0 : n ≠ 0) (hn : n.natAbs < 2 ^ m) (hz : z.natAbs < 2 ^ m) : Sz m q := by
  have e : q = Rat.divInt z n := by
    rw [divInt_div, ← h]
    have : (n : Rat) ≠ 0 := fun c => n0 (Rat.intCast_eq_zero_iff.mp c)
    grind
  rw [e]
  exact Sz.divInt n0 hz hn
end Z

/-! A loop over enumerate of a tuple. -/
namespace PySem
section
variable {val : Value} {cell : Obj} {Hq : Heap → Prop}
theorem z_enum_new (Bg : Begins val cell Hq) : Meets (Builtin.«enumerate.__new__» ⟨[.type "enumerate", val], []⟩) (fun _ R st => Hq st.heap ∧
    R (.ok (.ret (.ref (st.heap.push cell).objs.size))) { st with heap := (st.heap.push cell).push { cls := .type "enumerate", data := .fields #[.none, .bool false, .ref st.heap.objs.size, rawInt 0, .none, .none] } }) := by
  refine .of_wp fun prog w A R s h => ?_
  obtain ⟨hp, gl, dd, tk, os⟩ := s
  obtain ⟨hq, h⟩ := h
  have sb := sub_enumerate
  have it : ∀ {A' : Around} {E' : Value → Shared → Prop} {Q' : Value → Shared → Prop}, Q' (.ref hp.objs.size) ⟨hp.push cell, gl, dd, tk, os⟩ → wpAny (model prog w) A' (pyIter val) Q' E' ⟨hp, gl, dd, tk, os⟩ := fun q => Bg.iter prog w _ _ ⟨hp, gl, dd, tk, os⟩ _ hq q
  wp_walk using it
  refine wpAny_stack_any fun _ => wpAny_pure ?_
  split
  next c _ _ _ _ _ =>
    cases (c == Value.type "enumerate") <;> (wp_walk using it; exact ⟨_, rfl, h⟩)
  next =>
    wp_walk using it
    exact ⟨_, rfl, h⟩
end
section
variable {prog : Program} {w : World} {A : Around} {E : Value → Shared → Prop} {s : Shared}
theorem z_enum_call {val : Value} {cell : Obj} {Hq : Heap → Prop} {Q : Value → Shared → Prop} (Bg : Begins val cell Hq) (h1 : Hq s.heap)
    (fin : ∀ hh, IsEnum hh (s.heap.objs.size + 1) s.heap.objs.size 0 .none → hh.get? s.heap.objs.size = some cell → hh.objs.size = s.heap.objs.size + 2 → (∀ b o, s.heap.get? b = some o → hh.get? b = some o) →
      Q (.ref (s.heap.objs.size + 1)) { s with heap := hh }) : wpAny (model prog w) A (call (.type "enumerate") [val]) Q E s := by
  refine callType_new F.called_enumerate (by decide) (F.typeCall_enumerate_1 _) (F.newCall_enumerate_1 _) (fun ob => F.args_object_init_2 ob _) F.entry_enumerate_new (z_enum_new Bg) ⟨h1, ?_⟩
  have sz : (s.heap.push cell).objs.size = s.heap.objs.size + 1 := Heap.size_push ..
  show _ ∧ _
  rw [sz]
  have he : IsEnum ((s.heap.push cell).push { cls := .type "enumerate", data := .fields #[.none, .bool false, .ref s.heap.objs.size, rawInt 0, .none, .none] }) (s.heap.objs.size + 1) s.heap.objs.size 0 .none := by
    have z := Heap.get?_push_size (s.heap.push cell) (o := { cls := .type "enumerate", data := .fields #[.none, .bool false, .ref s.heap.objs.size, rawInt 0, .none, .none] }) rfl
    rw [sz] at z
    exact z
  exact ⟨⟨_, he, rfl⟩, fin _ he (Heap.get?_push_of_some _ (Heap.get?_push_size _ Bg.free)) (by rw [Heap.size_push, sz]) fun b o x => Heap.get?_push_of_some _ (Heap.get?_push_of_some _ x)⟩
end
end PySem
namespace Z
open PySem PySem.Spec PyProof.Rows L2
/-- the tuple at a, each item in a new pair -/
def IteT (K : PySem.W.Frag) (a : Addr) : It :=
  ⟨fun i H => ∃ (xs : List V) (x : V), SqT K H a xs ∧ xs[i]? = some x, fun i H v H' => ∃ T x, v = .ref T ∧ H T = none ∧ H' = upd H T (.tup [.int (i : Nat), x]) ∧ ∀ xs, SqT K H a xs → xs[i]? = some x, fun i H => ∃ xs : List V, SqT K H a xs ∧ xs.length = i⟩
theorem turn_enumT {P : Program} {w : World} {K : PySem.W.Frag} {elts : List Expr} {kk : Nat} {tpos : Pos} (a e it : Addr) :
    Turn P w K (.Tuple elts kk tpos) (IteT K a) [e, it] e (fun i h => (∃ old, IsEnum h e it ((i : Nat) : Int) old) ∧ h.IsTupleIter it a i ∧ e ≠ it ∧ a ≠ it ∧ a ≠ e) where
  mem := by simp
  obj := fun i h st b hb => by
    obtain ⟨⟨old, he⟩, ⟨o, ho, hc, hd⟩, _⟩ := st
    rcases (show b = e ∨ b = it by simpa using hb) with z | z
    · rw [z]
      exact ⟨_, he, fun v q => nomatch q⟩
    · rw [z]
      refine ⟨o, ho, fun v q => ?_⟩
      rw [hd] at q
      cases q
  keep := fun i h h' st k => by
    obtain ⟨⟨old, he⟩, hi, rest⟩ := st
    exact ⟨⟨old, k e (by simp) _ he⟩, hi.at fun o q => k it (by simp) o q, rest⟩
  item := by
    intro X hP hw hK hc i pins s σ H E I hf st hg
    subst hP hw hK
    obtain ⟨⟨old, he⟩, hit, hne, hai, hae⟩ := st
    obtain ⟨xs, x, hq, hx⟩ := hg
    obtain ⟨its, rv, p, hz⟩ := I.tuple hq
    obtain ⟨u, hu, ru⟩ := rv.get hx
    have hel : e < s.heap.objs.size := Heap.lt_size he
    have hil : it < s.heap.objs.size := by
      obtain ⟨_, q, _⟩ := hit
      exact Heap.lt_size q
    have hh : X.A.in1.handled = none := I.ok.hd hc
    have hlt : i < its.toArray.size := by
      rw [List.size_toArray]
      exact (List.getElem?_eq_some_iff.mp hu).1
    refine wpAny_pyNext_enum_itemD (Draws.tuple hh it a hai its.toArray) he ⟨hit, (show s.heap.IsTuple a its.toArray from p)⟩ hlt hne (by simp [hne, Ne.symm hae]) fun y h' tk hy ho hst hT hsz hk => ?_
    have ey : u = y := Option.some.inj ((show its.toArray[i]? = some u by simpa using hu).symm.trans hy)
    subst ey
    refine ⟨_, rfl, wpAny_letOwnedTupleGo_enum (s := { s with heap := h', toks := tk + 1 }) ho fun h'' he' sb => ?_⟩
    have hT2 : h''.get? s.heap.objs.size = some { cls := .type "tuple", data := .seq #[.int i tk, u] } := (sb.2 _ (Nat.ne_of_gt hel)).trans hT
    have new : ObjOk X.prog X.w (upd H s.heap.objs.size (.tup [.int (i : Nat), x])) h'' s.heap.objs.size (.tup [.int (i : Nat), x]) :=
      ⟨(by show 2 ≤ sizeLine; decide), [.int i tk, u], .cons ⟨_, rfl⟩ (.cons ru .nil), ⟨_, hT2, rfl, _, rfl⟩⟩
    have kept : ∀ b ob, b ∉ [e, it] → s.heap.get? b = some ob → h''.get? b = some ob := fun b ob hb q =>
      (sb.2 b (fun z => hb (by simp [z]))).trans (hk b ob (fun z => hb (by simp [z])) (fun z => hb (by simp [z])) q)
    have I1 : Inv X pins σ (upd H s.heap.objs.size (.tup [.int (i : Nat), x])) { s with heap := h'', toks := tk + 1 } := I.turnedNew (ch := [e, it]) kept hf (Nat.le_refl _) new
    refine ⟨.ref s.heap.objs.size, _, I1, rfl, ⟨_, x, rfl, I.hok.fresh (Nat.le_refl _), rfl, fun ys hy => by rw [I.tuple_inj hy hq]; exact hx⟩, ⟨⟨u, ?_⟩, hst.1.at fun o q => (sb.2 it (Ne.symm hne)).trans q, hne, hai, hae⟩, fun b hb => ?_⟩
    · rw [show ((i + 1 : Nat) : Int) = (i : Int) + 1 by omega]
      exact he'
    · have hb' : b < s.heap.objs.size := by
        rcases (show b = e ∨ b = it by simpa using hb) with z | z
        · rw [z]
          exact hel
        · rw [z]
          exact hil
      rw [upd_ne (Nat.ne_of_lt hb')]
      exact (hf b hb).1
  done := by
    intro X hP hw hK hc i pins s σ H E I hf st hg
    subst hP hw hK
    obtain ⟨⟨old, he⟩, hit, hne, hai, hae⟩ := st
    obtain ⟨xs, hq, hx⟩ := hg
    obtain ⟨its, rv, p, hz⟩ := I.tuple hq
    obtain ⟨f0, f1, f2, f3, f4, f5⟩ := hf it (by simp)
    have hl := rv.length
    have hh : X.A.in1.handled = none := I.ok.hd hc
    have hn : its.toArray.size = i := by
      rw [List.size_toArray]
      omega
    refine wpAny_pyNext_enum_endD (Draws.tuple hh it a hai its.toArray) he ⟨by rw [hn]; exact hit, (show s.heap.IsTuple a its.toArray from p)⟩ fun h' eb => ⟨rfl, I.turned (t' := s.toks) (fun b o hb q => eb b o hb q) f0 f1 f3 f4 f5⟩
  self := fun A i s Q E st h => by
    obtain ⟨⟨_, he⟩, _⟩ := st
    exact wpAny_pyIter_enum he h
def iEnumT (K : PySem.W.Frag) (ta : TA) : TI := fun σ H R => ta σ H fun vs H1 => ∃ a xs, vs = [.ref a] ∧ SqT K H1 a xs ∧ R (IteT K a) H1
theorem pi_enumT {X : Cx} {e : Expr} {ta : TA} {p pos tpos : Pos} {elts : List Expr} {kk : Nat} (hg : Gl X "enumerate") (hm : X.mg "enumerate" = none) (ha : PA X [e] ta) (hs : starEach [e] X.env = [(false, eval e X.env)] := by rfl) :
    PI X (.Tuple elts kk tpos) (.Call (.Name "enumerate" p) [e] [] pos) (iEnumT X.K ta) := by
  refine ⟨fun pins s σ H R I h => ?_⟩
  refine Call_ (ld_blt I hg hm boot_enumerate (PyProof.Rows.callWith_type1 (thn (ha.run pos pins s σ H _ I h) fun us s1 got => ?_) hs rfl))
  obtain ⟨vs, H1, I1, r1, a, xs, ex, hq, q⟩ := got
  subst ex
  cases r1 with
  | cons r rr =>
    cases rr
    cases r
    obtain ⟨its, rv, p', hz⟩ := I1.tuple hq
    have p2 : s1.heap.IsTuple a its.toArray := p'
    have al : a < s1.heap.objs.size := by
      obtain ⟨o, ho, _⟩ := p'
      exact Heap.lt_size ho
    refine z_enum_call (begins_tuple a its.toArray) p2 fun h' he hit hsz hk => wpAny_pyIter_enum he ?_
    have I2 : Inv X pins σ H1 { s1 with heap := h' } := I1.kept (t' := s1.toks) hk
    have n1 : a ≠ s1.heap.objs.size := Nat.ne_of_lt al
    have n2 : a ≠ s1.heap.objs.size + 1 := Nat.ne_of_lt (Nat.lt_succ_of_lt al)
    refine ⟨s1.heap.objs.size + 1, [s1.heap.objs.size + 1, s1.heap.objs.size], _, _, H1, rfl, I2, turn_enumT a (s1.heap.objs.size + 1) s1.heap.objs.size, ⟨⟨.none, he⟩, ⟨_, hit, rfl, rfl⟩, Nat.succ_ne_self _, n1, n2⟩, fun b hb => ?_, q⟩
    have hle : s1.heap.objs.size ≤ b := by
      rcases (show b = s1.heap.objs.size + 1 ∨ b = s1.heap.objs.size by simpa using hb) with z | z
      · rw [z]
        exact Nat.le_succ _
      · rw [z]
        exact Nat.le_refl _
    exact I1.fpOk hle (I1.hok.fresh hle)
/-- a loop over enumerate of a tuple -/
theorem for_enumT {K : PySem.W.Frag} {a : Addr} {xs : List V} {g : TG} {tb : TS} {D : L2.Ends} {σ : L2.St} {H : Hp} (Pv : Nat → L2.St → Hp → Prop) (h0 : Pv 0 σ H) (hl : ∀ i σ H, i ≤ xs.length → Pv i σ H → SqT K H a xs)
    (hs : ∀ i x T σ H, xs[i]? = some x → Pv i σ H → H T = none → g (.ref T) σ (upd H T (.tup [.int (i : Nat), x])) fun σ2 H2 => tb { D with nx := Pv (i + 1), ct := Pv (i + 1), bk := D.nx } σ2 H2) (hd : ∀ σ H, Pv xs.length σ H → D.nx σ H) :
    ∃ W : Nat → Nat → L2.St → Hp → Prop, (∃ m, W 0 m σ H) ∧ ∀ i m σ H, W i m σ H →
      ((IteT K a).stop i H ∧ D.nx σ H) ∨ ((IteT K a).go i H ∧ ∃ N : L2.St → Hp → Prop, (∀ σ' H', N σ' H' → ∃ m', m' < m ∧ W (i + 1) m' σ' H') ∧ ∀ x H', (IteT K a).yld i H x H' → g x σ H' fun σ2 H2 => tb { D with nx := N, ct := N, bk := D.nx } σ2 H2) := by
  refine ⟨fun i m σ H => m = xs.length - i ∧ i ≤ xs.length ∧ Pv i σ H, ⟨xs.length, (Nat.sub_zero _).symm, Nat.zero_le _, h0⟩, ?_⟩
  rintro i m σ H ⟨rfl, hi, p⟩
  have q := hl i σ H hi p
  by_cases c : i < xs.length
  · have gx : xs[i]? = some xs[i] := List.getElem?_eq_getElem c
    refine .inr ⟨⟨xs, xs[i], q, gx⟩, Pv (i + 1), fun σ' H' p' => ⟨xs.length - (i + 1), by omega, rfl, c, p'⟩, ?_⟩
    rintro v H' ⟨T, x, rfl, nT, rfl, fx⟩
    exact hs i x T σ H (fx xs q) p nT
  · have e : i = xs.length := by omega
    subst e
    exact .inl ⟨⟨xs, q, rfl⟩, hd σ H p⟩
end Z

/-! name = {k: v for ..} on one line, the name a local. -/
namespace Z
open PySem PySem.Spec PyProof.Rows L2
section
variable {X : Cx}
theorem ps_setDc {i : Nat} {nm : Str} {pn : Pos} {ke ve target it : Expr} {cs : List Expr} {sc : Scope} {own : List (Str × Nat)} {cp sp : Pos} {wi : TI} {g : TG} {tt : TT} {tk tv : TE} (calm : X.calm = true) (nodup : X.N.Nodup) (slot : X.N[i]? = some nm) (loc : X.env.scope.names.lookup nm = some .local)
    (sw : swapsWith (.DictComp ke ve [⟨target, it, cs, 0⟩] sc cp) (some (.Name nm pn)) sp.line X.env = pure true) (walk : PI X target it wi) (blk : BlkOk X.N X.env.scope sc own)
    (h1 : ∀ (s : Shared) (H : Hp) (C : Addr) (cl : List (Str × Addr)) (fp : List Addr), PG (X.blk s H sc (compEnvC sc cl C X.env) fp) target g)
    (h2 : ∀ (s : Shared) (H : Hp) (C : Addr) (cl : List (Str × Addr)) (fp : List Addr), PTs (X.blk s H sc (compEnvC sc cl C X.env) fp) cs tt)
    (h3 : ∀ (s : Shared) (H : Hp) (C : Addr) (cl : List (Str × Addr)) (fp : List Addr), PE (X.blk s H sc (compEnvC sc cl C X.env) fp) ke tk)
    (h4 : ∀ (s : Shared) (H : Hp) (C : Addr) (cl : List (Str × Addr)) (fp : List Addr), PE (X.blk s H sc (compEnvC sc cl C X.env) fp) ve tv)
    (fold : ∀ x, foldedSetIterable it X.env x = pure x := by intro _; rfl) :
    PS X (.Assign [.Name nm pn] (.DictComp ke ve [⟨target, it, cs, 0⟩] sc cp) sp) (tAsg (tDc wi g tt tk tv (own.map (·.2))) (gName i)) := by
  refine ⟨fun pins s σ H D inv rd => ?_⟩
  rw [exec_Assign_Name_used _ _ _ _ sw]
  refine wpAny_bind (wpAny_standAt (wpAny_bind ?_))
  have rd' : tDc wi g tt tk tv (own.map (·.2)) σ H (fun x H1 => gName i x σ H1 D.nx) := rd
  refine wpAny_bind (thn (dc_core (use := some (assign (.Name nm pn) X.env)) (Qf := fun _ s' => SP X pins D .next s') calm nodup inv walk blk h1 h2 h3 h4 fold rd' fun L C s' m H' inv' q ns free => ?_) fun _ s' hq => wpAny_pure (wpAny_pure hq))
  show wpAny _ _ (assign (.Name nm pn) X.env (.ref L)) _ _ _
  refine wpAny_assign_Name (store_ok2 (v := V.ref L) inv' nodup slot (.inl loc) rfl (fun s2 inv2 stored => ?_) (.inr loc))
  obtain ⟨a, same, where_⟩ := stored
  obtain ⟨e0, e1, e2, e3, e4, e5⟩ := free
  have apart : C ≠ a := by
    rcases where_ with z | z
    · rw [z]
      exact e1
    · exact fun e => e4 nm a z e.symm
  exact ⟨m, ns.sameBut same apart, fun h5 same5 => ⟨_, H', inv2.turned (t' := s2.toks) (fun b o hb e => (same5.2 b hb).trans e) e0 e1 e3 e4 e5, q⟩⟩
theorem sw_dict {ke ve : Expr} {gs : List Comprehension} {sc : Scope} {cp pn : Pos} {nm : Str} {l : Nat} {env : Env} (kind : env.scope.kind = .function) (loc : env.scope.names.lookup nm = some .local) (row : (pn.line == cp.line) = true)
    (other : (sc.names.any fun (n, k) => n == nm && (k == .local || k == .cell)) = false) : swapsWith (.DictComp ke ve gs sc cp) (some (.Name nm pn)) l env = pure true := by
  have k1 : env.kindOf nm = some .local := loc
  have k2 : env.blockKind = .function := by
    unfold Env.blockKind
    rw [kind]
    rfl
  unfold swapsWith
  simp only [k1, k2, other, Expr.pos, row]
  rfl
end
end Z

/-! Own base: a def's promise with its place, draws, data that is made of tuples. -/
namespace Z
open PySem PySem.Spec PyProof.Rows L2

/-! ### heaps -/
/-- all stays but what stands at p -/
def Kp (p : Addr) (H H' : Hp) : Prop := ∀ a o, a ≠ p → H a = some o → H' a = some o
theorem Kp.refl (p : Addr) (H : Hp) : Kp p H H := fun _ _ _ h => h
theorem Kp.trans {p : Addr} {H H1 H2 : Hp} (a : Kp p H H1) (b : Kp p H1 H2) : Kp p H H2 := fun x o n h => b x o n (a x o n h)
theorem Kp.of {p : Addr} {H H' : Hp} (e : Same H H') : Kp p H H' := fun a o _ h => e a o h
theorem Kp.sto {p : Addr} {H : Hp} {o : HO} : Kp p H (upd H p o) := fun a u n h => by rw [upd_ne n]; exact h
theorem same_upd {H : Hp} {p : Addr} {o : HO} (h : H p = none) : Same H (upd H p o) := fun b x e => by
  rw [upd_ne (ne_of_none e h)]
  exact e
theorem Kp.new {p q : Addr} {H : Hp} {o : HO} (h : H q = none) : Kp p H (upd H q o) := .of (same_upd h)
/-- a place that H does not know may change -/
theorem Kp.mut {p q : Addr} {H H' : Hp} {o : HO} (e : Kp p H H') (h : H q = none) : Kp p H (upd H' q o) := fun a u n ha => by
  rw [upd_ne (ne_of_none ha h)]
  exact e a u n ha
theorem Same.mut {q : Addr} {H H' : Hp} {o : HO} (e : Same H H') (h : H q = none) : Same H (upd H' q o) := fun a u ha => by
  rw [upd_ne (ne_of_none ha h)]
  exact e a u ha
/-- what may be read as a tuple stays so -/
def Tm (H H' : Hp) : Prop := ∀ a xs, Rd H a (.tup xs) → Rd H' a (.tup xs)
theorem Same.tm {H H' : Hp} (e : Same H H') : Tm H H' := fun a xs h => by
  rcases h with h | ⟨o, h⟩
  · exact .inl (e _ _ h)
  · exact .inr ⟨o, e _ _ h⟩
theorem Kp.tm {p : Addr} {H H' : Hp} {xs : List V} (e : Kp p H H') (hp : H p = some (.lst xs)) : Tm H H' := fun a ys h => by
  rcases h with h | ⟨o, h⟩
  · exact .inl (e _ _ (by rintro rfl; rw [hp] at h; cases h) h)
  · exact .inr ⟨o, e _ _ (by rintro rfl; rw [hp] at h; cases h) h⟩
theorem Tm.refl (H : Hp) : Tm H H := fun _ _ h => h
theorem Tm.trans {H H1 H2 : Hp} (a : Tm H H1) (b : Tm H1 H2) : Tm H H2 := fun x o h => b x o (a x o h)
/-- a list is stored -/
theorem Tm.lst {p : Addr} {H : Hp} {xs ys : List V} (hp : H p = some (.lst xs)) : Tm H (upd H p (.lst ys)) := Kp.tm (Kp.sto (p := p)) hp
theorem Tm.new {p : Addr} {H : Hp} {o : HO} (hp : H p = none) : Tm H (upd H p o) := Same.tm (same_upd hp)
theorem Tm.sq {K : PySem.W.Frag} {H H' : Hp} {a : Addr} {xs : List V} (e : Tm H H') (h : SqT K H a xs) : SqT K H' a xs := by
  rcases h with h | h
  · exact .inl (e _ _ h)
  · exact .inr h

/-! ### data of tuples -/
mutual
inductive Is (K : PySem.W.Frag) (H : Hp) : V → PyData → Prop
  | non : Is K H .non .none
  | bl (b : Bool) : Is K H (.bl b) (.bool b)
  | int (i : Int) : Is K H (.int i) (.int i)
  | str (x : Str) : Is K H (.str x) (.str x)
  | tup {a : Addr} {xs : List V} {ds : List PyData} : SqT K H a xs → IsA K H xs ds → Is K H (.ref a) (.tuple ds)
inductive IsA (K : PySem.W.Frag) (H : Hp) : List V → List PyData → Prop
  | nil : IsA K H [] []
  | cons {v : V} {vs : List V} {d : PyData} {ds : List PyData} : Is K H v d → IsA K H vs ds → IsA K H (v :: vs) (d :: ds)
end
section
variable {K : PySem.W.Frag} {H H' : Hp}
mutual
theorem Is.mono (e : Tm H H') : ∀ (d : PyData) {v : V}, Is K H v d → Is K H' v d
  | _, _, .non => .non
  | _, _, .bl b => .bl b
  | _, _, .int i => .int i
  | _, _, .str x => .str x
  | .tuple ds, _, .tup s a => .tup (e.sq s) (IsA.mono e ds a)
theorem IsA.mono (e : Tm H H') : ∀ (ds : List PyData) {vs : List V}, IsA K H vs ds → IsA K H' vs ds
  | _, _, .nil => .nil
  | d :: ds, _, .cons h t => .cons (Is.mono e d h) (IsA.mono e ds t)
end
mutual
theorem Is.dp : ∀ (d : PyData) {v : V}, Is K H v d → Dp K H v d
  | _, _, .non => .non
  | _, _, .bl b => .bl b
  | _, _, .int i => .int i
  | _, _, .str x => .str x
  | .tuple ds, _, .tup s a => .tup s (IsA.dp ds a)
theorem IsA.dp : ∀ (ds : List PyData) {vs : List V}, IsA K H vs ds → DpAll K H vs ds
  | _, _, .nil => .nil
  | d :: ds, _, .cons h t => .cons (Is.dp d h) (IsA.dp ds t)
end
theorem Is.to {d : PyData} {v : V} (h : Is K H v d) (e : Tm H H') : Is K H' v d := Is.mono e d h
theorem IsA.to {ds : List PyData} {vs : List V} (h : IsA K H vs ds) (e : Tm H H') : IsA K H' vs ds := IsA.mono e ds h
theorem Is.int' {v : V} {i : Int} (h : Is K H v (.int i)) : v = .int i := by cases h; rfl
theorem Is.str' {v : V} {i : Str} (h : Is K H v (.str i)) : v = .str i := by cases h; rfl
theorem Is.tup' {v : V} {ds : List PyData} (h : Is K H v (.tuple ds)) : ∃ a xs, v = .ref a ∧ SqT K H a xs ∧ IsA K H xs ds := by
  cases h with
  | tup s a => exact ⟨_, _, rfl, s, a⟩
theorem IsA.len : ∀ {vs : List V} {ds : List PyData}, IsA K H vs ds → vs.length = ds.length
  | _, _, .nil => rfl
  | _, _, .cons _ t => congrArg Nat.succ (IsA.len t)
theorem IsA.get : ∀ {vs : List V} {ds : List PyData} {i : Nat} {d : PyData}, IsA K H vs ds → ds[i]? = some d → ∃ v, vs[i]? = some v ∧ Is K H v d
  | _, _, _, _, .nil, e => by simp at e
  | _, _, 0, _, .cons h _, e => by simp at e; subst e; exact ⟨_, rfl, h⟩
  | _, _, i + 1, d, .cons _ t, e => by
    obtain ⟨v, h1, h2⟩ := IsA.get (i := i) (d := d) t (by simpa using e)
    exact ⟨v, by simpa using h1, h2⟩
theorem IsA.append : ∀ {vs us : List V} {ds es : List PyData}, IsA K H vs ds → IsA K H us es → IsA K H (vs ++ us) (ds ++ es)
  | _, _, _, _, .nil, s => s
  | _, _, _, _, .cons h t, s => .cons h (IsA.append t s)
theorem IsA.take : ∀ {vs : List V} {ds : List PyData} (n : Nat), IsA K H vs ds → IsA K H (vs.take n) (ds.take n)
  | _, _, 0, _ => .nil
  | _, _, _ + 1, .nil => .nil
  | _, _, n + 1, .cons h t => .cons h (IsA.take n t)
theorem IsA.drop : ∀ {vs : List V} {ds : List PyData} (n : Nat), IsA K H vs ds → IsA K H (vs.drop n) (ds.drop n)
  | _, _, 0, h => h
  | _, _, _ + 1, .nil => .nil
  | _, _, n + 1, .cons _ t => IsA.drop n t
theorem IsA.set {v : V} {d : PyData} (h : Is K H v d) : ∀ {vs : List V} {ds : List PyData} (i : Nat), IsA K H vs ds → IsA K H (vs.set i v) (ds.set i d)
  | _, _, _, .nil => .nil
  | _, _, 0, .cons _ t => .cons h t
  | _, _, i + 1, .cons q t => .cons q (IsA.set h i t)
theorem IsA.two {a b : V} {d e : PyData} (h : Is K H a d) (h' : Is K H b e) : IsA K H [a, b] [d, e] := .cons h (.cons h' .nil)
theorem Is.two' {v : V} {d e : PyData} (h : Is K H v (.tuple [d, e])) : ∃ p a b, v = .ref p ∧ SqT K H p [a, b] ∧ Is K H a d ∧ Is K H b e := by
  obtain ⟨p, xs, rfl, s, q⟩ := h.tup'
  cases q with
  | cons h1 q => cases q with
    | cons h2 q => cases q; exact ⟨p, _, _, rfl, s, h1, h2⟩
/-- a new tuple -/
theorem Is.newT {p : Addr} {xs : List V} {ds : List PyData} (hp : H p = none) (h : IsA K H xs ds) : Is K (upd H p (.tup xs)) (.ref p) (.tuple ds) := .tup (.inl (.inl upd_same)) (h.to (Tm.new hp))
/-- its type -/
def tyD : PyData → String
  | .none => "NoneType" | .bool _ => "bool" | .int _ => "int" | .str _ => "str" | _ => "tuple"
theorem Is.ty {v : V} {d : PyData} (h : Is K H v d) : TyX K H v (.type (tyD d)) := by
  cases h with
  | non => exact .base .non
  | bl b => exact .base (.bl b)
  | int i => exact .base (.int i)
  | str x => exact .base (.str x)
  | tup s a =>
    rcases s with (s | ⟨o, s⟩) | ⟨o, its, n, hk, hc, _⟩
    · exact .base (.tup s)
    · exact .fTuple s
    · exact .kTuple hk hc
end

/-! ### a def of the text, and what it promises -/
structure At (K : PySem.W.Frag) (mg : Str → Option Value) (x : Str) (st : Stmt) (ps : List Str) : Prop where
  ex : ∃ (f : Addr) (fd : FuncData), Fun K x x st f fd ∧ mg x = some (.ref f) ∧ Binds K fd ps []
structure Ok (P : Program) (w : World) (K : PySem.W.Frag) (mg : Str → Option Value) (base : Heap) (lvl : Nat) (x : Str) (ps : List Str) (dvs : List V) (sp : Sp) : Prop where
  ex : ∃ (f : Addr) (fd : FuncData) (ds : List Value), FnOk P w K mg base CX0 lvl f fd ps sp ∧ mg x = some (.ref f) ∧ PySem.W.keepIn K (.ref f) = true ∧ Binds K fd ps ds ∧ Vals dvs ds
section
variable {P : Program} {w : World} {K : PySem.W.Frag} {mg : Str → Option Value} {base : Heap} {x : Str} {st : Stmt} {ps N : List Str} {k : Nat} {sp : Sp}
theorem At.ok (F : At K mg x st ps) (S : FnScope N ps (defScope st)) (len : ∀ vs H Q E, sp vs H Q E → vs.length = ps.length)
    (hbody : ∀ (f : Addr) (cdv : Value) (A : Around) (outer : List Env) (s : Shared) (H : Hp) (vs : List V) (Q : VK) (E : XK), Room k (A.deeper (envOfC x (defScope st) s.heap.objs.size f cdv)) → sp vs H Q E →
      ∃ t, PSs (cxOf CX0 P w K mg base N x (defScope st) f cdv A outer s H E).nox (defBody st) t ∧ t { nx := fun _ H' => Q .non H', rt := Q } (start N vs) H) : Ok P w K mg base (k + 1) x ps [] sp := by
  obtain ⟨f, fd, F, m, b⟩ := F.ex
  exact ⟨f, fd, [], F.ok S len (fun cdv A outer s H vs Q E hr h => hbody f cdv A outer s H vs Q E hr h), m, F.kp, b, .nil⟩
theorem Ok.imp {dvs : List V} {sp' : Sp} (F : Ok P w K mg base k x ps dvs sp) (h : ∀ vs H Q E, sp' vs H Q E → sp vs H Q E) : Ok P w K mg base k x ps dvs sp' := by
  obtain ⟨f, fd, ds, F, m, kp, b, d⟩ := F.ex
  exact ⟨f, fd, ds, F.imp h, m, kp, b, d⟩
theorem Ok.up {dvs : List V} {j : Nat} (F : Ok P w K mg base k x ps dvs sp) (h : k ≤ j) : Ok P w K mg base j x ps dvs sp := by
  obtain ⟨f, fd, ds, F, m, kp, b, d⟩ := F.ex
  exact ⟨f, fd, ds, F.mono h, m, kp, b, d⟩
end
section
variable {X : Cx} {x : Str} {p pos : Pos} {e : Expr} {es : List Expr} {k : Nat} {ps : List Str} {dvs : List V} {sp : Sp} {t : TA}
theorem pe_ok (C : Ok X.prog X.w X.K X.mg X.base k x ps dvs sp) (hr : Room k X.A) (hg : Gl X x) (ha : PA X (e :: es) t) (hdb : (x == ("__debug__" : Str)) = false := by decide)
    (he : starEach (e :: es) X.env = (false, eval e X.env) :: starEach es X.env := by rfl) (hpl : (backTo pos (starEach es X.env)).any (·.1) = false := by rfl) :
    PE X (.Call (.Name x p) (e :: es) [] pos) (tCall sp dvs E0 t) := by
  obtain ⟨f, fd, ds, F, m, kp, b, d⟩ := C.ex
  exact pe_call F hr hg m kp b d pass0 ha hdb he hpl
/-- // by any divisor but 0 below 2 ^ 9000 -/
def CDivX (_ j : Int) : Prop := j ≠ 0 ∧ j.natAbs.log2 < 9000
theorem op_fdivX : OpR X (binaryOp .FloorDiv) (rI CDivX fun i j => .int (i.fdiv j)) := opI fun i j _ _ _ _ _ hc q => floordiv_int hc.1 q (.inl (PyProof.noPylong_of_log2 hc.2))
end
section
variable {X : Cx}
/-- a product: one side small, or both of moderate size -/
def CMulX (i j : Int) : Prop := CMul i j ∨ CMulW i j
theorem op_mulX : OpR X (binaryOp .Mult) (rI CMulX fun i j => .int (i * j)) := opI fun _ _ _ _ _ _ _ hc q => mul_int q (hc.elim (fun h => h.ok) (fun h => h.ok))
end
theorem mulL {i j : Int} (h : -(2 ^ 64) < i ∧ i < 2 ^ 64) : CMulX i j := .inl (.inl h)
theorem mulR {i j : Int} (h : -(2 ^ 64) < j ∧ j < 2 ^ 64) : CMulX i j := .inl (.inr h)
/-! the same rules, the written part named (within a comprehension) -/
section
variable {X : Cx} {K : PySem.W.Frag}
theorem ix_tupK (h : X.K = K) : IxR X (rIxT K) := h ▸ ix_tup
theorem ix_listK (h : X.K = K) : IxR X (rIxL K) := h ▸ ix_list
theorem call_lenK (h : X.K = K) : CallR X (.builtin "len") (fun xs H Q => ∃ p ys, xs = [.ref p] ∧ (SqL K H p ys ∨ SqT K H p ys) ∧ Q (.int ys.length) H) := h ▸ call_len_seq
theorem op_inK (h : X.K = K) : OpR X (compareOp .In) (rIn K false) := h ▸ op_in_seq
theorem op_notInK (h : X.K = K) : OpR X (compareOp .NotIn) (rIn K true) := h ▸ op_notIn_seq
theorem op_eqK (h : X.K = K) (hu : X.A.units + 64 < cLine) : OpR X (compareOp .Eq) (rEqD K) := h ▸ op_eqD hu
theorem op_neK (h : X.K = K) (hu : X.A.units + 64 < cLine) : OpR X (compareOp .NotEq) (rNeD K) := h ▸ op_neD hu
theorem sl_listK (h : X.K = K) : SlR X (rSlL K) := h ▸ sl_list
theorem sl_tupK (h : X.K = K) : SlR X (rSlT K) := h ▸ sl_tup
end
/-- what the program leaves alone -/
structure BI (mg : Str → Option Value) : Prop where
  len : mg "len" = none
  int : mg "int" = none
  abs : mg "abs" = none
  list : mg "list" = none
  tuple : mg "tuple" = none
  range : mg "range" = none
  isinstance : mg "isinstance" = none
  str : mg "str" = none
  bool : mg "bool" = none
  sum : mg "sum" = none
  sorted : mg "sorted" = none
  enumerate : mg "enumerate" = none

/-! ### draws -/
/-- a pool of draws stands at p, its cells at a -/
def Pl (p a : Addr) (H : Hp) : Prop := ∃ (ns : List Int) (i rest last cnt : Int), a ≠ p ∧ H p = some (.lst [.ref a, .int i, .int rest, .int last, .int cnt]) ∧ H a = some (.lst (ns.map V.int)) ∧ ns.length ≤ 63 ∧
  0 ≤ i ∧ 0 ≤ rest ∧ 0 ≤ last ∧ last < 1000000000000000000 ∧ 0 ≤ cnt
theorem Pl.lst {p a : Addr} {H : Hp} (h : Pl p a H) : ∃ xs, H p = some (.lst xs) := by
  obtain ⟨ns, i, rest, last, cnt, _, h, _⟩ := h
  exact ⟨_, h⟩
theorem Pl.tm {p a : Addr} {H H' : Hp} (h : Pl p a H) (e : Kp p H H') : Tm H H' := by
  obtain ⟨xs, h⟩ := h.lst
  exact e.tm h
theorem Pl.same {p a : Addr} {H H' : Hp} (h : Pl p a H) (e : Same H H') : Pl p a H' := by
  obtain ⟨ns, i, rest, last, cnt, n, h, h1, h2⟩ := h
  exact ⟨ns, i, rest, last, cnt, n, e _ _ h, e _ _ h1, h2⟩
/-- another place is stored -/
theorem Pl.mut {p a q : Addr} {H : Hp} {o : HO} (h : Pl p a H) (n : q ≠ p) (na : q ≠ a) : Pl p a (upd H q o) := by
  obtain ⟨ns, i, rest, last, cnt, nn, h, h1, h3⟩ := h
  exact ⟨ns, i, rest, last, cnt, nn, by rw [upd_ne n.symm]; exact h, by rw [upd_ne na.symm]; exact h1, h3⟩
theorem Pl.ne {p a q : Addr} {H : Hp} (h : Pl p a H) (hq : H q = none) : q ≠ p ∧ q ≠ a := by
  obtain ⟨ns, i, rest, last, cnt, nn, h, h1, h3⟩ := h
  exact ⟨fun e => (by rw [e, h] at hq; cases hq), fun e => (by rw [e, h1] at hq; cases hq)⟩
def spPool (K : PySem.W.Frag) : Sp := fun vs H Q _ => ∃ (s : Addr) (ns : List Int), vs = [.ref s] ∧ SqL K H s (ns.map V.int) ∧ ns.length ≤ 63 ∧ ∀ p a H', H p = none → Same H H' → Pl p a H' → Q (.ref p) H'
def spDraw : Sp := fun vs H Q _ => ∃ (p a : Addr) (m : Int), vs = [.ref p, .int m] ∧ Pl p a H ∧ 0 < m ∧ m ≤ 10000000000000000000000000000000000000000 ∧
  ∀ r H', 0 ≤ r → r < m → Kp p H H' → Pl p a H' → Q (.int r) H'
theorem tenK : (10 : Int) ^ (40 : Int).toNat = 10000000000000000000000000000000000000000 := by decide +kernel
theorem divX {i m : Int} (h0 : 0 < m) (h1 : m ≤ 10000000000000000000000000000000000000000) : CDivX i m := by
  refine ⟨by omega, ?_⟩
  have h : m.natAbs < 2 ^ 200 := by
    have : (10000000000000000000000000000000000000000 : Nat) < 2 ^ 200 := by decide +kernel
    omega
  exact Nat.lt_of_lt_of_le (PySem.Flt.log2_lt_of (by decide) h) (by decide)
theorem fm0 {i m : Int} (h0 : 0 < m) : 0 ≤ i.fmod m := Int.fmod_nonneg_of_pos i h0
theorem fm1 {i m : Int} (h0 : 0 < m) : i.fmod m < m := Int.fmod_lt_of_pos i h0
theorem mulF {i j : Int} : CMulX (i.fmod 2147483647) j := mulL ⟨by have := fm0 (i := i) (m := 2147483647) (by decide); omega, by have := fm1 (i := i) (m := 2147483647) (by decide); omega⟩
theorem fd0 {i m : Int} (h0 : 0 < m) (hi : 0 ≤ i) : 0 ≤ i.fdiv m := by
  rw [Int.fdiv_eq_ediv_of_nonneg i (by omega)]
  exact Int.ediv_nonneg hi (by omega)
theorem small5 {n : Nat} (h : n ≤ 100000) : n ≤ sizeLine := Nat.le_trans h (by decide)
theorem small5' {n : Nat} (h : n < 100000) : n < sizeLine := Nat.lt_of_lt_of_le h (by decide)
/-- a product with one small side -/
theorem mulS {i j : Int} (hi : i.natAbs < 2 ^ 400000) (hj : j.natAbs < 2 ^ 400000) : CMulW i j := wide_mul hi hj (by decide) (by decide) (by decide)
end Z

namespace Z
open PySem PySem.Spec PyProof.Rows L2
/-! ### numbers and ratios -/
def BIG : Nat := 2 ^ 8000
theorem big_lt {n : Nat} (h : n < BIG) : n < 2 ^ 8000 := h
theorem divB {i s : Int} {b : Nat} (h0 : s ≠ 0) (h1 : s.natAbs ≤ b) (h2 : b < BIG) : CDivX i s :=
  ⟨h0, Nat.lt_of_lt_of_le (PySem.Flt.log2_lt_of (by decide) (big_lt (Nat.lt_of_le_of_lt h1 h2))) (by decide)⟩
theorem big_sq {a b : Nat} (ha : a < BIG) (hb : b < BIG) : a * b < 2 ^ (100000 - 2) := by
  have h : a * b < BIG * BIG := Nat.mul_lt_mul'' ha hb
  refine Nat.lt_of_lt_of_le h ?_
  unfold BIG
  rw [← Nat.pow_add]
  exact Nat.pow_le_pow_right (by decide) (by decide)
theorem mulB {i j : Int} (hi : i.natAbs < BIG) (hj : j.natAbs < BIG) : CMulX i j := .inr (wide_mul (big_lt hi) (big_lt hj) (by decide) (by decide) (by decide))
/-- a ratio as the program writes it -/
def rat2 (q : Rat) : PyData := .tuple [.int q.num, .int (q.den : Int)]
def spGcd : Sp := fun vs H Q _ => ∃ a b : Nat, vs = [.int (a : Int), .int (b : Int)] ∧ a < BIG ∧ b < BIG ∧ Q (.int ((Nat.gcd a b : Nat) : Int)) H
/-- the ratio of two numbers -/
def spRat (K : PySem.W.Frag) : Sp := fun vs H Q _ => ∃ t b : Int, vs = [.int t, .int b] ∧ b ≠ 0 ∧ t.natAbs < BIG ∧ b.natAbs < BIG ∧ ∀ v H', Same H H' → Is K H' v (rat2 (Rat.divInt t b)) → Q v H'
theorem rat2_new {K : PySem.W.Frag} {H : Hp} {p : Addr} {x y : Int} {q : Rat} (hp : H p = none) (hx : x = q.num) (hy : y = (q.den : Int)) : Is K (upd H p (.tup [.int x, .int y])) (.ref p) (rat2 q) := by
  subst hx hy
  exact Is.newT hp (.two (.int _) (.int _))
/-! ### two data are the same -/
mutual
def plainD : PyData → Bool
  | .none | .int _ | .str _ => true
  | .tuple ds => decide (ds.length ≤ 1000) && plainDs ds
  | _ => false
def plainDs : List PyData → Bool
  | [] => true
  | d :: ds => plainD d && plainDs ds
end
theorem plain_get : ∀ {ds : List PyData} {i : Nat} {d : PyData}, plainDs ds = true → ds[i]? = some d → plainD d = true
  | [], _, _, _, e => by simp at e
  | x :: xs, 0, d, h, e => by
    simp at e
    subst e
    exact (Bool.and_eq_true_iff.mp (by simpa [plainDs] using h)).1
  | x :: xs, i + 1, d, h, e => plain_get (ds := xs) (i := i) (Bool.and_eq_true_iff.mp (by simpa [plainDs] using h)).2 (by simpa using e)
mutual
def depD : PyData → Nat
  | .tuple ds => depDs ds + 1
  | _ => 0
def depDs : List PyData → Nat
  | [] => 0
  | d :: ds => max (depD d) (depDs ds)
end
theorem dep_get : ∀ {ds : List PyData} {i : Nat} {d : PyData}, ds[i]? = some d → depD d ≤ depDs ds
  | [], _, _, e => by simp at e
  | x :: xs, 0, d, e => by
    simp at e
    subst e
    show depD x ≤ max (depD x) (depDs xs)
    omega
  | x :: xs, i + 1, d, e => by
    have := dep_get (ds := xs) (i := i) (d := d) (by simpa using e)
    show depD d ≤ max (depD x) (depDs xs)
    omega
/-- n calls, one in another, are allowed -/
def spSame (K : PySem.W.Frag) (n : Nat) : Sp := fun vs H Q _ => ∃ (x y : V) (d e : PyData), vs = [x, y] ∧ Is K H x d ∧ Is K H y e ∧ plainD d = true ∧ plainD e = true ∧ depD e < n ∧ ∀ (b : Bool) H', Same H H' → (b = true ↔ d = e) → Q (.bl b) H'
theorem kt {K : PySem.W.Frag} {a b : String} {r : Bool} (h : kitB a b = some r) : PySem.W.kitOne K (.type a) (.type b) = some r := kit_ty h
/-- which built-in type a datum has -/
theorem kt_of {K : PySem.W.Frag} (d : PyData) (hd : plainD d = true) (T : String) (hT : T = "tuple" ∨ T = "str" ∨ T = "int") : PySem.W.kitOne K (.type (tyD d)) (.type T) = some (decide (tyD d = T)) := by
  cases d with
  | none =>
            rcases hT with rfl | rfl | rfl
            · exact kt (show kitB "NoneType" "tuple" = some (decide ("NoneType" = "tuple")) by decide +kernel)
            · exact kt (show kitB "NoneType" "str" = some (decide ("NoneType" = "str")) by decide +kernel)
            · exact kt (show kitB "NoneType" "int" = some (decide ("NoneType" = "int")) by decide +kernel)
  | int i =>
            rcases hT with rfl | rfl | rfl
            · exact kt (show kitB "int" "tuple" = some (decide ("int" = "tuple")) by decide +kernel)
            · exact kt (show kitB "int" "str" = some (decide ("int" = "str")) by decide +kernel)
            · exact kt (show kitB "int" "int" = some (decide ("int" = "int")) by decide +kernel)
  | str s =>
            rcases hT with rfl | rfl | rfl
            · exact kt (show kitB "str" "tuple" = some (decide ("str" = "tuple")) by decide +kernel)
            · exact kt (show kitB "str" "str" = some (decide ("str" = "str")) by decide +kernel)
            · exact kt (show kitB "str" "int" = some (decide ("str" = "int")) by decide +kernel)
  | tuple ds =>
            rcases hT with rfl | rfl | rfl
            · exact kt (show kitB "tuple" "tuple" = some (decide ("tuple" = "tuple")) by decide +kernel)
            · exact kt (show kitB "tuple" "str" = some (decide ("tuple" = "str")) by decide +kernel)
            · exact kt (show kitB "tuple" "int" = some (decide ("tuple" = "int")) by decide +kernel)
  | bool b => simp [plainD] at hd
  | list ds => simp [plainD] at hd
  | dict ds => simp [plainD] at hd
theorem ktB {K : PySem.W.Frag} (i : Int) : PySem.W.kitOne K (.type (tyD (.int i))) (.type "bool") = some false := kt (show kitB "int" "bool" = some false by decide +kernel)
end Z
namespace Z
open PySem PySem.Spec PyProof.Rows L2
theorem ty_tuple {d : PyData} (hd : plainD d = true) (h : tyD d = "tuple") : ∃ ds, d = .tuple ds ∧ ds.length ≤ 1000 ∧ plainDs ds = true := by
  cases d with
  | none => exact absurd h (show ¬ "NoneType" = "tuple" by decide)
  | int i => exact absurd h (show ¬ "int" = "tuple" by decide)
  | str s => exact absurd h (show ¬ "str" = "tuple" by decide)
  | tuple ds =>
    have h2 : (decide (ds.length ≤ 1000) && plainDs ds) = true := by simpa [plainD] using hd
    exact ⟨ds, rfl, of_decide_eq_true (Bool.and_eq_true_iff.mp h2).1, (Bool.and_eq_true_iff.mp h2).2⟩
  | bool b => simp [plainD] at hd
  | list ds => simp [plainD] at hd
  | dict ds => simp [plainD] at hd
theorem no_tuple {d : PyData} (hd : plainD d = true) (h : ¬ tyD d = "tuple") : d = .none ∨ (∃ i, d = .int i) ∨ ∃ s, d = .str s := by
  cases d with
  | none => exact .inl rfl
  | int i => exact .inr (.inl ⟨i, rfl⟩)
  | str s => exact .inr (.inr ⟨s, rfl⟩)
  | tuple ds => exact absurd rfl h
  | bool b => simp [plainD] at hd
  | list ds => simp [plainD] at hd
  | dict ds => simp [plainD] at hd
theorem ext_of {α : Type} {xs ys : List α} (hl : xs.length = ys.length) (h : ∀ j < ys.length, xs[j]? = ys[j]?) : xs = ys := by
  apply List.ext_getElem? 
  intro j
  by_cases hj : j < ys.length
  · exact h j hj
  · rw [List.getElem?_eq_none (by omega), List.getElem?_eq_none (by omega)]
/-- a def with defaults dvs, the last of which may be left out -/
structure AtD (K : PySem.W.Frag) (mg : Str → Option Value) (x : Str) (st : Stmt) (ps : List Str) (dvs : List V) : Prop where
  ex : ∃ (f : Addr) (fd : FuncData) (ds : List Value), FunD K x x (defArgs st) (defBody st) (defScope st) dvs [] f fd ∧ mg x = some (.ref f) ∧ Binds K fd ps [] ∧ Binds K fd ps ds ∧ Vals dvs ds
section
variable {P : Program} {w : World} {K : PySem.W.Frag} {mg : Str → Option Value} {base : Heap} {x : Str} {st : Stmt} {ps N : List Str} {k : Nat} {sp : Sp} {dvs : List V}
theorem AtD.ok (F : AtD K mg x st ps dvs) (S : FnScope N ps (defScope st)) (len : ∀ vs H Q E, sp vs H Q E → vs.length = ps.length)
    (hbody : ∀ (f : Addr) (cdv : Value) (A : Around) (outer : List Env) (s : Shared) (H : Hp) (vs : List V) (Q : VK) (E : XK), Room k (A.deeper (envOfC x (defScope st) s.heap.objs.size f cdv)) → sp vs H Q E →
      ∃ t, PSs (cxOf CX0 P w K mg base N x (defScope st) f cdv A outer s H E).nox (defBody st) t ∧ t { nx := fun _ H' => Q .non H', rt := Q } (start N vs) H) :
    Ok P w K mg base (k + 1) x ps [] sp ∧ Ok P w K mg base (k + 1) x ps dvs sp := by
  obtain ⟨f, fd, ds, F, m, b, b2, d⟩ := F.ex
  have G : FnOk P w K mg base CX0 (k + 1) f fd ps sp := F.ok S len (fun cdv A outer s H vs Q E hr h => by
    obtain ⟨t, h1, h2⟩ := hbody f cdv A outer s H vs Q E hr h
    exact ⟨t, h1.nox, h2⟩)
  exact ⟨⟨f, fd, [], G, m, F.kp, b, .nil⟩, ⟨f, fd, ds, G, m, F.kp, b2, d⟩⟩
end
end Z
namespace Z
open PySem PySem.Spec PyProof.Rows L2
theorem plain_rat2 (q : Rat) : plainD (rat2 q) = true := by
  unfold rat2
  rw [plainD, plainDs, plainDs, plainDs, plainD, plainD]
  rfl
theorem dep_rat2 (q : Rat) : depD (rat2 q) = 1 := by
  simp [rat2, depD, depDs]
theorem rat2_inj {q r : Rat} (h : rat2 q = rat2 r) : q = r := by
  have h1 := PyData.tuple.inj h
  have h2 : PyData.int q.num = PyData.int r.num ∧ _ := List.cons.inj h1
  have h3 := List.cons.inj h2.2
  have h4 := PyData.int.inj h2.1
  have h5 := PyData.int.inj h3.1
  exact Rat.ext h4 (by omega)
/-- what law(script) promises -/
def spLaw (K : PySem.W.Frag) : Sp := fun vs H Q _ => ∃ (a : Addr) (ns : List Int), vs = [.ref a] ∧ SqL K H a (ns.map V.int) ∧ ns.length ≤ 63 ∧ ∀ H', Q (.bl true) H'
theorem t41 : (100000000000000000000000000000000000000000 : Nat) < BIG := Nat.lt_of_lt_of_le (show 100000000000000000000000000000000000000000 < 2 ^ 200 by decide +kernel) (Nat.pow_le_pow_right (by decide) (by decide))
theorem bigK {n : Nat} (h : n ≤ 100000000000000000000000000000000000000000000000000) : n < BIG :=
  Nat.lt_of_le_of_lt h (Nat.lt_of_lt_of_le (show 100000000000000000000000000000000000000000000000000 < 2 ^ 200 by decide +kernel) (Nat.pow_le_pow_right (by decide) (by decide)))
end Z

namespace Z
open PySem PySem.Spec PyProof.Rows L2
/-! ### the promises of the ratios' operations -/
theorem sz_big {x n : Nat} (h : n ≤ 8000) (hx : x < 2 ^ n) : x < BIG := Nat.lt_of_lt_of_le hx (Nat.pow_le_pow_right (by decide) h)
theorem Sz.bn {q : Rat} (h : Sz 3900 q) : q.num.natAbs < BIG := sz_big (by decide) h.1
theorem Sz.bd {q : Rat} (h : Sz 3900 q) : ((q.den : Int)).natAbs < BIG := sz_big (n := 3900) (by decide) (by rw [Int.natAbs_natCast]; exact h.2)
def spBin (K : PySem.W.Frag) (g : Rat → Rat → Rat) : Sp := fun vs H Q _ => ∃ (x y : V) (p q : Rat), vs = [x, y] ∧ Is K H x (rat2 p) ∧ Is K H y (rat2 q) ∧ Sz 3900 p ∧ Sz 3900 q ∧ ∀ v H', Same H H' → Is K H' v (rat2 (g p q)) → Q v H'
def spBinQ (K : PySem.W.Frag) : Sp := fun vs H Q _ => ∃ (x y : V) (p q : Rat), vs = [x, y] ∧ Is K H x (rat2 p) ∧ Is K H y (rat2 q) ∧ Sz 3900 p ∧ Sz 3900 q ∧ q ≠ 0 ∧ ∀ v H', Same H H' → Is K H' v (rat2 (p / q)) → Q v H'
def spLess (K : PySem.W.Frag) : Sp := fun vs H Q _ => ∃ (x y : V) (p q : Rat), vs = [x, y] ∧ Is K H x (rat2 p) ∧ Is K H y (rat2 q) ∧ Sz 3900 p ∧ Sz 3900 q ∧ Q (.bl (decide (p < q))) H
/-- the program's own zero -/
def GZ (K : PySem.W.Frag) (mg : Str → Option Value) : Prop := ∃ zA : Addr, mg "ZERO" = some (.ref zA) ∧ ∀ H : Hp, SqT K H zA [.int 0, .int 1]
theorem is_zero {K : PySem.W.Frag} {H : Hp} {a : Addr} (h : SqT K H a [.int 0, .int 1]) : Is K H (.ref a) (rat2 0) := .tup h (.two (.int 0) (.int 1))
/-! ### sums -/
def sumR : List Rat → Rat
  | [] => 0
  | q :: r => q + sumR r
def sumL (z : Rat) (qs : List Rat) : Rat := qs.foldl (· + ·) z
theorem sumL_take {qs : List Rat} {i : Nat} {q : Rat} (h : qs[i]? = some q) (z : Rat) : sumL z (qs.take (i + 1)) = sumL z (qs.take i) + q := by
  unfold sumL
  rw [List.take_add_one, h, List.foldl_append]
  rfl
theorem sumL_sz {n : Nat} : ∀ {qs : List Rat} {m : Nat} {z : Rat}, (∀ q ∈ qs, Sz n q) → Sz m z → Sz (m + qs.length * (n + 1)) (sumL z qs)
  | [], m, z, _, hz => hz.mono (by omega)
  | q :: r, m, z, h, hz => by
    have h1 := hz.add (h q (List.mem_cons_self ..))
    have h2 := sumL_sz (qs := r) (fun x hx => h x (List.mem_cons_of_mem _ hx)) h1
    refine h2.mono ?_
    rw [List.length_cons, Nat.add_mul]
    omega
/-- the sum of ratios that stand in a list at a; n bounds their size -/
def spSumL (K : PySem.W.Frag) : Sp := fun vs H Q _ => ∃ (a : Addr) (xs : List V) (qs : List Rat) (n : Nat), vs = [.ref a] ∧ SqL K H a xs ∧ IsA K H xs (qs.map rat2) ∧ (∀ q ∈ qs, Sz n q) ∧ n ≤ 2000 ∧ qs.length * (n + 1) ≤ 1900 ∧
  ∀ v H', Same H H' → Is K H' v (rat2 (sumL 0 qs)) → Q v H'
def spSumT (K : PySem.W.Frag) : Sp := fun vs H Q _ => ∃ (a : Addr) (xs : List V) (qs : List Rat) (n : Nat), vs = [.ref a] ∧ SqT K H a xs ∧ IsA K H xs (qs.map rat2) ∧ (∀ q ∈ qs, Sz n q) ∧ n ≤ 2000 ∧ qs.length * (n + 1) ≤ 1900 ∧
  ∀ v H', Same H H' → Is K H' v (rat2 (sumL 0 qs)) → Q v H'
/-- the same, every sum on the way small -/
def spSumLP (K : PySem.W.Frag) : Sp := fun vs H Q _ => ∃ (a : Addr) (xs : List V) (qs : List Rat), vs = [.ref a] ∧ SqL K H a xs ∧ IsA K H xs (qs.map rat2) ∧ (∀ q ∈ qs, Sz 3900 q) ∧ (∀ i, Sz 3900 (sumL 0 (qs.take i))) ∧ ∀ v H', Same H H' → Is K H' v (rat2 (sumL 0 qs)) → Q v H'
def spSumTP (K : PySem.W.Frag) : Sp := fun vs H Q _ => ∃ (a : Addr) (xs : List V) (qs : List Rat), vs = [.ref a] ∧ SqT K H a xs ∧ IsA K H xs (qs.map rat2) ∧ (∀ q ∈ qs, Sz 3900 q) ∧ (∀ i, Sz 3900 (sumL 0 (qs.take i))) ∧ ∀ v H', Same H H' → Is K H' v (rat2 (sumL 0 qs)) → Q v H'
theorem sumL_mid {qs : List Rat} {n i : Nat} (h : ∀ q ∈ qs, Sz n q) (hl : qs.length * (n + 1) ≤ 1900) : Sz 3900 (sumL 0 (qs.take i)) := by
  refine (sumL_sz (fun q hq => h q (List.mem_of_mem_take hq)) Sz.zero).mono ?_
  have : (qs.take i).length ≤ qs.length := by rw [List.length_take]; omega
  have := Nat.mul_le_mul_right (n + 1) this
  omega
theorem getR {qs : List Rat} {i : Nat} {d : PyData} (h : (qs.map rat2)[i]? = some d) : ∃ q, qs[i]? = some q ∧ d = rat2 q := by
  rw [List.getElem?_map] at h
  cases hq : qs[i]? with
  | none => rw [hq] at h; cases h
  | some q => rw [hq] at h; exact ⟨q, rfl, (Option.some.inj h).symm⟩
theorem seq_same {K : PySem.W.Frag} {H H' : Hp} {a : Addr} {xs : List V} (e : Same H H') (h : SqL K H a xs) : SqL K H' a xs := e.seq h
/-- an item of a list of data -/
theorem IsA.at {K : PySem.W.Frag} {H : Hp} : ∀ {vs : List V} {ds : List PyData} {i : Nat} {v : V}, IsA K H vs ds → vs[i]? = some v → ∃ d, ds[i]? = some d ∧ Is K H v d
  | _, _, _, _, .nil, e => by simp at e
  | _, _, 0, _, .cons h _, e => by simp at e; subst e; exact ⟨_, rfl, h⟩
  | _, _, i + 1, v, .cons _ t, e => by
    obtain ⟨d, h1, h2⟩ := IsA.at (i := i) (v := v) t (by simpa using e)
    exact ⟨d, by simpa using h1, h2⟩
section
variable {K : PySem.W.Frag} {σ : L2.St} {H : Hp} {Q : VK} {i j : Nat} {va vb : V} {p q : Rat} {g : Rat → Rat → Rat}
/-- two answers of ratios, the same -/
theorem rd_same2 (h1 : σ[i]? = some (some va)) (h2 : σ[j]? = some (some vb)) (ia : Is K H va (rat2 p)) (ib : Is K H vb (rat2 q)) (zp : Sz 3900 p) (zq : Sz 3900 q) (k : ∀ H', Same H H' → Q (.bl true) H') :
    tCall (spSame K 2) [] E0 (tCons (tCall (spBin K g) [] E0 (tCons (tVar i) (tCons (tVar j) tNil))) (tCons (tCall (spBin K g) [] E0 (tCons (tVar i) (tCons (tVar j) tNil))) tNil)) σ H Q := by
  refine ⟨va, h1, vb, h2, va, vb, p, q, rfl, ia, ib, zp, zq, fun v1 H1 s1 i1 => ?_⟩
  refine ⟨va, h1, vb, h2, va, vb, p, q, rfl, ia.to (Same.tm s1), ib.to (Same.tm s1), zp, zq, fun v2 H2 s2 i2 => ?_⟩
  refine ⟨v1, v2, _, _, rfl, i1.to (Same.tm s2), i2, plain_rat2 _, plain_rat2 _, by rw [dep_rat2]; decide, fun c H3 s3 hc => ?_⟩
  obtain rfl : c = true := hc.mpr rfl
  exact k H3 (s1.trans (s2.trans s3))
theorem rd_same2Q (h1 : σ[i]? = some (some va)) (h2 : σ[j]? = some (some vb)) (ia : Is K H va (rat2 p)) (ib : Is K H vb (rat2 q)) (zp : Sz 3900 p) (zq : Sz 3900 q) (hq : q ≠ 0) (k : ∀ H', Same H H' → Q (.bl true) H') :
    tCall (spSame K 2) [] E0 (tCons (tCall (spBinQ K) [] E0 (tCons (tVar i) (tCons (tVar j) tNil))) (tCons (tCall (spBinQ K) [] E0 (tCons (tVar i) (tCons (tVar j) tNil))) tNil)) σ H Q := by
  refine ⟨va, h1, vb, h2, va, vb, p, q, rfl, ia, ib, zp, zq, hq, fun v1 H1 s1 i1 => ?_⟩
  refine ⟨va, h1, vb, h2, va, vb, p, q, rfl, ia.to (Same.tm s1), ib.to (Same.tm s1), zp, zq, hq, fun v2 H2 s2 i2 => ?_⟩
  refine ⟨v1, v2, _, _, rfl, i1.to (Same.tm s2), i2, plain_rat2 _, plain_rat2 _, by rw [dep_rat2]; decide, fun c H3 s3 hc => ?_⟩
  obtain rfl : c = true := hc.mpr rfl
  exact k H3 (s1.trans (s2.trans s3))
end
theorem sumL_imp {K : PySem.W.Frag} : ∀ vs H Q E, spSumL K vs H Q E → spSumLP K vs H Q E := by
  rintro vs H Q E ⟨a, xs, qs, n, rfl, hS, hI, hz, hn, hl, k⟩
  exact ⟨a, xs, qs, rfl, hS, hI, fun q hq => (hz q hq).mono (by omega), fun i => sumL_mid hz hl, k⟩
theorem sumT_imp {K : PySem.W.Frag} : ∀ vs H Q E, spSumT K vs H Q E → spSumTP K vs H Q E := by
  rintro vs H Q E ⟨a, xs, qs, n, rfl, hS, hI, hz, hn, hl, k⟩
  exact ⟨a, xs, qs, rfl, hS, hI, fun q hq => (hz q hq).mono (by omega), fun i => sumL_mid hz hl, k⟩
end Z

namespace Z
open PySem PySem.Spec PyProof.Rows L2
/-! ### jobs -/
structure Job where
  n : Str
  c : Int
  d : Int
  w : Int
def dJob (j : Job) : PyData := .tuple [.str j.n, .int j.c, .int j.d, .int j.w]
/-- the name of the k-th job: one letter of a .. t, the k-th of them -/
structure NmOk (k : Nat) (x : Str) : Prop where
  mid : x.cps.toList.find? (fun c => decide (c < 117)) = some (97 + k)
  len : x.cps.toList.length ≤ 6
  low : ∀ c ∈ x.cps.toList, 97 ≤ c ∧ c ≤ 122
  ne : x.cps.toList ≠ []
theorem NmOk.inj {k l : Nat} {x : Str} (h : NmOk k x) (h' : NmOk l x) : k = l := by
  have e := h.mid.symm.trans h'.mid
  have := Option.some.inj e
  omega
structure JobOk (j : Job) : Prop where
  c0 : 0 ≤ j.c
  cd : j.c < j.d
  d1 : j.d ≤ 10000
  w0 : 1 ≤ j.w
  w1 : j.w ≤ 10000
/-- a job list as it is drawn -/
structure JobsOk (js : List Job) : Prop where
  ok : ∀ j ∈ js, JobOk j
  nm : ∀ i j, js[i]? = some j → NmOk i j.n
theorem str_app (x y : Str) : (x ++ y).cps.toList = x.cps.toList ++ y.cps.toList := Array.toList_append ..
theorem str_len (x : Str) : x.length = x.cps.toList.length := rfl
/-- a drawn name -/
def spName : Sp := fun vs H Q _ => ∃ (p pa : Addr) (k : Nat), vs = [.ref p, .int (k : Int)] ∧ Pl p pa H ∧ k < 20 ∧ ∀ x H', NmOk k x → Kp p H H' → Pl p pa H' → Q (.str x) H'
/-- a drawn window -/
def spWin (K : PySem.W.Frag) : Sp := fun vs H Q _ => ∃ (p pa : Addr) (b : Bool), vs = [.ref p, .bl b] ∧ Pl p pa H ∧ ∀ t c d H', 0 ≤ c → c < d → d ≤ 10000 → Kp p H H' → Pl p pa H' → H t = none → H' t = some (.tup [.int c, .int d]) → Q (.ref t) H'
/-- a drawn job list of at most n jobs -/
def spJobs (K : PySem.W.Frag) : Sp := fun vs H Q _ => ∃ (p pa : Addr) (n : Nat), vs = [.ref p, .int (n : Int)] ∧ Pl p pa H ∧ n ≤ 19 ∧ ∀ t xs js H', JobsOk js → js.length ≤ n → Kp p H H' → Pl p pa H' → H t = none → H' t = some (.tup xs) → IsA K H' xs (js.map dJob) → Q (.ref t) H'
theorem fresh_kp {p a : Addr} {H H' : Hp} (e : Kp p H H') (n : a ≠ p) (h : H' a = none) : H a = none := by
  cases q : H a with
  | none => rfl
  | some o =>
    rw [e a o n q] at h
    cases h
theorem Pl.at_ne {p pa q : Addr} {H : Hp} {xs : List V} (h : Pl p pa H) (hq : H q = some (.tup xs)) : q ≠ p := by
  obtain ⟨ns, i, rest, last, cnt, nn, h, _⟩ := h
  rintro rfl
  rw [h] at hq
  cases hq
/-- what is new behind a change at p is new before it -/
theorem Pl.free {p pa q : Addr} {H H' : Hp} (h : Pl p pa H') (e : Kp p H H') (hq : H' q = none) : H q = none := fresh_kp e (h.ne hq).1 hq
/-! ### the parts of a name -/
def HeadOk (x : Str) : Prop := x.cps.toList.length ≤ 3 ∧ ∀ c ∈ x.cps.toList, 117 ≤ c ∧ c ≤ 122
def TailOk (x : Str) : Prop := x.cps.toList.length ≤ 2 ∧ ∀ c ∈ x.cps.toList, 97 ≤ c ∧ c ≤ 122
theorem nm_of {k : Nat} {h t : Str} (hk : k < 20) (hh : HeadOk h) (ht : TailOk t) : NmOk k (h ++ ⟨#[97 + k]⟩ ++ t) := by
  have e : (h ++ (⟨#[97 + k]⟩ : Str) ++ t).cps.toList = h.cps.toList ++ (97 + k) :: t.cps.toList := by
    rw [str_app, str_app, List.append_assoc]
    rfl
  refine ⟨?_, ?_, ?_, ?_⟩
  · rw [e]
    have : ∀ l : List Nat, (∀ c ∈ l, 117 ≤ c ∧ c ≤ 122) → (l ++ (97 + k) :: t.cps.toList).find? (fun c => decide (c < 117)) = some (97 + k) := by
      intro l
      induction l with
      | nil =>
        intro _
        show ((97 + k) :: t.cps.toList).find? _ = _
        rw [List.find?_cons_of_pos]
        exact decide_eq_true (by omega)
      | cons c r ih =>
        intro hc
        show (c :: (r ++ (97 + k) :: t.cps.toList)).find? _ = _
        rw [List.find?_cons_of_neg]
        · exact ih fun x hx => hc x (List.mem_cons_of_mem _ hx)
        · have := hc c (List.mem_cons_self ..)
          rw [decide_eq_false (by omega)]
          decide
    exact this _ hh.2
  · rw [e, List.length_append, List.length_cons]
    have := hh.1
    have := ht.1
    omega
  · rw [e]
    intro c hc
    rcases List.mem_append.mp hc with h | h
    · have := hh.2 c h
      omega
    · rcases List.mem_cons.mp h with h | h
      · omega
      · exact ht.2 c h
  · rw [e]
    simp
theorem letters_at : ∀ k < 20, ((("abcdefghijklmnopqrst" : Str)).cps.toList)[k]? = some (97 + k) := by decide +kernel
theorem headOk0 : HeadOk (("" : Str)) := ⟨by decide +kernel, by decide +kernel⟩
theorem headOk1 : HeadOk (("u" : Str)) := ⟨by decide +kernel, by decide +kernel⟩
theorem headOk2 : HeadOk (("vw" : Str)) := ⟨by decide +kernel, by decide +kernel⟩
theorem headOk3 : HeadOk (("xyz" : Str)) := ⟨by decide +kernel, by decide +kernel⟩
theorem tailOk0 : TailOk (("" : Str)) := ⟨by decide +kernel, by decide +kernel⟩
theorem tailOk1 : TailOk (("z" : Str)) := ⟨by decide +kernel, by decide +kernel⟩
theorem tailOk2 : TailOk (("yy" : Str)) := ⟨by decide +kernel, by decide +kernel⟩
theorem head_at {r : Int} (h0 : 0 ≤ r) (h1 : r < 4) : ∃ x, atI [V.str (("" : Str)), V.str (("u" : Str)), V.str (("vw" : Str)), V.str (("xyz" : Str))] r = some (.str x) ∧ HeadOk x := by
  have : r = 0 ∨ r = 1 ∨ r = 2 ∨ r = 3 := by omega
  rcases this with rfl | rfl | rfl | rfl
  · exact ⟨_, rfl, headOk0⟩
  · exact ⟨_, rfl, headOk1⟩
  · exact ⟨_, rfl, headOk2⟩
  · exact ⟨_, rfl, headOk3⟩
theorem tail_at {r : Int} (h0 : 0 ≤ r) (h1 : r < 3) : ∃ x, atI [V.str (("" : Str)), V.str (("z" : Str)), V.str (("yy" : Str))] r = some (.str x) ∧ TailOk x := by
  have : r = 0 ∨ r = 1 ∨ r = 2 := by omega
  rcases this with rfl | rfl | rfl
  · exact ⟨_, rfl, tailOk0⟩
  · exact ⟨_, rfl, tailOk1⟩
  · exact ⟨_, rfl, tailOk2⟩
theorem IsA.push {K : PySem.W.Frag} {H : Hp} {xs : List V} {ds : List PyData} {v : V} {d : PyData} (h : IsA K H xs ds) (i : Is K H v d) : IsA K H (xs ++ [v]) (ds ++ [d]) := h.append (.cons i .nil)
theorem is_job {K : PySem.W.Frag} {H : Hp} {t : Addr} {j : Job} (h : SqT K H t [.str j.n, .int j.c, .int j.d, .int j.w]) : Is K H (.ref t) (dJob j) := .tup h (.cons (.str _) (.cons (.int _) (.cons (.int _) (.cons (.int _) .nil))))
theorem job_at {K : PySem.W.Frag} {H : Hp} {v : V} {j : Job} (h : Is K H v (dJob j)) : ∃ t, v = .ref t ∧ SqT K H t [.str j.n, .int j.c, .int j.d, .int j.w] := by
  obtain ⟨t, xs, rfl, s, a⟩ := h.tup'
  cases a with
  | cons h1 a => cases a with
    | cons h2 a => cases a with
      | cons h3 a => cases a with
        | cons h4 a =>
          cases a; cases h1; cases h2; cases h3; cases h4
          exact ⟨t, rfl, s⟩
theorem getJ {α : Type} {f : α → PyData} {qs : List α} {i : Nat} {d : PyData} (h : (qs.map f)[i]? = some d) : ∃ q, qs[i]? = some q ∧ d = f q := by
  rw [List.getElem?_map] at h
  cases hq : qs[i]? with
  | none => rw [hq] at h; cases h
  | some q => rw [hq] at h; exact ⟨q, rfl, (Option.some.inj h).symm⟩
theorem JobsOk.push {js : List Job} {j : Job} (h : JobsOk js) (hj : JobOk j) (hn : NmOk js.length j.n) : JobsOk (js ++ [j]) := by
  refine ⟨fun x hx => ?_, fun i x hx => ?_⟩
  · rcases List.mem_append.mp hx with z | z
    · exact h.ok x z
    · rw [List.mem_singleton.mp z]
      exact hj
  · by_cases hi : i < js.length
    · rw [List.getElem?_append_left hi] at hx
      exact h.nm i x hx
    · rw [List.getElem?_append_right (by omega)] at hx
      have : i - js.length = 0 := by
        cases z : i - js.length with
        | zero => rfl
        | succ n => rw [z] at hx; simp at hx
      rw [this] at hx
      have e : j = x := Option.some.inj hx
      subst e
      have : i = js.length := by omega
      rw [this]
      exact hn
theorem JobsOk.nil : JobsOk [] := ⟨fun _ h => (nomatch h), fun _ _ h => by simp at h⟩
/-- a pool and a list of data at L, all else as in H0 -/
structure LM (K : PySem.W.Frag) (p pa L : Addr) (H0 : Hp) (ds : List PyData) (H' : Hp) : Prop where
  P : Pl p pa H'
  k : Kp p H0 H'
  l : ∃ xs, H' L = some (.lst xs) ∧ IsA K H' xs ds
theorem LM.step {K : PySem.W.Frag} {p pa L : Addr} {H0 H1 H2 : Hp} {ds : List PyData} (h : LM K p pa L H0 ds H1) (n : L ≠ p) (e : Kp p H1 H2) (P2 : Pl p pa H2) : LM K p pa L H0 ds H2 := by
  obtain ⟨P, k, xs, hl, hi⟩ := h
  exact ⟨P2, k.trans e, xs, e _ _ n hl, hi.to (P.tm e)⟩
theorem LM.same {K : PySem.W.Frag} {p pa L : Addr} {H0 H1 H2 : Hp} {ds : List PyData} (h : LM K p pa L H0 ds H1) (e : Same H1 H2) : LM K p pa L H0 ds H2 := by
  obtain ⟨P, k, xs, hl, hi⟩ := h
  exact ⟨P.same e, k.trans (.of e), xs, e _ _ hl, hi.to (Same.tm e)⟩
/-- the list is stored anew -/
theorem LM.put {K : PySem.W.Frag} {p pa L : Addr} {H0 H1 : Hp} {ds es : List PyData} {ys : List V} (h : LM K p pa L H0 ds H1) (n : L ≠ p) (na : L ≠ pa) (f : H0 L = none) (hi : IsA K H1 ys es) : LM K p pa L H0 es (upd H1 L (.lst ys)) := by
  obtain ⟨P, k, xs, hl, _⟩ := h
  exact ⟨P.mut n na, k.mut f, ys, upd_same, hi.to (Tm.lst hl)⟩
theorem LM.new {K : PySem.W.Frag} {p pa L : Addr} {H0 H1 : Hp} (P : Pl p pa H1) (k : Kp p H0 H1) (f : H1 L = none) : LM K p pa L H0 [] (upd H1 L (.lst [])) :=
  ⟨P.same (same_upd f), k.trans (.new f), [], upd_same, .nil⟩
end Z

namespace Z
open PySem PySem.Spec PyProof.Rows L2
/-! ### points -/
structure PtsOk (js : List Job) (ps : List Int) : Prop where
  lt : ps.Pairwise (· < ·)
  mem : ∀ j ∈ js, j.c ∈ ps ∧ j.d ∈ ps
  bd : ∀ x ∈ ps, ∃ j ∈ js, j.c ≤ x ∧ x ≤ j.d
  len : ps.length ≤ 3 * js.length
theorem isA_ints {K : PySem.W.Frag} {H : Hp} : ∀ {ns : List Int} {xs : List V}, IsA K H xs (ns.map PyData.int) → xs = ns.map V.int
  | [], _, .nil => rfl
  | n :: ns, _, .cons h t => by
    cases h
    rw [isA_ints t]
    rfl
theorem ints_isA {K : PySem.W.Frag} {H : Hp} : ∀ (ns : List Int), IsA K H (ns.map V.int) (ns.map PyData.int)
  | [] => .nil
  | n :: ns => .cons (.int n) (ints_isA ns)
theorem inV_int (i : Int) : ∀ ns : List Int, inV (.int i) (ns.map V.int) = decide (i ∈ ns)
  | [] => by simp [inV]
  | n :: ns => by
    have h := inV_int i ns
    unfold inV at h ⊢
    rw [List.map_cons, List.any_cons, h]
    show ((n == i) || decide (i ∈ ns)) = _
    by_cases e : n = i
    · subst e; simp
    · have : (n == i) = false := by simpa using e
      rw [this]
      simp [List.mem_cons, Ne.symm e]
theorem flat_ints : ∀ ns : List Int, (ns.map V.int).all flatV = true
  | [] => rfl
  | n :: ns => by
    rw [List.map_cons, List.all_cons, flat_ints ns]
    rfl
theorem cut_take (xs : List V) (k : Nat) : cutV xs none (some (k : Int)) = xs.take k := by
  unfold cutV
  rw [HT.sIx_none, HT.sIx_nat]
  show (xs.drop 0).take (min k xs.length - 0) = _
  rw [List.drop_zero, Nat.sub_zero]
  by_cases h : k ≤ xs.length
  · rw [Nat.min_eq_left h]
  · rw [Nat.min_eq_right (by omega), List.take_length, List.take_of_length_le (by omega)]
theorem pw_lt {ps : List Int} (h : ps.Pairwise (· ≤ ·)) (nd : ps.Nodup) : ps.Pairwise (· < ·) := by
  have := List.Pairwise.and h nd
  exact this.imp fun ⟨a, b⟩ => by omega
/-- the points of a job list -/
def spPoints (K : PySem.W.Frag) : Sp := fun vs H Q _ => ∃ (p pa J : Addr) (xs : List V) (js : List Job), vs = [.ref p, .ref J] ∧ Pl p pa H ∧ SqT K H J xs ∧ IsA K H xs (js.map dJob) ∧ (∀ j ∈ js, JobOk j) ∧ js.length ≤ 19 ∧
  ∀ l ps H', PtsOk js ps → Kp p H H' → Pl p pa H' → H l = none → H' l = some (.lst (ps.map V.int)) → Q (.ref l) H'
/-! ### shares -/
def dSlot (s : Int × Int) : PyData := .tuple [.int s.1, .int s.2]
theorem slot_at {K : PySem.W.Frag} {H : Hp} {v : V} {s : Int × Int} (h : Is K H v (dSlot s)) : ∃ t, v = .ref t ∧ SqT K H t [.int s.1, .int s.2] := by
  obtain ⟨t, a, b, rfl, st, h1, h2⟩ := Is.two' h
  cases h1; cases h2
  exact ⟨t, rfl, st⟩
def mine (j : Job) (s : Int × Int) : Bool := decide (j.c ≤ s.1) && decide (s.2 ≤ j.d)
/-- the shares fs of the job j in the stretches sl -/
structure ShOk (j : Job) (sl : List (Int × Int)) (fs : List Rat) : Prop where
  len : fs.length = sl.length
  own : ∀ (x : Nat) (q : Rat) (s : Int × Int), fs[x]? = some q → sl[x]? = some s → q ≠ 0 → mine j s = true
  nn : ∀ q ∈ fs, 0 ≤ q
  wh : ∃ W : Int, 0 < W ∧ W ≤ 200 ∧ ∀ q ∈ fs, ∃ z : Int, 0 ≤ z ∧ z ≤ 30000 ∧ q * (W : Rat) = (z : Rat)
  sum : rsum fs = (j.w : Rat)
theorem ShOk.sz {j : Job} {sl : List (Int × Int)} {fs : List Rat} (h : ShOk j sl fs) : ∀ q ∈ fs, Sz 16 q := fun q hq => by
  obtain ⟨W, w0, w1, hw⟩ := h.wh
  obtain ⟨z, z0, z1, e⟩ := hw q hq
  exact sz_of_whole e (by omega) (by omega) (by omega)
theorem rsum_set : ∀ {xs : List Rat} {i : Nat} {x y : Rat}, xs[i]? = some x → rsum (xs.set i y) = rsum xs - x + y
  | [], i, x, y, h => by simp at h
  | a :: r, 0, x, y, h => by
    have e : a = x := Option.some.inj h
    subst e
    show y + rsum r = a + rsum r - a + y
    grind
  | a :: r, i + 1, x, y, h => by
    have ih := rsum_set (xs := r) (i := i) (x := x) (y := y) h
    show a + rsum (r.set i y) = a + rsum r - x + y
    rw [ih]
    grind
theorem rsum_zeros : ∀ n : Nat, rsum (List.replicate n (0 : Rat)) = 0
  | 0 => rfl
  | n + 1 => by
    show 0 + rsum (List.replicate n (0 : Rat)) = 0
    rw [rsum_zeros n]
    grind
/-- the indexes of the stretches of a job -/
def owns (j : Job) (sl : List (Int × Int)) (n : Nat) : List Nat := (List.range n).filter fun k => mine j (sl.getD k (0, 0))
theorem owns_yes {j : Job} {sl : List (Int × Int)} {n : Nat} (h : mine j (sl.getD n (0, 0)) = true) : owns j sl (n + 1) = owns j sl n ++ [n] := by
  unfold owns
  rw [List.range_succ, List.filter_append, List.filter_cons_of_pos (p := fun k => mine j (sl.getD k (0, 0))) h]
  rfl
theorem owns_no {j : Job} {sl : List (Int × Int)} {n : Nat} (h : mine j (sl.getD n (0, 0)) = false) : owns j sl (n + 1) = owns j sl n := by
  unfold owns
  rw [List.range_succ, List.filter_append, List.filter_cons_of_neg (p := fun k => mine j (sl.getD k (0, 0))) (by rw [h]; decide)]
  exact List.append_nil _
theorem owns_len (j : Job) (sl : List (Int × Int)) (n : Nat) : (owns j sl n).length ≤ n := by
  have h := List.length_filter_le (fun k => mine j (sl.getD k (0, 0))) (List.range n)
  rw [List.length_range] at h
  exact h
theorem owns_nodup (j : Job) (sl : List (Int × Int)) (n : Nat) : (owns j sl n).Nodup := List.Pairwise.filter _ List.nodup_range
theorem owns_mem {j : Job} {sl : List (Int × Int)} {n k : Nat} : k ∈ owns j sl n ↔ k < n ∧ mine j (sl.getD k (0, 0)) = true := by
  unfold owns
  rw [List.mem_filter, List.mem_range]
theorem getD_at {α : Type} {xs : List α} {i : Nat} {x d : α} (h : xs[i]? = some x) : xs.getD i d = x := by
  rw [List.getD_eq_getElem?_getD, h]
  rfl
/-- i of the weights are shared out -/
structure ShMid (j : Job) (sl : List (Int × Int)) (os : List Nat) (ws : List Int) (W : Int) (i : Nat) (fs : List Rat) : Prop where
  len : fs.length = sl.length
  own : ∀ (x : Nat) (q : Rat) (s : Int × Int), fs[x]? = some q → sl[x]? = some s → q ≠ 0 → mine j s = true
  rest : ∀ k x : Nat, i ≤ k → os[k]? = some x → fs[x]? = some 0
  wh : ∀ q ∈ fs, ∃ z : Int, 0 ≤ z ∧ z ≤ 30000 ∧ q * (W : Rat) = (z : Rat)
  sum : rsum fs * (W : Rat) = ((j.w * (ws.take i).sum : Int) : Rat)
theorem ShMid.zero {j : Job} {sl : List (Int × Int)} {os : List Nat} {ws : List Int} {W : Int} (h : ∀ x ∈ os, x < sl.length) : ShMid j sl os ws W 0 (List.replicate sl.length 0) where
  len := List.length_replicate
  own := fun x q s hq _ n => absurd (List.eq_of_mem_replicate (List.mem_of_getElem? hq)) n
  rest := fun k x _ hx => by
    rw [List.getElem?_replicate, if_pos (h x (List.mem_of_getElem? hx))]
  wh := fun q hq => ⟨0, Int.le_refl _, by decide, by rw [List.eq_of_mem_replicate hq]; grind⟩
  sum := by
    rw [rsum_zeros]
    show 0 * (W : Rat) = ((j.w * 0 : Int) : Rat)
    rw [Int.mul_zero]
    grind
theorem ShMid.next {j : Job} {sl : List (Int × Int)} {os : List Nat} {ws : List Int} {W : Int} {i x : Nat} {w : Int} {fs : List Rat} (h : ShMid j sl os ws W i fs) (hj : JobOk j) (nd : os.Nodup) (hx : os[i]? = some x) (hw : ws[i]? = some w) (w0 : 0 ≤ w) (w3 : w ≤ 3)
    (hW : 0 < W) (hm : ∀ s, sl[x]? = some s → mine j s = true) : ShMid j sl os ws W (i + 1) (fs.set x (Rat.divInt (j.w * w) W)) := by
  have hWr : (W : Rat) ≠ 0 := fun c => by
    have := Rat.intCast_eq_zero_iff.mp c
    omega
  have eq : Rat.divInt (j.w * w) W * (W : Rat) = ((j.w * w : Int) : Rat) := by
    rw [divInt_div]
    grind
  refine ⟨by rw [List.length_set]; exact h.len, fun y q s hq hs n => ?_, fun k y hk hy => ?_, fun q hq => ?_, ?_⟩
  · by_cases e : x = y
    · subst e
      exact hm s hs
    · rw [List.getElem?_set_ne e] at hq
      exact h.own y q s hq hs n
  · have e : x ≠ y := fun e => by
      subst e
      have := nd_ix nd hx hy
      omega
    rw [List.getElem?_set_ne e]
    exact h.rest k y (by omega) hy
  · rcases List.mem_or_eq_of_mem_set hq with hq | hq
    · exact h.wh q hq
    · subst hq
      have a := hj.w0
      have b := hj.w1
      refine ⟨j.w * w, Int.mul_nonneg (by omega) w0, ?_, eq⟩
      have : j.w * w ≤ 10000 * 3 := Int.mul_le_mul b w3 w0 (by decide)
      omega
  · have z := h.rest i x (Nat.le_refl _) hx
    rw [rsum_set z]
    have e2 : (ws.take (i + 1)).sum = (ws.take i).sum + w := sum_take hw
    rw [e2, Int.mul_add]
    have e3 := h.sum
    have e4 : ((j.w * (ws.take i).sum + j.w * w : Int) : Rat) = ((j.w * (ws.take i).sum : Int) : Rat) + ((j.w * w : Int) : Rat) := Rat.intCast_add _ _
    rw [e4, ← e3, ← eq]
    grind
theorem ShMid.done {j : Job} {sl : List (Int × Int)} {os : List Nat} {ws : List Int} {W : Int} {fs : List Rat} (h : ShMid j sl os ws W ws.length fs) (hW : 0 < W) (h2 : W ≤ 200) (e : ws.sum = W) : ShOk j sl fs := by
  have hWr : (W : Rat) ≠ 0 := fun c => by
    have := Rat.intCast_eq_zero_iff.mp c
    omega
  have hWp : (0 : Rat) < (W : Rat) := Rat.intCast_pos.mpr hW
  refine ⟨h.len, h.own, fun q hq => ?_, ⟨W, hW, h2, h.wh⟩, ?_⟩
  · obtain ⟨z, z0, _, e⟩ := h.wh q hq
    have z1 : (0 : Rat) ≤ (z : Rat) := Rat.intCast_nonneg.mpr z0
    have e2 : q = (z : Rat) / (W : Rat) := by
      rw [← e]
      grind
    rw [e2]
    rw [Rat.div_def]
    exact Rat.mul_nonneg z1 (Rat.le_of_lt (Rat.inv_pos.mpr hWp))
  · have e1 := h.sum
    rw [List.take_length, e, Rat.intCast_mul] at e1
    grind
theorem sum_nonneg : ∀ {ws : List Int}, (∀ w ∈ ws, 0 ≤ w) → 0 ≤ ws.sum
  | [], _ => Int.le_refl _
  | w :: ws, h => by
    have h1 := sum_nonneg (ws := ws) fun y hy => h y (List.mem_cons_of_mem _ hy)
    have h2 := h w (List.mem_cons_self ..)
    rw [List.sum_cons]
    omega
theorem sum_le3 : ∀ {ws : List Int}, (∀ w ∈ ws, w ≤ 3) → ws.sum ≤ 3 * (ws.length : Int)
  | [], _ => by show (0 : Int) ≤ 3 * ((0 : Nat) : Int); omega
  | w :: ws, h => by
    have h1 := sum_le3 (ws := ws) fun y hy => h y (List.mem_cons_of_mem _ hy)
    have h2 := h w (List.mem_cons_self ..)
    rw [List.sum_cons, List.length_cons]
    omega
def spShares (K : PySem.W.Frag) : Sp := fun vs H Q _ => ∃ (p pa S : Addr) (v : V) (sx : List V) (j : Job) (sl : List (Int × Int)), vs = [.ref p, v, .ref S] ∧ Pl p pa H ∧ Is K H v (dJob j) ∧ JobOk j ∧ H S = some (.lst sx) ∧ S ≠ p ∧ IsA K H sx (sl.map dSlot) ∧ sl.length ≤ 60 ∧
  (∃ s ∈ sl, mine j s = true) ∧ ∀ l xs fs H', ShOk j sl fs → Kp p H H' → Pl p pa H' → H l = none → H' l = some (.lst xs) → IsA K H' xs (fs.map rat2) → Q (.ref l) H'
theorem is_slots {K : PySem.W.Frag} {H : Hp} {sx : List V} {sl : List (Int × Int)} {i : Nat} (h : IsA K H sx (sl.map dSlot)) (hi : i < sl.length) : ∃ t, sx[i]? = some (.ref t) ∧ SqT K H t [.int (sl.getD i (0, 0)).1, .int (sl.getD i (0, 0)).2] := by
  have g : sl[i]? = some sl[i] := List.getElem?_eq_getElem hi
  obtain ⟨v, gv, iv⟩ := h.get (i := i) (d := dSlot sl[i]) (by rw [List.getElem?_map, g]; rfl)
  obtain ⟨t, rfl, st⟩ := slot_at iv
  rw [getD_at g]
  exact ⟨t, gv, st⟩
def vN (k : Nat) : V := .int (k : Int)
theorem le_sum : ∀ {ws : List Int} {x : Int}, (∀ w ∈ ws, 0 ≤ w) → x ∈ ws → x ≤ ws.sum
  | [], _, _, h => (nomatch h)
  | w :: ws, x, h, hx => by
    have h1 := sum_nonneg (ws := ws) fun y hy => h y (List.mem_cons_of_mem _ hy)
    have h2 := h w (List.mem_cons_self ..)
    rw [List.sum_cons]
    rcases List.mem_cons.mp hx with e | e
    · omega
    · have := le_sum (ws := ws) (fun y hy => h y (List.mem_cons_of_mem _ hy)) e
      omega
theorem ixN_of {n : Nat} {i : Int} (h0 : 0 ≤ i) (h1 : i < n) : ixN n i = some i.toNat := by
  unfold ixN
  rw [if_pos h0, if_pos h1]
end Z

namespace Z
open PySem PySem.Spec PyProof.Rows L2
/-! ### plans -/
structure Pc where
  s : Rat
  e : Rat
  n : Str
  v : Rat
def dPc (p : Pc) : PyData := .tuple [rat2 p.s, rat2 p.e, .str p.n, rat2 p.v]
def workOf (n : Str) (ps : List Pc) : Rat := rsum ((ps.filter fun p => decide (p.n = n)).map fun p => p.v * (p.e - p.s))
theorem workOf_push (n : Str) (ps : List Pc) (p : Pc) : workOf n (ps ++ [p]) = workOf n ps + (if p.n = n then p.v * (p.e - p.s) else 0) := by
  unfold workOf
  rw [List.filter_append, List.map_append, rsum_append]
  by_cases h : p.n = n
  · rw [List.filter_cons_of_pos (by exact decide_eq_true h), if_pos h]
    show _ + (p.v * (p.e - p.s) + 0) = _
    grind
  · rw [List.filter_cons_of_neg (by rw [decide_eq_false h]; decide), if_neg h]
    rfl
/-- a piece of the rival -/
structure PcOk (js : List Job) (sl : List (Int × Int)) (fss : List (List Rat)) (p : Pc) : Prop where
  at' : ∃ j ∈ js, ∃ s ∈ sl, p.n = j.n ∧ mine j s = true ∧ ((s.1 : Int) : Rat) ≤ p.s ∧ p.e ≤ ((s.2 : Int) : Rat)
  lt : p.s < p.e
  v0 : 0 < p.v
  zs : Sz 200 p.s
  ze : Sz 200 p.e
  zv : Sz 200 p.v
  vb : p.v ≤ 600000
  wk : ∃ k a : Nat, p.v * (p.e - p.s) = (fss.getD a []).getD k 0
  vk : ∃ (k : Nat) (t : Int × Int), sl[k]? = some t ∧ p.v = rsum (fss.map fun fs => fs.getD k 0) / ((t.2 - t.1 : Int) : Rat)
/-- a whole number -/
def IsI (q : Rat) : Prop := ∃ z : Int, 0 ≤ z ∧ z ≤ 100000 ∧ q = (z : Rat)
/-- one piece goes on at the speed of the one in front of it, or whole times stand between them -/
def RunR (p q : Pc) : Prop := (p.e = q.s ∧ p.v = q.v) ∨ (IsI p.e ∧ IsI q.s)
structure RunC (ps : List Pc) : Prop where
  hd : ∀ p, ps[0]? = some p → IsI p.s
  ch : ∀ (i : Nat) (p q : Pc), ps[i]? = some p → ps[i + 1]? = some q → RunR p q
/-- what stands at the end of the pieces -/
def LastP (ps : List Pc) (X : Pc → Prop) : Prop := ∀ p, ps[ps.length - 1]? = some p → X p
theorem RunC.nil : RunC [] := ⟨fun _ h => by simp at h, fun _ _ _ h => by simp at h⟩
theorem RunC.push {ps : List Pc} {q : Pc} (h : RunC ps) (h0 : ps = [] → IsI q.s) (hl : LastP ps fun p => RunR p q) : RunC (ps ++ [q]) := by
  refine ⟨fun p hp => ?_, fun i p r hp hr => ?_⟩
  · cases ps with
    | nil =>
      have : q = p := by simpa using hp
      subst this
      exact h0 rfl
    | cons a r =>
      have : a = p := by simpa using hp
      subst this
      exact h.hd a rfl
  · by_cases hi : i + 1 < ps.length
    · rw [List.getElem?_append_left (by omega)] at hp
      rw [List.getElem?_append_left hi] at hr
      exact h.ch i p r hp hr
    · have hl2 := (List.getElem?_eq_some_iff.mp hr).1
      rw [List.length_append, List.length_singleton] at hl2
      have e : ps.length = i + 1 := by omega
      rw [List.getElem?_append_left (by omega)] at hp
      rw [List.getElem?_append_right (by omega), show i + 1 - ps.length = 0 by omega] at hr
      have er : q = r := by simpa using hr
      subst er
      exact hl p (by rw [e]; exact hp)
theorem lastP_push {ps : List Pc} {q : Pc} {X : Pc → Prop} (h : X q) : LastP (ps ++ [q]) X := fun p hp => by
  rw [List.length_append, List.length_singleton, Nat.add_sub_cancel, List.getElem?_append_right (Nat.le_refl _), Nat.sub_self] at hp
  have e : q = p := by simpa using hp
  subst e
  exact h
structure SlOk (sl : List (Int × Int)) : Prop where
  bd : ∀ s ∈ sl, 0 ≤ s.1 ∧ s.1 < s.2 ∧ s.2 ≤ 10000
  pw : sl.Pairwise fun s t => s.2 ≤ t.1
structure RHyp (js : List Job) (sl : List (Int × Int)) (fss : List (List Rat)) : Prop where
  jok : JobsOk js
  nj : js.length ≤ 19
  sok : SlOk sl
  len : fss.length = js.length
  sh : ∀ (a : Nat) (j : Job) (fs : List Rat), js[a]? = some j → fss[a]? = some fs → ShOk j sl fs
def col (fss : List (List Rat)) (k a : Nat) : Rat := (fss.getD a []).getD k 0
def load (fss : List (List Rat)) (k : Nat) : Rat := rsum (fss.map fun fs => fs.getD k 0)
theorem cols_range (fss : List (List Rat)) (k : Nat) : (List.range fss.length).map (col fss k) = fss.map fun fs => fs.getD k 0 := by
  apply List.ext_getElem?
  intro i
  rw [List.getElem?_map, List.getElem?_map]
  by_cases h : i < fss.length
  · rw [List.getElem?_range h, List.getElem?_eq_getElem h]
    show some ((fss.getD i []).getD k 0) = _
    rw [getD_at (List.getElem?_eq_getElem h)]
    rfl
  · rw [List.getElem?_eq_none (by rw [List.length_range]; omega), List.getElem?_eq_none (by omega)]
    rfl
theorem rot_load (fss : List (List Rat)) (k : Nat) {s : Nat} (h : s ≤ fss.length) : rsum ((rot s fss.length).map (col fss k)) = load fss k := by
  rw [rsum_perm ((rot_perm h).map _), cols_range]
  rfl
section
variable {js : List Job} {sl : List (Int × Int)} {fss : List (List Rat)}
theorem RHyp.col0 (h : RHyp js sl fss) (k a : Nat) : 0 ≤ col fss k a := by
  unfold col
  by_cases ha : a < fss.length
  · have g := List.getElem?_eq_getElem ha
    rw [getD_at g]
    by_cases hk : k < (fss[a]).length
    · rw [getD_at (List.getElem?_eq_getElem hk)]
      have hj : js[a]? = some (js[a]'(by have := h.len; omega)) := List.getElem?_eq_getElem _
      exact (h.sh a _ _ hj g).nn _ (List.getElem_mem hk)
    · rw [List.getD_eq_getElem?_getD, List.getElem?_eq_none (by omega)]
      show (0 : Rat) ≤ 0
      grind
  · have e : fss.getD a [] = [] := by
      rw [List.getD_eq_getElem?_getD, List.getElem?_eq_none (by omega)]
      rfl
    rw [e]
    show (0 : Rat) ≤ 0
    grind
/-- one number with which all shares become whole -/
theorem whole_all : ∀ {fss : List (List Rat)}, (∀ fs ∈ fss, ∃ W : Int, 0 < W ∧ W ≤ 200 ∧ ∀ q ∈ fs, ∃ z : Int, 0 ≤ z ∧ z ≤ 30000 ∧ q * (W : Rat) = (z : Rat)) →
    ∃ D : Int, 0 < D ∧ D ≤ 200 ^ fss.length ∧ ∀ fs ∈ fss, ∀ q ∈ fs, ∃ z : Int, 0 ≤ z ∧ z ≤ 30000 * D ∧ q * (D : Rat) = (z : Rat)
  | [], _ => ⟨1, by decide, by decide, fun _ h => (nomatch h)⟩
  | fs :: r, h => by
    obtain ⟨D, d0, d1, hD⟩ := whole_all (fss := r) fun x hx => h x (List.mem_cons_of_mem _ hx)
    obtain ⟨W, w0, w1, hW⟩ := h fs (List.mem_cons_self ..)
    have wd : 0 < W * D := Int.mul_pos w0 d0
    have dle : D ≤ W * D := by
      have : 1 * D ≤ W * D := Int.mul_le_mul_of_nonneg_right (by omega) (by omega)
      omega
    refine ⟨W * D, wd, ?_, fun x hx q hq => ?_⟩
    · rw [List.length_cons, Int.pow_succ, Int.mul_comm]
      exact Int.mul_le_mul d1 w1 (by omega) (Int.pow_nonneg (by decide))
    · rw [Rat.intCast_mul]
      rcases List.mem_cons.mp hx with e | hx
      · subst e
        obtain ⟨z, z0, z1, e⟩ := hW q hq
        refine ⟨z * D, Int.mul_nonneg z0 (by omega), ?_, by rw [Rat.intCast_mul, ← e]; grind⟩
        refine Int.le_trans (Int.mul_le_mul_of_nonneg_right z1 (by omega)) ?_
        omega
      · obtain ⟨z, z0, z1, e⟩ := hD x hx q hq
        refine ⟨W * z, Int.mul_nonneg (by omega) z0, ?_, by rw [Rat.intCast_mul, ← e]; grind⟩
        have := Int.mul_le_mul_of_nonneg_left z1 (show 0 ≤ W by omega)
        rw [show W * (30000 * D) = 30000 * (W * D) by rw [← Int.mul_assoc, Int.mul_comm W 30000, Int.mul_assoc]] at this
        exact this
/-- a sum of such numbers -/
theorem whole_sum {D : Int} (d0 : 0 < D) : ∀ {qs : List Rat}, (∀ q ∈ qs, ∃ z : Int, 0 ≤ z ∧ z ≤ 30000 * D ∧ q * (D : Rat) = (z : Rat)) → ∃ z : Int, 0 ≤ z ∧ z ≤ 30000 * D * (qs.length : Int) ∧ rsum qs * (D : Rat) = (z : Rat)
  | [], _ => ⟨0, Int.le_refl _, by simp, by show 0 * (D : Rat) = 0; grind⟩
  | q :: r, h => by
    obtain ⟨z, z0, z1, e⟩ := whole_sum d0 (qs := r) fun x hx => h x (List.mem_cons_of_mem _ hx)
    obtain ⟨y, y0, y1, e2⟩ := h q (List.mem_cons_self ..)
    refine ⟨y + z, by omega, ?_, ?_⟩
    · rw [List.length_cons]
      have : 30000 * D * ((r.length + 1 : Nat) : Int) = 30000 * D * (r.length : Int) + 30000 * D := by
        rw [Int.natCast_add, Int.mul_add]
        omega
      omega
    · rw [Rat.intCast_add, ← e, ← e2]
      show (q + rsum r) * (D : Rat) = _
      grind
end

/-! ### a slot gone through -/
section
variable {js : List Job} {sl : List (Int × Int)} {fss : List (List Rat)}
/-- behind the first k slots -/
structure OutMid (js : List Job) (sl : List (Int × Int)) (fss : List (List Rat)) (k : Nat) (ps : List Pc) : Prop where
  A : ∀ p ∈ ps, PcOk js sl fss p
  B : ps.Pairwise fun p q => p.e ≤ q.s
  C : ∀ p ∈ ps, ∀ (i : Nat) (s : Int × Int), k ≤ i → sl[i]? = some s → p.e ≤ ((s.1 : Int) : Rat)
  D : ∀ (a : Nat) (j : Job) (fs : List Rat), js[a]? = some j → fss[a]? = some fs → workOf j.n ps = rsum (fs.take k)
  R : RunC ps
  Q : LastP ps fun p => IsI p.e
/-- within the slot k from lo to hi, behind the first i of the order -/
structure InMid (js : List Job) (sl : List (Int × Int)) (fss : List (List Rat)) (k : Nat) (lo hi : Int) (od : List Nat) (i : Nat) (now : Rat) (ps : List Pc) : Prop where
  A : ∀ p ∈ ps, PcOk js sl fss p
  B : ps.Pairwise fun p q => p.e ≤ q.s
  C : ∀ p ∈ ps, p.e ≤ now
  D : ∀ (a : Nat) (j : Job) (fs : List Rat), js[a]? = some j → fss[a]? = some fs → workOf j.n ps = rsum (fs.take k) + (if a ∈ od.take i then col fss k a else 0)
  N : now * load fss k = (lo : Rat) * load fss k + ((hi - lo : Int) : Rat) * rsum ((od.take i).map (col fss k))
  Z : load fss k = 0 → now = (lo : Rat)
  R : RunC ps
  Q : LastP ps fun p => (p.e = now ∧ p.v = load fss k / ((hi - lo : Int) : Rat)) ∨ (IsI p.e ∧ now = (lo : Rat))
  Q0 : ps = [] → now = (lo : Rat)
theorem OutMid.zero : OutMid js sl fss 0 [] :=
  ⟨fun _ h => (nomatch h), .nil, fun _ h => (nomatch h), fun _ _ fs _ _ => by show (0 : Rat) = rsum (fs.take 0); rfl, .nil, fun _ h => by simp at h⟩
theorem OutMid.start {k : Nat} {lo hi : Int} {ps : List Pc} {od : List Nat} (h : OutMid js sl fss k ps) (hs : sl[k]? = some (lo, hi)) : InMid js sl fss k lo hi od 0 (lo : Rat) ps where
  A := h.A
  B := h.B
  C := fun p hp => h.C p hp k (lo, hi) (Nat.le_refl _) hs
  D := fun a j fs hj hf => by
    rw [h.D a j fs hj hf, List.take_zero, if_neg (by simp)]
    grind
  N := by
    rw [List.take_zero]
    show _ = _ + _ * (0 : Rat)
    grind
  Z := fun _ => rfl
  R := h.R
  Q := fun p hp => .inr ⟨h.Q p hp, rfl⟩
  Q0 := fun _ => rfl
theorem load0 (H : RHyp js sl fss) {k a : Nat} (ha : a < fss.length) : col fss k a ≤ load fss k := by
  have e : load fss k = rsum ((List.range fss.length).map (col fss k)) := by rw [cols_range]; rfl
  rw [e]
  have g : ((List.range fss.length).map (col fss k))[a]? = some (col fss k a) := by
    rw [List.getElem?_map, List.getElem?_range ha]
    rfl
  have nn : ∀ x ∈ (List.range fss.length).map (col fss k), (0 : Rat) ≤ x := fun x hx => by
    obtain ⟨b, _, rfl⟩ := List.mem_map.mp hx
    exact H.col0 k b
  have h1 := rsum_take g
  have h2 := rsum_take_le nn (a + 1)
  have h3 := rsum_nonneg (xs := ((List.range fss.length).map (col fss k)).take a) fun x hx => nn x (List.mem_of_mem_take hx)
  grind
theorem loadnn (H : RHyp js sl fss) (k : Nat) : 0 ≤ load fss k := by
  unfold load
  rw [← cols_range]
  exact rsum_nonneg fun x hx => by
    obtain ⟨b, _, rfl⟩ := List.mem_map.mp hx
    exact H.col0 k b
theorem InMid.skip {k i a : Nat} {lo hi : Int} {od : List Nat} {now : Rat} {ps : List Pc} (h : InMid js sl fss k lo hi od i now ps) (ha : od[i]? = some a) (hc : col fss k a = 0) : InMid js sl fss k lo hi od (i + 1) now ps where
  A := h.A
  B := h.B
  C := h.C
  D := fun b j fs hj hf => by
    rw [h.D b j fs hj hf, List.take_add_one, ha]
    by_cases e : b = a
    · subst e
      rw [hc]
      simp
    · congr 1
      have : b ∈ od.take i ++ (some a).toList ↔ b ∈ od.take i := by simp [e]
      simp only [this]
  N := by
    rw [h.N, List.take_add_one, ha]
    show _ = _ + _ * rsum ((od.take i ++ [a]).map (col fss k))
    rw [List.map_append, rsum_append]
    show _ = _ + _ * (_ + (col fss k a + 0))
    rw [hc]
    grind
  Z := h.Z
  R := h.R
  Q := h.Q
  Q0 := h.Q0
end
section
variable {js : List Job} {sl : List (Int × Int)} {fss : List (List Rat)}
theorem col_whole {D : Int} (hD : ∀ fs ∈ fss, ∀ q ∈ fs, ∃ z : Int, 0 ≤ z ∧ z ≤ 30000 * D ∧ q * (D : Rat) = (z : Rat)) (d0 : 0 < D) (k a : Nat) : ∃ z : Int, 0 ≤ z ∧ z ≤ 30000 * D ∧ col fss k a * (D : Rat) = (z : Rat) := by
  have zero : ∃ z : Int, 0 ≤ z ∧ z ≤ 30000 * D ∧ (0 : Rat) * (D : Rat) = (z : Rat) := ⟨0, Int.le_refl _, by omega, by grind⟩
  unfold col
  by_cases ha : a < fss.length
  · rw [getD_at (List.getElem?_eq_getElem ha)]
    by_cases hk : k < (fss[a]).length
    · rw [getD_at (List.getElem?_eq_getElem hk)]
      exact hD _ (List.getElem_mem ha) _ (List.getElem_mem hk)
    · have e : (fss[a]).getD k 0 = 0 := by
        rw [List.getD_eq_getElem?_getD, List.getElem?_eq_none (by omega)]
        rfl
      rw [e]
      exact zero
  · have e : fss.getD a [] = [] := by
      rw [List.getD_eq_getElem?_getD, List.getElem?_eq_none (by omega)]
      rfl
    rw [e]
    exact zero
/-- all times and speeds are small -/
theorem RHyp.small (H : RHyp js sl fss) : ∃ D : Int, 0 < D ∧ D ≤ 200 ^ 19 ∧ ∀ (k : Nat) (as : List Nat), ∃ z : Int, 0 ≤ z ∧ z ≤ 30000 * D * (as.length : Int) ∧ rsum (as.map (col fss k)) * (D : Rat) = (z : Rat) := by
  obtain ⟨D, d0, d1, hD⟩ := whole_all (fss := fss) fun fs hfs => by
    obtain ⟨a, ha⟩ := List.getElem?_of_mem hfs
    have hl := (List.getElem?_eq_some_iff.mp ha).1
    exact (H.sh a _ fs (List.getElem?_eq_getElem (by have := H.len; omega)) ha).wh
  refine ⟨D, d0, Int.le_trans d1 ?_, fun k as => ?_⟩
  · have : fss.length ≤ 19 := by have := H.len; have := H.nj; omega
    have h2 : (200 : Nat) ^ fss.length ≤ 200 ^ 19 := Nat.pow_le_pow_right (by decide) this
    have e1 : ((200 : Int) ^ fss.length) = (((200 : Nat) ^ fss.length : Nat) : Int) := by rw [Int.natCast_pow]; rfl
    have e2 : ((200 : Int) ^ 19) = (((200 : Nat) ^ 19 : Nat) : Int) := by decide +kernel
    rw [e1, e2]
    exact Int.ofNat_le.mpr h2
  · have h := whole_sum d0 (qs := as.map (col fss k)) fun q hq => by
      obtain ⟨a, _, rfl⟩ := List.mem_map.mp hq
      exact col_whole hD d0 k a
    rw [List.length_map] at h
    exact h
theorem p19 : ((200 : Int) ^ 19) < 2 ^ 146 := by decide +kernel
theorem szV (H : RHyp js sl fss) (k : Nat) {h : Int} (h0 : 0 < h) (h1 : h ≤ 10000) : Sz 200 (load fss k / (h : Rat)) := by
  obtain ⟨D, d0, d1, hD⟩ := H.small
  obtain ⟨z, z0, z1, e⟩ := hD k (List.range fss.length)
  rw [cols_range, List.length_range] at *
  have e' : load fss k * (D : Rat) = (z : Rat) := e
  have hh : (h : Rat) ≠ 0 := fun c => by
    have := Rat.intCast_eq_zero_iff.mp c
    omega
  have key : load fss k / (h : Rat) * ((D * h : Int) : Rat) = (z : Rat) := by
    rw [Rat.intCast_mul, ← e']
    grind
  have pp := p19
  have l19 : (fss.length : Int) ≤ 19 := by have := H.len; have := H.nj; omega
  have dh : D * h ≤ 2 ^ 146 * 10000 := Int.mul_le_mul (by omega) h1 (by omega) (by decide)
  have dh0 : 0 < D * h := Int.mul_pos d0 h0
  have zz : z ≤ 30000 * 2 ^ 146 * 19 := Int.le_trans z1 (Int.mul_le_mul (by omega) l19 (by omega) (by decide))
  refine sz_of_whole key (by omega) ?_ ?_
  · have : (2 : Nat) ^ 146 * 10000 < 2 ^ 200 := by decide +kernel
    omega
  · have : (30000 * 2 ^ 146 * 19 : Nat) < 2 ^ 200 := by decide +kernel
    omega
theorem szN (H : RHyp js sl fss) (k : Nat) {lo h : Int} {as : List Nat} {now : Rat} (la : as.length ≤ 19) (lo0 : 0 ≤ lo) (lo1 : lo ≤ 10000) (h0 : 0 < h) (h1 : h ≤ 10000) (hL : 0 < load fss k) (e : now * load fss k = (lo : Rat) * load fss k + (h : Rat) * rsum (as.map (col fss k))) : Sz 200 now := by
  obtain ⟨D, d0, d1, hD⟩ := H.small
  obtain ⟨z, z0, z1, ez⟩ := hD k (List.range fss.length)
  obtain ⟨t, t0, t1, et⟩ := hD k as
  rw [cols_range, List.length_range] at *
  have ez' : load fss k * (D : Rat) = (z : Rat) := ez
  have dr : (0 : Rat) < (D : Rat) := Rat.intCast_pos.mpr d0
  have zpos : 0 < z := by
    have : (0 : Rat) < (z : Rat) := by rw [← ez']; exact Rat.mul_pos hL dr
    exact Rat.intCast_pos.mp this
  have key : now * (z : Rat) = ((lo * z + h * t : Int) : Rat) := by
    rw [Rat.intCast_add, Rat.intCast_mul, Rat.intCast_mul, ← ez', ← et]
    grind
  have pp := p19
  have l19 : (fss.length : Int) ≤ 19 := by have := H.len; have := H.nj; omega
  have la' : (as.length : Int) ≤ 19 := by omega
  have zz : z ≤ 30000 * 2 ^ 146 * 19 := Int.le_trans z1 (Int.mul_le_mul (by omega) l19 (by omega) (by decide))
  have tt : t ≤ 30000 * 2 ^ 146 * 19 := Int.le_trans t1 (Int.mul_le_mul (by omega) la' (by omega) (by decide))
  have b1 : lo * z ≤ 10000 * (30000 * 2 ^ 146 * 19) := Int.mul_le_mul lo1 zz (by omega) (by decide)
  have b2 : h * t ≤ 10000 * (30000 * 2 ^ 146 * 19) := Int.mul_le_mul h1 tt t0 (by decide)
  have b3 : 0 ≤ lo * z := Int.mul_nonneg lo0 (by omega)
  have b4 : 0 ≤ h * t := Int.mul_nonneg (by omega) t0
  have big : (20000 * (30000 * 2 ^ 146 * 19) : Nat) < 2 ^ 200 := by decide +kernel
  refine sz_of_whole key (by omega) (by omega) (by omega)
theorem load_le (H : RHyp js sl fss) (k : Nat) : load fss k ≤ 570000 := by
  obtain ⟨D, d0, d1, hD⟩ := H.small
  obtain ⟨z, z0, z1, e⟩ := hD k (List.range fss.length)
  rw [cols_range, List.length_range] at *
  have e' : load fss k * (D : Rat) = (z : Rat) := e
  have dr : (0 : Rat) < (D : Rat) := Rat.intCast_pos.mpr d0
  have l19 : (fss.length : Int) ≤ 19 := by have := H.len; have := H.nj; omega
  have zz : z ≤ 570000 * D := by
    have h1 : 30000 * D * (fss.length : Int) ≤ 30000 * D * 19 := Int.mul_le_mul_of_nonneg_left l19 (by omega)
    omega
  have c : (z : Rat) ≤ ((570000 * D : Int) : Rat) := Rat.intCast_le_intCast.mpr zz
  rw [Rat.intCast_mul, ← e'] at c
  exact Rat.le_of_mul_le_mul_right c dr
theorem InMid.add (H : RHyp js sl fss) {k i a s : Nat} {lo hi : Int} {now : Rat} {ps : List Pc} {j : Job} {fs : List Rat} (h : InMid js sl fss k lo hi (rot s fss.length) i now ps) (hs0 : s ≤ fss.length) (ha : (rot s fss.length)[i]? = some a) (hj : js[a]? = some j) (hf : fss[a]? = some fs)
    (hs : sl[k]? = some (lo, hi)) (hc : 0 < col fss k a) :
    0 < load fss k / ((hi - lo : Int) : Rat) ∧ Sz 200 (load fss k / ((hi - lo : Int) : Rat)) ∧ Sz 16 (col fss k a) ∧ Sz 200 now ∧
    InMid js sl fss k lo hi (rot s fss.length) (i + 1) (now + col fss k a / (load fss k / ((hi - lo : Int) : Rat))) (ps ++ [⟨now, now + col fss k a / (load fss k / ((hi - lo : Int) : Rat)), j.n, load fss k / ((hi - lo : Int) : Rat)⟩]) := by
  have bs := H.sok.bd _ (List.mem_of_getElem? hs)
  have hl0 : 0 < hi - lo := by have := bs.2.1; simp only at this; omega
  have hl1 : hi - lo ≤ 10000 := by have := bs.2.2; have := bs.1; simp only at *; omega
  have al : a < fss.length := (List.getElem?_eq_some_iff.mp hf).1
  have L0 := load0 H (k := k) al
  have Lp : 0 < load fss k := by grind
  have il : i < (rot s fss.length).length := (List.getElem?_eq_some_iff.mp ha).1
  rw [rot_len hs0] at il
  have nl : fss.length ≤ 19 := by have := H.len; have := H.nj; omega
  have hr : (0 : Rat) < ((hi - lo : Int) : Rat) := Rat.intCast_pos.mpr hl0
  generalize hd : ((hi - lo : Int) : Rat) = d at *
  have vp : 0 < load fss k / d := by
    rw [Rat.div_def]
    exact Rat.mul_pos Lp (Rat.inv_pos.mpr hr)
  have zv : Sz 200 (load fss k / d) := by rw [← hd]; exact szV H k hl0 hl1
  have ec : col fss k a / (load fss k / d) = col fss k a * d / load fss k := by grind
  have ecp : 0 < col fss k a / (load fss k / d) := by
    rw [Rat.div_def]
    exact Rat.mul_pos hc (Rat.inv_pos.mpr vp)
  have nod : (rot s fss.length).Nodup := (rot_perm hs0).nodup_iff.mpr List.nodup_range
  have anot : a ∉ (rot s fss.length).take i := fun hm => by
    obtain ⟨x, hx⟩ := List.getElem?_of_mem hm
    have xl := (List.getElem?_eq_some_iff.mp hx).1
    rw [List.length_take] at xl
    rw [List.getElem?_take_of_lt (by omega)] at hx
    have := nd_ix nod hx ha
    omega
  have et : (rot s fss.length).take (i + 1) = (rot s fss.length).take i ++ [a] := by rw [List.take_add_one, ha]; rfl
  have es : rsum (((rot s fss.length).take (i + 1)).map (col fss k)) = rsum (((rot s fss.length).take i).map (col fss k)) + col fss k a := by
    rw [et, List.map_append, rsum_append]
    show _ + (col fss k a + 0) = _
    grind
  have nnc : ∀ x ∈ (rot s fss.length).map (col fss k), (0 : Rat) ≤ x := fun x hx => by
    obtain ⟨b, _, rfl⟩ := List.mem_map.mp hx
    exact H.col0 k b
  have le1 : rsum (((rot s fss.length).take (i + 1)).map (col fss k)) ≤ load fss k := by
    rw [← rot_load fss k hs0, List.map_take]
    exact rsum_take_le nnc (i + 1)
  have ge0 : 0 ≤ rsum (((rot s fss.length).take i).map (col fss k)) := by
    rw [List.map_take]
    exact rsum_nonneg fun x hx => nnc x (List.mem_of_mem_take hx)
  have N := h.N
  rw [hd] at N
  have N' : (now + col fss k a / (load fss k / d)) * load fss k = (lo : Rat) * load fss k + d * rsum (((rot s fss.length).take (i + 1)).map (col fss k)) := by
    rw [es, ec]
    grind
  have zs : Sz 200 now := szN H k (as := (rot s fss.length).take i) (h := hi - lo) (by rw [List.length_take, rot_len hs0]; omega) bs.1 (by have := bs.2.2; have := bs.2.1; simp only at *; omega) hl0 hl1 Lp (by rw [hd]; exact N)
  have ze : Sz 200 (now + col fss k a / (load fss k / d)) := szN H k (as := (rot s fss.length).take (i + 1)) (h := hi - lo) (by rw [List.length_take, rot_len hs0]; omega) bs.1 (by have := bs.2.2; have := bs.2.1; simp only at *; omega) hl0 hl1 Lp (by rw [hd]; exact N')
  have sh := H.sh a j fs hj hf
  have kl : k < sl.length := (List.getElem?_eq_some_iff.mp hs).1
  have gk : fs[k]? = some (col fss k a) := by
    have g := List.getElem?_eq_getElem (l := fs) (i := k) (by rw [sh.len]; exact kl)
    rw [g]
    unfold col
    rw [getD_at hf, getD_at g]
  have zc : Sz 16 (col fss k a) := sh.sz _ (List.mem_of_getElem? gk)
  have hm : mine j (lo, hi) = true := sh.own k _ _ gk hs (by grind)
  have low : (lo : Rat) ≤ now := by
    have m : (lo : Rat) * load fss k ≤ now * load fss k := by
      have := Rat.mul_nonneg (Rat.le_of_lt hr) ge0
      grind
    exact Rat.le_of_mul_le_mul_right m Lp
  have hid : (hi : Rat) = (lo : Rat) + d := by
    rw [← hd, Rat.intCast_sub]
    grind
  have high : now + col fss k a / (load fss k / d) ≤ (hi : Rat) := by
    have m : (now + col fss k a / (load fss k / d)) * load fss k ≤ (hi : Rat) * load fss k := by
      have := Rat.mul_le_mul_of_nonneg_left le1 (Rat.le_of_lt hr)
      rw [N', hid]
      grind
    exact Rat.le_of_mul_le_mul_right m Lp
  have ilo : IsI (lo : Rat) := ⟨lo, bs.1, by have := bs.2.2; have := bs.2.1; simp only at *; omega, rfl⟩
  refine ⟨vp, zv, zc, zs, ?_, ?_, ?_, ?_, ?_, ?_, ?_, ?_, ?_⟩
  · intro p hp
    rcases List.mem_append.mp hp with hp | hp
    · exact h.A p hp
    · rw [List.mem_singleton.mp hp]
      refine ⟨⟨j, List.mem_of_getElem? hj, (lo, hi), List.mem_of_getElem? hs, rfl, hm, low, high⟩, by show now < now + _; grind, vp, zs, ze, zv, ?_, ⟨k, a, ?_⟩, ⟨k, (lo, hi), hs, by show load fss k / d = load fss k / ((hi - lo : Int) : Rat); rw [hd]⟩⟩
      · have ll := load_le H k
        have d1 : (1 : Rat) ≤ d := by
          rw [← hd]
          exact Rat.intCast_le_intCast.mpr (show (1 : Int) ≤ hi - lo by omega)
        have m : load fss k / d * 1 ≤ load fss k / d * d := Rat.mul_le_mul_of_nonneg_left d1 (Rat.le_of_lt vp)
        have e : load fss k / d * d = load fss k := by grind
        show load fss k / d ≤ 600000
        grind
      · show load fss k / d * (now + col fss k a / (load fss k / d) - now) = col fss k a
        grind
  · rw [List.pairwise_append]
    refine ⟨h.B, List.pairwise_singleton _ _, fun p hp q hq => ?_⟩
    rw [List.mem_singleton.mp hq]
    exact h.C p hp
  · intro p hp
    rcases List.mem_append.mp hp with hp | hp
    · have := h.C p hp
      grind
    · rw [List.mem_singleton.mp hp]
      exact Rat.le_refl
  · intro b j' fs' hj' hf'
    rw [workOf_push, h.D b j' fs' hj' hf', et]
    by_cases e : b = a
    · subst e
      rw [hj] at hj'
      cases hj'
      rw [if_neg anot, if_pos rfl, if_pos (by simp)]
      show _ + 0 + load fss k / d * (now + col fss k b / (load fss k / d) - now) = _
      grind
    · have nm : ¬ j.n = j'.n := fun z => by
        have h1 := H.jok.nm a j hj
        rw [z] at h1
        exact e ((H.jok.nm b j' hj').inj h1)
      have : b ∈ (rot s fss.length).take i ++ [a] ↔ b ∈ (rot s fss.length).take i := by simp [e]
      simp only [this]
      rw [if_neg nm]
      grind
  · rw [hd]
    exact N'
  · intro z
    grind
  · refine h.R.push (fun z => ?_) fun p hp => ?_
    · show IsI now
      rw [h.Q0 z]
      exact ilo
    · rcases h.Q p hp with ⟨z1, z2⟩ | ⟨z1, z2⟩
      · refine .inl ⟨z1, ?_⟩
        rw [hd] at z2
        exact z2
      · refine .inr ⟨z1, ?_⟩
        show IsI now
        rw [z2]
        exact ilo
  · refine lastP_push (.inl ⟨rfl, ?_⟩)
    show load fss k / d = load fss k / ((hi - lo : Int) : Rat)
    rw [hd]
  · intro z
    simp at z
theorem InMid.finish (H : RHyp js sl fss) {k s : Nat} {lo hi : Int} {now : Rat} {ps : List Pc} (h : InMid js sl fss k lo hi (rot s fss.length) fss.length now ps) (hs0 : s ≤ fss.length) (hs : sl[k]? = some (lo, hi)) : OutMid js sl fss (k + 1) ps := by
  have bs := H.sok.bd _ (List.mem_of_getElem? hs)
  have N := h.N
  have lhi : (lo : Rat) ≤ (hi : Rat) := by
    have := bs.2.1
    exact Rat.intCast_le_intCast.mpr (by simp only at this; omega)
  rw [List.take_of_length_le (by rw [rot_len hs0]; exact Nat.le_refl _), rot_load fss k hs0] at N
  have bs1 : 0 ≤ lo := bs.1
  have bs2 : lo < hi := bs.2.1
  have bs3 : hi ≤ 10000 := bs.2.2
  have nh2 : now ≤ (hi : Rat) ∧ IsI now := by
    by_cases z : load fss k = 0
    · rw [h.Z z]
      exact ⟨lhi, lo, bs1, by omega, rfl⟩
    · rw [Rat.intCast_sub] at N
      have : now = (hi : Rat) := by grind
      rw [this]
      exact ⟨Rat.le_refl, hi, by omega, by omega, rfl⟩
  have nh := nh2.1
  refine ⟨h.A, h.B, fun p hp i t hi2 ht => ?_, fun a j fs hj hf => ?_, h.R, fun p hp => ?_⟩
  · have c := h.C p hp
    have pw := H.sok.pw
    have : ((lo, hi) : Int × Int).2 ≤ t.1 := by
      have hil := (List.getElem?_eq_some_iff.mp ht)
      have hkl := (List.getElem?_eq_some_iff.mp hs)
      obtain ⟨h1, e1⟩ := hil
      obtain ⟨h2, e2⟩ := hkl
      have := List.pairwise_iff_getElem.mp pw k i h2 h1 (by omega)
      rw [e1, e2] at this
      exact this
    have r : (hi : Rat) ≤ (t.1 : Rat) := Rat.intCast_le_intCast.mpr this
    grind
  · rw [h.D a j fs hj hf]
    have al : a < fss.length := (List.getElem?_eq_some_iff.mp hf).1
    have am : a ∈ (rot s fss.length).take fss.length := by
      rw [List.take_of_length_le (by rw [rot_len hs0]; exact Nat.le_refl _)]
      exact ((rot_perm hs0).mem_iff).mpr (List.mem_range.mpr al)
    rw [if_pos am]
    have sh := H.sh a j fs hj hf
    have kl : k < sl.length := (List.getElem?_eq_some_iff.mp hs).1
    have gk : fs[k]? = some (col fss k a) := by
      have g := List.getElem?_eq_getElem (l := fs) (i := k) (by rw [sh.len]; exact kl)
      rw [g]
      unfold col
      rw [getD_at hf, getD_at g]
    rw [rsum_take gk]
  · rcases h.Q p hp with ⟨z1, _⟩ | ⟨z1, _⟩
    · rw [z1]
      exact nh2.2
    · exact z1
/-- the product of the lengths of the slots -/
def lens : List (Int × Int) → Int
  | [] => 1
  | t :: r => (t.2 - t.1) * lens r
theorem lens_ok : ∀ {sl : List (Int × Int)}, (∀ s ∈ sl, 0 ≤ s.1 ∧ s.1 < s.2 ∧ s.2 ≤ 10000) → 0 < lens sl ∧ lens sl ≤ 10000 ^ sl.length ∧ ∀ t ∈ sl, ∃ m : Int, lens sl = (t.2 - t.1) * m
  | [], _ => ⟨by decide, by decide, fun _ h => (nomatch h)⟩
  | t :: r, h => by
    obtain ⟨a, b, c⟩ := lens_ok (sl := r) fun s hs => h s (List.mem_cons_of_mem _ hs)
    have ht := h t (List.mem_cons_self ..)
    refine ⟨Int.mul_pos (by omega) a, ?_, fun u hu => ?_⟩
    · show (t.2 - t.1) * lens r ≤ _
      rw [List.length_cons, Int.pow_succ, Int.mul_comm]
      exact Int.mul_le_mul b (by omega) (by omega) (Int.pow_nonneg (by decide))
    · rcases List.mem_cons.mp hu with rfl | hu
      · exact ⟨_, rfl⟩
      · obtain ⟨m, e⟩ := c u hu
        refine ⟨(t.2 - t.1) * m, ?_⟩
        show (t.2 - t.1) * lens r = _
        rw [e]
        grind
/-- the rival as it is made -/
structure RivOk (js : List Job) (ps : List Pc) : Prop where
  pc : ∀ p ∈ ps, p.s < p.e ∧ 0 < p.v ∧ Sz 200 p.s ∧ Sz 200 p.e ∧ Sz 200 p.v ∧ ∃ j ∈ js, p.n = j.n ∧ ((j.c : Int) : Rat) ≤ p.s ∧ p.e ≤ ((j.d : Int) : Rat)
  ord : ps.Pairwise fun p q => p.e ≤ q.s
  work : ∀ j ∈ js, workOf j.n ps = (j.w : Rat)
  vb : ∀ p ∈ ps, p.v ≤ 600000
  wh : ∃ D : Int, 0 < D ∧ D ≤ 200 ^ 19 ∧ ∀ p ∈ ps, ∃ z : Int, p.v * (p.e - p.s) * (D : Rat) = (z : Rat)
  run : RunC ps
  re : LastP ps fun p => IsI p.e
  ve : ∃ E : Int, 0 < E ∧ E ≤ 2 ^ 950 ∧ ∀ p ∈ ps, ∃ z : Int, p.v * (E : Rat) = (z : Rat)
theorem p950 : ((200 : Int) ^ 19) * 10000 ^ 60 ≤ 2 ^ 950 := by decide +kernel
theorem OutMid.done (H : RHyp js sl fss) (hsl : sl.length ≤ 60) {ps : List Pc} (h : OutMid js sl fss sl.length ps) : RivOk js ps := by
  obtain ⟨D, d0, d1, hD⟩ := H.small
  obtain ⟨l0, l1, l2⟩ := lens_ok H.sok.bd
  have l60 : lens sl ≤ 10000 ^ 60 := by
    refine Int.le_trans l1 ?_
    have h2 : (10000 : Nat) ^ sl.length ≤ 10000 ^ 60 := Nat.pow_le_pow_right (by decide) hsl
    have e1 : ((10000 : Int) ^ sl.length) = (((10000 : Nat) ^ sl.length : Nat) : Int) := by rw [Int.natCast_pow]; rfl
    have e2 : ((10000 : Int) ^ 60) = (((10000 : Nat) ^ 60 : Nat) : Int) := by decide +kernel
    rw [e1, e2]
    exact Int.ofNat_le.mpr h2
  refine ⟨fun p hp => ?_, h.B, fun j hj => ?_, fun p hp => (h.A p hp).vb, ⟨D, d0, d1, fun p hp => ?_⟩, h.R, h.Q, D * lens sl, Int.mul_pos d0 l0, Int.le_trans (Int.mul_le_mul d1 l60 (by omega) (by decide +kernel)) p950, fun p hp => ?_⟩
  · have o := h.A p hp
    obtain ⟨j, hj, s, hs, hn, hm, h1, h2⟩ := o.at'
    unfold mine at hm
    rw [Bool.and_eq_true] at hm
    have m1 : ((j.c : Int) : Rat) ≤ ((s.1 : Int) : Rat) := Rat.intCast_le_intCast.mpr (of_decide_eq_true hm.1)
    have m2 : ((s.2 : Int) : Rat) ≤ ((j.d : Int) : Rat) := Rat.intCast_le_intCast.mpr (of_decide_eq_true hm.2)
    exact ⟨o.lt, o.v0, o.zs, o.ze, o.zv, j, hj, hn, by grind, by grind⟩
  · obtain ⟨a, ha⟩ := List.getElem?_of_mem hj
    have al := (List.getElem?_eq_some_iff.mp ha).1
    have hf := List.getElem?_eq_getElem (l := fss) (i := a) (by have := H.len; omega)
    have sh := H.sh a j _ ha hf
    rw [h.D a j _ ha hf, ← sh.len, List.take_length]
    exact sh.sum
  · obtain ⟨k, a, e⟩ := (h.A p hp).wk
    obtain ⟨z, _, _, ez⟩ := hD k [a]
    refine ⟨z, ?_⟩
    rw [e, ← ez]
    show _ = (col fss k a + 0) * (D : Rat)
    unfold col
    grind
  · obtain ⟨k, t, ht, ev⟩ := (h.A p hp).vk
    obtain ⟨z, _, _, ez⟩ := hD k (List.range fss.length)
    rw [cols_range] at ez
    obtain ⟨m, em⟩ := l2 t (List.mem_of_getElem? ht)
    have bt := H.sok.bd _ (List.mem_of_getElem? ht)
    have tn : ((t.2 - t.1 : Int) : Rat) ≠ 0 := fun c => by
      have := Rat.intCast_eq_zero_iff.mp c
      omega
    refine ⟨z * m, ?_⟩
    rw [ev, em, Rat.intCast_mul, Rat.intCast_mul, Rat.intCast_mul, ← ez]
    generalize rsum (fss.map fun fs => fs.getD k 0) = L
    generalize ((t.2 - t.1 : Int) : Rat) = d at tn
    grind
end

/-! ### the slots between the points -/
def slotsOf (ps : List Int) : List (Int × Int) := (List.range (ps.length - 1)).map fun k => (ps.getD k 0, ps.getD (k + 1) 0)
theorem slots_at {ps : List Int} {k : Nat} (h : k < ps.length - 1) : (slotsOf ps)[k]? = some (ps.getD k 0, ps.getD (k + 1) 0) := by
  unfold slotsOf
  rw [List.getElem?_map, List.getElem?_range h]
  rfl
theorem slots_len (ps : List Int) : (slotsOf ps).length = ps.length - 1 := by
  unfold slotsOf
  rw [List.length_map, List.length_range]
theorem pts_lt {ps : List Int} (h : ps.Pairwise (· < ·)) {a b : Nat} (hb : b < ps.length) (hab : a < b) : ps.getD a 0 < ps.getD b 0 := by
  have := List.pairwise_iff_getElem.mp h a b (by omega) hb hab
  rw [getD_at (List.getElem?_eq_getElem (show a < ps.length by omega)), getD_at (List.getElem?_eq_getElem hb)]
  exact this
theorem pts_mem {ps : List Int} {a : Nat} (h : a < ps.length) : ps.getD a 0 ∈ ps := by
  rw [getD_at (List.getElem?_eq_getElem h)]
  exact List.getElem_mem h
theorem slots_ok {js : List Job} {ps : List Int} (h : PtsOk js ps) (hj : ∀ j ∈ js, JobOk j) : SlOk (slotsOf ps) := by
  refine ⟨fun s hs => ?_, ?_⟩
  · obtain ⟨k, hk⟩ := List.getElem?_of_mem hs
    have kl := (List.getElem?_eq_some_iff.mp hk).1
    rw [slots_len] at kl
    rw [slots_at kl] at hk
    cases hk
    have lt := pts_lt h.lt (a := k) (b := k + 1) (by omega) (by omega)
    obtain ⟨j, jm, h1, h2⟩ := h.bd _ (pts_mem (ps := ps) (a := k) (by omega))
    obtain ⟨j2, jm2, h3, h4⟩ := h.bd _ (pts_mem (ps := ps) (a := k + 1) (by omega))
    have := (hj j jm).c0
    have := (hj j2 jm2).d1
    exact ⟨by omega, lt, by omega⟩
  · refine List.pairwise_iff_getElem.mpr fun a b ha hb hab => ?_
    have ga := List.getElem?_eq_getElem ha
    have gb := List.getElem?_eq_getElem hb
    rw [slots_len] at ha hb
    rw [slots_at ha] at ga
    rw [slots_at hb] at gb
    rw [← Option.some.inj ga, ← Option.some.inj gb]
    show ps.getD (a + 1) 0 ≤ ps.getD b 0
    by_cases e : a + 1 = b
    · rw [e]; exact Int.le_refl _
    · exact Int.le_of_lt (pts_lt h.lt (by omega) (by omega))
theorem slots_mine {js : List Job} {ps : List Int} (h : PtsOk js ps) {j : Job} (hj : j ∈ js) (oj : JobOk j) : ∃ s ∈ slotsOf ps, mine j s = true := by
  obtain ⟨m1, m2⟩ := h.mem j hj
  obtain ⟨a, ha⟩ := List.getElem?_of_mem m1
  obtain ⟨b, hb⟩ := List.getElem?_of_mem m2
  have al := (List.getElem?_eq_some_iff.mp ha).1
  have bl := (List.getElem?_eq_some_iff.mp hb).1
  have ea := getD_at (d := (0 : Int)) ha
  have eb := getD_at (d := (0 : Int)) hb
  have cd := oj.cd
  have ab : a < b := by
    by_cases z : a < b
    · exact z
    · by_cases e : a = b
      · subst e; omega
      · have := pts_lt h.lt (a := b) (b := a) al (by omega)
        omega
  refine ⟨_, List.mem_of_getElem? (slots_at (ps := ps) (k := a) (by omega)), ?_⟩
  unfold mine
  rw [Bool.and_eq_true]
  refine ⟨decide_eq_true (by simp only; omega), decide_eq_true ?_⟩
  show ps.getD (a + 1) 0 ≤ j.d
  rw [← eb]
  by_cases e : a + 1 = b
  · rw [e]; exact Int.le_refl _
  · exact Int.le_of_lt (pts_lt h.lt bl (by omega))
/-! ### rows of shares -/
def RowsAt (K : PySem.W.Frag) (p R : Addr) (H : Hp) (ras : List Addr) (fss : List (List Rat)) : Prop :=
  ras.length = fss.length ∧ ∀ (a : Nat) (ra : Addr) (fs : List Rat), ras[a]? = some ra → fss[a]? = some fs → ra ≠ p ∧ ra ≠ R ∧ ∃ xs, H ra = some (.lst xs) ∧ IsA K H xs (fs.map rat2)
theorem RowsAt.kp {K : PySem.W.Frag} {p R pa : Addr} {H H' : Hp} {ras : List Addr} {fss : List (List Rat)} (h : RowsAt K p R H ras fss) (P : Pl p pa H) (e : Kp p H H') : RowsAt K p R H' ras fss :=
  ⟨h.1, fun a ra fs h1 h2 => by
    obtain ⟨n1, n2, xs, hx, hi⟩ := h.2 a ra fs h1 h2
    exact ⟨n1, n2, xs, e _ _ n1 hx, hi.to (P.tm e)⟩⟩
theorem rd_of_div {q : Rat} {h : Int} (h0 : h ≠ 0) : Rat.divInt q.num ((q.den : Int) * h) = q / (h : Rat) := by
  rw [divInt_div, Rat.intCast_mul, Rat.div_def, Rat.div_def]
  have e : (q.num : Rat) * ((q.den : Int) : Rat)⁻¹ = q := by
    rw [← Rat.div_def, ← divInt_div]
    exact Rat.num_divInt_den q
  have d0 : ((q.den : Int) : Rat) ≠ 0 := fun c => denz q (Rat.intCast_eq_zero_iff.mp c)
  have h1 : (h : Rat) ≠ 0 := fun c => h0 (Rat.intCast_eq_zero_iff.mp c)
  conv => rhs; rw [← e]
  grind
/-- a rival plan of a job list -/
def spRival (K : PySem.W.Frag) : Sp := fun vs H Q _ => ∃ (p pa J : Addr) (xs : List V) (js : List Job), vs = [.ref p, .ref J] ∧ Pl p pa H ∧ SqT K H J xs ∧ IsA K H xs (js.map dJob) ∧ JobsOk js ∧ js.length ≤ 19 ∧
  ∀ t ys ps H', RivOk js ps → ps.length ≤ 3 * js.length * js.length → Kp p H H' → Pl p pa H' → H t = none → H' t = some (.tup ys) → IsA K H' ys (ps.map dPc) → Q (.ref t) H'
theorem is_pc {K : PySem.W.Frag} {H : Hp} {t : Addr} {a b c : V} {q : Pc} (h : SqT K H t [a, b, .str q.n, c]) (ha : Is K H a (rat2 q.s)) (hb : Is K H b (rat2 q.e)) (hc : Is K H c (rat2 q.v)) : Is K H (.ref t) (dPc q) :=
  .tup h (.cons ha (.cons hb (.cons (.str _) (.cons hc .nil))))
theorem pc_at {K : PySem.W.Frag} {H : Hp} {v : V} {q : Pc} (h : Is K H v (dPc q)) : ∃ t a b c, v = .ref t ∧ SqT K H t [a, b, .str q.n, c] ∧ Is K H a (rat2 q.s) ∧ Is K H b (rat2 q.e) ∧ Is K H c (rat2 q.v) := by
  obtain ⟨t, xs, rfl, s, a⟩ := h.tup'
  cases a with
  | cons h1 a => cases a with
    | cons h2 a => cases a with
      | cons h3 a => cases a with
        | cons h4 a =>
          cases a; cases h3
          exact ⟨t, _, _, _, rfl, s, h1, h2, h4⟩
theorem rat_at {K : PySem.W.Frag} {H : Hp} {v : V} {q : Rat} (h : Is K H v (rat2 q)) : ∃ t, v = .ref t ∧ SqT K H t [.int q.num, .int (q.den : Int)] := by
  obtain ⟨t, a, b, rfl, s, h1, h2⟩ := Is.two' h
  cases h1; cases h2
  exact ⟨t, rfl, s⟩
theorem num_pos {q : Rat} : (0 < q.num) ↔ 0 < q := by
  rw [Rat.lt_iff]
  show 0 < q.num ↔ (0 : Int) * (q.den : Int) < q.num * ((1 : Nat) : Int)
  omega
end Z

namespace Z
open PySem PySem.Spec PyProof.Rows L2
/-! ### equal data -/
theorem eqv_rat2 (p q : Rat) : PyData.eqv (rat2 p) (rat2 q) = decide (p = q) := by
  show PyData.eqv (.tuple _) (.tuple _) = _
  rw [PyData.eqv, PyData.eqvAll, PyData.eqvAll, PyData.eqvAll, PyData.eqv, PyData.eqv, Bool.and_true]
  by_cases h : p = q
  · subst h
    simp
  · rw [decide_eq_false h, Bool.and_eq_false_iff]
    by_cases h1 : p.num = q.num
    · refine .inr (beq_eq_false_iff_ne.mpr fun h2 => h (Rat.ext h1 (by omega)))
    · exact .inl (beq_eq_false_iff_ne.mpr h1)
theorem lay_rat2 (p : Rat) : (rat2 p).canLay0 = true := by
  unfold rat2
  rw [PyData.canLay0, PyData.canLayAll0, PyData.canLayAll0, PyData.canLayAll0, PyData.canLay0, PyData.canLay0]
  rfl
theorem depth_rat2 (p : Rat) : (rat2 p).depth = 1 := by
  unfold rat2
  simp [PyData.depth, PyData.depthAll]
theorem shaped_rat2 (p : Rat) : SeqAt.shaped (rat2 p) = true := by
  unfold SeqAt.shaped
  rw [lay_rat2, depth_rat2]
  rfl
theorem shaped_str {x : Str} (h : PyData.strOk x = true) : SeqAt.shaped (.str x) = true := by
  unfold SeqAt.shaped
  rw [PyData.canLay0, h]
  simp [PyData.depth]
theorem eqv_str (x y : Str) : PyData.eqv (.str x) (.str y) = decide (x = y) := by
  rw [PyData.eqv]
  by_cases h : x = y
  · subst h; simp
  · rw [decide_eq_false h]
    exact beq_eq_false_iff_ne.mpr h
theorem eqv_pair (x y : Str) (p q : Rat) : PyData.eqv (.tuple [.str x, rat2 p]) (.tuple [.str y, rat2 q]) = (decide (x = y) && decide (p = q)) := by
  rw [PyData.eqv, PyData.eqvAll, PyData.eqvAll, PyData.eqvAll, eqv_str, eqv_rat2, Bool.and_true]
theorem shaped_pair {x : Str} (h : PyData.strOk x = true) (p : Rat) : SeqAt.shaped (.tuple [.str x, rat2 p]) = true := by
  unfold SeqAt.shaped
  rw [PyData.canLay0, PyData.canLayAll0, PyData.canLayAll0, PyData.canLayAll0, PyData.canLay0, h, lay_rat2]
  simp [PyData.depth, PyData.depthAll, depth_rat2]
theorem lay_dPc {p : Pc} (h : PyData.strOk p.n = true) : (dPc p).canLay0 = true := by
  unfold dPc
  rw [PyData.canLay0, PyData.canLayAll0, PyData.canLayAll0, PyData.canLayAll0, PyData.canLayAll0, PyData.canLayAll0, PyData.canLay0, h, lay_rat2, lay_rat2, lay_rat2]
  rfl
theorem depth_dPc (p : Pc) : (dPc p).depth = 2 := by
  unfold dPc
  simp [PyData.depth, PyData.depthAll, depth_rat2]
def POk (ps : List Pc) : Prop := ∀ p ∈ ps, PyData.strOk p.n = true
theorem lay_dPcs : ∀ {ps : List Pc}, POk ps → PyData.canLayAll0 (ps.map dPc) = true
  | [], _ => by rw [List.map_nil, PyData.canLayAll0]
  | p :: ps, h => by
    rw [List.map_cons, PyData.canLayAll0, lay_dPc (h p (List.mem_cons_self ..)), lay_dPcs (ps := ps) fun q hq => h q (List.mem_cons_of_mem _ hq)]
    rfl
theorem depth_dPcs : ∀ (ps : List Pc), PyData.depthAll (ps.map dPc) ≤ 2
  | [] => by simp [PyData.depthAll]
  | p :: ps => by
    have := depth_dPcs ps
    rw [List.map_cons, PyData.depthAll, depth_dPc]
    omega
theorem shaped_list {ps : List Pc} (h : POk ps) : SeqAt.shaped (.list (ps.map dPc)) = true := by
  unfold SeqAt.shaped
  have := depth_dPcs ps
  rw [PyData.canLay0, lay_dPcs h, PyData.depth]
  simp
  omega
theorem shaped_nil : SeqAt.shaped (.list []) = true := by
  unfold SeqAt.shaped
  simp [PyData.canLay0, PyData.canLayAll0, PyData.depth, PyData.depthAll]
theorem eqv_nil (ps : List Pc) : PyData.eqv (.list (ps.map dPc)) (.list []) = decide (ps = []) := by
  cases ps with
  | nil => simp [PyData.eqv, PyData.eqvAll]
  | cons p ps => simp [PyData.eqv, PyData.eqvAll]
theorem plain_dPc (p : Pc) : plainD (dPc p) = true := by
  unfold dPc
  rw [plainD, plainDs, plainDs, plainDs, plainDs, plainDs, plain_rat2, plain_rat2, plain_rat2, plainD]
  rfl
theorem plain_dPcs : ∀ ps : List Pc, plainDs (ps.map dPc) = true
  | [] => by rw [List.map_nil, plainDs]
  | p :: ps => by
    rw [List.map_cons, plainDs, plain_dPc, plain_dPcs ps]
    rfl
def dPlan (ps : List Pc) : PyData := .tuple (ps.map dPc)
theorem plain_plan {ps : List Pc} (h : ps.length ≤ 1000) : plainD (dPlan ps) = true := by
  unfold dPlan
  rw [plainD, plain_dPcs, List.length_map, decide_eq_true h]
  rfl
theorem dep_dPc (p : Pc) : depD (dPc p) = 2 := by
  simp [dPc, depD, depDs, dep_rat2]
theorem dep_dPcs : ∀ ps : List Pc, depDs (ps.map dPc) ≤ 2
  | [] => by simp [depDs]
  | p :: ps => by
    have := dep_dPcs ps
    rw [List.map_cons, depDs, dep_dPc]
    omega
theorem dep_plan (ps : List Pc) : depD (dPlan ps) < 4 := by
  have := dep_dPcs ps
  unfold dPlan
  rw [depD]
  omega
theorem nm_str {k : Nat} {x : Str} (h : NmOk k x) : PyData.strOk x = true := by
  unfold PyData.strOk
  rw [Array.all_eq_true']
  intro c hc
  have := h.low c (by simpa using hc)
  exact decide_eq_true (by omega)
/-! ### tidy plans -/
def goesOn (p q : Pc) : Bool := decide (p.e = q.s) && (decide (p.n = q.n) && decide (p.v = q.v))
def tidyStep (acc : List Pc) (p : Pc) : List Pc :=
  match acc.getLast? with
  | none => acc ++ [p]
  | some l => if goesOn l p then acc.dropLast ++ [⟨l.s, p.e, p.n, p.v⟩] else acc ++ [p]
def tidyL (ps : List Pc) : List Pc := ps.foldl tidyStep []
theorem step_nil (p : Pc) : tidyStep [] p = [p] := rfl
theorem step_yes {acc : List Pc} {l p : Pc} (h : goesOn l p = true) : tidyStep (acc ++ [l]) p = acc ++ [⟨l.s, p.e, p.n, p.v⟩] := by
  unfold tidyStep
  rw [List.getLast?_concat]
  show (if goesOn l p then _ else _) = _
  rw [if_pos h, List.dropLast_concat]
theorem step_no {acc : List Pc} {l p : Pc} (h : goesOn l p = false) : tidyStep (acc ++ [l]) p = acc ++ [l] ++ [p] := by
  unfold tidyStep
  rw [List.getLast?_concat]
  show (if goesOn l p then _ else _) = _
  rw [if_neg (by rw [h]; decide)]
theorem snoc_or (acc : List Pc) : acc = [] ∨ ∃ i l, acc = i ++ [l] := by
  rcases List.eq_nil_or_concat acc with h | ⟨i, l, h⟩
  · exact .inl h
  · exact .inr ⟨i, l, by rw [h, List.concat_eq_append]⟩
theorem tidy_take {ps : List Pc} {i : Nat} {p : Pc} (h : ps[i]? = some p) : tidyL (ps.take (i + 1)) = tidyStep (tidyL (ps.take i)) p := by
  unfold tidyL
  rw [List.take_add_one, h, List.foldl_append]
  rfl
theorem step_len (acc : List Pc) (p : Pc) : (tidyStep acc p).length ≤ acc.length + 1 := by
  rcases snoc_or acc with rfl | ⟨i, l, rfl⟩
  · exact Nat.le_refl _
  · cases h : goesOn l p with
    | true => rw [step_yes h]; simp
    | false => rw [step_no h]; simp
theorem tidy_len (ps : List Pc) : ∀ i, (tidyL (ps.take i)).length ≤ i
  | 0 => Nat.le_refl _
  | i + 1 => by
    have ih := tidy_len ps i
    cases h : ps[i]? with
    | none =>
      have : ps.length ≤ i := List.getElem?_eq_none_iff.mp h
      rw [List.take_of_length_le (by omega)]
      rw [List.take_of_length_le (by omega)] at ih
      omega
    | some p =>
      rw [tidy_take h]
      have := step_len (tidyL (ps.take i)) p
      omega
def Tidy (ps : List Pc) : Prop := ∀ (k : Nat) (p q : Pc), ps[k]? = some p → ps[k + 1]? = some q → goesOn p q = false
theorem goes_last {l l' p : Pc} (e : l.s = l'.s ∧ l.n = l'.n ∧ l.v = l'.v) (h : goesOn p l = goesOn p l) : goesOn p l = goesOn p l' := by
  unfold goesOn
  rw [e.1, e.2.1, e.2.2]
theorem tidy_push {acc : List Pc} {l : Pc} (h : Tidy acc) (hl : ∀ x, acc.getLast? = some x → goesOn x l = false) : Tidy (acc ++ [l]) := by
  intro k p q hp hq
  have lk : k + 1 < (acc ++ [l]).length := (List.getElem?_eq_some_iff.mp hq).1
  rw [List.length_append, List.length_singleton] at lk
  rw [List.getElem?_append_left (by omega)] at hp
  by_cases e : k + 1 < acc.length
  · rw [List.getElem?_append_left e] at hq
    exact h k p q hp hq
  · have e2 : k + 1 = acc.length := by omega
    rw [List.getElem?_append_right (by omega), e2, Nat.sub_self] at hq
    have : l = q := Option.some.inj hq
    subst this
    refine hl p ?_
    rw [List.getLast?_eq_getElem?, show acc.length - 1 = k by omega]
    exact hp
theorem Tidy.init {acc : List Pc} {l : Pc} (h : Tidy (acc ++ [l])) : Tidy acc := fun k p q hp hq => by
  have lk : k + 1 < acc.length := (List.getElem?_eq_some_iff.mp hq).1
  exact h k p q (by rw [List.getElem?_append_left (by omega)]; exact hp) (by rw [List.getElem?_append_left lk]; exact hq)
theorem Tidy.last {acc : List Pc} {l x : Pc} (h : Tidy (acc ++ [l])) (hx : acc.getLast? = some x) : goesOn x l = false := by
  rw [List.getLast?_eq_getElem?] at hx
  have lx : acc.length - 1 < acc.length := (List.getElem?_eq_some_iff.mp hx).1
  refine h (acc.length - 1) x l (by rw [List.getElem?_append_left lx]; exact hx) ?_
  rw [List.getElem?_append_right (by omega), show acc.length - 1 + 1 - acc.length = 0 by omega]
  rfl
theorem tidy_step {acc : List Pc} (h : Tidy acc) (p : Pc) : Tidy (tidyStep acc p) := by
  rcases snoc_or acc with rfl | ⟨i, l, rfl⟩
  · rw [step_nil]
    exact fun k a b _ hb => by simp at hb
  · cases e : goesOn l p with
    | true =>
      rw [step_yes e]
      refine tidy_push h.init fun x hx => ?_
      have := h.last hx
      unfold goesOn at e this ⊢
      simp only [Bool.and_eq_true, decide_eq_true_eq] at e
      rw [← e.2.1, ← e.2.2]
      exact this
    | false =>
      rw [step_no e]
      refine tidy_push h fun x hx => ?_
      rw [List.getLast?_concat] at hx
      rw [← Option.some.inj hx]
      exact e
theorem tidy_fold : ∀ (ps : List Pc) {acc : List Pc}, Tidy acc → Tidy (ps.foldl tidyStep acc)
  | [], _, h => h
  | p :: ps, _, h => tidy_fold ps (tidy_step h p)
theorem tidyL_tidy (ps : List Pc) : Tidy (tidyL ps) := tidy_fold ps fun k a b _ hb => by simp at hb
theorem tidy_same_fold : ∀ (ps acc : List Pc), Tidy (acc ++ ps) → ps.foldl tidyStep acc = acc ++ ps
  | [], acc, _ => (List.append_nil acc).symm
  | p :: ps, acc, h => by
    have e : tidyStep acc p = acc ++ [p] := by
      rcases snoc_or acc with rfl | ⟨i, l, rfl⟩
      · rfl
      · refine step_no ?_
        refine h i.length l p ?_ ?_
        · rw [List.append_assoc, List.getElem?_append_right (Nat.le_refl _), Nat.sub_self]
          rfl
        · rw [List.append_assoc, List.getElem?_append_right (by omega), show i.length + 1 - i.length = 1 by omega]
          rfl
    show ps.foldl tidyStep (tidyStep acc p) = _
    rw [e, tidy_same_fold ps (acc ++ [p]) (by rw [List.append_assoc]; exact h), List.append_assoc]
    rfl
theorem tidyL_same {ps : List Pc} (h : Tidy ps) : tidyL ps = ps := by
  have := tidy_same_fold ps [] h
  exact this
theorem step_ok {acc : List Pc} {p : Pc} (h : POk acc) (hp : PyData.strOk p.n = true) : POk (tidyStep acc p) := by
  rcases snoc_or acc with rfl | ⟨i, l, rfl⟩
  · intro x hx
    rw [List.mem_singleton.mp hx]
    exact hp
  · cases e : goesOn l p with
    | true =>
      rw [step_yes e]
      intro x hx
      rcases List.mem_append.mp hx with z | z
      · exact h x (List.mem_append_left _ z)
      · rw [List.mem_singleton.mp z]
        exact hp
    | false =>
      rw [step_no e]
      intro x hx
      rcases List.mem_append.mp hx with z | z
      · exact h x z
      · rw [List.mem_singleton.mp z]
        exact hp
theorem tidy_ok {ps : List Pc} (h : POk ps) : ∀ i, POk (tidyL (ps.take i))
  | 0 => fun _ z => (nomatch z)
  | i + 1 => by
    cases e : ps[i]? with
    | none =>
      have : ps.length ≤ i := List.getElem?_eq_none_iff.mp e
      have ih := tidy_ok h i
      rw [List.take_of_length_le (by omega)]
      rw [List.take_of_length_le (by omega)] at ih
      exact ih
    | some p =>
      rw [tidy_take e]
      exact step_ok (tidy_ok h i) (h p (List.mem_of_getElem? e))
/-- a list of data that ends in d -/
theorem IsA.snoc {K : PySem.W.Frag} {H : Hp} : ∀ {ds : List PyData} {xs : List V} {d : PyData}, IsA K H xs (ds ++ [d]) → ∃ ys v, xs = ys ++ [v] ∧ IsA K H ys ds ∧ Is K H v d
  | [], _, d, h => by
    cases h with
    | cons a b => cases b; exact ⟨[], _, rfl, .nil, a⟩
  | e :: ds, _, d, h => by
    cases h with
    | cons a b =>
      obtain ⟨ys, v, rfl, h1, h2⟩ := IsA.snoc b
      exact ⟨_ :: ys, v, rfl, .cons a h1, h2⟩
def spTidy (K : PySem.W.Frag) : Sp := fun vs H Q _ => ∃ (A : Addr) (xs : List V) (ps : List Pc), vs = [.ref A] ∧ SqT K H A xs ∧ IsA K H xs (ps.map dPc) ∧ POk ps ∧ ps.length ≤ 1000 ∧
  ∀ t ys H', Same H H' → H t = none → H' t = some (.tup ys) → IsA K H' ys ((tidyL ps).map dPc) → Q (.ref t) H'
def spIsTidy (K : PySem.W.Frag) : Sp := fun vs H Q _ => ∃ (A : Addr) (xs : List V) (ps : List Pc), vs = [.ref A] ∧ SqT K H A xs ∧ IsA K H xs (ps.map dPc) ∧ POk ps ∧ ps.length ≤ 1000 ∧ Tidy ps ∧ ∀ H', Same H H' → Q (.bl true) H'
def spGoes (K : PySem.W.Frag) : Sp := fun vs H Q _ => ∃ (a b : V) (p q : Pc), vs = [a, b] ∧ Is K H a (dPc p) ∧ Is K H b (dPc q) ∧ ∀ H', Same H H' → Q (.bl (goesOn p q)) H'
def spCut (K : PySem.W.Frag) : Sp := fun vs H Q _ => ∃ (p pa : Addr) (v : V) (c : Pc), vs = [.ref p, v] ∧ Pl p pa H ∧ Is K H v (dPc c) ∧ PyData.strOk c.n = true ∧ Sz 200 c.s ∧ Sz 200 c.e ∧
  ∀ l xs qs H', POk qs → qs.length ≤ 3 → Kp p H H' → Pl p pa H' → H l = none → H' l = some (.lst xs) → IsA K H' xs (qs.map dPc) → Q (.ref l) H'
theorem unit_rat {n : Int} (h : 0 < n) : rat2 (Rat.divInt 1 n) = .tuple [.int 1, .int n] := by
  unfold rat2
  rw [Rat.num_divInt, Rat.den_divInt, if_neg (by omega), Int.sign_eq_one_of_pos h]
  have : n.gcd 1 = 1 := by rw [Int.gcd_comm]; exact Int.one_gcd
  rw [this]
  simp
  omega
end Z

namespace Z
open PySem PySem.Spec PyProof.Rows L2
/-! ### pairs that stand for ratios, in lowest terms or not -/
def dP (t : Int × Int) : PyData := .tuple [.int t.1, .int t.2]
structure PrOk (t : Int × Int) : Prop where
  d0 : 0 < t.2
  n1 : t.1.natAbs < 2 ^ 3900
  d1 : t.2.natAbs < 2 ^ 3900
def val (t : Int × Int) : Rat := Rat.divInt t.1 t.2
theorem val_less {a b : Int × Int} (ha : PrOk a) (hb : PrOk b) : (a.1 * b.2 < b.1 * a.2) ↔ val a < val b := by
  have a0 : (0 : Rat) < (a.2 : Rat) := Rat.intCast_pos.mpr ha.d0
  have b0 : (0 : Rat) < (b.2 : Rat) := Rat.intCast_pos.mpr hb.d0
  have ea : val a * (a.2 : Rat) = (a.1 : Rat) := by
    unfold val
    rw [divInt_div]
    grind
  have eb : val b * (b.2 : Rat) = (b.1 : Rat) := by
    unfold val
    rw [divInt_div]
    grind
  rw [← Rat.intCast_lt_intCast, Rat.intCast_mul, Rat.intCast_mul, ← ea, ← eb]
  have p := Rat.mul_pos a0 b0
  have e1 : val a * (a.2 : Rat) * (b.2 : Rat) = val a * ((a.2 : Rat) * (b.2 : Rat)) := by grind
  have e2 : val b * (b.2 : Rat) * (a.2 : Rat) = val b * ((a.2 : Rat) * (b.2 : Rat)) := by grind
  rw [e1, e2]
  refine ⟨fun h => ?_, fun h => Rat.mul_lt_mul_of_pos_right h p⟩
  by_cases z : val a < val b
  · exact z
  · have z2 : val b ≤ val a := Rat.not_lt.mp z
    have := Rat.mul_le_mul_of_nonneg_right z2 (Rat.le_of_lt p)
    grind
def ofR (q : Rat) : Int × Int := (q.num, (q.den : Int))
theorem dP_ofR (q : Rat) : dP (ofR q) = rat2 q := rfl
theorem val_ofR (q : Rat) : val (ofR q) = q := Rat.num_divInt_den q
theorem pr_ofR {q : Rat} (h : Sz 3900 q) : PrOk (ofR q) := ⟨by have := q.den_nz; show 0 < (q.den : Int); omega, h.1, by show ((q.den : Int)).natAbs < _; rw [Int.natAbs_natCast]; exact h.2⟩
def spLessP (K : PySem.W.Frag) : Sp := fun vs H Q _ => ∃ (x y : V) (a b : Int × Int), vs = [x, y] ∧ Is K H x (dP a) ∧ Is K H y (dP b) ∧ PrOk a ∧ PrOk b ∧ Q (.bl (decide (val a < val b))) H
theorem less_imp {K : PySem.W.Frag} : ∀ vs H Q E, spLess K vs H Q E → spLessP K vs H Q E := by
  rintro vs H Q E ⟨x, y, p, q, rfl, hx, hy, zp, zq, k⟩
  refine ⟨x, y, ofR p, ofR q, rfl, hx, hy, pr_ofR zp, pr_ofR zq, ?_⟩
  rw [val_ofR, val_ofR]
  exact k
theorem dp_at {K : PySem.W.Frag} {H : Hp} {v : V} {a : Int × Int} (h : Is K H v (dP a)) : ∃ t, v = .ref t ∧ SqT K H t [.int a.1, .int a.2] := by
  obtain ⟨t, x, y, rfl, s, h1, h2⟩ := Is.two' h
  cases h1; cases h2
  exact ⟨t, rfl, s⟩
/-! ### the lesser, the greater -/
def minR (p q : Rat) : Rat := if q < p then q else p
def maxR (p q : Rat) : Rat := if p < q then q else p
/-! ### idle times -/
def dGap (g : Rat × Rat) : PyData := .tuple [rat2 g.1, rat2 g.2]
def gapStep (last : Rat) (a : Rat × List (Rat × Rat)) (p : Pc) : Rat × List (Rat × Rat) :=
  (maxR a.1 p.e, if a.1 < minR p.s last then a.2 ++ [(a.1, minR p.s last)] else a.2)
def gapsL (begin last : Rat) (ps : List Pc) : Rat × List (Rat × Rat) := ps.foldl (gapStep last) (begin, [])
def gapsD (begin last : Rat) (ps : List Pc) : List (Rat × Rat) :=
  if (gapsL begin last ps).1 < last then (gapsL begin last ps).2 ++ [((gapsL begin last ps).1, last)] else (gapsL begin last ps).2
theorem gaps_take {begin last : Rat} {ps : List Pc} {i : Nat} {p : Pc} (h : ps[i]? = some p) : gapsL begin last (ps.take (i + 1)) = gapStep last (gapsL begin last (ps.take i)) p := by
  unfold gapsL
  rw [List.take_add_one, h, List.foldl_append]
  rfl
theorem maxR_sz {n : Nat} {p q : Rat} (h : Sz n p) (k : Sz n q) : Sz n (maxR p q) := by
  unfold maxR
  split
  · exact k
  · exact h
theorem minR_sz {n : Nat} {p q : Rat} (h : Sz n p) (k : Sz n q) : Sz n (minR p q) := by
  unfold minR
  split
  · exact k
  · exact h
theorem gaps_sz {begin last : Rat} {ps : List Pc} (hb : Sz 200 begin) (h : ∀ p ∈ ps, Sz 200 p.e) : ∀ i, Sz 200 (gapsL begin last (ps.take i)).1
  | 0 => hb
  | i + 1 => by
    cases e : ps[i]? with
    | none =>
      have : ps.length ≤ i := List.getElem?_eq_none_iff.mp e
      have ih := gaps_sz (last := last) hb h i
      rw [List.take_of_length_le (by omega)]
      rw [List.take_of_length_le (by omega)] at ih
      exact ih
    | some p =>
      rw [gaps_take e]
      exact maxR_sz (gaps_sz hb h i) (h p (List.mem_of_getElem? e))
theorem gaps_len {begin last : Rat} {ps : List Pc} : ∀ i, (gapsL begin last (ps.take i)).2.length ≤ i
  | 0 => Nat.le_refl _
  | i + 1 => by
    cases e : ps[i]? with
    | none =>
      have : ps.length ≤ i := List.getElem?_eq_none_iff.mp e
      have ih := gaps_len (begin := begin) (last := last) (ps := ps) i
      rw [List.take_of_length_le (by omega)]
      rw [List.take_of_length_le (by omega)] at ih
      omega
    | some p =>
      have ih := gaps_len (begin := begin) (last := last) (ps := ps) i
      rw [gaps_take e]
      unfold gapStep
      dsimp only
      split
      · rw [List.length_append]; exact Nat.succ_le_succ ih
      · omega
theorem gapsD_len {begin last : Rat} {ps : List Pc} : (gapsD begin last ps).length ≤ ps.length + 1 := by
  have h := gaps_len (begin := begin) (last := last) (ps := ps) ps.length
  rw [List.take_length] at h
  unfold gapsD
  split
  · rw [List.length_append]; exact Nat.succ_le_succ h
  · omega
/-- the law's own turn is the same -/
theorem min_both {a s l : Rat} : (a < minR s l) ↔ (a < s ∧ a < l) := by
  unfold minR
  split
  · constructor <;> grind
  · constructor <;> grind
theorem plain_gaps : ∀ gs : List (Rat × Rat), plainDs (gs.map dGap) = true
  | [] => by rw [List.map_nil, plainDs]
  | g :: gs => by
    rw [List.map_cons, plainDs, plain_gaps gs]
    unfold dGap
    rw [plainD, plainDs, plainDs, plainDs, plain_rat2, plain_rat2]
    rfl
theorem plain_gap {gs : List (Rat × Rat)} (h : gs.length ≤ 1000) : plainD (.tuple (gs.map dGap)) = true := by
  rw [plainD, plain_gaps, List.length_map, decide_eq_true h]
  rfl
theorem dep_gaps : ∀ gs : List (Rat × Rat), depDs (gs.map dGap) ≤ 2
  | [] => by simp [depDs]
  | g :: gs => by
    have := dep_gaps gs
    rw [List.map_cons, depDs]
    have e : depD (dGap g) = 2 := by simp [dGap, depD, depDs, dep_rat2]
    rw [e]
    omega
theorem dep_gap (gs : List (Rat × Rat)) : depD (.tuple (gs.map dGap)) < 4 := by
  have := dep_gaps gs
  rw [depD]
  omega
def spSel (K : PySem.W.Frag) (g : Rat → Rat → Rat) : Sp := fun vs H Q _ => ∃ (x y : V) (p q : Rat), vs = [x, y] ∧ Is K H x (rat2 p) ∧ Is K H y (rat2 q) ∧ Sz 3900 p ∧ Sz 3900 q ∧ ∀ v, Is K H v (rat2 (g p q)) → Q v H
/-- begin and last are integers -/
def spGaps (K : PySem.W.Frag) : Sp := fun vs H Q _ => ∃ (A : Addr) (xs : List V) (ps : List Pc) (b e : Int), vs = [.ref A, .int b, .int e] ∧ SqT K H A xs ∧ IsA K H xs (ps.map dPc) ∧ (∀ p ∈ ps, Sz 200 p.s ∧ Sz 200 p.e) ∧ ps.length ≤ 900 ∧ b.natAbs < 2 ^ 100 ∧ e.natAbs < 2 ^ 100 ∧
  ∀ t ys H', Same H H' → H' t = some (.tup ys) → IsA K H' ys ((gapsD (b : Rat) (e : Rat) ps).map dGap) → Q (.ref t) H'
theorem int_rat (b : Int) : rat2 (b : Rat) = .tuple [.int b, .int 1] := rfl
theorem sz_int {b : Int} {n : Nat} (h : b.natAbs < 2 ^ n) (n0 : 0 < n) : Sz n (b : Rat) := ⟨h, by show 1 < 2 ^ n; exact Nat.one_lt_two_pow (by omega)⟩
theorem one_rat (b : Int) : Rat.divInt b 1 = (b : Rat) := by
  rw [divInt_div]
  show (b : Rat) / ((1 : Int) : Rat) = (b : Rat)
  grind
/-! ### the speed at a time -/
def speedL (t : Rat) : List Pc → Rat
  | [] => 0
  | p :: ps => if ¬ t < p.s ∧ t < p.e then p.v else speedL t ps
def spSpeed (K : PySem.W.Frag) : Sp := fun vs H Q _ => ∃ (A : Addr) (xs : List V) (ps : List Pc) (v : V) (t : Int × Int), vs = [.ref A, v] ∧ SqT K H A xs ∧ IsA K H xs (ps.map dPc) ∧ (∀ p ∈ ps, Sz 200 p.s ∧ Sz 200 p.e) ∧ Is K H v (dP t) ∧ PrOk t ∧
  ∀ u H', Same H H' → Is K H' u (rat2 (speedL (val t) ps)) → Q u H'
theorem speed_drop {t : Rat} {ps : List Pc} {i : Nat} {p : Pc} (h : ps[i]? = some p) : speedL t (ps.drop i) = if ¬ t < p.s ∧ t < p.e then p.v else speedL t (ps.drop (i + 1)) := by
  obtain ⟨hi, e⟩ := List.getElem?_eq_some_iff.mp h
  rw [List.drop_eq_getElem_cons hi, e]
  rfl
def spPick : Sp := fun vs H Q _ => ∃ (p pa R : Addr) (ns : List Int), vs = [.ref p, .ref R] ∧ Pl p pa H ∧ R ≠ p ∧ H R = some (.lst (ns.map V.int)) ∧ 0 < ns.length ∧ ns.length ≤ 1000 ∧ ∀ x H', x ∈ ns → Kp p H H' → Pl p pa H' → Q (.int x) H'
end Z
namespace Z
open PySem PySem.Spec PyProof.Rows L2
/-! ### slices and sums of tuples, whole or not -/
def rSlW (K : PySem.W.Frag) : V → Option Int → Option Int → Hp → VK → Prop := fun x lo hi H Q => ∃ a xs, x = .ref a ∧ SqT K H a xs ∧ ∀ b H', Same H H' → SqT K H' b (cutV xs lo hi) → Q (.ref b) H'
theorem cut_whole {xs : List V} {lo hi : Option Int} (h : HT.sIx xs.length 0 lo = 0 ∧ HT.sIx xs.length xs.length hi = xs.length) : cutV xs lo hi = xs := by
  unfold cutV
  rw [h.1, h.2, List.drop_zero, Nat.sub_zero, List.take_length]
theorem slW_A {K : PySem.W.Frag} {x : V} {lo hi : Option Int} {H : Hp} {Q : VK} (h : rSlW K x lo hi H Q) : rSlA K x lo hi H Q := by
  obtain ⟨a, xs, rfl, hs, q⟩ := h
  refine ⟨a, xs, rfl, hs, fun w => q a H (Same.refl _) (by rw [cut_whole w]; exact hs), fun _ p np => q p _ (same_upd np) (SqT.of upd_same)⟩
section
variable {X : Cx} {K : PySem.W.Frag}
theorem sl_tupW : SlR X (rSlW X.K) := by
  intro pins s σ H x v vl vu lo hi sl Q I rx hs pl pu h
  exact sl_tupA pins s σ H x v vl vu lo hi sl Q I rx hs pl pu (slW_A h)
theorem sl_tupWK (h : X.K = K) : SlR X (rSlW K) := h ▸ sl_tupW
def rCatW (K : PySem.W.Frag) : R2 := fun x y H Q => ∃ a b xs ys, x = .ref a ∧ y = .ref b ∧ SqT K H a xs ∧ SqT K H b ys ∧ xs.length + ys.length ≤ sizeLine ∧ ∀ c H', Same H H' → SqT K H' c (xs ++ ys) → Q (.ref c) H'
theorem op_catW : OpR X (binaryOp .Add) (rCatW X.K) := by
  intro pins s σ H x y v u Q I rx ry h
  obtain ⟨a, b, xs, ys, rfl, rfl, ha, hb, hl, q⟩ := h
  refine op_catA pins s σ H _ _ v u Q I rx ry ⟨a, b, xs, ys, rfl, rfl, ha, hb, hl, fun e => ?_, fun _ e => ?_, fun _ _ p np => q p _ (same_upd np) (SqT.of upd_same)⟩
  · subst e
    exact q b H (Same.refl _) hb
  · subst e
    exact q a H (Same.refl _) (by rw [List.append_nil]; exact ha)
end
end Z

namespace Z
open PySem PySem.Spec PyProof.Rows L2
/-! ### faults of plans -/
def jobOf (js : List Job) (n : Str) : Option Job := js.find? fun j => decide (j.n = n)
def inWin (p : Pc) (j : Job) : Bool := !decide (p.s < (j.c : Rat)) && !decide ((j.d : Rat) < p.e)
def outWin (js : List Job) (p : Pc) : Bool := match jobOf js p.n with
  | some j => !inWin p j
  | none => false
def wrongWork (ps : List Pc) (j : Job) : Bool := !decide (workOf j.n ps = (j.w : Rat))
def faultD (js : List Job) (ps : List Pc) : PyData :=
  match ps.findIdx? fun p => (jobOf js p.n).isNone with
  | some i => .tuple [.str ("unknown" : Str), .int (i : Int)]
  | none => match ps.findIdx? (outWin js) with
    | some i => .tuple [.str ("window" : Str), .int (i : Int)]
    | none => match js.find? (wrongWork ps) with
      | some j => .tuple [.str ("work" : Str), .str j.n]
      | none => .none
theorem first_some {α : Type} {f : α → Bool} {l : List α} {i : Nat} {x : α} (h : ∀ (k : Nat) (y : α), k < i → l[k]? = some y → f y = false) (hx : l[i]? = some x) (fx : f x = true) : l.findIdx? f = some i := by
  obtain ⟨hi, e⟩ := List.getElem?_eq_some_iff.mp hx
  refine List.findIdx?_eq_some_iff_getElem.mpr ⟨hi, by rw [e]; exact fx, fun j hj => ?_⟩
  rw [h j _ hj (List.getElem?_eq_getElem (by omega))]
  decide
theorem first_none {α : Type} {f : α → Bool} {l : List α} (h : ∀ (k : Nat) (y : α), l[k]? = some y → f y = false) : l.findIdx? f = none := by
  refine List.findIdx?_eq_none_iff.mpr fun x hx => ?_
  obtain ⟨k, hk⟩ := List.getElem?_of_mem hx
  exact h k x hk
theorem find_some {α : Type} {f : α → Bool} : ∀ {l : List α} {i : Nat} {x : α}, (∀ (k : Nat) (y : α), k < i → l[k]? = some y → f y = false) → l[i]? = some x → f x = true → l.find? f = some x
  | [], _, _, _, h, _ => by simp at h
  | a :: l, 0, x, _, h, fx => by
    have e : a = x := Option.some.inj h
    subst e
    exact List.find?_cons_of_pos fx
  | a :: l, i + 1, x, hk, h, fx => by
    rw [List.find?_cons_of_neg (by rw [hk 0 a (by omega) rfl]; decide)]
    exact find_some (fun k y hy h2 => hk (k + 1) y (by omega) h2) h fx
theorem find_none {α : Type} {f : α → Bool} {l : List α} (h : ∀ (k : Nat) (y : α), l[k]? = some y → f y = false) : l.find? f = none := by
  refine List.find?_eq_none.mpr fun x hx => ?_
  obtain ⟨k, hk⟩ := List.getElem?_of_mem hx
  rw [h k x hk]
  decide
/-- jobs whose names differ -/
structure JsOk (js : List Job) : Prop where
  ok : ∀ j ∈ js, JobOk j
  nd : (js.map (·.n)).Nodup
  st : ∀ j ∈ js, PyData.strOk j.n = true
  len : js.length ≤ 19
theorem JobsOk.js {js : List Job} (h : JobsOk js) (hl : js.length ≤ 19) : JsOk js := by
  refine ⟨h.ok, ?_, fun j hj => ?_, hl⟩
  · refine List.pairwise_iff_getElem.mpr fun a b ha hb hab => ?_
    rw [List.length_map] at ha hb
    rw [List.getElem_map, List.getElem_map]
    intro e
    have h1 := h.nm a _ (List.getElem?_eq_getElem ha)
    have h2 := h.nm b _ (List.getElem?_eq_getElem hb)
    rw [← e] at h2
    have := h1.inj h2
    omega
  · obtain ⟨i, hi⟩ := List.getElem?_of_mem hj
    exact nm_str (h.nm i j hi)
theorem jobOf_at {js : List Job} (h : JsOk js) {i : Nat} {j : Job} (hj : js[i]? = some j) : jobOf js j.n = some j := by
  unfold jobOf
  refine find_some (i := i) (fun k y hk hy => ?_) hj (decide_eq_true rfl)
  refine decide_eq_false fun e => ?_
  have := nd_ix h.nd (i := k) (j := i) (x := j.n) (by rw [List.getElem?_map, hy]; exact congrArg some e) (by rw [List.getElem?_map, hj]; rfl)
  omega
theorem jobOf_mem {js : List Job} {n : Str} {j : Job} (h : jobOf js n = some j) : j ∈ js ∧ j.n = n := by
  refine ⟨List.mem_of_find?_eq_some h, ?_⟩
  exact of_decide_eq_true (List.find?_some (p := fun j : Job => decide (j.n = n)) h)
theorem jobOf_take {js : List Job} (h : JsOk js) {i : Nat} {j : Job} (hj : js[i]? = some j) (n : Str) : jobOf (js.take (i + 1)) n = if n = j.n then some j else jobOf (js.take i) n := by
  have e : js.take (i + 1) = js.take i ++ [j] := by rw [List.take_add_one, hj]; rfl
  rw [e]
  unfold jobOf
  rw [List.find?_append]
  by_cases c : n = j.n
  · rw [if_pos c]
    have : (js.take i).find? (fun j => decide (j.n = n)) = none := by
      refine List.find?_eq_none.mpr fun x hx => ?_
      obtain ⟨k, hk⟩ := List.getElem?_of_mem hx
      have kl := (List.getElem?_eq_some_iff.mp hk).1
      rw [List.length_take] at kl
      rw [List.getElem?_take_of_lt (by omega)] at hk
      intro z
      have z2 : x.n = j.n := (of_decide_eq_true z).trans c
      have := nd_ix h.nd (i := k) (j := i) (x := j.n) (by rw [List.getElem?_map, hk]; exact congrArg some z2) (by rw [List.getElem?_map, hj]; rfl)
      omega
    rw [this, List.find?_cons_of_pos (by exact decide_eq_true c.symm)]
    rfl
  · rw [if_neg c, List.find?_cons_of_neg (by rw [decide_eq_false (Ne.symm c)]; decide)]
    show Option.or _ none = _
    rw [Option.or_none]
/-- the sizes that the texts need -/
structure PSz (ps : List Pc) : Prop where
  s : ∀ p ∈ ps, Sz 1200 p.s ∧ Sz 1200 p.e ∧ Sz 1200 p.v
  w : ∀ (n : Str) (i : Nat), Sz 3900 (workOf n (ps.take i))
  len : ps.length ≤ 900
theorem PSz.term {ps : List Pc} (h : PSz ps) {p : Pc} (hp : p ∈ ps) : Sz 2401 (p.e - p.s) ∧ Sz 3601 (p.v * (p.e - p.s)) := by
  obtain ⟨h1, h2, h3⟩ := h.s p hp
  have a := h2.sub h1
  exact ⟨a.mono (by decide), (h3.mul a).mono (by decide)⟩
theorem work_take {ps : List Pc} {i : Nat} {p : Pc} (h : ps[i]? = some p) (n : Str) : workOf n (ps.take (i + 1)) = workOf n (ps.take i) + (if p.n = n then p.v * (p.e - p.s) else 0) := by
  rw [List.take_add_one, h]
  exact workOf_push n _ p
theorem work_nil (n : Str) : workOf n [] = 0 := rfl
theorem filter_take {α : Type} (f : α → Bool) : ∀ (l : List α) (i : Nat), ∃ k, (l.filter f).take i = (l.take k).filter f
  | [], _ => ⟨0, by simp⟩
  | a :: l, i => by
    cases h : f a with
    | true =>
      cases i with
      | zero => exact ⟨0, by simp⟩
      | succ i =>
        obtain ⟨k, hk⟩ := filter_take f l i
        refine ⟨k + 1, ?_⟩
        rw [List.filter_cons_of_pos h, List.take_succ_cons, List.take_succ_cons, List.filter_cons_of_pos h, hk]
    | false =>
      obtain ⟨k, hk⟩ := filter_take f l i
      refine ⟨k + 1, ?_⟩
      rw [List.filter_cons_of_neg (by rw [h]; decide), List.take_succ_cons, List.filter_cons_of_neg (by rw [h]; decide), hk]
theorem sumL_rsum (qs : List Rat) : sumL 0 qs = rsum qs := by
  unfold sumL
  rw [foldl_rsum]
  grind
/-! ### promises -/
def spWinP (K : PySem.W.Frag) : Sp := fun vs H Q _ => ∃ (a b : V) (p : Pc) (j : Job), vs = [a, b] ∧ Is K H a (dPc p) ∧ Is K H b (dJob j) ∧ JobOk j ∧ Sz 1200 p.s ∧ Sz 1200 p.e ∧ ∀ H', Same H H' → Q (.bl (inWin p j)) H'
/-- a dict of the works -/
def WorkD (K : PySem.W.Frag) (H : Hp) (kvs : List (Key × V)) (ps : List Pc) : Prop := ∀ n : Str, match valV kvs (Sum.inr n) with
  | none => workOf n ps = 0
  | some v => Is K H v (rat2 (workOf n ps))
def spWorks (K : PySem.W.Frag) : Sp := fun vs H Q _ => ∃ (A : Addr) (xs : List V) (ps : List Pc), vs = [.ref A] ∧ SqT K H A xs ∧ IsA K H xs (ps.map dPc) ∧ PSz ps ∧
  ∀ D kvs H', Same H H' → H' D = some (.dK kvs) → WorkD K H' kvs ps → Q (.ref D) H'
def spFault (K : PySem.W.Frag) : Sp := fun vs H Q _ => ∃ (J A : Addr) (jx xs : List V) (js : List Job) (ps : List Pc), vs = [.ref J, .ref A] ∧ SqT K H J jx ∧ IsA K H jx (js.map dJob) ∧ JsOk js ∧ SqT K H A xs ∧ IsA K H xs (ps.map dPc) ∧ PSz ps ∧
  ∀ v H', Same H H' → Is K H' v (faultD js ps) → Q v H'
theorem plain_fault (js : List Job) (ps : List Pc) : plainD (faultD js ps) = true ∧ depD (faultD js ps) < 2 := by
  unfold faultD
  split
  · constructor
    · rw [plainD, plainDs, plainDs, plainDs, plainD, plainD]; rfl
    · simp [depD, depDs]
  · split
    · constructor
      · rw [plainD, plainDs, plainDs, plainDs, plainD, plainD]; rfl
      · simp [depD, depDs]
    · split
      · constructor
        · rw [plainD, plainDs, plainDs, plainDs, plainD, plainD]; rfl
        · simp [depD, depDs]
      · constructor
        · rw [plainD]
        · simp [depD]
theorem jobsz {j : Job} (h : JobOk j) : Sz 20 ((j.c : Int) : Rat) ∧ Sz 20 ((j.d : Int) : Rat) ∧ Sz 20 ((j.w : Int) : Rat) := by
  have := h.c0
  have := h.cd
  have := h.d1
  have := h.w0
  have := h.w1
  exact ⟨sz_int (by omega) (by decide), sz_int (by omega) (by decide), sz_int (by omega) (by decide)⟩
/-- by name -/
def ByName (K : PySem.W.Frag) (H : Hp) (kvs : List (Key × V)) (js : List Job) : Prop := ∀ n : Str, match jobOf js n with
  | none => valV kvs (Sum.inr n) = none
  | some j => ∃ v, valV kvs (Sum.inr n) = some v ∧ Is K H v (dJob j)
theorem ByName.tm {K : PySem.W.Frag} {H H' : Hp} {kvs : List (Key × V)} {js : List Job} (h : ByName K H kvs js) (e : Tm H H') : ByName K H' kvs js := fun n => by
  have z := h n
  split at z
  · exact z
  · obtain ⟨v, h1, h2⟩ := z
    exact ⟨v, h1, h2.to e⟩
theorem WorkD.tm {K : PySem.W.Frag} {H H' : Hp} {kvs : List (Key × V)} {ps : List Pc} (h : WorkD K H kvs ps) (e : Tm H H') : WorkD K H' kvs ps := fun n => by
  have z := h n
  split at z
  · exact z
  · exact z.to e
/-- a dict is stored -/
theorem Tm.dk {p : Addr} {H : Hp} {xs ys : List (Key × V)} (hp : H p = some (.dK xs)) : Tm H (upd H p (.dK ys)) := fun a zs h => by
  have n : a ≠ p := by
    rintro rfl
    rcases h with h | ⟨o, h⟩ <;> (rw [hp] at h; cases h)
  rcases h with h | ⟨o, h⟩
  · exact .inl (by rw [upd_ne n]; exact h)
  · exact .inr ⟨o, by rw [upd_ne n]; exact h⟩
end Z
namespace Z
open PySem PySem.Spec PyProof.Rows L2
theorem eqV_str (x y : Str) : eqV (.str x) (.str y) = decide (x = y) := by
  show (x == y) = _
  by_cases h : x = y
  · subst h; simp
  · rw [decide_eq_false h]
    exact beq_eq_false_iff_ne.mpr h
theorem inV_str (x : Str) : ∀ xs : List Str, inV (.str x) (xs.map V.str) = decide (x ∈ xs)
  | [] => by simp [inV]
  | y :: xs => by
    have h := inV_str x xs
    unfold inV at h ⊢
    rw [List.map_cons, List.any_cons, h, eqV_str]
    by_cases e : y = x
    · subst e; simp
    · rw [decide_eq_false e]
      simp [List.mem_cons, Ne.symm e]
theorem flat_strs : ∀ ns : List Str, (ns.map V.str).all flatV = true
  | [] => rfl
  | n :: ns => by
    rw [List.map_cons, List.all_cons, flat_strs ns]
    rfl
def spDone (K : PySem.W.Frag) : Sp := fun vs H Q _ => ∃ (A : Addr) (xs : List V) (ps : List Pc) (n : Str), vs = [.ref A, .str n] ∧ SqT K H A xs ∧ IsA K H xs (ps.map dPc) ∧ PSz ps ∧ ∀ v H', Same H H' → Is K H' v (rat2 (workOf n ps)) → Q v H'
theorem jobOf_in {js : List Job} {n : Str} : (jobOf js n).isNone = false ↔ n ∈ js.map (·.n) := by
  unfold jobOf
  cases h : js.find? (fun j => decide (j.n = n)) with
  | none =>
    refine ⟨fun z => (Bool.noConfusion z), fun z => ?_⟩
    obtain ⟨j, hj, e⟩ := List.mem_map.mp z
    have := List.find?_eq_none.mp h j hj
    exact absurd (decide_eq_true e) this
  | some j =>
    refine ⟨fun _ => ?_, fun _ => rfl⟩
    have := List.find?_some (p := fun j : Job => decide (j.n = n)) h
    exact List.mem_map.mpr ⟨j, List.mem_of_find?_eq_some h, of_decide_eq_true this⟩
theorem jobOf_ix {js : List Job} (h : JsOk js) {n : Str} {j : Job} (e : jobOf js n = some j) : ∃ i, js[i]? = some j ∧ j.n = n ∧ ∀ (m : Nat) (j' : Job), m < i → js[m]? = some j' → j'.n ≠ n := by
  obtain ⟨hm, hn⟩ := jobOf_mem e
  obtain ⟨i, hi⟩ := List.getElem?_of_mem hm
  refine ⟨i, hi, hn, fun m j' hmi hj' z => ?_⟩
  have := nd_ix h.nd (i := m) (j := i) (x := n) (by rw [List.getElem?_map, hj']; exact congrArg some z) (by rw [List.getElem?_map, hi]; exact congrArg some hn)
  omega
theorem works_list (n : Str) (ps : List Pc) (hz : PSz ps) : (∀ q ∈ (ps.filter fun p => decide (p.n = n)).map (fun p => p.v * (p.e - p.s)), Sz 3900 q) ∧ ∀ i, Sz 3900 (sumL 0 (((ps.filter fun p => decide (p.n = n)).map (fun p => p.v * (p.e - p.s))).take i)) := by
  refine ⟨fun q hq => ?_, fun i => ?_⟩
  · obtain ⟨p, hp, rfl⟩ := List.mem_map.mp hq
    exact (hz.term (List.mem_filter.mp hp).1).2.mono (by decide)
  · obtain ⟨k, hk⟩ := filter_take (fun p : Pc => decide (p.n = n)) ps i
    rw [← List.map_take, hk, sumL_rsum]
    exact hz.w n k
end Z

namespace Z
open PySem PySem.Spec PyProof.Rows L2
/-! ### prices -/
def px (ts : List (Int × Int)) (i : Nat) : Int := (ts.getD i (0, 0)).1
def py (ts : List (Int × Int)) (i : Nat) : Int := (ts.getD i (0, 0)).2
/-- the points of a table, as whole numbers -/
structure TabOk (ts : List (Int × Int)) : Prop where
  n2 : 2 ≤ ts.length
  n6 : ts.length ≤ 6
  x0 : px ts 0 = 0
  up : ∀ i, i + 1 < ts.length → px ts i < px ts (i + 1)
  cv : ∀ i, i + 2 < ts.length → (py ts (i + 1) - py ts i) * (px ts (i + 2) - px ts (i + 1)) ≤ (py ts (i + 2) - py ts (i + 1)) * (px ts (i + 1) - px ts i)
  bx : ∀ i, (px ts i).natAbs < 2 ^ 60
  bY : ∀ i, (py ts i).natAbs < 2 ^ 60
def slo (ts : List (Int × Int)) (i : Nat) : Rat := ((py ts (i + 1) - py ts i : Int) : Rat) / ((px ts (i + 1) - px ts i : Int) : Rat)
def lin (ts : List (Int × Int)) (i : Nat) (s : Rat) : Rat := (py ts i : Rat) + slo ts i * (s - (px ts i : Rat))
theorem ratlt {a b : Int} (h : a < b) : (a : Rat) < (b : Rat) := Rat.intCast_lt_intCast.mpr h
theorem ratle {a b : Int} (h : a ≤ b) : (a : Rat) ≤ (b : Rat) := Rat.intCast_le_intCast.mpr h
theorem slo_mul {ts : List (Int × Int)} {i : Nat} (h : TabOk ts) (hi : i + 1 < ts.length) : slo ts i * ((px ts (i + 1) : Rat) - (px ts i : Rat)) = (py ts (i + 1) : Rat) - (py ts i : Rat) := by
  have h1 := ratlt (h.up i hi)
  unfold slo
  rw [Rat.intCast_sub, Rat.intCast_sub]
  have : (px ts (i + 1) : Rat) - (px ts i : Rat) ≠ 0 := by grind
  grind
theorem rmul_cancel {a b c : Rat} (hc : 0 < c) (h : a * c ≤ b * c) : a ≤ b := Rat.le_of_mul_le_mul_right h hc
theorem slo_up {ts : List (Int × Int)} {i : Nat} (h : TabOk ts) (hi : i + 2 < ts.length) : slo ts i ≤ slo ts (i + 1) := by
  have c := ratle (h.cv i hi)
  have e1 := slo_mul h (i := i) (by omega)
  have e2 := slo_mul h (i := i + 1) (by omega)
  have p1 := ratlt (h.up i (by omega))
  have p2 := ratlt (h.up (i + 1) (by omega))
  rw [Rat.intCast_mul, Rat.intCast_mul, Rat.intCast_sub, Rat.intCast_sub, Rat.intCast_sub, Rat.intCast_sub] at c
  have d1 : (0 : Rat) < (px ts (i + 1) : Rat) - (px ts i : Rat) := by grind
  have d2 : (0 : Rat) < (px ts (i + 2) : Rat) - (px ts (i + 1) : Rat) := by
    have : (px ts (i + 1) : Rat) < (px ts (i + 2) : Rat) := p2
    grind
  have e2' : slo ts (i + 1) * ((px ts (i + 2) : Rat) - (px ts (i + 1) : Rat)) = (py ts (i + 2) : Rat) - (py ts (i + 1) : Rat) := e2
  have e3 := Rat.mul_pos d1 d2
  refine rmul_cancel e3 ?_
  rw [← e1, ← e2'] at c
  grind
/-- one line above the next -/
theorem lin_step {ts : List (Int × Int)} {i : Nat} (h : TabOk ts) (hi : i + 2 < ts.length) (s : Rat) : lin ts (i + 1) s - lin ts i s = (slo ts (i + 1) - slo ts i) * (s - (px ts (i + 1) : Rat)) := by
  have e1 := slo_mul h (i := i) (by omega)
  unfold lin
  grind
theorem rmul_nn {a b : Rat} (ha : 0 ≤ a) (hb : 0 ≤ b) : 0 ≤ a * b := Rat.mul_nonneg ha hb
theorem lin_up {ts : List (Int × Int)} {i : Nat} (h : TabOk ts) (hi : i + 2 < ts.length) {s : Rat} (hs : (px ts (i + 1) : Rat) ≤ s) : lin ts i s ≤ lin ts (i + 1) s := by
  have e := lin_step h hi s
  have a := slo_up h hi
  have := rmul_nn (a := slo ts (i + 1) - slo ts i) (b := s - (px ts (i + 1) : Rat)) (by grind) (by grind)
  grind
theorem lin_dn {ts : List (Int × Int)} {i : Nat} (h : TabOk ts) (hi : i + 2 < ts.length) {s : Rat} (hs : s ≤ (px ts (i + 1) : Rat)) : lin ts (i + 1) s ≤ lin ts i s := by
  have e := lin_step h hi s
  have a := slo_up h hi
  have := rmul_nn (a := slo ts (i + 1) - slo ts i) (b := (px ts (i + 1) : Rat) - s) (by grind) (by grind)
  grind
theorem px_mono {ts : List (Int × Int)} (h : TabOk ts) : ∀ {i j : Nat}, i ≤ j → j < ts.length → px ts i ≤ px ts j := by
  intro i j hij
  induction hij with
  | refl => intro _; exact Int.le_refl _
  | step hm ih =>
    intro hj
    have a1 := h.up _ hj
    have a2 := ih (by omega)
    exact Int.le_trans a2 (Int.le_of_lt a1)
/-- the place of a speed -/
structure Sel (ts : List (Int × Int)) (s : Rat) (k : Nat) : Prop where
  lt : k + 1 < ts.length
  lo : (px ts k : Rat) ≤ s
  hi : k + 2 = ts.length ∨ s ≤ (px ts (k + 1) : Rat)
theorem Sel.top {ts : List (Int × Int)} {s : Rat} {k : Nat} (h : TabOk ts) (S : Sel ts s k) : ∀ j, j + 1 < ts.length → lin ts j s ≤ lin ts k s := by
  intro j hj
  rcases Nat.le_total j k with hjk | hjk
  · -- below
    have : ∀ d, j + d ≤ k → lin ts j s ≤ lin ts (j + d) s := by
      intro d
      induction d with
      | zero => intro _; exact Rat.le_refl
      | succ d ih =>
        intro hd
        have h1 := ih (by omega)
        have hx : (px ts (j + d + 1) : Rat) ≤ s := Rat.le_trans (ratle (px_mono h (by omega) (by have := S.lt; omega))) S.lo
        exact Rat.le_trans h1 (lin_up h (by have := S.lt; omega) hx)
    have h2 := this (k - j) (by omega)
    rwa [show j + (k - j) = k by omega] at h2
  · rcases S.hi with e | e
    · have : j = k := by omega
      subst this
      exact Rat.le_refl
    · have : ∀ d, k + d + 1 < ts.length → lin ts (k + d) s ≤ lin ts k s := by
        intro d
        induction d with
        | zero => intro _; exact Rat.le_refl
        | succ d ih =>
          intro hd
          have h1 := ih (by omega)
          have hx : s ≤ (px ts (k + d + 1) : Rat) := Rat.le_trans e (ratle (px_mono h (by omega) (by omega)))
          exact Rat.le_trans (lin_dn h (by omega) hx) h1
      have h2 := this (j - k) (by omega)
      rwa [show k + (j - k) = j by omega] at h2
/-- the value: the greatest of the lines -/
def maxL (ts : List (Int × Int)) (s : Rat) : Nat → Rat
  | 0 => lin ts 0 s
  | n + 1 => if maxL ts s n < lin ts (n + 1) s then lin ts (n + 1) s else maxL ts s n
def tabV (ts : List (Int × Int)) (s : Rat) : Rat := maxL ts s (ts.length - 2)
theorem maxL_ge {ts : List (Int × Int)} {s : Rat} : ∀ {n j : Nat}, j ≤ n → lin ts j s ≤ maxL ts s n
  | 0, j, h => by
    have : j = 0 := by omega
    subst this
    exact Rat.le_refl
  | n + 1, j, h => by
    unfold maxL
    by_cases e : j = n + 1
    · subst e
      split
      · exact Rat.le_refl
      · grind
    · have := maxL_ge (ts := ts) (s := s) (n := n) (j := j) (by omega)
      split
      · grind
      · exact this
theorem maxL_at {ts : List (Int × Int)} {s : Rat} : ∀ {n : Nat}, ∃ j, j ≤ n ∧ maxL ts s n = lin ts j s
  | 0 => ⟨0, Nat.le_refl _, rfl⟩
  | n + 1 => by
    unfold maxL
    split
    · exact ⟨n + 1, Nat.le_refl _, rfl⟩
    · obtain ⟨j, h, e⟩ := maxL_at (ts := ts) (s := s) (n := n)
      exact ⟨j, by omega, e⟩
theorem Sel.val {ts : List (Int × Int)} {s : Rat} {k : Nat} (h : TabOk ts) (S : Sel ts s k) : lin ts k s = tabV ts s := by
  have n2 := h.n2
  have a := maxL_ge (ts := ts) (s := s) (n := ts.length - 2) (j := k) (by have := S.lt; omega)
  obtain ⟨j, hj, e⟩ := maxL_at (ts := ts) (s := s) (n := ts.length - 2)
  have b := S.top h j (by omega)
  unfold tabV
  rw [e] at a ⊢
  exact Rat.le_antisymm a b
/-- convex -/
theorem tab_convex {ts : List (Int × Int)} (a b : Rat) : ¬ (tabV ts a + tabV ts b) * Rat.divInt 1 2 < tabV ts ((a + b) * Rat.divInt 1 2) := by
  obtain ⟨j, hj, e⟩ := maxL_at (ts := ts) (s := (a + b) * Rat.divInt 1 2) (n := ts.length - 2)
  have h1 := maxL_ge (ts := ts) (s := a) hj
  have h2 := maxL_ge (ts := ts) (s := b) hj
  have half : Rat.divInt 1 2 = 1 / 2 := by rw [divInt_div]; rfl
  show ¬ (maxL ts a (ts.length - 2) + maxL ts b (ts.length - 2)) * Rat.divInt 1 2 < maxL ts ((a + b) * Rat.divInt 1 2) (ts.length - 2)
  rw [e]
  generalize maxL ts a (ts.length - 2) = x at h1
  generalize maxL ts b (ts.length - 2) = y at h2
  unfold lin at h1 h2 ⊢
  rw [half]
  generalize slo ts j = m at h1 h2 ⊢
  generalize (py ts j : Rat) = q at h1 h2 ⊢
  generalize (px ts j : Rat) = r at h1 h2 ⊢
  grind
theorem sq_convex (a b : Rat) : ¬ (a * a + b * b) * Rat.divInt 1 2 < ((a + b) * Rat.divInt 1 2) * ((a + b) * Rat.divInt 1 2) := by
  have half : Rat.divInt 1 2 = 1 / 2 := by rw [divInt_div]; rfl
  rw [half]
  have h : 0 ≤ (a - b) * (a - b) := by
    rcases Rat.le_total (a := a - b) (b := 0) with h | h
    · have := Rat.mul_nonneg (a := -(a - b)) (b := -(a - b)) (by grind) (by grind)
      grind
    · exact Rat.mul_nonneg h h
  grind
/-! ### data -/
/-- a price: the square, or a table -/
abbrev Pr := Option (List (Int × Int))
def dPt (t : Int × Int) : PyData := .tuple [.int t.1, .int t.2]
def dPr : Pr → PyData
  | none => .tuple [.str ("square" : Str)]
  | some ts => .tuple [.str ("table" : Str), .tuple (ts.map dPt)]
def PriceOk : Pr → Prop
  | none => True
  | some ts => TabOk ts
def prV : Pr → Rat → Rat
  | none, s => s * s
  | some ts, s => tabV ts s
theorem pr_convex (pr : Pr) (a b : Rat) : ¬ (prV pr a + prV pr b) * Rat.divInt 1 2 < prV pr ((a + b) * Rat.divInt 1 2) := by
  cases pr with
  | none => exact sq_convex a b
  | some ts => exact tab_convex a b
theorem sz_cast {z : Int} {n : Nat} (h : z.natAbs < 2 ^ n) (hn : 1 ≤ n) : Sz n (z : Rat) := sz_int h hn
theorem TabOk.szx {ts : List (Int × Int)} (h : TabOk ts) (i : Nat) : Sz 60 (px ts i : Rat) := sz_cast (h.bx i) (by decide)
theorem TabOk.szy {ts : List (Int × Int)} (h : TabOk ts) (i : Nat) : Sz 60 (py ts i : Rat) := sz_cast (h.bY i) (by decide)
theorem TabOk.dx {ts : List (Int × Int)} (h : TabOk ts) (i : Nat) : (px ts (i + 1) - px ts i).natAbs < 2 ^ 61 := by
  have := h.bx i
  have := h.bx (i + 1)
  omega
theorem TabOk.dy {ts : List (Int × Int)} (h : TabOk ts) (i : Nat) : (py ts (i + 1) - py ts i).natAbs < 2 ^ 61 := by
  have := h.bY i
  have := h.bY (i + 1)
  omega
theorem slo_div (ts : List (Int × Int)) (i : Nat) : Rat.divInt (py ts (i + 1) - py ts i) (px ts (i + 1) - px ts i) = slo ts i := divInt_div _ _
theorem TabOk.szs {ts : List (Int × Int)} (h : TabOk ts) {i : Nat} (hi : i + 1 < ts.length) : Sz 61 (slo ts i) := by
  rw [← slo_div]
  have := h.up i hi
  exact Sz.divInt (by omega) (h.dy i) (h.dx i)
theorem sz_line {n : Nat} {s m : Rat} {x y : Int} (hs : Sz n s) (hx : Sz 60 (x : Rat)) (hy : Sz 60 (y : Rat)) (hm : Sz 61 m) : Sz (60 + n + 60 + 61 + 2 + 61) ((y : Rat) + m * (s - (x : Rat))) := by
  have h1 := hs.sub hx
  have h2 := hm.mul h1
  have h3 := hy.add h2
  exact h3.mono (by omega)
theorem prV_sz {pr : Pr} {n : Nat} {s : Rat} (h : PriceOk pr) (hs : Sz n s) : Sz (2 * n + 400) (prV pr s) := by
  cases pr with
  | none => exact (hs.mul hs).mono (by omega)
  | some ts =>
    obtain ⟨j, hj, e⟩ := maxL_at (ts := ts) (s := s) (n := ts.length - 2)
    have n2 := TabOk.n2 h
    have := sz_line hs (TabOk.szx h j) (TabOk.szy h j) (TabOk.szs h (i := j) (by omega))
    show Sz _ (maxL ts s (ts.length - 2))
    rw [e]
    exact this.mono (by omega)
/-- the price at a speed -/
def spPrice (K : PySem.W.Frag) : Sp := fun vs H Q _ => ∃ (x y : V) (pr : Pr) (s : Rat), vs = [x, y] ∧ Is K H x (dPr pr) ∧ Is K H y (rat2 s) ∧ PriceOk pr ∧ 0 ≤ s ∧ Sz 1700 s ∧ ∀ v H', Same H H' → Is K H' v (rat2 (prV pr s)) → Q v H'
theorem pt_at {K : PySem.W.Frag} {H : Hp} {v : V} {t : Int × Int} (h : Is K H v (dPt t)) : ∃ p, v = .ref p ∧ SqT K H p [.int t.1, .int t.2] := by
  obtain ⟨p, a, b, rfl, s, h1, h2⟩ := Is.two' h
  cases h1; cases h2
  exact ⟨p, rfl, s⟩
theorem pts_get {K : PySem.W.Frag} {H : Hp} {xs : List V} {ts : List (Int × Int)} {i : Nat} (h : IsA K H xs (ts.map dPt)) (hi : i < ts.length) : ∃ p, xs[i]? = some (.ref p) ∧ SqT K H p [.int (px ts i), .int (py ts i)] := by
  obtain ⟨v, e, iv⟩ := h.get (i := i) (d := dPt ts[i]) (by rw [List.getElem?_map, List.getElem?_eq_getElem hi]; rfl)
  obtain ⟨p, rfl, s⟩ := pt_at iv
  refine ⟨p, e, ?_⟩
  have : ts.getD i (0, 0) = ts[i] := by rw [List.getD_eq_getElem?_getD, List.getElem?_eq_getElem hi]; rfl
  unfold px py
  rw [this]
  exact s
theorem tabL_get {xs : List V} {ts : List (Int × Int)} {i : Nat} {v : V} {K : PySem.W.Frag} {H : Hp} (h : IsA K H xs (ts.map dPt)) (e : xs[i]? = some v) : i < ts.length := by
  have := h.len
  rw [List.length_map] at this
  have := (List.getElem?_eq_some_iff.mp e).1
  omega
theorem cut_drop1 (xs : List V) : cutV xs (some 1) none = xs.drop 1 := by
  unfold cutV
  rw [HT.sIx_none, show (1 : Int) = ((1 : Nat) : Int) from rfl, HT.sIx_nat]
  by_cases h : 1 ≤ xs.length
  · rw [Nat.min_eq_left h]
    exact List.take_of_length_le (by rw [List.length_drop]; exact Nat.le_refl _)
  · have : xs = [] := List.eq_nil_of_length_eq_zero (by omega)
    subst this
    rfl
theorem pr_none {K : PySem.W.Frag} {H : Hp} {v : V} (h : Is K H v (dPr none)) : ∃ a, v = .ref a ∧ SqT K H a [.str ("square" : Str)] := by
  obtain ⟨a, xs, rfl, s, q⟩ := Is.tup' h
  cases q with
  | cons h1 q => cases q; cases h1; exact ⟨a, rfl, s⟩
theorem pr_some {K : PySem.W.Frag} {H : Hp} {v : V} {ts : List (Int × Int)} (h : Is K H v (dPr (some ts))) : ∃ a b xs, v = .ref a ∧ SqT K H a [.str ("table" : Str), .ref b] ∧ SqT K H b xs ∧ IsA K H xs (ts.map dPt) := by
  obtain ⟨a, x, y, rfl, s, h1, h2⟩ := Is.two' h
  cases h1
  obtain ⟨b, xs, rfl, sb, q⟩ := Is.tup' h2
  exact ⟨a, b, xs, rfl, s, sb, q⟩
theorem is_whole {K : PySem.W.Frag} {H : Hp} {t : Addr} {z : Int} : Is K (upd H t (.tup [.int z, .int 1])) (.ref t) (rat2 (z : Rat)) := .tup (SqT.of upd_same) (.two (.int _) (.int _))
/-! ### how a table is made -/
theorem px_push {ts : List (Int × Int)} {t : Int × Int} {k : Nat} (h : k < ts.length) : px (ts ++ [t]) k = px ts k := by
  unfold px
  rw [List.getD_eq_getElem?_getD, List.getD_eq_getElem?_getD, List.getElem?_append_left h]
theorem py_push {ts : List (Int × Int)} {t : Int × Int} {k : Nat} (h : k < ts.length) : py (ts ++ [t]) k = py ts k := by
  unfold py
  rw [List.getD_eq_getElem?_getD, List.getD_eq_getElem?_getD, List.getElem?_append_left h]
theorem px_last {ts : List (Int × Int)} {t : Int × Int} : px (ts ++ [t]) ts.length = t.1 := by
  unfold px
  rw [List.getD_eq_getElem?_getD, List.getElem?_append_right (Nat.le_refl _), Nat.sub_self]
  rfl
theorem py_last {ts : List (Int × Int)} {t : Int × Int} : py (ts ++ [t]) ts.length = t.2 := by
  unfold py
  rw [List.getD_eq_getElem?_getD, List.getElem?_append_right (Nat.le_refl _), Nat.sub_self]
  rfl
/-- i lines of a table are made; m is the next slope -/
structure TbMid (i : Nat) (m : Int) (ts : List (Int × Int)) : Prop where
  len : ts.length = i + 1
  i5 : i ≤ 5
  m0 : m.natAbs ≤ 3 + 63 * i
  x0 : px ts 0 = 0
  up : ∀ k, k + 1 < ts.length → px ts k < px ts (k + 1)
  cv : ∀ k, k + 2 < ts.length → (py ts (k + 1) - py ts k) * (px ts (k + 2) - px ts (k + 1)) ≤ (py ts (k + 2) - py ts (k + 1)) * (px ts (k + 1) - px ts k)
  la : ∀ k, k + 1 < ts.length → py ts (k + 1) - py ts k ≤ m * (px ts (k + 1) - px ts k)
  bd : ∀ k, k < ts.length → 0 ≤ px ts k ∧ px ts k ≤ 6 * i ∧ (py ts k).natAbs ≤ 2400 * i
theorem TbMid.one {m : Int} (h : m.natAbs ≤ 3) : TbMid 0 m [(0, 0)] := by
  refine ⟨rfl, by decide, h, rfl, fun k hk => ?_, fun k hk => ?_, fun k hk => ?_, fun k hk => ?_⟩
  · simp at hk
  · simp at hk
  · simp at hk
  · have : k = 0 := by simpa using hk
    subst this
    decide
theorem mul_up {a m x y : Int} (h : m ≤ y) (hx : 0 ≤ x) (ha : a ≤ m * x) : a ≤ y * x := Int.le_trans ha (Int.mul_le_mul_of_nonneg_right h hx)
theorem TbMid.push {i : Nat} {m st d : Int} {ts : List (Int × Int)} (h : TbMid i m ts) (hi : i < 5) (s0 : 1 ≤ st) (s1 : st ≤ 6) (d0 : 0 ≤ d) (d1 : d ≤ 63) : TbMid (i + 1) (m + d) (ts ++ [(px ts i + st, py ts i + m * st)]) := by
  have hl := h.len
  have lst : ts.length = i + 1 := hl
  have ex : px (ts ++ [(px ts i + st, py ts i + m * st)]) (i + 1) = px ts i + st := by
    have := px_last (ts := ts) (t := (px ts i + st, py ts i + m * st))
    rw [hl] at this
    exact this
  have ey : py (ts ++ [(px ts i + st, py ts i + m * st)]) (i + 1) = py ts i + m * st := by
    have := py_last (ts := ts) (t := (px ts i + st, py ts i + m * st))
    rw [hl] at this
    exact this
  have ll : (ts ++ [(px ts i + st, py ts i + m * st)]).length = i + 2 := by rw [List.length_append, hl]; rfl
  have m0 := h.m0
  have bmul : (m * st).natAbs ≤ 400 * 6 := by
    rw [Int.natAbs_mul]
    exact Nat.mul_le_mul (by omega) (by omega)
  generalize et : (px ts i + st, py ts i + m * st) = t at *
  refine ⟨by rw [ll], by omega, by omega, ?_, ?_, ?_, ?_, ?_⟩
  · rw [px_push (by omega)]; exact h.x0
  · intro k hk
    rw [ll] at hk
    by_cases e : k = i
    · subst e
      rw [ex, px_push (by omega)]
      omega
    · rw [px_push (by omega), px_push (by omega)]
      exact h.up k (by omega)
  · intro k hk
    rw [ll] at hk
    by_cases e : k + 1 = i
    · subst e
      rw [show k + 2 = k + 1 + 1 from rfl, ex, ey, px_push (k := k + 1) (by omega), px_push (k := k) (by omega), py_push (k := k + 1) (by omega), py_push (k := k) (by omega)]
      have la := h.la k (by omega)
      have := Int.mul_le_mul_of_nonneg_right la (show (0 : Int) ≤ st by omega)
      rw [show px ts (k + 1) + st - px ts (k + 1) = st by omega, show py ts (k + 1) + m * st - py ts (k + 1) = m * st by omega]
      rw [Int.mul_right_comm] at this
      exact this
    · rw [px_push (by omega), px_push (by omega), px_push (by omega), py_push (by omega), py_push (by omega), py_push (by omega)]
      exact h.cv k (by omega)
  · intro k hk
    rw [ll] at hk
    by_cases e : k = i
    · subst e
      rw [ex, ey, px_push (by omega), py_push (by omega), show px ts k + st - px ts k = st by omega, show py ts k + m * st - py ts k = m * st by omega]
      exact Int.mul_le_mul_of_nonneg_right (by omega) (by omega)
    · rw [px_push (by omega), px_push (by omega), py_push (by omega), py_push (by omega)]
      have u := h.up k (by omega)
      exact mul_up (by omega) (by omega) (h.la k (by omega))
  · intro k hk
    rw [ll] at hk
    by_cases e : k = i + 1
    · subst e
      rw [ex, ey]
      have := h.bd i (by omega)
      omega
    · rw [px_push (by omega), py_push (by omega)]
      have := h.bd k (by omega)
      omega
theorem px_map {ts : List (Int × Int)} {w l : Int} {k : Nat} (h : k < ts.length) : px (ts.map fun t => (t.1 * w, t.2 + l)) k = px ts k * w := by
  unfold px
  rw [List.getD_eq_getElem?_getD, List.getD_eq_getElem?_getD, List.getElem?_map, List.getElem?_eq_getElem h]
  rfl
theorem py_map {ts : List (Int × Int)} {w l : Int} {k : Nat} (h : k < ts.length) : py (ts.map fun t => (t.1 * w, t.2 + l)) k = py ts k + l := by
  unfold py
  rw [List.getD_eq_getElem?_getD, List.getD_eq_getElem?_getD, List.getElem?_map, List.getElem?_eq_getElem h]
  rfl
theorem p_out {ts : List (Int × Int)} {k : Nat} (h : ts.length ≤ k) : px ts k = 0 ∧ py ts k = 0 := by
  unfold px py
  rw [List.getD_eq_getElem?_getD, List.getElem?_eq_none h]
  exact ⟨rfl, rfl⟩
theorem TbMid.fin {i : Nat} {m w l : Int} {ts : List (Int × Int)} (h : TbMid i m ts) (hi : 1 ≤ i) (w0 : 1 ≤ w) (w1 : w ≤ 20001) (l0 : 0 ≤ l) (l1 : l ≤ 100000) : TabOk (ts.map fun t => (t.1 * w, t.2 + l)) := by
  have hl := h.len
  have i5 := h.i5
  have ll : (ts.map fun t => (t.1 * w, t.2 + l)).length = i + 1 := by rw [List.length_map, hl]
  refine ⟨by omega, by omega, by rw [px_map (by omega), h.x0, Int.zero_mul], fun k hk => ?_, fun k hk => ?_, fun k => ?_, fun k => ?_⟩
  · rw [ll] at hk
    rw [px_map (by omega), px_map (by omega)]
    exact Int.mul_lt_mul_of_pos_right (h.up k (by omega)) (by omega)
  · rw [ll] at hk
    rw [px_map (by omega), px_map (by omega), px_map (by omega), py_map (by omega), py_map (by omega), py_map (by omega)]
    have := Int.mul_le_mul_of_nonneg_right (h.cv k (by omega)) (show (0 : Int) ≤ w by omega)
    grind
  · by_cases hk : k < ts.length
    · rw [px_map hk]
      have b := h.bd k hk
      have : (px ts k * w).natAbs ≤ 30 * 20001 := by
        rw [Int.natAbs_mul]
        exact Nat.mul_le_mul (by omega) (by omega)
      exact Nat.lt_of_le_of_lt this (by decide)
    · rw [(p_out (by rw [ll]; omega)).1]
      decide
  · by_cases hk : k < ts.length
    · rw [py_map hk]
      have b := h.bd k hk
      exact Nat.lt_of_le_of_lt (show _ ≤ 200000 by omega) (by decide)
    · rw [(p_out (by rw [ll]; omega)).2]
      decide
def spTable (K : PySem.W.Frag) : Sp := fun vs H Q _ => ∃ (p pa : Addr), vs = [.ref p] ∧ Pl p pa H ∧ ∀ v (ts : List (Int × Int)) H', TabOk ts → Kp p H H' → Pl p pa H' → Is K H' v (dPr (some ts)) → Q v H'
/-- further built-in names -/
structure BJ (mg : Str → Option Value) : Prop where
  zip : mg "zip" = none
  max : mg "max" = none
  min : mg "min" = none
/-- a loop over zip of a tuple and a shorter one -/
theorem for_zipS {K : PySem.W.Frag} {a b : Addr} {xs ys : List V} {g : TG} {tb : TS} {D : Ends} {σ : L2.St} {H : Hp} (hl : ys.length ≤ xs.length) (Pv : Nat → L2.St → Hp → Prop) (h0 : Pv 0 σ H) (hq : ∀ i σ H, Pv i σ H → SqT K H a xs ∧ SqT K H b ys)
    (hs : ∀ (i : Nat) (x y : V) (T : Addr) (σ : L2.St) (H : Hp), xs[i]? = some x → ys[i]? = some y → Pv i σ H → H T = none → g (.ref T) σ (upd H T (.tup [x, y])) fun σ2 H2 => tb { D with nx := Pv (i + 1), ct := Pv (i + 1), bk := D.nx } σ2 H2) (hd : ∀ σ H, Pv ys.length σ H → D.nx σ H) :
    ∃ W : Nat → Nat → L2.St → Hp → Prop, (∃ m, W 0 m σ H) ∧ ∀ i m σ H, W i m σ H →
      ((RZ.ItzT K a b).stop i H ∧ D.nx σ H) ∨ ((RZ.ItzT K a b).go i H ∧ ∃ N : L2.St → Hp → Prop, (∀ σ' H', N σ' H' → ∃ m', m' < m ∧ W (i + 1) m' σ' H') ∧ ∀ v H', (RZ.ItzT K a b).yld i H v H' → g v σ H' fun σ2 H2 => tb { D with nx := N, ct := N, bk := D.nx } σ2 H2) := by
  refine ⟨fun i m σ H => m = ys.length - i ∧ i ≤ ys.length ∧ Pv i σ H, ⟨ys.length, rfl, Nat.zero_le _, h0⟩, ?_⟩
  rintro i m σ H ⟨rfl, hi, p⟩
  obtain ⟨qx, qy⟩ := hq i σ H p
  by_cases hlt : i < ys.length
  · have hlt2 : i < xs.length := by omega
    have hx : xs[i]? = some xs[i] := List.getElem?_eq_getElem hlt2
    have hy : ys[i]? = some ys[i] := List.getElem?_eq_getElem hlt
    refine .inr ⟨⟨xs, ys, _, _, qx, qy, hx, hy⟩, Pv (i + 1), fun σ' H' p' => ⟨ys.length - (i + 1), by omega, rfl, hlt, p'⟩, fun v H' y => ?_⟩
    obtain ⟨T, x', y', rfl, hT, rfl, f1, f2⟩ := y
    exact hs i x' y' T σ H (f1 xs qx) (f2 ys qy) p hT
  · have e : i = ys.length := by omega
    subst e
    exact .inl ⟨⟨xs, ys, qx, qy, Or.inr (Nat.le_refl _)⟩, hd σ H p⟩
/-- the points at a -/
def spTab (K : PySem.W.Frag) : Sp := fun vs H Q _ => ∃ (a : Addr) (xs : List V) (y : V) (ts : List (Int × Int)) (s : Rat), vs = [.ref a, y] ∧ SqT K H a xs ∧ IsA K H xs (ts.map dPt) ∧ Is K H y (rat2 s) ∧ TabOk ts ∧ 0 ≤ s ∧ Sz 1700 s ∧ ∀ v H', Same H H' → Is K H' v (rat2 (tabV ts s)) → Q v H'
/-- what the program's loop holds behind i pairs -/
def TPi (ts : List (Int × Int)) (s : Rat) (i j : Nat) (sl : Rat) : Prop :=
  (∀ k, j < k → k < i → ¬ (px ts k : Rat) < s) ∧ ((j < i ∧ (px ts j : Rat) < s ∧ sl = slo ts j) ∨ (j = 0 ∧ sl = 0 ∧ (0 < i → ¬ (px ts 0 : Rat) < s)))
theorem TPi.yes {ts : List (Int × Int)} {s : Rat} {i : Nat} (h : (px ts i : Rat) < s) : TPi ts s (i + 1) i (slo ts i) := ⟨fun k a b => by omega, .inl ⟨by omega, h, rfl⟩⟩
theorem TPi.no {ts : List (Int × Int)} {s : Rat} {i j : Nat} {sl : Rat} (h : ¬ (px ts i : Rat) < s) (p : TPi ts s i j sl) : TPi ts s (i + 1) j sl := by
  refine ⟨fun k a b => ?_, ?_⟩
  · by_cases e : k = i
    · subst e; exact h
    · exact p.1 k a (by omega)
  · rcases p.2 with ⟨a, b, c⟩ | ⟨a, b, c⟩
    · exact .inl ⟨by omega, b, c⟩
    · refine .inr ⟨a, b, fun _ => ?_⟩
      by_cases e : i = 0
      · subst e; exact h
      · exact c (by omega)
theorem TPi.end' {ts : List (Int × Int)} {s sl : Rat} {j : Nat} (ht : TabOk ts) (h0 : 0 ≤ s) (p : TPi ts s (ts.length - 1) j sl) : (py ts j : Rat) + sl * (s - (px ts j : Rat)) = tabV ts s := by
  have n2 := ht.n2
  rcases p.2 with ⟨a, b, rfl⟩ | ⟨rfl, rfl, c⟩
  · have S : Sel ts s j := by
      refine ⟨by omega, by grind, ?_⟩
      by_cases e : j + 2 = ts.length
      · exact .inl e
      · exact .inr (Rat.not_lt.mp (p.1 (j + 1) (by omega) (by omega)))
    exact S.val ht
  · have c := Rat.not_lt.mp (c (by omega))
    have z : (px ts 0 : Rat) = 0 := by rw [ht.x0]; rfl
    have s0 : s = 0 := by
      rw [z] at c
      exact Rat.le_antisymm c h0
    have u := ratlt (ht.up 0 (by omega))
    have S : Sel ts s 0 := ⟨by omega, by rw [z]; exact h0, .inr (by rw [s0, ← z]; exact Rat.le_of_lt u)⟩
    rw [← S.val ht]
    unfold lin
    rw [z, s0]
    grind
/-- what the law's loop holds -/
def LPi (ts : List (Int × Int)) (s : Rat) (i j : Nat) : Prop := (∀ k, j < k → k < i → s < (px ts k : Rat)) ∧ (j = 0 ∨ (j < i ∧ ¬ s < (px ts j : Rat)))
theorem LPi.end' {ts : List (Int × Int)} {s : Rat} {j : Nat} (ht : TabOk ts) (h0 : 0 ≤ s) (p : LPi ts s (ts.length - 1) j) : lin ts j s = tabV ts s := by
  have n2 := ht.n2
  have z : (px ts 0 : Rat) = 0 := by rw [ht.x0]; rfl
  have jl : j + 1 < ts.length := by
    rcases p.2 with rfl | ⟨a, _⟩ <;> omega
  have S : Sel ts s j := by
    refine ⟨jl, ?_, ?_⟩
    · rcases p.2 with rfl | ⟨_, b⟩
      · rw [z]; exact h0
      · exact Rat.not_lt.mp b
    · by_cases e : j + 2 = ts.length
      · exact .inl e
      · exact .inr (Rat.le_of_lt (p.1 (j + 1) (by omega) (by omega)))
  exact S.val ht
end Z

namespace Z
open PySem PySem.Spec PyProof.Rows L2
/-! ### a op b op c op d -/
def tChain3 (r r' r'' : R2) (ta tb tc td : TE) : TE := fun σ H Q => ta σ H fun x H1 => tb σ H1 fun y H2 => r x y H2 fun z H3 => ∃ k, z = .bl k ∧
  (if k = true then tc σ H3 fun u H4 => r' y u H4 fun z2 H5 => ∃ k2, z2 = .bl k2 ∧ (if k2 = true then td σ H5 fun w' H6 => r'' u w' H6 Q else Q (.bl false) H5) else Q (.bl false) H3)
theorem pe_chain3 {X : Cx} {a b c d : Expr} {op op' op'' : CmpOp} {r r' r'' : R2} {ta tb tc td : TE} {pos : Pos} (ho : OpR X (compareOp op) r) (ho' : OpR X (compareOp op') r') (ho'' : OpR X (compareOp op'') r'') (ha : PE X a ta) (hb : PE X b tb) (hc : PE X c tc) (hd : PE X d td)
    (hm : lastMarks [op, op', op''] [b, c, d] = false := by with_unfolding_all rfl) : PE X (.Compare a [op, op', op''] [b, c, d] pos) (tChain3 r r' r'' ta tb tc td) := by
  refine ⟨fun pins s σ H Q I h => ?_⟩
  refine Compare_chain (thn (ha.run pins s σ H _ I h) fun v s1 ⟨x, H1, I1, r1, q1⟩ => chain_link (thn (hb.run pins s1 σ H1 _ I1 q1) fun u s2 ⟨y, H2, I2, r2, q2⟩ =>
    thn (ho pins s2 σ H2 x y v u _ I2 r1 r2 q2) fun d s3 ⟨z, H3, I3, r3, k, e, q3⟩ => ?_)) hm
  subst e
  cases r3
  refine wpAny_truthy_bool ?_
  cases k with
  | false => exact ite_ff ⟨.bl false, H3, I3, rfl, q3⟩
  | true =>
    refine ite_tt (chain_link (thn (hc.run pins s3 σ H3 _ I3 q3) fun w' s4 ⟨z', H4, I4, r4, q4⟩ => thn (ho' pins s4 σ H4 y z' u w' _ I4 r2 r4 q4) fun d' s5 ⟨z5, H5, I5, r5, k2, e2, q5⟩ => ?_))
    subst e2
    cases r5
    refine wpAny_truthy_bool ?_
    cases k2 with
    | false => exact ite_ff ⟨.bl false, H5, I5, rfl, q5⟩
    | true => exact ite_tt (chain_last (thn (hd.run pins s5 σ H5 _ I5 q5) fun w2 s6 ⟨z6, H6, I6, r6, q6⟩ => ho'' pins s6 σ H6 z' z6 w' w2 Q I6 r4 r6 q6))
/-! ### loops over a text, over enumerate of a list -/
theorem for_str {x : Str} {g : TG} {tb : TS} {D : Ends} {σ : L2.St} {H : Hp} (Pv : Nat → L2.St → Hp → Prop) (h0 : Pv 0 σ H)
    (hs : ∀ i c σ H, x.cps.toList[i]? = some c → Pv i σ H → g (.str ⟨#[c]⟩) σ H fun σ2 H2 => tb { D with nx := Pv (i + 1), ct := Pv (i + 1), bk := D.nx } σ2 H2) (hd : ∀ σ H, Pv x.cps.toList.length σ H → D.nx σ H) :
    ∃ W : Nat → Nat → L2.St → Hp → Prop, (∃ m, W 0 m σ H) ∧ ∀ i m σ H, W i m σ H →
      ((Its x).stop i H ∧ D.nx σ H) ∨ ((Its x).go i H ∧ ∃ N : L2.St → Hp → Prop, (∀ σ' H', N σ' H' → ∃ m', m' < m ∧ W (i + 1) m' σ' H') ∧ ∀ v H', (Its x).yld i H v H' → g v σ H' fun σ2 H2 => tb { D with nx := N, ct := N, bk := D.nx } σ2 H2) := by
  refine ⟨fun i m σ H => m = x.cps.size - i ∧ i ≤ x.cps.size ∧ Pv i σ H, ⟨x.cps.size, (Nat.sub_zero _).symm, Nat.zero_le _, h0⟩, ?_⟩
  rintro i m σ H ⟨rfl, hi, p⟩
  by_cases c : i < x.cps.size
  · refine .inr ⟨c, Pv (i + 1), fun σ' H' p' => ⟨x.cps.size - (i + 1), by omega, rfl, c, p'⟩, ?_⟩
    rintro v H' ⟨rfl, k, hk, rfl⟩
    exact hs i k σ _ (by rw [Array.getElem?_toList]; exact hk) p
  · have e : i = x.cps.size := by omega
    subst e
    exact .inl ⟨Nat.le_refl _, hd σ H (by rw [Array.length_toList]; exact p)⟩
theorem for_enumL {K : PySem.W.Frag} {a : Addr} {xs : List V} {g : TG} {tb : TS} {D : Ends} {σ : L2.St} {H : Hp} (Pv : Nat → L2.St → Hp → Prop) (h0 : Pv 0 σ H) (hl : ∀ i σ H, i ≤ xs.length → Pv i σ H → SqL K H a xs)
    (hs : ∀ i x T σ H, xs[i]? = some x → Pv i σ H → H T = none → g (.ref T) σ (upd H T (.tup [.int (i : Nat), x])) fun σ2 H2 => tb { D with nx := Pv (i + 1), ct := Pv (i + 1), bk := D.nx } σ2 H2) (hd : ∀ σ H, Pv xs.length σ H → D.nx σ H) :
    ∃ W : Nat → Nat → L2.St → Hp → Prop, (∃ m, W 0 m σ H) ∧ ∀ i m σ H, W i m σ H →
      ((Ite K a).stop i H ∧ D.nx σ H) ∨ ((Ite K a).go i H ∧ ∃ N : L2.St → Hp → Prop, (∀ σ' H', N σ' H' → ∃ m', m' < m ∧ W (i + 1) m' σ' H') ∧ ∀ x H', (Ite K a).yld i H x H' → g x σ H' fun σ2 H2 => tb { D with nx := N, ct := N, bk := D.nx } σ2 H2) := by
  refine ⟨fun i m σ H => m = xs.length - i ∧ i ≤ xs.length ∧ Pv i σ H, ⟨xs.length, (Nat.sub_zero _).symm, Nat.zero_le _, h0⟩, ?_⟩
  rintro i m σ H ⟨rfl, hi, p⟩
  have q := hl i σ H hi p
  by_cases c : i < xs.length
  · have gx : xs[i]? = some xs[i] := List.getElem?_eq_getElem c
    refine .inr ⟨⟨xs, xs[i], q, gx⟩, Pv (i + 1), fun σ' H' p' => ⟨xs.length - (i + 1), by omega, rfl, c, p'⟩, ?_⟩
    rintro v H' ⟨T, x, rfl, nT, rfl, fx⟩
    exact hs i x T σ H (fx xs q) p nT
  · have e : i = xs.length := by omega
    subst e
    exact .inl ⟨⟨xs, q, Nat.le_refl _⟩, hd σ H p⟩
/-! ### texts of jobs -/
abbrev LET : Str := ("abcdefghijklmnopqrstuvwxyz" : Str)
abbrev DIG : Str := ("0123456789" : Str)
abbrev nt (i : Int) : Str := Str.ofString (toString i)
def lineB (j : Job) : Str := j.n ++ (" " : Str) ++ nt j.c ++ (" " : Str) ++ nt j.d ++ (" " : Str) ++ nt j.w
def lineT (j : Job) : Str := lineB j ++ ("\n" : Str)
def textOf (js : List Job) : Str := Txt.join ("" : Str) (js.map lineT)
def consB (w cs : Str) : Bool := w.cps.toList.all (fun c => decide (c ∈ cs.cps.toList)) && !decide (V.str w = V.str ("" : Str))
def nameB (w : Str) : Bool := decide ((w.length : Int) ≤ 8) && consB w LET
def wholeO (w : Str) (m : Int) : Option Int :=
  if (decide (m < (w.length : Int)) || !consB w DIG) = true then none
  else if (decide (w.cps.toList.head? = some 48) && !decide (w = ("0" : Str))) = true then none
  else some ((NumText.digitsVal w.cps.toList : Nat) : Int)
def oV : Option Int → V
  | none => .non
  | some i => .int i
def jobB (n : Str) (c d w : Int) : Bool := nameB n && (decide (0 ≤ c) && decide (c < d) && decide (d ≤ 10000) && (decide (1 ≤ w) && decide (w ≤ 10000)))
def readJobO (line : Str) : Option Job :=
  match Txt.split line (" " : Str) with
  | [a, b, c, d] => match wholeO b 5, wholeO c 5, wholeO d 5 with
    | some x, some y, some z => if jobB a x y z = true then some ⟨a, x, y, z⟩ else none
    | _, _, _ => none
  | _ => none
theorem tl_sp : TL.tl (" " : Str) = [32] := by decide +kernel
theorem tl_nl : TL.tl ("\n" : Str) = [10] := by decide +kernel
theorem tl_e : TL.tl ("" : Str) = [] := by decide +kernel
theorem tl_let : LET.cps.toList = (List.range 26).map (97 + ·) := by decide +kernel
theorem tl_dig : DIG.cps.toList = (List.range 10).map (48 + ·) := by decide +kernel
theorem in_let {c : Nat} (h : 97 ≤ c ∧ c ≤ 122) : c ∈ LET.cps.toList := by
  rw [tl_let, List.mem_map]
  exact ⟨c - 97, List.mem_range.mpr (by omega), by omega⟩
theorem in_dig {c : Nat} : c ∈ DIG.cps.toList ↔ 48 ≤ c ∧ c ≤ 57 := by
  rw [tl_dig, List.mem_map]
  constructor
  · rintro ⟨k, hk, rfl⟩
    have := List.mem_range.mp hk
    omega
  · intro h
    exact ⟨c - 48, List.mem_range.mpr (by omega), by omega⟩
theorem join_nl : ∀ ps : List (List Nat), TL.joinL [] (ps.map (· ++ [10])) = TL.joinL [10] (ps ++ [[]])
  | [] => rfl
  | [p] => rfl
  | p :: q :: r => by
    have ih := join_nl (q :: r)
    show (p ++ [10]) ++ ([] ++ TL.joinL [] ((q :: r).map (· ++ [10]))) = p ++ ([10] ++ TL.joinL [10] ((q :: r) ++ [[]]))
    rw [ih, List.nil_append, List.append_assoc]
theorem nt_free {s : Nat} {i : Int} (h0 : 0 ≤ i) (h : s < 48 ∨ 57 < s) : s ∉ TL.tl (nt i) := by
  obtain ⟨n, rfl⟩ := Int.eq_ofNat_of_zero_le h0
  rw [TL.tl_num]
  exact TL.numL_free h
/-- all signs of a line are neither a newline .. -/
structure LineOk (j : Job) : Prop where
  n10 : 10 ∉ TL.tl j.n
  n32 : 32 ∉ TL.tl j.n
  c0 : 0 ≤ j.c
  d0 : 0 ≤ j.d
  w0 : 0 ≤ j.w
theorem tl_lineB (j : Job) : TL.tl (lineB j) = TL.tl j.n ++ (32 :: (TL.tl (nt j.c) ++ (32 :: (TL.tl (nt j.d) ++ (32 :: TL.tl (nt j.w)))))) := by
  unfold lineB
  rw [TL.tl_append, TL.tl_append, TL.tl_append, TL.tl_append, TL.tl_append, TL.tl_append, tl_sp]
  simp [List.append_assoc]
theorem LineOk.n10' {j : Job} (h : LineOk j) : 10 ∉ TL.tl (lineB j) := by
  rw [tl_lineB]
  have a := h.n10
  have b := nt_free (s := 10) h.c0 (by omega)
  have c := nt_free (s := 10) h.d0 (by omega)
  have d := nt_free (s := 10) h.w0 (by omega)
  simp only [List.mem_append, List.mem_cons, not_or]
  exact ⟨a, by decide, b, by decide, c, by decide, d⟩
theorem split_text {js : List Job} (h : ∀ j ∈ js, LineOk j) : Txt.split (textOf js) ("\n" : Str) = js.map lineB ++ [("" : Str)] := by
  have e : textOf js = Txt.join ("\n" : Str) (js.map lineB ++ [("" : Str)]) := by
    unfold textOf
    apply TL.ext_tl
    rw [TL.join_eq, TL.join_eq, TL.tl_join, TL.tl_join, tl_e, tl_nl, List.map_append, List.map_map, List.map_map]
    have z := join_nl (js.map fun j => TL.tl (lineB j))
    rw [List.map_map] at z
    have f : (fun j => TL.tl (lineT j)) = (fun j => TL.tl (lineB j) ++ [10]) := by
      funext j
      unfold lineT
      rw [TL.tl_append, tl_nl]
    show TL.joinL [] (js.map fun j => TL.tl (lineT j)) = TL.joinL [10] (js.map (fun j => TL.tl (lineB j)) ++ [TL.tl ("" : Str)])
    rw [f, tl_e]
    exact z
  rw [e]
  refine TL.split_join tl_nl (by decide +kernel) (by simp) ?_
  intro p hp
  rcases List.mem_append.mp hp with hp | hp
  · obtain ⟨j, hj, rfl⟩ := List.mem_map.mp hp
    exact (h j hj).n10'
  · rw [List.mem_singleton.mp hp, tl_e]
    simp
theorem split_line {j : Job} (h : LineOk j) : Txt.split (lineB j) (" " : Str) = [j.n, nt j.c, nt j.d, nt j.w] := by
  have e : lineB j = Txt.join (" " : Str) [j.n, nt j.c, nt j.d, nt j.w] := by
    apply TL.ext_tl
    rw [tl_lineB, TL.join_eq, TL.tl_join, tl_sp]
    simp [TL.joinL]
  rw [e]
  refine TL.split_join tl_sp (by decide +kernel) (by simp) ?_
  intro p hp
  simp only [List.mem_cons, List.not_mem_nil, or_false] at hp
  rcases hp with rfl | rfl | rfl | rfl
  · exact h.n32
  · exact nt_free h.c0 (by omega)
  · exact nt_free h.d0 (by omega)
  · exact nt_free h.w0 (by omega)
theorem num_head : ∀ n : Nat, n ≠ 0 → (TL.numL n).head? ≠ some 48 := by
  intro n
  induction n using Nat.strongRecOn with
  | _ n ih =>
    intro h
    by_cases c : n < 10
    · rw [TL.numL_lt c]
      simp
      omega
    · have i := ih (n / 10) (by omega) (by omega)
      rw [TL.numL_step (by omega)]
      obtain ⟨a, r, e⟩ := List.exists_cons_of_ne_nil (TL.numL_ne (n / 10))
      rw [e] at i ⊢
      exact i
theorem nt_len {i : Int} (h0 : 0 ≤ i) (h1 : i ≤ 10000) : (nt i).cps.toList.length ≤ 5 := by
  obtain ⟨n, rfl⟩ := Int.eq_ofNat_of_zero_le h0
  rw [show (nt ((n : Nat) : Int)).cps.toList = TL.numL n from TL.tl_num n]
  exact TL.numL_len (by decide) (by omega)
theorem consB_of {w cs : Str} (h : ∀ c ∈ w.cps.toList, c ∈ cs.cps.toList) (n : w.cps.toList ≠ []) : consB w cs = true := by
  unfold consB
  rw [Bool.and_eq_true]
  refine ⟨List.all_eq_true.mpr fun c hc => decide_eq_true (h c hc), ?_⟩
  rw [decide_eq_false]
  · rfl
  · intro e
    have e2 := V.str.inj e
    rw [e2] at n
    exact n (by decide +kernel)
theorem whole_nt {i : Int} (h0 : 0 ≤ i) (h1 : i ≤ 10000) : wholeO (nt i) 5 = some i := by
  have hl := nt_len h0 h1
  obtain ⟨n, rfl⟩ := Int.eq_ofNat_of_zero_le h0
  have e : (nt ((n : Nat) : Int)).cps.toList = TL.numL n := TL.tl_num n
  unfold wholeO
  have hc : consB (nt ((n : Nat) : Int)) DIG = true := consB_of (by rw [e]; exact fun c hc => in_dig.mpr (TL.numL_digits n c hc)) (by rw [e]; exact TL.numL_ne n)
  rw [if_neg, if_neg, e, TL.numL_val]
  · intro z
    rw [Bool.and_eq_true, e] at z
    have z1 := of_decide_eq_true z.1
    by_cases c : n = 0
    · subst c
      have z2 := z.2
      rw [decide_eq_true (show nt ((0 : Nat) : Int) = ("0" : Str) by decide +kernel)] at z2
      cases z2
    · exact num_head n c z1
  · rw [hc, decide_eq_false (by rw [str_len]; omega)]
    decide
theorem NmOk.line {k : Nat} {x : Str} (h : NmOk k x) : nameB x = true := by
  unfold nameB
  have := h.len
  rw [Bool.and_eq_true]
  exact ⟨decide_eq_true (by rw [str_len]; omega), consB_of (fun c hc => in_let (h.low c hc)) h.ne⟩
theorem line_ok {k : Nat} {j : Job} (h : JobOk j) (hn : NmOk k j.n) : LineOk j := by
  have := h.c0
  have := h.cd
  have := h.w0
  exact ⟨fun z => by have := hn.low 10 z; omega, fun z => by have := hn.low 32 z; omega, by omega, by omega, by omega⟩
theorem read_line {k : Nat} {j : Job} (h : JobOk j) (hn : NmOk k j.n) : readJobO (lineB j) = some j := by
  have := h.c0
  have := h.cd
  have := h.d1
  have := h.w0
  have := h.w1
  unfold readJobO
  rw [split_line (line_ok h hn)]
  show (match wholeO (nt j.c) 5, wholeO (nt j.d) 5, wholeO (nt j.w) 5 with
    | some x, some y, some z => if jobB j.n x y z = true then some ⟨j.n, x, y, z⟩ else none
    | _, _, _ => none) = some j
  rw [whole_nt (by omega) (by omega), whole_nt (by omega) (by omega), whole_nt (by omega) (by omega)]
  show (if jobB j.n j.c j.d j.w = true then some (⟨j.n, j.c, j.d, j.w⟩ : Job) else none) = some j
  rw [if_pos]
  unfold jobB
  rw [hn.line, decide_eq_true h.c0, decide_eq_true h.cd, decide_eq_true h.d1, decide_eq_true h.w0, decide_eq_true h.w1]
  rfl
theorem line_len {k : Nat} {j : Job} (h : JobOk j) (hn : NmOk k j.n) : (lineB j).length ≤ 24 := by
  have := h.c0
  have := h.cd
  have := h.d1
  have := h.w0
  have := h.w1
  have a := nt_len (i := j.c) (by omega) (by omega)
  have b := nt_len (i := j.d) (by omega) (by omega)
  have c := nt_len (i := j.w) (by omega) (by omega)
  have d := hn.len
  rw [str_len, show (lineB j).cps.toList = _ from tl_lineB j]
  simp only [List.length_append, List.length_cons]
  show j.n.cps.toList.length + ((nt j.c).cps.toList.length + ((nt j.d).cps.toList.length + ((nt j.w).cps.toList.length + 1) + 1) + 1) ≤ 24
  omega
end Z

namespace Z
open PySem PySem.Spec PyProof.Rows L2
/-! ### texts of ratios -/
def wR (q : Rat) : Str := if q.den = 1 then nt q.num else nt q.num ++ ("/" : Str) ++ nt (q.den : Int)
theorem tl_sl : TL.tl ("/" : Str) = [47] := by decide +kernel
theorem tl_mi : TL.tl ("-" : Str) = [45] := by decide +kernel
theorem nt_neg {i : Int} (h : i < 0) : TL.tl (nt i) = 45 :: TL.tl (nt (-i)) := by
  have e := toString_neg h
  rw [show (0 : Int) - i = -i by omega] at e
  unfold nt
  rw [e, TL.tl_ofString, TL.tl_ofString, String.toList_append, List.map_append]
  rfl
/-- the signs of a number -/
theorem nt_signs {i : Int} : ∀ c ∈ TL.tl (nt i), c = 45 ∨ (48 ≤ c ∧ c ≤ 57) := by
  have pos : ∀ n : Nat, ∀ c ∈ TL.tl (nt ((n : Nat) : Int)), c = 45 ∨ (48 ≤ c ∧ c ≤ 57) := fun n c hc => by
    rw [TL.tl_num] at hc
    exact .inr (TL.numL_digits n c hc)
  intro c hc
  by_cases h : i < 0
  · rw [nt_neg h] at hc
    rcases List.mem_cons.mp hc with rfl | hc
    · exact .inl rfl
    · obtain ⟨n, e⟩ := Int.eq_ofNat_of_zero_le (show 0 ≤ -i by omega)
      rw [e] at hc
      exact pos n c hc
  · obtain ⟨n, rfl⟩ := Int.eq_ofNat_of_zero_le (show 0 ≤ i by omega)
    exact pos n c hc
theorem wR_signs {q : Rat} : ∀ c ∈ TL.tl (wR q), c = 45 ∨ c = 47 ∨ (48 ≤ c ∧ c ≤ 57) := by
  intro c hc
  unfold wR at hc
  split at hc
  · rcases nt_signs c hc with h | h
    · exact .inl h
    · exact .inr (.inr h)
  · rw [TL.tl_append, TL.tl_append, tl_sl] at hc
    rcases List.mem_append.mp hc with hc | hc
    · rcases List.mem_append.mp hc with hc | hc
      · rcases nt_signs c hc with h | h
        · exact .inl h
        · exact .inr (.inr h)
      · exact .inr (.inl (List.mem_singleton.mp hc))
    · rcases nt_signs c hc with h | h
      · exact .inl h
      · exact .inr (.inr h)
theorem wR_free {q : Rat} {s : Nat} (h : s = 10 ∨ s = 32) : s ∉ TL.tl (wR q) := fun c => by
  have := wR_signs s c
  omega
theorem nt_slash {n : Nat} : 47 ∉ TL.tl (nt ((n : Nat) : Int)) := nt_free (by omega) (by omega)
theorem big65 : (2 : Nat) ^ 215 < 10 ^ 65 := by decide +kernel
theorem nt_len2 {n : Nat} (h : n < 2 ^ 215) : (nt ((n : Nat) : Int)).length ≤ 65 := by
  rw [str_len, show (nt ((n : Nat) : Int)).cps.toList = TL.numL n from TL.tl_num n]
  exact TL.numL_len (by decide) (Nat.lt_trans h big65)
theorem nt_lenI {i : Int} (h : i.natAbs < 2 ^ 215) : (nt i).length ≤ 66 := by
  by_cases c : i < 0
  · obtain ⟨n, e⟩ := Int.eq_ofNat_of_zero_le (show 0 ≤ -i by omega)
    have z := nt_len2 (n := n) (by omega)
    rw [str_len] at z ⊢
    rw [show (nt i).cps.toList = 45 :: TL.tl (nt (-i)) from nt_neg c, e, List.length_cons]
    have : (TL.tl (nt ((n : Nat) : Int))).length = (nt ((n : Nat) : Int)).cps.toList.length := rfl
    omega
  · obtain ⟨n, rfl⟩ := Int.eq_ofNat_of_zero_le (show 0 ≤ i by omega)
    have := nt_len2 (n := n) (by omega)
    omega
theorem len_app2 (x y : Str) : (x ++ y).length = x.length + y.length := by rw [str_len, str_len, str_len, str_app, List.length_append]
theorem wR_len {q : Rat} (h : Sz 215 q) : (wR q).length ≤ 140 := by
  have a := nt_lenI h.1
  have b := nt_len2 h.2
  unfold wR
  split
  · omega
  · have e : ("/" : Str).length = 1 := by decide +kernel
    rw [len_app2, len_app2, e]
    omega
/-- a number without a sign is read -/
theorem whole_big {n : Nat} (h : n < 2 ^ 215) : wholeO (nt ((n : Nat) : Int)) 200 = some ((n : Nat) : Int) := by
  have hl := nt_len2 h
  have e : (nt ((n : Nat) : Int)).cps.toList = TL.numL n := TL.tl_num n
  unfold wholeO
  have hc : consB (nt ((n : Nat) : Int)) DIG = true := consB_of (by rw [e]; exact fun c hc => in_dig.mpr (TL.numL_digits n c hc)) (by rw [e]; exact TL.numL_ne n)
  rw [if_neg, if_neg, e, TL.numL_val]
  · intro z
    rw [Bool.and_eq_true, e] at z
    have z1 := of_decide_eq_true z.1
    by_cases c : n = 0
    · subst c
      have z2 := z.2
      rw [decide_eq_true (show nt ((0 : Nat) : Int) = ("0" : Str) by decide +kernel)] at z2
      cases z2
    · exact num_head n c z1
  · rw [hc, decide_eq_false (by omega)]
    decide
/-- the words of a ratio that is not below 0 -/
def wordsR (q : Rat) : List Str := if q.den = 1 then [nt q.num] else [nt q.num, nt (q.den : Int)]
theorem split_wR {q : Rat} (h : 0 ≤ q.num) : Txt.split (wR q) ("/" : Str) = wordsR q := by
  obtain ⟨n, e⟩ := Int.eq_ofNat_of_zero_le h
  have ej : wR q = Txt.join ("/" : Str) (wordsR q) := by
    apply TL.ext_tl
    unfold wR wordsR
    split
    · rw [TL.join_eq, TL.tl_join]
      simp [TL.joinL]
    · rw [TL.join_eq, TL.tl_join, TL.tl_append, TL.tl_append, tl_sl]
      simp [TL.joinL]
  rw [ej]
  refine TL.split_join tl_sl (by decide +kernel) (by unfold wordsR; split <;> simp) ?_
  intro p hp
  unfold wordsR at hp
  split at hp
  · rw [List.mem_singleton.mp hp, e]
    exact nt_slash
  · simp only [List.mem_cons, List.not_mem_nil, or_false] at hp
    rcases hp with rfl | rfl
    · rw [e]
      exact nt_slash
    · exact nt_slash
/-- a minus in front -/
theorem wR_neg {q : Rat} (h : q.num < 0) : TL.tl (wR q) = 45 :: TL.tl (wR (-q)) := by
  unfold wR
  rw [show (-q).den = q.den from rfl, show (-q).num = -q.num from rfl]
  split
  · exact nt_neg h
  · rw [TL.tl_append, TL.tl_append, TL.tl_append, TL.tl_append, nt_neg h]
    rfl
theorem wR_head {q : Rat} (h : 0 ≤ q.num) : (TL.tl (wR q)).head? ≠ some 45 := by
  obtain ⟨n, e⟩ := Int.eq_ofNat_of_zero_le h
  have hd : ∀ c r, TL.numL n = c :: r → c ≠ 45 := fun c r e2 z => by
    have := TL.numL_digits n c (by rw [e2]; exact List.mem_cons_self ..)
    omega
  obtain ⟨c, r, er⟩ := List.exists_cons_of_ne_nil (TL.numL_ne n)
  unfold wR
  split
  · rw [e, TL.tl_num, er]
    intro z
    exact hd c r er (Option.some.inj z)
  · rw [TL.tl_append, TL.tl_append, e, TL.tl_num, er]
    intro z
    exact hd c r er (Option.some.inj z)
theorem starts_minus {x : Str} : Txt.startswith x ("-" : Str) = decide ((TL.tl x).head? = some 45) := by
  have hy : TL.tl ("-" : Str) ≠ [] := by rw [tl_mi]; decide
  have h := TL.at_iff (x := x) hy 0
  have e : Txt.startswith x ("-" : Str) = true ↔ StrLaws.At x ("-" : Str) x.length 0 := by
    unfold Txt.startswith StrLaws.At
    rw [Bool.and_eq_true, decide_eq_true_eq]
  have e2 : TL.pre (TL.tl ("-" : Str)) ((TL.tl x).drop 0) = true ↔ (TL.tl x).head? = some 45 := by
    rw [tl_mi, List.drop_zero]
    unfold TL.pre
    cases TL.tl x with
    | nil => simp
    | cons c r => simp
  rw [Bool.eq_iff_iff, e, h, e2, decide_eq_true_eq]
/-- what stands behind the first sign -/
theorem cut_first {x : Str} {c : Nat} {r : List Nat} (h : TL.tl x = c :: r) : TL.tl (cutS x (some 1) none) = r := by
  have hl : x.length = r.length + 1 := by rw [TL.len_tl, h, List.length_cons]
  have e1 : HT.sIx x.length 0 (some 1) = 1 := by
    rw [show (1 : Int) = ((1 : Nat) : Int) from rfl, HT.sIx_nat]
    omega
  have e2 : HT.sIx x.length x.length none = x.length := HT.sIx_none ..
  unfold cutS
  rw [e1, e2, TL.tl_mk, show x.cps.toList = c :: r from h]
  show (r.take (x.length - 1)) = r
  rw [hl]
  exact List.take_of_length_le (by omega)
/-! ### texts of plans -/
def lineP (p : Pc) : Str := wR p.s ++ (" " : Str) ++ wR p.e ++ (" " : Str) ++ p.n ++ (" " : Str) ++ wR p.v
def lineN (p : Pc) : Str := lineP p ++ ("\n" : Str)
def planT (ps : List Pc) : Str := Txt.join ("" : Str) (ps.map lineN)
/-- a piece as it is written -/
structure PcT (p : Pc) : Prop where
  s : Sz 215 p.s
  e : Sz 215 p.e
  v : Sz 215 p.v
  lt : p.s < p.e
  v0 : 0 < p.v
  nl : p.n.length ≤ 6
  nm : nameB p.n = true
  low : ∀ c ∈ TL.tl p.n, 97 ≤ c ∧ c ≤ 122
  ok : PyData.strOk p.n = true
theorem tl_lineP (p : Pc) : TL.tl (lineP p) = TL.tl (wR p.s) ++ (32 :: (TL.tl (wR p.e) ++ (32 :: (TL.tl p.n ++ (32 :: TL.tl (wR p.v)))))) := by
  unfold lineP
  rw [TL.tl_append, TL.tl_append, TL.tl_append, TL.tl_append, TL.tl_append, TL.tl_append, tl_sp]
  simp [List.append_assoc]
theorem PcT.n10 {p : Pc} (h : PcT p) : 10 ∉ TL.tl (lineP p) := by
  rw [tl_lineP]
  have a := wR_free (q := p.s) (s := 10) (.inl rfl)
  have b := wR_free (q := p.e) (s := 10) (.inl rfl)
  have c := wR_free (q := p.v) (s := 10) (.inl rfl)
  have d : 10 ∉ TL.tl p.n := fun z => by have := h.low 10 z; omega
  simp only [List.mem_append, List.mem_cons, not_or]
  exact ⟨a, by decide, b, by decide, d, by decide, c⟩
theorem line_join (p : Pc) : lineP p = Txt.join (" " : Str) [wR p.s, wR p.e, p.n, wR p.v] := by
  apply TL.ext_tl
  rw [tl_lineP, TL.join_eq, TL.tl_join, tl_sp]
  simp [TL.joinL]
theorem split_lineP {p : Pc} (h : PcT p) : Txt.split (lineP p) (" " : Str) = [wR p.s, wR p.e, p.n, wR p.v] := by
  rw [line_join]
  refine TL.split_join tl_sp (by decide +kernel) (by simp) ?_
  intro x hp
  simp only [List.mem_cons, List.not_mem_nil, or_false] at hp
  rcases hp with rfl | rfl | rfl | rfl
  · exact wR_free (.inr rfl)
  · exact wR_free (.inr rfl)
  · exact fun z => by have := h.low 32 z; omega
  · exact wR_free (.inr rfl)
theorem split_planT {ps : List Pc} (h : ∀ p ∈ ps, PcT p) : Txt.split (planT ps) ("\n" : Str) = ps.map lineP ++ [("" : Str)] := by
  have e : planT ps = Txt.join ("\n" : Str) (ps.map lineP ++ [("" : Str)]) := by
    unfold planT
    apply TL.ext_tl
    rw [TL.join_eq, TL.join_eq, TL.tl_join, TL.tl_join, tl_e, tl_nl, List.map_append, List.map_map, List.map_map]
    have z := join_nl (ps.map fun j => TL.tl (lineP j))
    rw [List.map_map] at z
    have f : (fun j => TL.tl (lineN j)) = (fun j => TL.tl (lineP j) ++ [10]) := by
      funext j
      unfold lineN
      rw [TL.tl_append, tl_nl]
    show TL.joinL [] (ps.map fun j => TL.tl (lineN j)) = TL.joinL [10] (ps.map (fun j => TL.tl (lineP j)) ++ [TL.tl ("" : Str)])
    rw [f, tl_e]
    exact z
  rw [e]
  refine TL.split_join tl_nl (by decide +kernel) (by simp) ?_
  intro p hp
  rcases List.mem_append.mp hp with hp | hp
  · obtain ⟨j, hj, rfl⟩ := List.mem_map.mp hp
    exact (h j hj).n10
  · rw [List.mem_singleton.mp hp, tl_e]
    simp
theorem PcT.len {p : Pc} (h : PcT p) : (lineP p).length ≤ 430 := by
  have a := wR_len h.s
  have b := wR_len h.e
  have c := wR_len h.v
  have d := h.nl
  have e1 : (" " : Str).length = 1 := by decide +kernel
  unfold lineP
  simp only [len_app2, e1]
  omega
theorem PcT.lenN {p : Pc} (h : PcT p) : (lineN p).length ≤ 431 := by
  have a := h.len
  have e1 : ("\n" : Str).length = 1 := by decide +kernel
  unfold lineN
  rw [len_app2, e1]
  omega
theorem sum_le2 {k : Nat} : ∀ {ys : List Str}, (∀ y ∈ ys, y.length ≤ k) → (ys.map (·.length)).sum ≤ k * ys.length
  | [], _ => Nat.zero_le _
  | y :: ys, h => by
    have a := h y (List.mem_cons_self ..)
    have b := sum_le2 (ys := ys) fun z hz => h z (List.mem_cons_of_mem _ hz)
    rw [List.map_cons, List.sum_cons, List.length_cons, Nat.mul_add]
    omega
theorem joinL_len2 : ∀ {l : List (List Nat)} {k : Nat}, (∀ p ∈ l, p.length ≤ k) → (TL.joinL [] l).length ≤ k * l.length
  | [], k, h => Nat.zero_le _
  | [p], k, h => by
    have := h p (List.mem_cons_self ..)
    show p.length ≤ k * 1
    omega
  | p :: q :: r, k, h => by
    have a := h p (List.mem_cons_self ..)
    have b := joinL_len2 (l := q :: r) (k := k) fun x hx => h x (List.mem_cons_of_mem _ hx)
    show (p ++ ([] ++ TL.joinL [] (q :: r))).length ≤ k * ((q :: r).length + 1)
    rw [List.nil_append, List.length_append, Nat.mul_add]
    omega
theorem planT_len {ps : List Pc} (h : ∀ p ∈ ps, PcT p) : (planT ps).length ≤ 431 * ps.length := by
  unfold planT
  rw [TL.len_tl, TL.join_eq, TL.tl_join, tl_e]
  have := joinL_len2 (l := (ps.map lineN).map TL.tl) (k := 431) fun x hx => by
    obtain ⟨y, hy, rfl⟩ := List.mem_map.mp hx
    obtain ⟨p, hp, rfl⟩ := List.mem_map.mp hy
    rw [← TL.len_tl]
    exact (h p hp).lenN
  rw [List.length_map, List.length_map] at this
  exact this
theorem log_big {i : Int} (h : i.natAbs < 2 ^ 215) : i.natAbs.log2 < 1920 := Nat.lt_of_lt_of_le (PySem.Flt.log2_lt_of (k := 215) (by decide) h) (by decide)
/-- the names of the text's modules, plans -/
structure GS4 (mg : Str → Option Value) : Prop where
  LETTERS : ∃ t, mg "LETTERS" = some (.str LET t)
  DIGITS : ∃ t, mg "DIGITS" = some (.str DIG t)
  LONGEST_NAME : ∃ t, mg "LONGEST_NAME" = some (.int 8 t)
  MOST_DIGITS : ∃ t, mg "MOST_DIGITS" = some (.int 200 t)
theorem pe_joinK {X : Cx} {K : PySem.W.Frag} {o e : Expr} {to te : TE} {apos pos : Pos} (h : X.K = K) (ho : PE X o to) (he : PE X e te) (h1 : starEach [e] X.env = [(false, eval e X.env)] := by rfl) (h2 : attributeBase o "join" X.env (eval o X.env) = eval o X.env := by rfl) (h3 : (apos.endLine == pos.line) = true := by rfl) : PE X (.Call (.Attribute o "join" apos) [e] [] pos) (tM1 (fun x xs H Q => ∃ a p, ∃ ys : List Str, x = .str a ∧ xs = [.ref p] ∧ (SqL K H p (ys.map V.str) ∨ SqT K H p (ys.map V.str)) ∧ (ys.map (·.length)).sum + ys.length * a.length ≤ 16777216 ∧ Q (.str (Txt.join a ys)) H) to te) := by
  subst h
  exact pe_join ho he h1 h2 h3
end Z

namespace Z
open PySem PySem.Spec PyProof.Rows L2
/-! ### cutting at one sign -/
def sp1 (s : Nat) : List Nat → List Nat → List (List Nat)
  | acc, [] => [acc]
  | acc, c :: r => if c = s then acc :: sp1 s [] r else sp1 s (acc ++ [c]) r
theorem spl_sp1 (s : Nat) : ∀ l acc, TL.spl [s] 0 acc l = sp1 s acc l
  | [], acc => TL.spl_nil _ _ _
  | c :: r, acc => by
    by_cases h : c = s
    · subst h
      have p : TL.pre [c] (c :: r) = true := TL.pre_self [c] r
      rw [TL.spl_hit p, sp1, if_pos rfl]
      exact congrArg _ (spl_sp1 c r [])
    · rw [TL.spl_miss (TL.pre_of_head [] r h), sp1, if_neg h]
      exact spl_sp1 s r _
theorem sp1_ne {s : Nat} : ∀ {l acc}, sp1 s acc l ≠ []
  | [], acc => by simp [sp1]
  | c :: r, acc => by
    rw [sp1]
    split
    · simp
    · exact sp1_ne
theorem sp1_join {s : Nat} : ∀ {l acc}, TL.joinL [s] (sp1 s acc l) = acc ++ l
  | [], acc => by simp [sp1, TL.joinL]
  | c :: r, acc => by
    rw [sp1]
    split
    · next h =>
      subst h
      obtain ⟨a, q, e⟩ := List.exists_cons_of_ne_nil (sp1_ne (s := c) (l := r) (acc := []))
      have ih := sp1_join (s := c) (l := r) (acc := [])
      rw [e] at ih ⊢
      show acc ++ ([c] ++ TL.joinL [c] (a :: q)) = acc ++ c :: r
      rw [ih]
      rfl
    · rw [sp1_join, List.append_assoc]
      rfl
theorem sp1_len {s : Nat} : ∀ {l acc p}, p ∈ sp1 s acc l → p.length ≤ acc.length + l.length
  | [], acc, p, h => by
    rw [sp1, List.mem_singleton] at h
    rw [h]
    simp
  | c :: r, acc, p, h => by
    rw [sp1] at h
    split at h
    · rcases List.mem_cons.mp h with rfl | h
      · omega
      · have := sp1_len h
        simp at this ⊢
        omega
    · have := sp1_len h
      simp at this ⊢
      omega
theorem sp1_count {s : Nat} : ∀ {l acc}, (sp1 s acc l).length ≤ l.length + 1
  | [], acc => by simp [sp1]
  | c :: r, acc => by
    rw [sp1]
    split
    · have := sp1_count (s := s) (l := r) (acc := [])
      simp
      omega
    · have := sp1_count (s := s) (l := r) (acc := acc ++ [c])
      simp
      omega
/-- a separator of one plain sign -/
structure Sep (y : Str) (s : Nat) : Prop where
  tl : TL.tl y = [s]
  kd : y.cps.all (· < 256) = true
theorem sepN : Sep ("\n" : Str) 10 := ⟨tl_nl, by decide +kernel⟩
theorem sepS : Sep (" " : Str) 32 := ⟨tl_sp, by decide +kernel⟩
theorem Sep.map {y : Str} {s : Nat} (h : Sep y s) (x : Str) : (Txt.split x y).map TL.tl = sp1 s [] (TL.tl x) := by
  rw [TL.split_spl _ y (by rw [h.tl]; simp) (TL.kind_ok h.kd), h.tl, spl_sp1]
theorem Sep.ne {y : Str} {s : Nat} (h : Sep y s) (x : Str) : Txt.split x y ≠ [] := fun z => by
  have e := h.map x
  rw [z] at e
  exact sp1_ne e.symm
theorem Sep.join {y : Str} {s : Nat} (h : Sep y s) (x : Str) : Txt.join y (Txt.split x y) = x := by
  apply TL.ext_tl
  rw [TL.join_eq, TL.tl_join, h.tl, h.map, sp1_join, List.nil_append]
theorem Sep.len {y : Str} {s : Nat} (h : Sep y s) {x p : Str} (hp : p ∈ Txt.split x y) : p.length ≤ x.length := by
  have : TL.tl p ∈ sp1 s [] (TL.tl x) := by
    rw [← h.map]
    exact List.mem_map_of_mem hp
  have := sp1_len this
  rw [str_len, str_len]
  simpa using this
theorem Sep.count {y : Str} {s : Nat} (h : Sep y s) (x : Str) : (Txt.split x y).length ≤ x.length + 1 := by
  have := sp1_count (s := s) (l := TL.tl x) (acc := [])
  rw [← h.map, List.length_map] at this
  exact this
/-! ### numbers back -/
theorem val_snoc (m : List Nat) (c : Nat) : NumText.digitsVal (m ++ [c]) = NumText.digitsVal m * 10 + (c - 48) := by
  unfold NumText.digitsVal
  rw [List.foldl_append]
  rfl
theorem snocInd {P : List Nat → Prop} (h0 : P []) (h1 : ∀ m d, P m → P (m ++ [d])) (l : List Nat) : P l := by
  have : ∀ r : List Nat, P r.reverse := by
    intro r
    induction r with
    | nil => exact h0
    | cons a r ih =>
      rw [List.reverse_cons]
      exact h1 _ _ ih
  have z := this l.reverse
  rw [List.reverse_reverse] at z
  exact z
theorem val_pos : ∀ {l : List Nat} {c : Nat} {r : List Nat}, l = c :: r → NumText.AllDigits l → c ≠ 48 → 0 < NumText.digitsVal l := by
  intro l
  induction l using snocInd with
  | h0 => intro c r h; cases h
  | h1 m d ih =>
    intro c r h ha hc
    rw [val_snoc]
    have hd := ha d (by simp)
    cases m with
    | nil =>
      have e := List.cons.inj h
      have : d = c := e.1
      omega
    | cons a m =>
      have e := List.cons.inj h
      have e1 : a = c := e.1
      have := ih (c := a) (r := m) rfl (fun x hx => ha x (List.mem_append_left _ hx)) (by rw [e1]; exact hc)
      omega
theorem num_back : ∀ {l : List Nat}, NumText.AllDigits l → l ≠ [] → (l.head? ≠ some 48 ∨ l = [48]) → TL.numL (NumText.digitsVal l) = l := by
  intro l
  induction l using snocInd with
  | h0 => intro _ h; exact absurd rfl h
  | h1 m d ih =>
    intro ha hne h
    have hd := ha d (by simp)
    rw [val_snoc]
    cases m with
    | nil =>
      show TL.numL (0 * 10 + (d - 48)) = [d]
      rw [TL.numL_lt (by omega)]
      congr 1
      omega
    | cons a m =>
      have hm : NumText.AllDigits (a :: m) := fun x hx => ha x (List.mem_append_left _ hx)
      have a48 : a ≠ 48 := fun z => by
        rcases h with h | h
        · exact h (by rw [z]; rfl)
        · have := congrArg List.length h
          simp at this
      have p := val_pos (l := a :: m) rfl hm a48
      rw [TL.numL_step (by omega), show (NumText.digitsVal (a :: m) * 10 + (d - 48)) / 10 = NumText.digitsVal (a :: m) by omega, show 48 + (NumText.digitsVal (a :: m) * 10 + (d - 48)) % 10 = d by omega]
      rw [ih hm (by simp) (.inl (fun z => a48 (Option.some.inj z)))]
theorem consB_digits {x : Str} (h : consB x DIG = true) : NumText.AllDigits x.cps.toList ∧ x.cps.toList ≠ [] := by
  unfold consB at h
  rw [Bool.and_eq_true] at h
  refine ⟨fun c hc => in_dig.mp (of_decide_eq_true (List.all_eq_true.mp h.1 c hc)), fun z => ?_⟩
  have : x = ("" : Str) := TL.ext_tl (by show x.cps.toList = _; rw [z]; decide +kernel)
  rw [this] at h
  exact absurd h.2 (by decide)
theorem whole_back {x : Str} {m i : Int} (h : wholeO x m = some i) : nt i = x ∧ (x.length : Int) ≤ m ∧ 0 ≤ i := by
  unfold wholeO at h
  split at h
  · cases h
  · next c1 =>
    split at h
    · cases h
    · next c2 =>
      have e := (Option.some.inj h).symm
      have b1 : consB x DIG = true := by
        cases z : consB x DIG with
        | true => rfl
        | false => rw [z] at c1; simp at c1
      have b2 : (x.length : Int) ≤ m := by
        have : ¬ m < (x.length : Int) := fun z => c1 (by rw [decide_eq_true z]; rfl)
        omega
      obtain ⟨ha, hne⟩ := consB_digits b1
      subst e
      refine ⟨TL.ext_tl ?_, b2, by omega⟩
      rw [TL.tl_num]
      refine num_back ha hne ?_
      by_cases z : x.cps.toList.head? = some 48
      · right
        have z2 : x = ("0" : Str) := by
          by_cases z3 : x = ("0" : Str)
          · exact z3
          · exact absurd (by rw [decide_eq_true z, decide_eq_false z3]; rfl) c2
        rw [z2]
        decide +kernel
      · exact .inl z
/-! ### a line read, and written again -/
def readW : List Str → Option Job
  | [a, b, c, d] => match wholeO b 5, wholeO c 5, wholeO d 5 with
    | some x, some y, some z => if jobB a x y z = true then some ⟨a, x, y, z⟩ else none
    | _, _, _ => none
  | _ => none
theorem readJobO_eq (x : Str) : readJobO x = readW (Txt.split x (" " : Str)) := by
  unfold readJobO readW
  rfl
structure Good (j : Job) : Prop where
  n : j.n.length ≤ 8
  c : (nt j.c).length ≤ 5
  d : (nt j.d).length ≤ 5
  v : (nt j.w).length ≤ 5
  c0 : 0 ≤ j.c
  cd : j.c < j.d
  d1 : j.d ≤ 10000
  w0 : 1 ≤ j.w
  w1 : j.w ≤ 10000
theorem readW_back {ws : List Str} {j : Job} (h : readW ws = some j) : ws = [j.n, nt j.c, nt j.d, nt j.w] ∧ Good j := by
  unfold readW at h
  split at h
  · next a b c d =>
    split at h
    · next x y z e1 e2 e3 =>
      split at h
      · next hj =>
        have e := (Option.some.inj h).symm
        subst e
        obtain ⟨b1, l1, p1⟩ := whole_back e1
        obtain ⟨b2, l2, p2⟩ := whole_back e2
        obtain ⟨b3, l3, p3⟩ := whole_back e3
        unfold jobB nameB at hj
        simp only [Bool.and_eq_true, decide_eq_true_eq] at hj
        refine ⟨by show [a, b, c, d] = [a, nt x, nt y, nt z]; rw [b1, b2, b3], ?_, ?_, ?_, ?_, ?_, ?_, ?_, ?_, ?_⟩
        · show a.length ≤ 8
          omega
        · show (nt x).length ≤ 5
          rw [b1]; omega
        · show (nt y).length ≤ 5
          rw [b2]; omega
        · show (nt z).length ≤ 5
          rw [b3]; omega
        · exact p1
        · exact hj.2.1.1.2
        · exact hj.2.1.2
        · exact hj.2.2.1
        · exact hj.2.2.2
      · cases h
    · cases h
  · cases h
theorem line_back {x : Str} {j : Job} (h : readJobO x = some j) : lineB j = x := by
  rw [readJobO_eq] at h
  have e := sepS.join x
  rw [(readW_back h).1] at e
  rw [← e]
  apply TL.ext_tl
  rw [tl_lineB, TL.join_eq, TL.tl_join, tl_sp]
  simp [TL.joinL]
theorem text_join (js : List Job) : textOf js = Txt.join ("\n" : Str) (js.map lineB ++ [("" : Str)]) := by
  unfold textOf
  apply TL.ext_tl
  rw [TL.join_eq, TL.join_eq, TL.tl_join, TL.tl_join, tl_e, tl_nl, List.map_append, List.map_map, List.map_map]
  have z := join_nl (js.map fun j => TL.tl (lineB j))
  rw [List.map_map] at z
  have f : (fun j => TL.tl (lineT j)) = (fun j => TL.tl (lineB j) ++ [10]) := by
    funext j
    unfold lineT
    rw [TL.tl_append, tl_nl]
  show TL.joinL [] (js.map fun j => TL.tl (lineT j)) = TL.joinL [10] (js.map (fun j => TL.tl (lineB j)) ++ [TL.tl ("" : Str)])
  rw [f, tl_e]
  exact z
/-! ### the first wrong line -/
def headW (x : Str) : Str := (Txt.split x (" " : Str)).headD ("" : Str)
theorem head_of {x : Str} {j : Job} (h : readJobO x = some j) : headW x = j.n := by
  rw [readJobO_eq] at h
  unfold headW
  rw [(readW_back h).1]
  rfl
def badAt (ls : List Str) (i : Nat) : Bool :=
  match ls[i]? with
  | none => false
  | some x => match readJobO x with
    | none => true
    | some j => inV (.str j.n) ((ls.take i).map fun y => V.str (headW y)) || decide (12 ≤ i)
def firstBad (ls : List Str) : Option Nat := (List.range ls.length).find? (badAt ls)
theorem first_is {ls : List Str} {i : Nat} (h : badAt ls i = true) (n : ∀ m < i, badAt ls m = false) : firstBad ls = some i := by
  have hi : i < ls.length := by
    by_cases z : i < ls.length
    · exact z
    · unfold badAt at h
      rw [List.getElem?_eq_none (by omega)] at h
      cases h
  unfold firstBad
  rw [List.find?_eq_some_iff_append]
  refine ⟨h, List.range i, (List.range (ls.length - (i + 1))).map (fun k => i + 1 + k), ?_, fun m hm => ?_⟩
  · apply List.ext_getElem
    · simp
      omega
    · intro k h1 h2
      simp at h1
      by_cases hk : k < i
      · rw [List.getElem_append_left (by simpa using hk)]
        simp
      · by_cases hk2 : k = i
        · subst hk2
          rw [List.getElem_append_right (by simp)]
          simp
        · rw [List.getElem_append_right (by simp; omega)]
          simp only [List.length_range, List.getElem_range]
          rw [List.getElem_cons, dif_neg (by omega)]
          simp
          omega
  · rw [n m (List.mem_range.mp hm)]
    rfl
theorem first_no {ls : List Str} (n : ∀ m < ls.length, badAt ls m = false) : firstBad ls = none := by
  unfold firstBad
  rw [List.find?_eq_none]
  intro m hm
  rw [n m (List.mem_range.mp hm)]
  exact Bool.false_ne_true
def rest (text : Str) : Str := (Txt.split text ("\n" : Str)).getLastD ("" : Str)
def body (text : Str) : List Str := if rest text = ("" : Str) then (Txt.split text ("\n" : Str)).dropLast else Txt.split text ("\n" : Str)
def wrongO (text : Str) : Option Nat :=
  match firstBad (body text) with
  | some i => some (i + 1)
  | none => if rest text = ("" : Str) then none else some (body text).length
end Z

/-! An own error class over an own class over ValueError: def __init__(self, F): super().__init__(f'pre{F}suf'); self.F = F -/
namespace ZX
open PySem PySem.W PySem.Calls PyProof.Rows PySem.HandSPX
def eP (p1 p2 : Pos) : Arguments := { posonlyargs := [], args := [{ arg := "self", annotation := none, pos := p1 }, { arg := "line", annotation := none, pos := p2 }], vararg := none, kwonlyargs := [], kw_defaults := [], kwarg := none, defaults := [] }
abbrev eJ (pre suf : Str) (q3 q4 q5 q6 q7 : Pos) : Expr := .JoinedStr [.Constant (.str pre) 0 q3, .FormattedValue (.Name "line" q4) (-1) none q5, .Constant (.str suf) 0 q6] q7
abbrev eO (q0 q1 : Pos) : Expr := .Call (.Name "super" q0) [] [] q1
def eB (pre suf : Str) (q0 q1 q2 q3 q4 q5 q6 q7 q8 q9 r0 r1 r2 r3 : Pos) : List Stmt :=
  [.Expr (.Call (.Attribute (.Call (.Name "super" q0) [] [] q1) "__init__" q2) [.JoinedStr [.Constant (.str pre) 0 q3, .FormattedValue (.Name "line" q4) (-1) none q5, .Constant (.str suf) 0 q6] q7] [] q8) q9,
   .Assign [.Attribute (.Name "self" r0) "line" r1] (.Name "line" r2) r3]
def eS : Scope := { kind := .function, names := [(PySem.Str.ofString "self", .local), (PySem.Str.ofString "line", .local), (PySem.Str.ofString "__class__", .free), (PySem.Str.ofString "super", .globalImplicit)], isGenerator := false, isCoroutine := false, more := [] }
/-- what the written part says of the class at C, with the field F -/
structure ErrTxt (P : Program) (K : Frag) (mg : Str → Option Value) (C : Addr) (x pre suf qual : Str) : Prop where
  gC : mg x = some (.ref C)
  sup : mg "super" = none
  cls : ∃ nm q N bs bm sn sub ab col dd k0 k1 k2 k3 k5, K.lookup C = some (excClassObj nm q C N bs bm true sn sub ab col dd k0 k1 k2 k3 k5 "ValueError.__new__") ∧ refsVE bm = true ∧ alongIn K "__init__" bm = some (some (.builtin "ValueError.__init__"))
  sa : findIn K (.ref C) "__setattr__" = some (some (.builtin "object.__setattr__"))
  ga : findIn K (.ref C) "__getattribute__" = some (some (.builtin "BaseException.__getattribute__"))
  gg : findIn K (.ref C) "__getattr__" = some none
  noN : findIn K (.ref C) "line" = some none
  kC : keepIn K (.ref C) = true
  exC : subIn K (.ref C) (.type "BaseException") = some true
  veC : subIn K (.ref C) (.type "ValueError") = some true
  tyC : typeIn K (.ref C) = some (.type "type")
  hdC : hasDictIn K C = true
  self : mroIn K C (.ref C) = some true
  any : nsIn K cStatics "thirdparty.any" = some none
  top : (P.main.scope.names.lookup ("super" : Str)).isSome = false
  len : pre.length ≤ 1000 ∧ suf.length ≤ 1000
  fn : ∃ (fI cc cda : Addr) (oc : Value) (od : Option Addr) (doc pm : Value) (an : Option Addr) (ct : Value) (osl : Array (Option Value)) (p1 p2 q0 q1 q2 q3 q4 q5 q6 q7 q8 q9 r0 r1 r2 r3 : Pos) (cl ccl : Value) (cld cdd : Option Addr) (csl ccs : Array (Option Value)) (vs : Array Value) (file : Str) (tf : Tok),
    findIn K (.ref C) "__init__" = some (some (.ref fI)) ∧ typeIn K (.ref fI) = some (.type "function") ∧
    K.lookup fI = some ⟨oc, od, .func (fnX "__init__" qual (eP p1 p2) (eB pre suf q0 q1 q2 q3 q4 q5 q6 q7 q8 q9 r0 r1 r2 r3) eS [("__class__", cc)] .none .none doc pm an (.ref cda) ct), osl⟩ ∧ codeIn K (.ref cda) qual = true ∧
    K.lookup cc = some ⟨cl, cld, .cell (some (.ref C)), csl⟩ ∧ K.lookup cda = some ⟨ccl, cdd, .fields vs, ccs⟩ ∧ vs[2]? = some (.str file tf) ∧ ((P.main.file : Str) == file) = true ∧
    ∀ env : Env, ∃ pl : Sem Bool, eval (.Call (.Attribute (eO q0 q1) "__init__" q2) [eJ pre suf q3 q4 q5 q6 q7] [] q8) env = (do
      let ov ← attributeBase (eO q0 q1) "__init__" env (eval (eO q0 q1) env)
      standAt q2.atName
      let (f, first) ← holding [ov] (getMethod ov "__init__" pl)
      callWith q8 f first (backTo q8 (starEach [eJ pre suf q3 q4 q5 q6 q7] env)) [])
/-- a field that can be told: a number or a text -/
def Tell (v : Value) : Prop := (∃ i t, v = .int i t ∧ i.natAbs.log2 < 1000) ∨ ∃ y t, v = .str y t ∧ y.length ≤ 100000
/-- what __init__ leaves of a fresh exception at x -/
structure InitEnd (h h' : Heap) (x C dx t1 : Addr) (v : Value) : Prop where
  keep : ∀ b o, b ≠ x → h.get? b = some o → h'.get? b = some o
  obj : h'.get? x = some { cls := .ref C, dict := some dx, data := .fields #[.ref t1, .none, .none, .none, .bool false, .none] }
  dbig : h.objs.size ≤ dx
  dne : dx ≠ x
  ns : h'.Ns1 dx (fun y => if y = "line" then some v else none)
section
variable {prog : Program} {w : World} {A : Around} {E : Value → Shared → Prop} {s : Shared} {K : Frag} {mg : Str → Option Value} {C : Addr} {x pre suf qual : Str}
/-- the built-in __init__ that was bound to e is called -/
theorem bound_call {u e t0 : Addr} {rest : List Value} {h : Heap} {g : Array GenState} {d : Drawn} {t : Nat} {os : OsState} {Q : Value → Shared → Prop} {nm q : Str} {N : Addr} {bs bm : List Value} {hdct : Bool} {sn : List Str} {sub : List Value} {ab : Bool} {col : Option Bool} {dd : Option Addr} {k0 k1 k2 k3 k5 : Option Value}
    (hC : h.get? C = some (excClassObj nm q C N bs bm hdct sn sub ab col dd k0 k1 k2 k3 k5 "ValueError.__new__")) (he : h.get? e = some (excO C t0)) (hu : h.get? u = some (kxs_mw "ValueError.__init__" e)) (hz : rest.length ≤ sizeLine)
    (hq : ∀ h' t1, (∀ b o, b ≠ e → h.get? b = some o → h'.get? b = some o) → h'.get? e = some (excO C t1) → Q .none ⟨h', g, d, t, os⟩) : wpAny (model prog w) A (call (.ref u) rest) Q E ⟨h, g, d, t, os⟩ := by
  refine wpAny_call (codeAny_of_tree ?_)
  show wpAny _ A.in1 (callAny (.ref u) ⟨rest, []⟩) _ _ _
  simp only [callAny]
  refine wpAny_bind (wpAny_load hu ?_)
  simp only [kxs_mw, show (Value.type "method-wrapper" == Value.type "method" || Value.type "method-wrapper" == Value.type "builtin_function_or_method" || Value.type "method-wrapper" == Value.type "method-wrapper") = true by decide, if_true]
  refine KFB.if_so (by decide) ?_
  refine wpAny_bind (check_bound_init F.excBase_ValueError.toExcCallFacts hC he rfl ?_)
  refine wpAny_bind (wpAny_pure (wpAny_pure ?_))
  refine ⟨plainId_quiet F.excBase_ValueError.init.plain _, codeAny_builtin F.excBase_ValueError.initEntry ?_⟩
  exact exc_init_tree (cls := .ref C) (t0 := t0) (dv := none) (c2 := .none) (c3 := .none) (b4 := .bool false) he hz fun h' k e' _ => hq h' _ k e'
theorem err_init (T : ErrTxt prog K mg C x pre suf qual) {fI e t0 : Addr} {v : Value} {mb : Str → Option Value} {R : Result → Shared → Prop} (hfI : findIn K (.ref C) "__init__" = some (some (.ref fI))) (X : K.In s.heap) (hlim : s.heap.NoLimit)
    (hg : s.heap.Ns mainGlobals mg) (hb : s.heap.Ns builtinsNs mb) (hbv : mb "super" = bootBuiltins "super") (hx : s.heap.get? e = some (excO C t0)) (hnx : K.lookup e = none) (hroom : A.depth < recursionLimit) (ht : Tell v)
    (hq : ∀ h' tk dx t1, InitEnd s.heap h' e C dx t1 v → R (.ok (.ret .none)) { s with heap := h', toks := tk }) :
    codeAny (model prog w) A (.call (.ref fI) ⟨[.ref e, v], []⟩) R s := by
  obtain ⟨fI', cc, cda, oc, od, doc, pm, an, ct, osl, p1, p2, q0, q1, q2, q3, q4, q5, q6, q7, q8, q9, r0, r1, r2, r3, cl, ccl, cld, cdd, csl, ccs, vs, file, tf, hf, htf, ho, hcd, hcell, hcode, hvs, hfile, hMC⟩ := T.fn
  obtain rfl : fI = fI' := by
    rw [hfI] at hf
    cases hf
    rfl
  obtain ⟨nm, q, N, bs, bm, sn, sub, ab, col, dd, k0, k1, k2, k3, k5, hC, hbm, hal⟩ := T.cls
  have hcl : clsIn K C = some { name := nm, bases := bs, mro := .ref C :: bm, ns := N, qualname := q, hasDict := true, slotNames := sn, subclasses := sub, abstract := ab, collection := col, hasDel := false } := by unfold clsIn; rw [hC] <;> rfl
  obtain ⟨hp, g, d, t, os⟩ := s
  refine ks_codeAny_call_defAt (fd := fnX "__init__" qual (eP p1 p2) (eB pre suf q0 q1 q2 q3 q4 q5 q6 q7 q8 q9 r0 r1 r2 r3) eS [("__class__", cc)] .none .none doc pm an (.ref cda) ct) (body := eB pre suf q0 q1 q2 q3 q4 q5 q6 q7 q8 q9 r0 r1 r2 r3) (binds := [("self", .ref e), ("line", v)])
    hroom (X _ _ ho) rfl hlim (codeRec_of X hcd) rfl (BindsTo.of_eq (by first | rfl | with_unfolding_all rfl)) (show ∀ z ∈ eS.names, z.2 ≠ .cell by decide) (by intro y hy; simp only [List.mem_cons, List.not_mem_nil, or_false] at hy; rcases hy with rfl | rfl <;> rfl) (fun h₁ hns hk₁ => ?_) rfl rfl rfl
  have X₁ : K.In h₁ := X.keeps hk₁
  have hx₁ := hk₁ _ _ hx
  obtain ⟨pl, hMC⟩ := hMC (ksEnv qual eS hp.objs.size fI (.ref cda) cc)
  have ecall : (callEnv (fnX "__init__" qual (eP p1 p2) (eB pre suf q0 q1 q2 q3 q4 q5 q6 q7 q8 q9 r0 r1 r2 r3) eS [("__class__", cc)] .none .none doc pm an (.ref cda) ct) hp.objs.size fI) = ksEnv qual eS hp.objs.size fI (.ref cda) cc := rfl
  show _root_.PySem.wpAt _ (A.deeper (ksEnv qual eS hp.objs.size fI (.ref cda) cc)) (.func _ (ksEnv qual eS hp.objs.size fI (.ref cda) cc)) (execs _ (ksEnv qual eS hp.objs.size fI (.ref cda) cc)) _ _ _
  refine ks_wpAt_execs_cons (ks_wpAt_Expr_any (ks_wpAt_MethodCall (pl := pl) ?_ hMC))
  obtain ⟨oD, hD1, hD2⟩ : ∃ oD, h₁.get? C = some oD ∧ oD.data = .cls { name := nm, bases := bs, mro := .ref C :: bm, ns := N, qualname := q, hasDict := true, slotNames := sn, subclasses := sub, abstract := ab, collection := col, hasDel := false } := by
    unfold clsIn at hcl
    split at hcl
    · rename_i c d cd' sl ho
      cases hcl
      exact ⟨_, X₁ _ _ ho, rfl⟩
    · cases hcl
  have gl := hg.keeps hk₁
  have bl := hb.keeps hk₁
  refine ks_wpAt_super_base (env := ksEnv qual eS hp.objs.size fI (.ref cda) cc) (attr := "__init__") rfl rfl (by decide +kernel) rfl (X₁ _ _ ho) rfl rfl rfl (X₁ _ _ hcode) rfl hvs hfile T.top ?_
  refine ks_loadName_global rfl rfl (loadGlobal_builtin (env := ksEnv qual eS hp.objs.size fI (.ref cda) cc) gl T.sup bl (hbv.trans (show bootBuiltins "super" = some (.type "super") by decide +kernel)) ⟨rfl, ?_⟩)
  refine wpAny_loadName_free rfl rfl rfl ⟨_, X₁ _ _ hcell, rfl⟩ ?_
  refine wpAny_loadName_local (v := .ref e) rfl rfl hns (by first | rfl | with_unfolding_all rfl | kernel_rfl) ?_
  refine ks_wpAny_isType_cls hD1 hD2 ⟨rfl, ?_⟩
  refine ks_wpAny_call_super hD1 hD2 hx₁ rfl (fun c z => nomatch z) (looks_mroIn X₁ T.self) (fun h₂ hso k₂ => ?_)
  have X₂ : K.In h₂ := X₁.keeps k₂
  have hx₂ := k₂ _ _ hx₁
  have I₂ : InstAt h₂ e (excO C t0) C none := ⟨hx₂, rfl, rfl, trivial⟩
  have heC : e ≠ C := fun z => by
    rw [z, hC] at hnx
    cases hnx
  refine kxs_getMethod kxs_ValueError hso (looks_opaque X₂ T.any) (l₀ := .ref C :: bm) (l := bm) (fun A Q E s k q => wpAny_bind ((looks_clsIn X₂ hcl) A _ E s k (wpAny_pure q))) (by simp [List.dropWhile_cons]) X₂ hal (I₂.type.andThen (looks_subIn X₂ T.veC)) heC (by decide +kernel) ?_
  have k₃ : ∀ b o, h₂.get? b = some o → (h₂.push (kxs_mw "ValueError.__init__" e)).get? b = some o := fun b o z => Heap.get?_push_of_some _ z
  have hu : (h₂.push (kxs_mw "ValueError.__init__" e)).get? h₂.objs.size = some (kxs_mw "ValueError.__init__" e) := Heap.get?_push_size _ rfl
  have hns₃ := (hns.keeps k₂).keeps k₃
  have X₃ := X₂.keeps k₃
  have hx₃ := k₃ _ _ hx₂
  revert k₃ hu hns₃ X₃ hx₃
  generalize h₂.push (kxs_mw "ValueError.__init__" e) = h₃
  intro k₃ hu hns₃ X₃ hx₃
  refine kxs_callWith (i := "ValueError.__init__") (x := e) rfl ?_
  refine evalArgs_plain (Calls.spliced_cons ?_)
  have lk : sizeLine = 16777216 := sizeLine_eq
  have la : ∀ a b : Str, (a ++ b).length = a.length + b.length := fun a b => by
    show (a ++ b).cps.size = _
    rw [Str.cps_append, Array.size_append]
    rfl
  have l0 : Str.empty.length = 0 := by decide +kernel
  have hlen := T.len
  -- behind the text
  have fin : ∀ (y : Str) (tk : Tok) (t' : Nat), y.length ≤ 200000 → wpAny (model prog w) (A.deeper (ksEnv qual eS hp.objs.size fI (.ref cda) cc)) (spliced []) (fun vs s₂ => KxsAt "ValueError.__init__" h₂.objs.size e s₂.heap ∧
      wpAny (model prog w) (A.deeper (ksEnv qual eS hp.objs.size fI (.ref cda) cc)) (call (.ref h₂.objs.size) (.str y tk :: vs)) (fun _ s' => _root_.PySem.wpAt (model prog w) (A.deeper (ksEnv qual eS hp.objs.size fI (.ref cda) cc)) (.func (eB pre suf q0 q1 q2 q3 q4 q5 q6 q7 q8 q9 r0 r1 r2 r3) (ksEnv qual eS hp.objs.size fI (.ref cda) cc))
        (execs [.Assign [.Attribute (.Name "self" r0) "line" r1] (.Name "line" r2) r3] (ksEnv qual eS hp.objs.size fI (.ref cda) cc)) (fun f s' => R (.ok (.ret (match f with | .ret v => v | _ => .none))) s')
        (fun e s' => wpAny (model prog w) (A.deeper (ksEnv qual eS hp.objs.size fI (.ref cda) cc)) (leaving (ksEnv qual eS hp.objs.size fI (.ref cda) cc) e) (fun _ s'' => R (.error e) s'') (fun e' s'' => R (.error e') s'') s') s')
        (fun e s' => wpAny (model prog w) (A.deeper (ksEnv qual eS hp.objs.size fI (.ref cda) cc)) (leaving (ksEnv qual eS hp.objs.size fI (.ref cda) cc) e) (fun _ s'' => R (.error e) s'') (fun e' s'' => R (.error e') s'') s') s₂)
      (fun e s' => wpAny (model prog w) (A.deeper (ksEnv qual eS hp.objs.size fI (.ref cda) cc)) (leaving (ksEnv qual eS hp.objs.size fI (.ref cda) cc) e) (fun _ s'' => R (.error e) s'') (fun e' s'' => R (.error e') s'') s') ⟨h₃, g, d, t', os⟩ := by
    intro y tk t' hy
    refine Calls.spliced_nil ⟨hu, bound_call (X₃ _ _ hC) hx₃ hu (by show 1 ≤ sizeLine; omega) fun h₄ t1 k₄ hx₄ => ?_⟩
    have X₄ : K.In h₄ := fun a o z => k₄ a o (fun z2 => by rw [z2, hnx] at z; cases z) (X₃ a o z)
    have hL : hp.objs.size ≠ e := Nat.ne_of_gt (Heap.lt_size hx)
    have hns₄ : h₄.Ns hp.objs.size (fun x => ([(PySem.Str.ofString "self", Value.ref e), (PySem.Str.ofString "line", v)] : List (Str × Value)).reverse.lookup x) := by
      obtain ⟨o, es, ep, e1, r⟩ := hns₃
      exact ⟨o, es, ep, k₄ _ _ hL e1, r⟩
    refine wpAt_of_wpAny (wpAny_execs_cons (plainObj_wpAny_Assign_Attribute ?_))
    refine wpAny_Name (wpAny_loadName_local (v := v) rfl rfl hns₄ (by first | rfl | with_unfolding_all rfl | kernel_rfl) ?_) (by decide)
    refine wpAny_Name (wpAny_loadName_local (v := .ref e) rfl rfl hns₄ (by first | rfl | with_unfolding_all rfl | kernel_rfl) ?_) (by decide)
    refine set_plain X₄ (ox := excO C t1) (od := none) ⟨hx₄, rfl, rfl, trivial⟩ T.sa ?_
    refine exc_osa X₄ hx₄ hcl (show refsVE (.ref C :: bm) = true from hbm) rfl T.noN (fun h₅ tk₅ dx k₅ dn dne hx₅ hn₅ => ?_)
    refine wpAny_execs_nil (hq h₅ tk₅ dx t1 ⟨fun b o hb z => k₅ b o hb (k₄ b o hb (k₃ b o (k₂ b o (hk₁ b o z)))), hx₅, ?_, dne, hn₅⟩)
    have z : hp.objs.size < h₄.objs.size := hns₄.lt
    exact Nat.le_of_lt (Nat.lt_of_lt_of_le z dn)
  refine wpAny_JoinedStr (pos := q7) ?_
  refine Calls.Constant_str (pos := q3) ⟨pre, _, rfl, by rw [la]; omega, ?_⟩
  refine wpAny_FormattedValue_plain (pos := q5) ?_
  refine wpAny_Name (wpAny_loadName_local (v := v) rfl rfl hns₃ (by first | rfl | with_unfolding_all rfl | kernel_rfl) ?_) (by decide)
  rcases ht with ⟨i, ti, rfl, hi⟩ | ⟨y, ti, rfl, hy⟩
  · have li := PyProof.Rows.int_text_len_1921 (i := i) (by omega)
    refine wpAny_formatField_int (by omega) ⟨_, _, rfl, by simp only [la]; omega, ?_⟩
    refine Calls.Constant_str (pos := q6) ⟨suf, _, rfl, by simp only [la]; omega, ?_⟩
    refine ⟨by simp only [la]; omega, fin _ _ _ (by simp only [la]; omega)⟩
  · refine wpAny_formatField_str ⟨_, _, rfl, by simp only [la]; omega, ?_⟩ ⟨_, _, rfl, by simp only [la]; omega, ?_⟩ (by omega)
    · refine Calls.Constant_str (pos := q6) ⟨suf, _, rfl, by simp only [la]; omega, ?_⟩
      exact ⟨by simp only [la]; omega, fin _ _ _ (by simp only [la]; omega)⟩
    · refine Calls.Constant_str (pos := q6) ⟨suf, _, rfl, by simp only [la]; omega, ?_⟩
      exact ⟨by simp only [la]; omega, fin _ _ _ (by simp only [la]; omega)⟩
/-- such an error, made -/
structure Made (h h' : Heap) (e C d : Addr) (v : Value) : Prop where
  keep : ∀ b o, h.get? b = some o → h'.get? b = some o
  new : h.objs.size ≤ e
  obj : ∃ t1 : Addr, h'.get? e = some ({ cls := .ref C, dict := some d, data := .fields #[.ref t1, .none, .none, .none, .bool false, .none] } : Obj)
  dbig : h.objs.size ≤ d
  dne : d ≠ e
  ns : h'.Ns1 d (fun y => if y = "line" then some v else none)
theorem err_made (T : ErrTxt prog K mg C x pre suf qual) {v : Value} {mb : Str → Option Value} {R : Result → Shared → Prop} (X : K.In s.heap) (hlim : s.heap.NoLimit) (hg : s.heap.Ns mainGlobals mg) (hb : s.heap.Ns builtinsNs mb) (hbv : mb "super" = bootBuiltins "super")
    (hroom : A.depth + 1 < recursionLimit) (ht : Tell v) (hq : ∀ h' tk e d, Made s.heap h' e C d v → R (.ok (.ret (.ref e))) { s with heap := h', toks := tk }) :
    codeAny (model prog w) A (.call (.ref C) ⟨[v], []⟩) R s := by
  obtain ⟨nm, q, N, bs, bm, sn, sub, ab, col, dd, k0, k1, k2, k3, k5, hC, hbm, hal⟩ := T.cls
  obtain ⟨fI, cc, cda, oc, od, doc, pm, an, ct, osl, p1, p2, q0, q1, q2, q3, q4, q5, q6, q7, q8, q9, r0, r1, r2, r3, cl, ccl, cld, cdd, csl, ccs, vs, file, tf, hf, htf, _⟩ := T.fn
  obtain ⟨hp, g, d, t, os⟩ := s
  have k : ∀ b o, hp.get? b = some o → ((hp.push (kdv_tup [v])).push (excO C hp.objs.size)).get? b = some o := fun b o z => Heap.get?_push_of_some _ (Heap.get?_push_of_some _ z)
  have sz : (hp.push (kdv_tup [v])).objs.size = hp.objs.size + 1 := Heap.size_push ..
  have sz2 : ((hp.push (kdv_tup [v])).push (excO C hp.objs.size)).objs.size = hp.objs.size + 1 + 1 := by rw [Heap.size_push, sz]
  have at1 : ((hp.push (kdv_tup [v])).push (excO C hp.objs.size)).get? (hp.objs.size + 1) = some (excO C hp.objs.size) := by
    have z := Heap.get?_push_size (hp.push (kdv_tup [v])) (o := excO C hp.objs.size) rfl
    rw [sz] at z
    exact z
  have hnx : K.lookup (hp.objs.size + 1) = none := by
    cases z : K.lookup (hp.objs.size + 1) with
    | none => rfl
    | some o =>
      have z2 : hp.get? (hp.objs.size + 1) = some o := X _ _ z
      exact absurd (Nat.lt_of_succ_lt (Heap.lt_size z2)) (Nat.lt_irrefl _)
  refine call_own F.excBase_ValueError (fun Y => refsVE_contains Y bm hbm) (X _ _ hC) (looks_findIn X hf) (fun self => bind_fn X self htf) (by show 1 ≤ sizeLine; decide) ?_
  refine err_init (s := ⟨(hp.push (kdv_tup [v])).push (excO C hp.objs.size), g, d, t, os⟩) T hf (X.keeps k) (hlim.keeps k) (hg.keeps k) (hb.keeps k) hbv at1 hnx hroom ht fun h' tk dx t1 M => ?_
  refine ⟨rfl, hq h' tk (hp.objs.size + 1) dx ⟨fun b o z => M.keep b o (Nat.ne_of_lt (Nat.lt_succ_of_lt (Heap.lt_size z))) (k b o z), Nat.le_succ _, ⟨t1, M.obj⟩, ?_, M.dne, M.ns⟩⟩
  · have z : ((hp.push (kdv_tup [v])).push (excO C hp.objs.size)).objs.size ≤ dx := M.dbig
    show hp.objs.size ≤ dx
    omega
end
end ZX
namespace ZX
open PySem PySem.Spec PyProof.Rows L2
def TellV (y : V) : Prop := (∃ i, y = .int i ∧ i.natAbs.log2 < 1000) ∨ ∃ z, y = .str z ∧ z.length ≤ 100000
theorem TellV.rel {y : V} {v : Value} (h : TellV y) (r : RelV y v) : Tell v := by
  rcases h with ⟨i, rfl, hi⟩ | ⟨z, rfl, hz⟩
  · obtain ⟨t, rfl⟩ := r
    exact .inl ⟨i, t, rfl, hi⟩
  · obtain ⟨t, rfl⟩ := r
    exact .inr ⟨z, t, rfl, hz⟩
theorem relO_f {y : V} {v : Value} (r : RelV y v) (f : Str) : RelO (List.lookup f [(("line" : Str), y)]) (if f = "line" then some v else none) := by
  by_cases h : f = "line"
  · subst h
    rw [if_pos rfl]
    have q : List.lookup ("line" : Str) [(("line" : Str), y)] = some y := by simp [List.lookup]
    rw [q]
    exact r
  · have q : (f == ("line" : Str)) = false := by simpa using h
    have q2 : List.lookup f [(("line" : Str), y)] = none := by simp [List.lookup, q]
    rw [if_neg h, q2]
    trivial
section
variable {X : Cx} {C : Addr} {x pre suf qual : Str}
/-- C(e) -/
def tMk (C : Addr) (ta : TA) : L2.St → Hp → XK → Prop := fun σ H Q => ta σ H fun vs H1 => ∃ y, vs = [y] ∧ TellV y ∧ ∀ d, H1 d = none → Q (.ref C) (some d) (upd H1 d (.xd [(("line" : Str), y)]))
theorem pmk {a : Expr} {ta : TA} {p pos : Pos} {k : Nat} (T : ErrTxt X.prog X.K X.mg C x pre suf qual) (hr : Room k X.A) (hk : 1 ≤ k) (ha : PA X [a] ta) (hg : Gl X x) (hdb : (x == ("__debug__" : Str)) = false)
    (he : starEach (a :: []) X.env = (false, eval a X.env) :: starEach [] X.env := by rfl) (hpl : (backTo pos (starEach [] X.env)).any (·.1) = false := by rfl) :
    L2N.PMk X (.Call (.Name x p) [a] [] pos) (tMk C ta) := by
  intro pins s σ H Q I h
  refine wpAny_Call_Name_kw (ld_glob I hg T.gC ?_ hdb)
  refine PySem.W.callWith_K (h₀ := X.base) I.ok.mod.kin T.kC (thn (ha.run pos pins s σ H _ I h) fun us s1 hh => ?_) he hpl
  obtain ⟨vs, H1, I1, r1, y, ev, ty, q1⟩ := hh
  subst ev
  refine ⟨I1.kIn, ?_⟩
  cases r1 with
  | cons rv rn =>
    rename_i v us'
    cases rn
    show wpAny _ _ (call (.ref C) [v]) _ _ _
    obtain ⟨mb, hb1, hb2⟩ := I1.mod.blt
    have hgl := I1.mod.glob.keeps I1.bk
    have hbl := hb1.keeps I1.bk
    have hlim := I1.nolimit
    obtain ⟨hp, g, dr, tk, os⟩ := s1
    refine wpAny_call (err_made T I1.kIn hlim hgl hbl (hb2 _ (by decide +kernel)) (by have := hr.dp; omega) (ty.rel rv) fun h' tk' e d M => ?_)
    show L2N.MkP X pins σ Q (.ref e) ⟨h', g, dr, tk', os⟩
    obtain ⟨t1, hoe⟩ := M.obj
    obtain ⟨G, g1, g2⟩ := restrict h' fun b => decide (b ≠ e)
    have gk : ∀ b, b ≠ e → G.get? b = h'.get? b := fun b hb => g1 b (decide_eq_true hb)
    have ge : G.get? e = none := g2 e (by simp)
    have old : ∀ b o, hp.get? b = some o → G.get? b = some o := fun b o z => (gk b (Nat.ne_of_lt (Nat.lt_of_lt_of_le (Heap.lt_size z) M.new))).trans (M.keep b o z)
    have ob : ObjOk X.prog X.w (upd H1 d (.xd [(("line" : Str), y)])) G d (.xd [(("line" : Str), y)]) := ⟨_, M.ns.at (fun o z => (gk d M.dne).trans z), fun f => relO_f rv f⟩
    have J : Inv X pins σ (upd H1 d (.xd [(("line" : Str), y)])) ⟨G, g, dr, tk', os⟩ := I1.laid (t' := tk') old M.dbig ob
    refine ⟨e, _, _, ⟨G, g, dr, tk', os⟩, _, .ref C, some d, rfl, J, fun b o z => ?_, ge, hoe, ⟨rfl, rfl, fun vs e => by cases e; rfl⟩, rfl, rfl, ?_, rfl, I1.bare, raises_own T.exC T.tyC, q1 d (I1.hok.fresh M.dbig)⟩
    · by_cases hb : b = e
      · have z' : G.get? b = some o := z
        rw [hb, ge] at z'
        cases z'
      · exact (gk b hb).symm.trans z
    · rw [upd_ne (Ne.symm M.dne)]
      exact I1.hok.fresh M.new
/-- raise C(e) -/
def tRaise (C : Addr) (W : WX) (ta : TA) : TS := fun _ σ H => tMk C ta σ H fun cls d H' => W cls d σ H'
theorem ps_raiseE {a : Expr} {ta : TA} {W : WX} {p pos pos2 : Pos} {k : Nat} (hc : X.calm = true) (T : ErrTxt X.prog X.K X.mg C x pre suf qual) (hr : Room k X.A) (hk : 1 ≤ k) (tk : L2N.Takes X W) (ha : PA X [a] ta) (hg : Gl X x := by rfl) (hdb : (x == ("__debug__" : Str)) = false := by decide)
    (he : starEach (a :: []) X.env = (false, eval a X.env) :: starEach [] X.env := by rfl) (hpl : (backTo pos (starEach [] X.env)).any (·.1) = false := by rfl) :
    PS X (.Raise (some (.Call (.Name x p) [a] [] pos)) none pos2) (tRaise C W ta) := L2N.ps_raise hc tk (pmk T hr hk ha hg hdb he hpl)
/-- e.line, e the error that the suite holds (at a; its class cls, its dict d) -/
def tLine (C : Addr) (a : Addr) (cls : Value) (d : Option Addr) (te : TE) : TE := fun σ H Q => te σ H fun x H1 => x = .ref a ∧ cls = .ref C ∧ ∃ (dd : Addr) (v : V), d = some dd ∧ H1 dd = some (.xd [(("line" : Str), v)]) ∧ Q v H1
theorem pe_line {a : Addr} {oe : Obj} {cls : Value} {d : Option Addr} {pn : List (Addr × Obj)} {e : Expr} {te : TE} {pos : Pos} (T : ErrTxt X.prog X.K X.mg C x pre suf qual) (hz : Zc cls d oe) (hf : ∃ vs, oe.data = .fields vs) (he : PE (X.suite a ((a, oe) :: pn)) e te)
    (hb : attributeBase e "line" X.env (eval e X.env) = eval e X.env := by rfl) :
    PE (X.suite a ((a, oe) :: pn)) (.Attribute e "line" pos) (tLine C a cls d te) := by
  refine ⟨fun pins s σ H Q I h => ?_⟩
  refine attr_of hb (thn (he.run pins s σ H _ I h) fun u s1 hh => ?_)
  obtain ⟨y, H1, I1, rx, ex, ec, dd, v, ed, ea, q⟩ := hh
  subst ex
  obtain rfl : u = Value.ref a := rx
  subst ec
  subst ed
  obtain ⟨ha, _⟩ := I1.pin (a, oe) (List.mem_append_left _ List.mem_cons_self)
  obtain ⟨vs, hd⟩ := hf
  have hx : ObjOk X.prog X.w H1 s1.heap dd (.xd [(("line" : Str), v)]) := I1.hok dd _ ea
  obtain ⟨mA, hns, hr⟩ := hx
  obtain ⟨od, ho, hl⟩ := lookIn_ns hns
  have l : List.lookup ("line" : Str) [(("line" : Str), v)] = some v := by simp [List.lookup]
  obtain ⟨u, hu, ru⟩ := RelO.some_of (v := v) (o := mA "line") (by rw [← l]; exact hr "line")
  have J : PySem.W.InstAt s1.heap a oe C (some od) := ⟨ha, hz.1, by unfold PySem.W.notCls; rw [hd] <;> rfl, by rw [hz.2]; exact ho⟩
  exact HandSPX.exc_get I1.kIn J T.ga T.gg T.exC (PySem.W.findObj_own T.hdC T.noN rfl (by rw [hl, hu])) (handed_of ru) ⟨v, H1, I1.tok _, ru, q⟩
/-! ### isinstance(e, c), e the exception that the suite holds, with its own dict -/
structure IsC (K : PySem.W.Frag) (C : Addr) : Prop where
  cl : (PySem.W.clsIn K C).isSome = true
  ha : PySem.W.findIn K (.ref C) "__class__" = some (some (.builtin "object.__class__"))
  hn : PySem.W.specialIn K (.builtin "object.__class__") "__get__" = some (some (.builtin "getset_descriptor.__get__"))
  ht : PySem.W.takesIn K (.builtin "object.__class__") = some true
  hm : PySem.W.mroIn K C (.type "object") = some true
def rIsEd (K : PySem.W.Frag) (C a : Addr) (cls : Value) (d : Option Addr) : List V → Hp → VK → Prop := fun xs H Q => cls = .ref C ∧ ∃ (c : V) (cv : Value) (b : Bool) (dd : Addr) (fs : List (Str × V)), d = some dd ∧ H dd = some (.xd fs) ∧ xs = [.ref a, c] ∧
  (∀ u, RelV c u → u = cv) ∧ PySem.W.kitOne K (.ref C) cv = some b ∧ Q (.bl b) H
def rIsEt (K : PySem.W.Frag) (C a : Addr) (cls : Value) (d : Option Addr) : List V → Hp → VK → Prop := fun xs H Q => cls = .ref C ∧ ∃ (tp : Addr) (cs : List V) (us : List Value) (b : Bool) (dd : Addr) (fs : List (Str × V)), d = some dd ∧ H dd = some (.xd fs) ∧ xs = [.ref a, .ref tp] ∧
  H tp = some (.tup cs) ∧ (∀ its, Vals cs its → its = us) ∧ PySem.W.kitAny K (.ref C) us = some b ∧ Q (.bl b) H
theorem inst_at {K : PySem.W.Frag} {pins pn : List (Addr × Obj)} {σ : L2.St} {H : Hp} {s : Shared} {a : Addr} {oe : Obj} {dd : Addr} {fs : List (Str × V)} (I : Inv (X.suite a ((a, oe) :: pn)) pins σ H s) (hz : Zc (.ref C) (some dd) oe) (hf : ∃ vs, oe.data = .fields vs) (hd : H dd = some (.xd fs)) :
    ∃ od, PySem.W.InstAt s.heap a oe C (some od) := by
  obtain ⟨hget, _⟩ := I.pin (a, oe) (List.mem_append.mpr (.inl List.mem_cons_self))
  obtain ⟨vs, hv⟩ := hf
  have hx : ObjOk X.prog X.w H s.heap dd (.xd fs) := I.hok dd _ hd
  obtain ⟨mA, hns, _⟩ := hx
  obtain ⟨od, es, ep, ho, _⟩ := hns
  exact ⟨od, hget, hz.1, by unfold PySem.W.notCls; rw [hv] <;> rfl, by rw [hz.2]; exact ho⟩
theorem call_isEd {a : Addr} {oe : Obj} {cls : Value} {d : Option Addr} {pn : List (Addr × Obj)} (T : ErrTxt X.prog X.K X.mg C x pre suf qual) (S : IsC X.K C) (hz : Zc cls d oe) (hf : ∃ vs, oe.data = .fields vs) : CallR (X.suite a ((a, oe) :: pn)) (.builtin "isinstance") (rIsEd X.K C a cls d) := by
  intro pins s σ H xs us Q I r h
  obtain ⟨rfl, c, cv, b, dd, fs, rfl, hd, rfl, hcv, e, q⟩ := h
  cases r with
  | cons rx rr =>
    cases rr with
    | cons rt rr =>
      cases rr
      cases rx
      have ec := hcv _ rt
      subst ec
      obtain ⟨od, J⟩ := inst_at (K := X.K) I hz hf hd
      exact PySem.W.kia_one (PySem.W.kitx_exc S.cl T.ga T.gg T.exC S.ha S.hn S.ht S.hm) I.kIn J e (fun z => nomatch z) fun tk => ⟨.bl b, H, I.kept (t' := tk) fun _ _ z => z, rfl, q⟩
theorem call_isEt {a : Addr} {oe : Obj} {cls : Value} {d : Option Addr} {pn : List (Addr × Obj)} (T : ErrTxt X.prog X.K X.mg C x pre suf qual) (S : IsC X.K C) (hz : Zc cls d oe) (hf : ∃ vs, oe.data = .fields vs) : CallR (X.suite a ((a, oe) :: pn)) (.builtin "isinstance") (rIsEt X.K C a cls d) := by
  intro pins s σ H xs us Q I r h
  obtain ⟨rfl, tp, cs, ws, b, dd, fs, rfl, hd, rfl, ht, hus, e, q⟩ := h
  cases r with
  | cons rx rr =>
    cases rr with
    | cons rt rr =>
      cases rr
      cases rx
      cases rt
      obtain ⟨od, J⟩ := inst_at (K := X.K) I hz hf hd
      obtain ⟨_, its, rv, o, htp, hc, n, hdt⟩ := I.hok tp _ ht
      have := hus _ rv
      subst this
      obtain ⟨oc, odd, oda, osl⟩ := o
      dsimp only at hc hdt
      subst hc hdt
      exact PySem.W.kia_tup (PySem.W.kitx_exc S.cl T.ga T.gg T.exC S.ha S.hn S.ht S.hm) I.kIn J htp e (fun z => nomatch z) fun tk => ⟨.bl b, H, I.kept (t' := tk) fun _ _ z => z, rfl, q⟩
end
end ZX

/-! An own error class over an own class over ValueError: def __init__(self, F): super().__init__(f'pre{F}suf'); self.F = F -/
namespace ZXR
open PySem PySem.W PySem.Calls PyProof.Rows PySem.HandSPX
def eP (p1 p2 : Pos) : Arguments := { posonlyargs := [], args := [{ arg := "self", annotation := none, pos := p1 }, { arg := "reason", annotation := none, pos := p2 }], vararg := none, kwonlyargs := [], kw_defaults := [], kwarg := none, defaults := [] }
abbrev eJ (pre suf : Str) (q3 q4 q5 q6 q7 : Pos) : Expr := .JoinedStr [.Constant (.str pre) 0 q3, .FormattedValue (.Name "reason" q4) (-1) none q5] q7
abbrev eO (q0 q1 : Pos) : Expr := .Call (.Name "super" q0) [] [] q1
def eB (pre suf : Str) (q0 q1 q2 q3 q4 q5 q6 q7 q8 q9 r0 r1 r2 r3 : Pos) : List Stmt :=
  [.Expr (.Call (.Attribute (.Call (.Name "super" q0) [] [] q1) "__init__" q2) [.JoinedStr [.Constant (.str pre) 0 q3, .FormattedValue (.Name "reason" q4) (-1) none q5] q7] [] q8) q9,
   .Assign [.Attribute (.Name "self" r0) "reason" r1] (.Name "reason" r2) r3]
def eS : Scope := { kind := .function, names := [(PySem.Str.ofString "self", .local), (PySem.Str.ofString "reason", .local), (PySem.Str.ofString "__class__", .free), (PySem.Str.ofString "super", .globalImplicit)], isGenerator := false, isCoroutine := false, more := [] }
/-- what the written part says of the class at C, with the field F -/
structure ErrTxt (P : Program) (K : Frag) (mg : Str → Option Value) (C : Addr) (x pre suf qual : Str) : Prop where
  gC : mg x = some (.ref C)
  sup : mg "super" = none
  cls : ∃ nm q N bs bm sn sub ab col dd k0 k1 k2 k3 k5, K.lookup C = some (excClassObj nm q C N bs bm true sn sub ab col dd k0 k1 k2 k3 k5 "ValueError.__new__") ∧ refsVE bm = true ∧ alongIn K "__init__" bm = some (some (.builtin "ValueError.__init__"))
  sa : findIn K (.ref C) "__setattr__" = some (some (.builtin "object.__setattr__"))
  ga : findIn K (.ref C) "__getattribute__" = some (some (.builtin "BaseException.__getattribute__"))
  gg : findIn K (.ref C) "__getattr__" = some none
  noN : findIn K (.ref C) "reason" = some none
  kC : keepIn K (.ref C) = true
  exC : subIn K (.ref C) (.type "BaseException") = some true
  veC : subIn K (.ref C) (.type "ValueError") = some true
  tyC : typeIn K (.ref C) = some (.type "type")
  hdC : hasDictIn K C = true
  self : mroIn K C (.ref C) = some true
  any : nsIn K cStatics "thirdparty.any" = some none
  top : (P.main.scope.names.lookup ("super" : Str)).isSome = false
  len : pre.length ≤ 1000 ∧ suf.length ≤ 1000
  fn : ∃ (fI cc cda : Addr) (oc : Value) (od : Option Addr) (doc pm : Value) (an : Option Addr) (ct : Value) (osl : Array (Option Value)) (p1 p2 q0 q1 q2 q3 q4 q5 q6 q7 q8 q9 r0 r1 r2 r3 : Pos) (cl ccl : Value) (cld cdd : Option Addr) (csl ccs : Array (Option Value)) (vs : Array Value) (file : Str) (tf : Tok),
    findIn K (.ref C) "__init__" = some (some (.ref fI)) ∧ typeIn K (.ref fI) = some (.type "function") ∧
    K.lookup fI = some ⟨oc, od, .func (fnX "__init__" qual (eP p1 p2) (eB pre suf q0 q1 q2 q3 q4 q5 q6 q7 q8 q9 r0 r1 r2 r3) eS [("__class__", cc)] .none .none doc pm an (.ref cda) ct), osl⟩ ∧ codeIn K (.ref cda) qual = true ∧
    K.lookup cc = some ⟨cl, cld, .cell (some (.ref C)), csl⟩ ∧ K.lookup cda = some ⟨ccl, cdd, .fields vs, ccs⟩ ∧ vs[2]? = some (.str file tf) ∧ ((P.main.file : Str) == file) = true ∧
    ∀ env : Env, ∃ pl : Sem Bool, eval (.Call (.Attribute (eO q0 q1) "__init__" q2) [eJ pre suf q3 q4 q5 q6 q7] [] q8) env = (do
      let ov ← attributeBase (eO q0 q1) "__init__" env (eval (eO q0 q1) env)
      standAt q2.atName
      let (f, first) ← holding [ov] (getMethod ov "__init__" pl)
      callWith q8 f first (backTo q8 (starEach [eJ pre suf q3 q4 q5 q6 q7] env)) [])
/-- a field that can be told: a number or a text -/
def Tell (v : Value) : Prop := (∃ i t, v = .int i t ∧ i.natAbs.log2 < 1000) ∨ ∃ y t, v = .str y t ∧ y.length ≤ 100000
/-- what __init__ leaves of a fresh exception at x -/
structure InitEnd (h h' : Heap) (x C dx t1 : Addr) (v : Value) : Prop where
  keep : ∀ b o, b ≠ x → h.get? b = some o → h'.get? b = some o
  obj : h'.get? x = some { cls := .ref C, dict := some dx, data := .fields #[.ref t1, .none, .none, .none, .bool false, .none] }
  dbig : h.objs.size ≤ dx
  dne : dx ≠ x
  ns : h'.Ns1 dx (fun y => if y = "reason" then some v else none)
section
variable {prog : Program} {w : World} {A : Around} {E : Value → Shared → Prop} {s : Shared} {K : Frag} {mg : Str → Option Value} {C : Addr} {x pre suf qual : Str}
/-- the built-in __init__ that was bound to e is called -/
theorem bound_call {u e t0 : Addr} {rest : List Value} {h : Heap} {g : Array GenState} {d : Drawn} {t : Nat} {os : OsState} {Q : Value → Shared → Prop} {nm q : Str} {N : Addr} {bs bm : List Value} {hdct : Bool} {sn : List Str} {sub : List Value} {ab : Bool} {col : Option Bool} {dd : Option Addr} {k0 k1 k2 k3 k5 : Option Value}
    (hC : h.get? C = some (excClassObj nm q C N bs bm hdct sn sub ab col dd k0 k1 k2 k3 k5 "ValueError.__new__")) (he : h.get? e = some (excO C t0)) (hu : h.get? u = some (kxs_mw "ValueError.__init__" e)) (hz : rest.length ≤ sizeLine)
    (hq : ∀ h' t1, (∀ b o, b ≠ e → h.get? b = some o → h'.get? b = some o) → h'.get? e = some (excO C t1) → Q .none ⟨h', g, d, t, os⟩) : wpAny (model prog w) A (call (.ref u) rest) Q E ⟨h, g, d, t, os⟩ := by
  refine wpAny_call (codeAny_of_tree ?_)
  show wpAny _ A.in1 (callAny (.ref u) ⟨rest, []⟩) _ _ _
  simp only [callAny]
  refine wpAny_bind (wpAny_load hu ?_)
  simp only [kxs_mw, show (Value.type "method-wrapper" == Value.type "method" || Value.type "method-wrapper" == Value.type "builtin_function_or_method" || Value.type "method-wrapper" == Value.type "method-wrapper") = true by decide, if_true]
  refine KFB.if_so (by decide) ?_
  refine wpAny_bind (check_bound_init F.excBase_ValueError.toExcCallFacts hC he rfl ?_)
  refine wpAny_bind (wpAny_pure (wpAny_pure ?_))
  refine ⟨plainId_quiet F.excBase_ValueError.init.plain _, codeAny_builtin F.excBase_ValueError.initEntry ?_⟩
  exact exc_init_tree (cls := .ref C) (t0 := t0) (dv := none) (c2 := .none) (c3 := .none) (b4 := .bool false) he hz fun h' k e' _ => hq h' _ k e'
theorem err_init (T : ErrTxt prog K mg C x pre suf qual) {fI e t0 : Addr} {v : Value} {mb : Str → Option Value} {R : Result → Shared → Prop} (hfI : findIn K (.ref C) "__init__" = some (some (.ref fI))) (X : K.In s.heap) (hlim : s.heap.NoLimit)
    (hg : s.heap.Ns mainGlobals mg) (hb : s.heap.Ns builtinsNs mb) (hbv : mb "super" = bootBuiltins "super") (hx : s.heap.get? e = some (excO C t0)) (hnx : K.lookup e = none) (hroom : A.depth < recursionLimit) (ht : Tell v)
    (hq : ∀ h' tk dx t1, InitEnd s.heap h' e C dx t1 v → R (.ok (.ret .none)) { s with heap := h', toks := tk }) :
    codeAny (model prog w) A (.call (.ref fI) ⟨[.ref e, v], []⟩) R s := by
  obtain ⟨fI', cc, cda, oc, od, doc, pm, an, ct, osl, p1, p2, q0, q1, q2, q3, q4, q5, q6, q7, q8, q9, r0, r1, r2, r3, cl, ccl, cld, cdd, csl, ccs, vs, file, tf, hf, htf, ho, hcd, hcell, hcode, hvs, hfile, hMC⟩ := T.fn
  obtain rfl : fI = fI' := by
    rw [hfI] at hf
    cases hf
    rfl
  obtain ⟨nm, q, N, bs, bm, sn, sub, ab, col, dd, k0, k1, k2, k3, k5, hC, hbm, hal⟩ := T.cls
  have hcl : clsIn K C = some { name := nm, bases := bs, mro := .ref C :: bm, ns := N, qualname := q, hasDict := true, slotNames := sn, subclasses := sub, abstract := ab, collection := col, hasDel := false } := by unfold clsIn; rw [hC] <;> rfl
  obtain ⟨hp, g, d, t, os⟩ := s
  refine ks_codeAny_call_defAt (fd := fnX "__init__" qual (eP p1 p2) (eB pre suf q0 q1 q2 q3 q4 q5 q6 q7 q8 q9 r0 r1 r2 r3) eS [("__class__", cc)] .none .none doc pm an (.ref cda) ct) (body := eB pre suf q0 q1 q2 q3 q4 q5 q6 q7 q8 q9 r0 r1 r2 r3) (binds := [("self", .ref e), ("reason", v)])
    hroom (X _ _ ho) rfl hlim (codeRec_of X hcd) rfl (BindsTo.of_eq (by first | rfl | with_unfolding_all rfl)) (show ∀ z ∈ eS.names, z.2 ≠ .cell by decide) (by intro y hy; simp only [List.mem_cons, List.not_mem_nil, or_false] at hy; rcases hy with rfl | rfl <;> rfl) (fun h₁ hns hk₁ => ?_) rfl rfl rfl
  have X₁ : K.In h₁ := X.keeps hk₁
  have hx₁ := hk₁ _ _ hx
  obtain ⟨pl, hMC⟩ := hMC (ksEnv qual eS hp.objs.size fI (.ref cda) cc)
  have ecall : (callEnv (fnX "__init__" qual (eP p1 p2) (eB pre suf q0 q1 q2 q3 q4 q5 q6 q7 q8 q9 r0 r1 r2 r3) eS [("__class__", cc)] .none .none doc pm an (.ref cda) ct) hp.objs.size fI) = ksEnv qual eS hp.objs.size fI (.ref cda) cc := rfl
  show _root_.PySem.wpAt _ (A.deeper (ksEnv qual eS hp.objs.size fI (.ref cda) cc)) (.func _ (ksEnv qual eS hp.objs.size fI (.ref cda) cc)) (execs _ (ksEnv qual eS hp.objs.size fI (.ref cda) cc)) _ _ _
  refine ks_wpAt_execs_cons (ks_wpAt_Expr_any (ks_wpAt_MethodCall (pl := pl) ?_ hMC))
  obtain ⟨oD, hD1, hD2⟩ : ∃ oD, h₁.get? C = some oD ∧ oD.data = .cls { name := nm, bases := bs, mro := .ref C :: bm, ns := N, qualname := q, hasDict := true, slotNames := sn, subclasses := sub, abstract := ab, collection := col, hasDel := false } := by
    unfold clsIn at hcl
    split at hcl
    · rename_i c d cd' sl ho
      cases hcl
      exact ⟨_, X₁ _ _ ho, rfl⟩
    · cases hcl
  have gl := hg.keeps hk₁
  have bl := hb.keeps hk₁
  refine ks_wpAt_super_base (env := ksEnv qual eS hp.objs.size fI (.ref cda) cc) (attr := "__init__") rfl rfl (by decide +kernel) rfl (X₁ _ _ ho) rfl rfl rfl (X₁ _ _ hcode) rfl hvs hfile T.top ?_
  refine ks_loadName_global rfl rfl (loadGlobal_builtin (env := ksEnv qual eS hp.objs.size fI (.ref cda) cc) gl T.sup bl (hbv.trans (show bootBuiltins "super" = some (.type "super") by decide +kernel)) ⟨rfl, ?_⟩)
  refine wpAny_loadName_free rfl rfl rfl ⟨_, X₁ _ _ hcell, rfl⟩ ?_
  refine wpAny_loadName_local (v := .ref e) rfl rfl hns (by first | rfl | with_unfolding_all rfl | kernel_rfl) ?_
  refine ks_wpAny_isType_cls hD1 hD2 ⟨rfl, ?_⟩
  refine ks_wpAny_call_super hD1 hD2 hx₁ rfl (fun c z => nomatch z) (looks_mroIn X₁ T.self) (fun h₂ hso k₂ => ?_)
  have X₂ : K.In h₂ := X₁.keeps k₂
  have hx₂ := k₂ _ _ hx₁
  have I₂ : InstAt h₂ e (excO C t0) C none := ⟨hx₂, rfl, rfl, trivial⟩
  have heC : e ≠ C := fun z => by
    rw [z, hC] at hnx
    cases hnx
  refine kxs_getMethod kxs_ValueError hso (looks_opaque X₂ T.any) (l₀ := .ref C :: bm) (l := bm) (fun A Q E s k q => wpAny_bind ((looks_clsIn X₂ hcl) A _ E s k (wpAny_pure q))) (by simp [List.dropWhile_cons]) X₂ hal (I₂.type.andThen (looks_subIn X₂ T.veC)) heC (by decide +kernel) ?_
  have k₃ : ∀ b o, h₂.get? b = some o → (h₂.push (kxs_mw "ValueError.__init__" e)).get? b = some o := fun b o z => Heap.get?_push_of_some _ z
  have hu : (h₂.push (kxs_mw "ValueError.__init__" e)).get? h₂.objs.size = some (kxs_mw "ValueError.__init__" e) := Heap.get?_push_size _ rfl
  have hns₃ := (hns.keeps k₂).keeps k₃
  have X₃ := X₂.keeps k₃
  have hx₃ := k₃ _ _ hx₂
  revert k₃ hu hns₃ X₃ hx₃
  generalize h₂.push (kxs_mw "ValueError.__init__" e) = h₃
  intro k₃ hu hns₃ X₃ hx₃
  refine kxs_callWith (i := "ValueError.__init__") (x := e) rfl ?_
  refine evalArgs_plain (Calls.spliced_cons ?_)
  have lk : sizeLine = 16777216 := sizeLine_eq
  have la : ∀ a b : Str, (a ++ b).length = a.length + b.length := fun a b => by
    show (a ++ b).cps.size = _
    rw [Str.cps_append, Array.size_append]
    rfl
  have l0 : Str.empty.length = 0 := by decide +kernel
  have hlen := T.len
  -- behind the text
  have fin : ∀ (y : Str) (tk : Tok) (t' : Nat), y.length ≤ 200000 → wpAny (model prog w) (A.deeper (ksEnv qual eS hp.objs.size fI (.ref cda) cc)) (spliced []) (fun vs s₂ => KxsAt "ValueError.__init__" h₂.objs.size e s₂.heap ∧
      wpAny (model prog w) (A.deeper (ksEnv qual eS hp.objs.size fI (.ref cda) cc)) (call (.ref h₂.objs.size) (.str y tk :: vs)) (fun _ s' => _root_.PySem.wpAt (model prog w) (A.deeper (ksEnv qual eS hp.objs.size fI (.ref cda) cc)) (.func (eB pre suf q0 q1 q2 q3 q4 q5 q6 q7 q8 q9 r0 r1 r2 r3) (ksEnv qual eS hp.objs.size fI (.ref cda) cc))
        (execs [.Assign [.Attribute (.Name "self" r0) "reason" r1] (.Name "reason" r2) r3] (ksEnv qual eS hp.objs.size fI (.ref cda) cc)) (fun f s' => R (.ok (.ret (match f with | .ret v => v | _ => .none))) s')
        (fun e s' => wpAny (model prog w) (A.deeper (ksEnv qual eS hp.objs.size fI (.ref cda) cc)) (leaving (ksEnv qual eS hp.objs.size fI (.ref cda) cc) e) (fun _ s'' => R (.error e) s'') (fun e' s'' => R (.error e') s'') s') s')
        (fun e s' => wpAny (model prog w) (A.deeper (ksEnv qual eS hp.objs.size fI (.ref cda) cc)) (leaving (ksEnv qual eS hp.objs.size fI (.ref cda) cc) e) (fun _ s'' => R (.error e) s'') (fun e' s'' => R (.error e') s'') s') s₂)
      (fun e s' => wpAny (model prog w) (A.deeper (ksEnv qual eS hp.objs.size fI (.ref cda) cc)) (leaving (ksEnv qual eS hp.objs.size fI (.ref cda) cc) e) (fun _ s'' => R (.error e) s'') (fun e' s'' => R (.error e') s'') s') ⟨h₃, g, d, t', os⟩ := by
    intro y tk t' hy
    refine Calls.spliced_nil ⟨hu, bound_call (X₃ _ _ hC) hx₃ hu (by show 1 ≤ sizeLine; omega) fun h₄ t1 k₄ hx₄ => ?_⟩
    have X₄ : K.In h₄ := fun a o z => k₄ a o (fun z2 => by rw [z2, hnx] at z; cases z) (X₃ a o z)
    have hL : hp.objs.size ≠ e := Nat.ne_of_gt (Heap.lt_size hx)
    have hns₄ : h₄.Ns hp.objs.size (fun x => ([(PySem.Str.ofString "self", Value.ref e), (PySem.Str.ofString "reason", v)] : List (Str × Value)).reverse.lookup x) := by
      obtain ⟨o, es, ep, e1, r⟩ := hns₃
      exact ⟨o, es, ep, k₄ _ _ hL e1, r⟩
    refine wpAt_of_wpAny (wpAny_execs_cons (plainObj_wpAny_Assign_Attribute ?_))
    refine wpAny_Name (wpAny_loadName_local (v := v) rfl rfl hns₄ (by first | rfl | with_unfolding_all rfl | kernel_rfl) ?_) (by decide)
    refine wpAny_Name (wpAny_loadName_local (v := .ref e) rfl rfl hns₄ (by first | rfl | with_unfolding_all rfl | kernel_rfl) ?_) (by decide)
    refine set_plain X₄ (ox := excO C t1) (od := none) ⟨hx₄, rfl, rfl, trivial⟩ T.sa ?_
    refine exc_osa X₄ hx₄ hcl (show refsVE (.ref C :: bm) = true from hbm) rfl T.noN (fun h₅ tk₅ dx k₅ dn dne hx₅ hn₅ => ?_)
    refine wpAny_execs_nil (hq h₅ tk₅ dx t1 ⟨fun b o hb z => k₅ b o hb (k₄ b o hb (k₃ b o (k₂ b o (hk₁ b o z)))), hx₅, ?_, dne, hn₅⟩)
    have z : hp.objs.size < h₄.objs.size := hns₄.lt
    exact Nat.le_of_lt (Nat.lt_of_lt_of_le z dn)
  refine wpAny_JoinedStr (pos := q7) ?_
  refine Calls.Constant_str (pos := q3) ⟨pre, _, rfl, by rw [la]; omega, ?_⟩
  refine wpAny_FormattedValue_plain (pos := q5) ?_
  refine wpAny_Name (wpAny_loadName_local (v := v) rfl rfl hns₃ (by first | rfl | with_unfolding_all rfl | kernel_rfl) ?_) (by decide)
  rcases ht with ⟨i, ti, rfl, hi⟩ | ⟨y, ti, rfl, hy⟩
  · have li := PyProof.Rows.int_text_len_1921 (i := i) (by omega)
    refine wpAny_formatField_int (by omega) ⟨_, _, rfl, by simp only [la]; omega, ?_⟩
    refine ⟨by simp only [la]; omega, fin _ _ _ (by simp only [la]; omega)⟩
  · refine wpAny_formatField_str ⟨_, _, rfl, by simp only [la]; omega, ?_⟩ ⟨_, _, rfl, by simp only [la]; omega, ?_⟩ (by omega)
    · exact ⟨by simp only [la]; omega, fin _ _ _ (by simp only [la]; omega)⟩
    · exact ⟨by simp only [la]; omega, fin _ _ _ (by simp only [la]; omega)⟩
/-- such an error, made -/
structure Made (h h' : Heap) (e C d : Addr) (v : Value) : Prop where
  keep : ∀ b o, h.get? b = some o → h'.get? b = some o
  new : h.objs.size ≤ e
  obj : ∃ t1 : Addr, h'.get? e = some ({ cls := .ref C, dict := some d, data := .fields #[.ref t1, .none, .none, .none, .bool false, .none] } : Obj)
  dbig : h.objs.size ≤ d
  dne : d ≠ e
  ns : h'.Ns1 d (fun y => if y = "reason" then some v else none)
theorem err_made (T : ErrTxt prog K mg C x pre suf qual) {v : Value} {mb : Str → Option Value} {R : Result → Shared → Prop} (X : K.In s.heap) (hlim : s.heap.NoLimit) (hg : s.heap.Ns mainGlobals mg) (hb : s.heap.Ns builtinsNs mb) (hbv : mb "super" = bootBuiltins "super")
    (hroom : A.depth + 1 < recursionLimit) (ht : Tell v) (hq : ∀ h' tk e d, Made s.heap h' e C d v → R (.ok (.ret (.ref e))) { s with heap := h', toks := tk }) :
    codeAny (model prog w) A (.call (.ref C) ⟨[v], []⟩) R s := by
  obtain ⟨nm, q, N, bs, bm, sn, sub, ab, col, dd, k0, k1, k2, k3, k5, hC, hbm, hal⟩ := T.cls
  obtain ⟨fI, cc, cda, oc, od, doc, pm, an, ct, osl, p1, p2, q0, q1, q2, q3, q4, q5, q6, q7, q8, q9, r0, r1, r2, r3, cl, ccl, cld, cdd, csl, ccs, vs, file, tf, hf, htf, _⟩ := T.fn
  obtain ⟨hp, g, d, t, os⟩ := s
  have k : ∀ b o, hp.get? b = some o → ((hp.push (kdv_tup [v])).push (excO C hp.objs.size)).get? b = some o := fun b o z => Heap.get?_push_of_some _ (Heap.get?_push_of_some _ z)
  have sz : (hp.push (kdv_tup [v])).objs.size = hp.objs.size + 1 := Heap.size_push ..
  have sz2 : ((hp.push (kdv_tup [v])).push (excO C hp.objs.size)).objs.size = hp.objs.size + 1 + 1 := by rw [Heap.size_push, sz]
  have at1 : ((hp.push (kdv_tup [v])).push (excO C hp.objs.size)).get? (hp.objs.size + 1) = some (excO C hp.objs.size) := by
    have z := Heap.get?_push_size (hp.push (kdv_tup [v])) (o := excO C hp.objs.size) rfl
    rw [sz] at z
    exact z
  have hnx : K.lookup (hp.objs.size + 1) = none := by
    cases z : K.lookup (hp.objs.size + 1) with
    | none => rfl
    | some o =>
      have z2 : hp.get? (hp.objs.size + 1) = some o := X _ _ z
      exact absurd (Nat.lt_of_succ_lt (Heap.lt_size z2)) (Nat.lt_irrefl _)
  refine call_own F.excBase_ValueError (fun Y => refsVE_contains Y bm hbm) (X _ _ hC) (looks_findIn X hf) (fun self => bind_fn X self htf) (by show 1 ≤ sizeLine; decide) ?_
  refine err_init (s := ⟨(hp.push (kdv_tup [v])).push (excO C hp.objs.size), g, d, t, os⟩) T hf (X.keeps k) (hlim.keeps k) (hg.keeps k) (hb.keeps k) hbv at1 hnx hroom ht fun h' tk dx t1 M => ?_
  refine ⟨rfl, hq h' tk (hp.objs.size + 1) dx ⟨fun b o z => M.keep b o (Nat.ne_of_lt (Nat.lt_succ_of_lt (Heap.lt_size z))) (k b o z), Nat.le_succ _, ⟨t1, M.obj⟩, ?_, M.dne, M.ns⟩⟩
  · have z : ((hp.push (kdv_tup [v])).push (excO C hp.objs.size)).objs.size ≤ dx := M.dbig
    show hp.objs.size ≤ dx
    omega
end
end ZXR
namespace ZXR
open PySem PySem.Spec PyProof.Rows L2
def TellV (y : V) : Prop := (∃ i, y = .int i ∧ i.natAbs.log2 < 1000) ∨ ∃ z, y = .str z ∧ z.length ≤ 100000
theorem TellV.rel {y : V} {v : Value} (h : TellV y) (r : RelV y v) : Tell v := by
  rcases h with ⟨i, rfl, hi⟩ | ⟨z, rfl, hz⟩
  · obtain ⟨t, rfl⟩ := r
    exact .inl ⟨i, t, rfl, hi⟩
  · obtain ⟨t, rfl⟩ := r
    exact .inr ⟨z, t, rfl, hz⟩
theorem relO_f {y : V} {v : Value} (r : RelV y v) (f : Str) : RelO (List.lookup f [(("reason" : Str), y)]) (if f = "reason" then some v else none) := by
  by_cases h : f = "reason"
  · subst h
    rw [if_pos rfl]
    have q : List.lookup ("reason" : Str) [(("reason" : Str), y)] = some y := by simp [List.lookup]
    rw [q]
    exact r
  · have q : (f == ("reason" : Str)) = false := by simpa using h
    have q2 : List.lookup f [(("reason" : Str), y)] = none := by simp [List.lookup, q]
    rw [if_neg h, q2]
    trivial
section
variable {X : Cx} {C : Addr} {x pre suf qual : Str}
/-- C(e) -/
def tMk (C : Addr) (ta : TA) : L2.St → Hp → XK → Prop := fun σ H Q => ta σ H fun vs H1 => ∃ y, vs = [y] ∧ TellV y ∧ ∀ d, H1 d = none → Q (.ref C) (some d) (upd H1 d (.xd [(("reason" : Str), y)]))
theorem pmk {a : Expr} {ta : TA} {p pos : Pos} {k : Nat} (T : ErrTxt X.prog X.K X.mg C x pre suf qual) (hr : Room k X.A) (hk : 1 ≤ k) (ha : PA X [a] ta) (hg : Gl X x) (hdb : (x == ("__debug__" : Str)) = false)
    (he : starEach (a :: []) X.env = (false, eval a X.env) :: starEach [] X.env := by rfl) (hpl : (backTo pos (starEach [] X.env)).any (·.1) = false := by rfl) :
    L2N.PMk X (.Call (.Name x p) [a] [] pos) (tMk C ta) := by
  intro pins s σ H Q I h
  refine wpAny_Call_Name_kw (ld_glob I hg T.gC ?_ hdb)
  refine PySem.W.callWith_K (h₀ := X.base) I.ok.mod.kin T.kC (thn (ha.run pos pins s σ H _ I h) fun us s1 hh => ?_) he hpl
  obtain ⟨vs, H1, I1, r1, y, ev, ty, q1⟩ := hh
  subst ev
  refine ⟨I1.kIn, ?_⟩
  cases r1 with
  | cons rv rn =>
    rename_i v us'
    cases rn
    show wpAny _ _ (call (.ref C) [v]) _ _ _
    obtain ⟨mb, hb1, hb2⟩ := I1.mod.blt
    have hgl := I1.mod.glob.keeps I1.bk
    have hbl := hb1.keeps I1.bk
    have hlim := I1.nolimit
    obtain ⟨hp, g, dr, tk, os⟩ := s1
    refine wpAny_call (err_made T I1.kIn hlim hgl hbl (hb2 _ (by decide +kernel)) (by have := hr.dp; omega) (ty.rel rv) fun h' tk' e d M => ?_)
    show L2N.MkP X pins σ Q (.ref e) ⟨h', g, dr, tk', os⟩
    obtain ⟨t1, hoe⟩ := M.obj
    obtain ⟨G, g1, g2⟩ := restrict h' fun b => decide (b ≠ e)
    have gk : ∀ b, b ≠ e → G.get? b = h'.get? b := fun b hb => g1 b (decide_eq_true hb)
    have ge : G.get? e = none := g2 e (by simp)
    have old : ∀ b o, hp.get? b = some o → G.get? b = some o := fun b o z => (gk b (Nat.ne_of_lt (Nat.lt_of_lt_of_le (Heap.lt_size z) M.new))).trans (M.keep b o z)
    have ob : ObjOk X.prog X.w (upd H1 d (.xd [(("reason" : Str), y)])) G d (.xd [(("reason" : Str), y)]) := ⟨_, M.ns.at (fun o z => (gk d M.dne).trans z), fun f => relO_f rv f⟩
    have J : Inv X pins σ (upd H1 d (.xd [(("reason" : Str), y)])) ⟨G, g, dr, tk', os⟩ := I1.laid (t' := tk') old M.dbig ob
    refine ⟨e, _, _, ⟨G, g, dr, tk', os⟩, _, .ref C, some d, rfl, J, fun b o z => ?_, ge, hoe, ⟨rfl, rfl, fun vs e => by cases e; rfl⟩, rfl, rfl, ?_, rfl, I1.bare, raises_own T.exC T.tyC, q1 d (I1.hok.fresh M.dbig)⟩
    · by_cases hb : b = e
      · have z' : G.get? b = some o := z
        rw [hb, ge] at z'
        cases z'
      · exact (gk b hb).symm.trans z
    · rw [upd_ne (Ne.symm M.dne)]
      exact I1.hok.fresh M.new
/-- raise C(e) -/
def tRaise (C : Addr) (W : WX) (ta : TA) : TS := fun _ σ H => tMk C ta σ H fun cls d H' => W cls d σ H'
theorem ps_raiseE {a : Expr} {ta : TA} {W : WX} {p pos pos2 : Pos} {k : Nat} (hc : X.calm = true) (T : ErrTxt X.prog X.K X.mg C x pre suf qual) (hr : Room k X.A) (hk : 1 ≤ k) (tk : L2N.Takes X W) (ha : PA X [a] ta) (hg : Gl X x := by rfl) (hdb : (x == ("__debug__" : Str)) = false := by decide)
    (he : starEach (a :: []) X.env = (false, eval a X.env) :: starEach [] X.env := by rfl) (hpl : (backTo pos (starEach [] X.env)).any (·.1) = false := by rfl) :
    PS X (.Raise (some (.Call (.Name x p) [a] [] pos)) none pos2) (tRaise C W ta) := L2N.ps_raise hc tk (pmk T hr hk ha hg hdb he hpl)
/-- e.line, e the error that the suite holds (at a; its class cls, its dict d) -/
def tLine (C : Addr) (a : Addr) (cls : Value) (d : Option Addr) (te : TE) : TE := fun σ H Q => te σ H fun x H1 => x = .ref a ∧ cls = .ref C ∧ ∃ (dd : Addr) (v : V), d = some dd ∧ H1 dd = some (.xd [(("reason" : Str), v)]) ∧ Q v H1
theorem pe_line {a : Addr} {oe : Obj} {cls : Value} {d : Option Addr} {pn : List (Addr × Obj)} {e : Expr} {te : TE} {pos : Pos} (T : ErrTxt X.prog X.K X.mg C x pre suf qual) (hz : Zc cls d oe) (hf : ∃ vs, oe.data = .fields vs) (he : PE (X.suite a ((a, oe) :: pn)) e te)
    (hb : attributeBase e "reason" X.env (eval e X.env) = eval e X.env := by rfl) :
    PE (X.suite a ((a, oe) :: pn)) (.Attribute e "reason" pos) (tLine C a cls d te) := by
  refine ⟨fun pins s σ H Q I h => ?_⟩
  refine attr_of hb (thn (he.run pins s σ H _ I h) fun u s1 hh => ?_)
  obtain ⟨y, H1, I1, rx, ex, ec, dd, v, ed, ea, q⟩ := hh
  subst ex
  obtain rfl : u = Value.ref a := rx
  subst ec
  subst ed
  obtain ⟨ha, _⟩ := I1.pin (a, oe) (List.mem_append_left _ List.mem_cons_self)
  obtain ⟨vs, hd⟩ := hf
  have hx : ObjOk X.prog X.w H1 s1.heap dd (.xd [(("reason" : Str), v)]) := I1.hok dd _ ea
  obtain ⟨mA, hns, hr⟩ := hx
  obtain ⟨od, ho, hl⟩ := lookIn_ns hns
  have l : List.lookup ("reason" : Str) [(("reason" : Str), v)] = some v := by simp [List.lookup]
  obtain ⟨u, hu, ru⟩ := RelO.some_of (v := v) (o := mA "reason") (by rw [← l]; exact hr "reason")
  have J : PySem.W.InstAt s1.heap a oe C (some od) := ⟨ha, hz.1, by unfold PySem.W.notCls; rw [hd] <;> rfl, by rw [hz.2]; exact ho⟩
  exact HandSPX.exc_get I1.kIn J T.ga T.gg T.exC (PySem.W.findObj_own T.hdC T.noN rfl (by rw [hl, hu])) (handed_of ru) ⟨v, H1, I1.tok _, ru, q⟩
/-! ### isinstance(e, c), e the exception that the suite holds, with its own dict -/
structure IsC (K : PySem.W.Frag) (C : Addr) : Prop where
  cl : (PySem.W.clsIn K C).isSome = true
  ha : PySem.W.findIn K (.ref C) "__class__" = some (some (.builtin "object.__class__"))
  hn : PySem.W.specialIn K (.builtin "object.__class__") "__get__" = some (some (.builtin "getset_descriptor.__get__"))
  ht : PySem.W.takesIn K (.builtin "object.__class__") = some true
  hm : PySem.W.mroIn K C (.type "object") = some true
def rIsEd (K : PySem.W.Frag) (C a : Addr) (cls : Value) (d : Option Addr) : List V → Hp → VK → Prop := fun xs H Q => cls = .ref C ∧ ∃ (c : V) (cv : Value) (b : Bool) (dd : Addr) (fs : List (Str × V)), d = some dd ∧ H dd = some (.xd fs) ∧ xs = [.ref a, c] ∧
  (∀ u, RelV c u → u = cv) ∧ PySem.W.kitOne K (.ref C) cv = some b ∧ Q (.bl b) H
def rIsEt (K : PySem.W.Frag) (C a : Addr) (cls : Value) (d : Option Addr) : List V → Hp → VK → Prop := fun xs H Q => cls = .ref C ∧ ∃ (tp : Addr) (cs : List V) (us : List Value) (b : Bool) (dd : Addr) (fs : List (Str × V)), d = some dd ∧ H dd = some (.xd fs) ∧ xs = [.ref a, .ref tp] ∧
  H tp = some (.tup cs) ∧ (∀ its, Vals cs its → its = us) ∧ PySem.W.kitAny K (.ref C) us = some b ∧ Q (.bl b) H
theorem inst_at {K : PySem.W.Frag} {pins pn : List (Addr × Obj)} {σ : L2.St} {H : Hp} {s : Shared} {a : Addr} {oe : Obj} {dd : Addr} {fs : List (Str × V)} (I : Inv (X.suite a ((a, oe) :: pn)) pins σ H s) (hz : Zc (.ref C) (some dd) oe) (hf : ∃ vs, oe.data = .fields vs) (hd : H dd = some (.xd fs)) :
    ∃ od, PySem.W.InstAt s.heap a oe C (some od) := by
  obtain ⟨hget, _⟩ := I.pin (a, oe) (List.mem_append.mpr (.inl List.mem_cons_self))
  obtain ⟨vs, hv⟩ := hf
  have hx : ObjOk X.prog X.w H s.heap dd (.xd fs) := I.hok dd _ hd
  obtain ⟨mA, hns, _⟩ := hx
  obtain ⟨od, es, ep, ho, _⟩ := hns
  exact ⟨od, hget, hz.1, by unfold PySem.W.notCls; rw [hv] <;> rfl, by rw [hz.2]; exact ho⟩
theorem call_isEd {a : Addr} {oe : Obj} {cls : Value} {d : Option Addr} {pn : List (Addr × Obj)} (T : ErrTxt X.prog X.K X.mg C x pre suf qual) (S : IsC X.K C) (hz : Zc cls d oe) (hf : ∃ vs, oe.data = .fields vs) : CallR (X.suite a ((a, oe) :: pn)) (.builtin "isinstance") (rIsEd X.K C a cls d) := by
  intro pins s σ H xs us Q I r h
  obtain ⟨rfl, c, cv, b, dd, fs, rfl, hd, rfl, hcv, e, q⟩ := h
  cases r with
  | cons rx rr =>
    cases rr with
    | cons rt rr =>
      cases rr
      cases rx
      have ec := hcv _ rt
      subst ec
      obtain ⟨od, J⟩ := inst_at (K := X.K) I hz hf hd
      exact PySem.W.kia_one (PySem.W.kitx_exc S.cl T.ga T.gg T.exC S.ha S.hn S.ht S.hm) I.kIn J e (fun z => nomatch z) fun tk => ⟨.bl b, H, I.kept (t' := tk) fun _ _ z => z, rfl, q⟩
theorem call_isEt {a : Addr} {oe : Obj} {cls : Value} {d : Option Addr} {pn : List (Addr × Obj)} (T : ErrTxt X.prog X.K X.mg C x pre suf qual) (S : IsC X.K C) (hz : Zc cls d oe) (hf : ∃ vs, oe.data = .fields vs) : CallR (X.suite a ((a, oe) :: pn)) (.builtin "isinstance") (rIsEt X.K C a cls d) := by
  intro pins s σ H xs us Q I r h
  obtain ⟨rfl, tp, cs, ws, b, dd, fs, rfl, hd, rfl, ht, hus, e, q⟩ := h
  cases r with
  | cons rx rr =>
    cases rr with
    | cons rt rr =>
      cases rr
      cases rx
      cases rt
      obtain ⟨od, J⟩ := inst_at (K := X.K) I hz hf hd
      obtain ⟨_, its, rv, o, htp, hc, n, hdt⟩ := I.hok tp _ ht
      have := hus _ rv
      subst this
      obtain ⟨oc, odd, oda, osl⟩ := o
      dsimp only at hc hdt
      subst hc hdt
      exact PySem.W.kia_tup (PySem.W.kitx_exc S.cl T.ga T.gg T.exC S.ha S.hn S.ht S.hm) I.kIn J htp e (fun z => nomatch z) fun tk => ⟨.bl b, H, I.kept (t' := tk) fun _ _ z => z, rfl, q⟩
end
end ZXR

namespace Z
open PySem PySem.Spec PyProof.Rows L2
/-! ### methods of own classes -/
structure MAt (K : PySem.W.Frag) (C : Addr) (m qual : Str) (st : Stmt) (ps : List Str) : Prop where
  ex : ∃ (f : Addr) (fd : FuncData), Cls K C ∧ Meth K C m f ∧ Fun K m qual st f fd ∧ Binds K fd ps []
section
variable {P : Program} {w : World} {K : PySem.W.Frag} {mg : Str → Option Value} {base : Heap} {C : Addr} {m qual : Str} {st : Stmt} {ps N : List Str} {k : Nat} {sp : Sp}
theorem MAt.ok (F : MAt K C m qual st ps) (S : FnScope N ps (defScope st)) (len : ∀ vs H Q E, sp vs H Q E → vs.length = ps.length)
    (hbody : ∀ (f : Addr) (cdv : Value) (A : Around) (outer : List Env) (s : Shared) (H : Hp) (vs : List V) (Q : VK) (E : XK), Room k (A.deeper (envOfC qual (defScope st) s.heap.objs.size f cdv)) → sp vs H Q E →
      ∃ t, PSs (cxOf CX0 P w K mg base N qual (defScope st) f cdv A outer s H E).nox (defBody st) t ∧ t { nx := fun _ H' => Q .non H', rt := Q } (start N vs) H) : C8.Met P w K mg base (k + 1) C m sp [] := by
  obtain ⟨f, fd, c, me, F, b⟩ := F.ex
  exact ⟨f, fd, ps, [], c, me, F.ok S len (fun cdv A outer s H vs Q E hr h => hbody f cdv A outer s H vs Q E hr h), b, .nil⟩
end
/-- a method that errors leave -/
structure MetX (P : Program) (w : World) (K : PySem.W.Frag) (mg : Str → Option Value) (base : Heap) (k : Nat) (C : Addr) (m : Str) (sp : Sp) : Prop where
  ex : ∃ (f : Addr) (fd : FuncData) (ps : List Str), Cls K C ∧ Meth K C m f ∧ FnOk P w K mg base (L2N.CX P w) k f fd ps sp ∧ Binds K fd ps []
theorem MAt.okX {P : Program} {w : World} {K : PySem.W.Frag} {mg : Str → Option Value} {base : Heap} {C : Addr} {m qual : Str} {st : Stmt} {ps N : List Str} {k : Nat} {sp : Sp} (F : MAt K C m qual st ps) (S : FnScope N ps (defScope st)) (len : ∀ vs H Q E, sp vs H Q E → vs.length = ps.length)
    (hbody : ∀ (f : Addr) (cdv : Value) (A : Around) (outer : List Env) (s : Shared) (H : Hp) (vs : List V) (Q : VK) (E : XK), Room k (A.deeper (envOfC qual (defScope st) s.heap.objs.size f cdv)) → sp vs H Q E →
      ∃ t, PSs (cxOf (L2N.CX P w) P w K mg base N qual (defScope st) f cdv A outer s H E) (defBody st) t ∧ t { nx := fun _ H' => Q .non H', rt := Q } (start N vs) H) : MetX P w K mg base (k + 1) C m sp := by
  obtain ⟨f, fd, c, me, F, b⟩ := F.ex
  obtain ⟨oc, od, kV, doc, pm, an, cdv, ct, osl, rfl, lk, hcd⟩ := F.ex
  exact ⟨f, _, _, c, me, fn_of lk hcd S len fun A outer s H vs Q E hr hsp => hbody f cdv A outer s H vs Q E hr hsp, b⟩
theorem Tm.ins {p C dx : Addr} {H : Hp} {fs gs : List (Str × V)} (hp : H p = some (.ins C dx fs)) : Tm H (upd H p (.ins C dx gs)) := fun a zs h => by
  have n : a ≠ p := by
    rintro rfl
    rcases h with h | ⟨o, h⟩ <;> (rw [hp] at h; cases h)
  rcases h with h | ⟨o, h⟩
  · exact .inl (by rw [upd_ne n]; exact h)
  · exact .inr ⟨o, by rw [upd_ne n]; exact h⟩
theorem putF_len {f : Str} {v y : V} : ∀ {fs : List (Str × V)}, List.lookup f fs = some y → (putF f v fs).length = fs.length
  | [], h => by cases h
  | (g, x) :: r, h => by
    unfold putF
    by_cases e : g = f
    · rw [if_pos e]
      rfl
    · rw [if_neg e, List.length_cons, List.length_cons]
      have h2 : List.lookup f r = some y := by
        rw [List.lookup_cons] at h
        have : (f == g) = false := by
          rw [beq_eq_false_iff_ne]
          exact fun z => e z.symm
        rw [this] at h
        exact h
      rw [putF_len h2]
/-- few fields, none of the name of a method -/
def BkF (fs : List (Str × V)) : Prop := fs.length < 100 ∧ ∀ m ∈ ([("put" : Str), ("drop" : Str), ("jobs" : Str), ("plan" : Str), ("worked" : Str)] : List Str), List.lookup m fs = none
theorem BkF.put {f : Str} {v : V} {fs : List (Str × V)} (h : BkF fs) (l : (L2.putF f v fs).length < 100) (n : f ∉ ([("put" : Str), ("drop" : Str), ("jobs" : Str), ("plan" : Str), ("worked" : Str)] : List Str)) : BkF (L2.putF f v fs) :=
  ⟨l, fun m hm => by rw [lookup_putF, if_neg (fun z : m = f => n (by rw [← z]; exact hm))]; exact h.2 m hm⟩
/-- a book whose jobs are js, in the list at L -/
structure BookAt (K : PySem.W.Frag) (C b L : Addr) (js : List Job) (H : Hp) : Prop where
  ex : ∃ (dx : Addr) (fs : List (Str × V)) (xs : List V), H b = some (.ins C dx fs) ∧ List.lookup ("_jobs" : Str) fs = some (V.ref L) ∧ H L = some (.lst xs) ∧ L ≠ b ∧ IsA K H xs (js.map dJob) ∧ BkF fs
def spBDrop (K : PySem.W.Frag) (C CR : Addr) : Sp := fun vs H Q E => ∃ (b L : Addr) (js : List Job) (n : Str), vs = [.ref b, .str n] ∧ BookAt K C b L js H ∧ js.length ≤ 19 ∧
  ((∀ j ∈ js, j.n ≠ n) → ∀ d H', Same H H' → H' d = none → E (.ref CR) (some d) (upd H' d (.xd [(("reason" : Str), .str ("unknown" : Str))]))) ∧
  ((∃ j ∈ js, j.n = n) → ∀ L' H', H L' = none → (∀ x o, x ≠ b → H x = some o → H' x = some o) → BookAt K C b L' (js.filter fun j => decide (j.n ≠ n)) H' → Q .non H')
def spBInit (K : PySem.W.Frag) (C : Addr) : Sp := fun vs H Q _ => ∃ (b dx : Addr), vs = [.ref b] ∧ H b = some (.ins C dx []) ∧ ∀ L H', H L = none → (∀ x o, x ≠ b → H x = some o → H' x = some o) → BookAt K C b L [] H' → Q .non H'
/-- a job is put -/
def putJ (j : Job) (js : List Job) : List Job := match js.findIdx? fun i => decide (i.n = j.n) with
  | some i => js.set i j
  | none => js ++ [j]
def spBPut (K : PySem.W.Frag) (C CR : Addr) : Sp := fun vs H Q E => ∃ (b L : Addr) (v : V) (js : List Job) (j : Job), vs = [.ref b, v] ∧ BookAt K C b L js H ∧ Is K H v (dJob j) ∧ (js.map (·.n)).Nodup ∧ js.length ≤ 12 ∧
  (j.n ∉ js.map (·.n) → 12 ≤ js.length → ∀ d H', Same H H' → H' d = none → E (.ref CR) (some d) (upd H' d (.xd [(("reason" : Str), .str ("full" : Str))]))) ∧
  ((j.n ∈ js.map (·.n) ∨ js.length < 12) → ∀ H', (∀ x o, x ≠ b → x ≠ L → H x = some o → H' x = some o) → BookAt K C b L (putJ j js) H' → Q .non H')
/-- the jobs of a book -/
def spBJobs (K : PySem.W.Frag) (C : Addr) : Sp := fun vs H Q _ => ∃ (b dx L : Addr) (fs : List (Str × V)) (xs : List V), vs = [.ref b] ∧ H b = some (.ins C dx fs) ∧ List.lookup ("_jobs" : Str) fs = some (V.ref L) ∧ SqL K H L xs ∧ ∀ t H', Same H H' → H t = none → SqT K H' t xs → Q (.ref t) H'
end Z

namespace Z
open PySem PySem.Spec PyProof.Rows L2
/-! ### methods that errors leave, called -/
def tMethS (C : Addr) (m : Str) (sp : Sp) (E : L2.St → XK) (ta : TE) (t : TA) : TE := fun σ H Q => ta σ H fun x H1 => ∃ a dx fs, x = .ref a ∧ H1 a = some (.ins C dx fs) ∧ fs.lookup m = none ∧ t σ H1 fun vs H2 => sp (x :: vs) H2 Q (E σ)
theorem pasX0 {X : Cx} {σ : L2.St} : PassesAt (L2N.CX X.prog X.w) X σ E0 := fun _ _ _ _ _ _ h => by
  obtain ⟨a, B, H', cls, d, _, _, _, _, _, _, _, hE⟩ := h
  exact hE.elim
section
variable {X : Cx} {k j : Nat} {C : Addr} {m : Str} {sp : Sp} {E : L2.St → XK} {apos pos : Pos} {e o : Expr} {es : List Expr} {ta : TE} {t : TA}
theorem pe_mtS {pl : Sem Bool} (c : MetX X.prog X.w X.K X.mg X.base k C m sp) (hr : Room j X.A) (hk : k ≤ j) (hx : ∀ σ, PassesAt (L2N.CX X.prog X.w) X σ (E σ)) (he : PE X o ta) (ha : PA X (e :: es) t)
    (hst : starEach (e :: es) X.env = (false, eval e X.env) :: starEach es X.env := by rfl) (hpl : (backTo pos (starEach es X.env)).any (·.1) = false := by rfl)
    (ht : eval (.Call (.Attribute o m apos) (e :: es) [] pos) X.env = (do
      let ov ← eval o X.env
      standAt apos.atName
      let (f, first) ← holding [ov] (getMethod ov m pl)
      callWith pos f first (backTo pos (starEach (e :: es) X.env)) (backToKw pos (keywordEach [] X.env))) := by rfl) :
    PE X (.Call (.Attribute o m apos) (e :: es) [] pos) (tMethS C m sp E ta t) := by
  obtain ⟨f, fd, ps, hc, hm, F, b⟩ := c.ex
  refine ⟨fun pins s σ H Q I h => ?_⟩
  refine PySem.W.methodCall_KW (pl := pl) (thn (he.run pins s σ H _ I h) fun u s1 ⟨x, H1, I1, rx, a, dx, fs, ex, ea, l, q⟩ => ?_) ht
  subst ex
  obtain rfl : u = Value.ref a := rx
  refine getmeth_ok I1 ea hc hm l ?_
  refine PySem.W.callWith_K (first := [.ref a]) (h₀ := X.base) I.ok.mod.kin hm.kp (thn (ha.run pos pins s1 σ H1 _ I1 q) fun us s2 ⟨vs, H2, I2, r, q2⟩ => ⟨I2.kIn, ?_⟩) hst hpl
  exact run_fnS (us := .ref a :: us) (vs := .ref a :: vs) F (hr.mono hk) b (hx σ) I2 (.cons rfl r) q2
end
/-- a class is made: its __init__ is the method -/
theorem mak_of {P : Program} {w : World} {K : PySem.W.Frag} {mg : Str → Option Value} {base : Heap} {k : Nat} {x : Str} {C f : Addr} {sp : Sp} {dvs : List V} (M : C8.Met P w K mg base k C "__init__" sp dvs) (Mk : Mk K C f) (hg : mg x = some (.ref C)) : C8.Mak P w K mg base k x C sp dvs := by
  obtain ⟨f', fd, ps, ds, c, me, F, b, d⟩ := M.ex
  have e : f = f' := by
    have h1 := Mk.init
    have h2 := me.at_
    rw [h1] at h2
    cases h2
    rfl
  subst e
  exact ⟨f, fd, ps, ds, Mk, F, hg, b, d⟩
end Z
namespace Z
open PySem PySem.Spec PyProof.Rows L2
section
variable {X : Cx} {k j : Nat} {C : Addr} {x : Str} {sp : Sp} {dvs : List V} {p pos : Pos}
theorem pe_mk0 (c : C8.Mak X.prog X.w X.K X.mg X.base k x C sp dvs) (hr : Room j X.A) (hk : k + 1 ≤ j) (hg : Gl X x) (hdb : (x == ("__debug__" : Str)) = false := by decide) :
    PE X (.Call (.Name x p) [] [] pos) (tMake C sp dvs E0 tNil) := by
  obtain ⟨f, fd, ps, ds, M, F, hm, b, d⟩ := c.ex
  exact pe_make0 M F (hr.mono hk) hg hm b d pass0 hdb
end
theorem Pl.keep {p a : Addr} {H H' : Hp} (h : Pl p a H) (k1 : ∀ o, H p = some o → H' p = some o) (k2 : ∀ o, H a = some o → H' a = some o) : Pl p a H' := by
  obtain ⟨ns, i, rest, last, cnt, n, h, h1, h2⟩ := h
  exact ⟨ns, i, rest, last, cnt, n, k1 _ h, k2 _ h1, h2⟩
theorem BookAt.keep {K : PySem.W.Frag} {C b L : Addr} {js : List Job} {H H' : Hp} (h : BookAt K C b L js H) (hb : ∀ o, H b = some o → H' b = some o) (hL : ∀ o, H L = some o → H' L = some o) (tm : Tm H H') : BookAt K C b L js H' := by
  obtain ⟨dx, fs, xs, h1, h2, h3, h4, h5, h6⟩ := h.ex
  exact ⟨dx, fs, xs, hb _ h1, h2, hL _ h3, h4, h5.to tm, h6⟩
theorem plain_dJob (j : Job) : plainD (dJob j) = true := by
  simp [dJob, plainD, plainDs]
theorem plain_dJobs : ∀ js : List Job, plainDs (js.map dJob) = true
  | [] => by simp [plainDs]
  | j :: js => by
    rw [List.map_cons, plainDs, plain_dJob, plain_dJobs js]
    rfl
theorem plain_jobs {js : List Job} (h : js.length ≤ 1000) : plainD (.tuple (js.map dJob)) = true := by
  rw [plainD, plain_dJobs, List.length_map, decide_eq_true h]
  rfl
theorem dep_jobs (js : List Job) : depD (.tuple (js.map dJob)) < 3 := by
  have : ∀ js : List Job, depDs (js.map dJob) ≤ 1 := by
    intro js
    induction js with
    | nil => simp [depDs]
    | cons j js ih =>
      rw [List.map_cons, depDs]
      have : depD (dJob j) = 1 := by simp [dJob, depD, depDs]
      omega
  have := this js
  rw [depD]
  omega
/-- a def that errors leave -/
structure OkX (P : Program) (w : World) (K : PySem.W.Frag) (mg : Str → Option Value) (base : Heap) (lvl : Nat) (x : Str) (ps : List Str) (sp : Sp) : Prop where
  ex : ∃ (f : Addr) (fd : FuncData), FnOk P w K mg base (L2N.CX P w) lvl f fd ps sp ∧ mg x = some (.ref f) ∧ PySem.W.keepIn K (.ref f) = true ∧ Binds K fd ps []
theorem At.okX {P : Program} {w : World} {K : PySem.W.Frag} {mg : Str → Option Value} {base : Heap} {x : Str} {st : Stmt} {ps N : List Str} {k : Nat} {sp : Sp} (F : At K mg x st ps) (S : FnScope N ps (defScope st)) (len : ∀ vs H Q E, sp vs H Q E → vs.length = ps.length)
    (hbody : ∀ (f : Addr) (cdv : Value) (A : Around) (outer : List Env) (s : Shared) (H : Hp) (vs : List V) (Q : VK) (E : XK), Room k (A.deeper (envOfC x (defScope st) s.heap.objs.size f cdv)) → sp vs H Q E →
      ∃ t, PSs (cxOf (L2N.CX P w) P w K mg base N x (defScope st) f cdv A outer s H E) (defBody st) t ∧ t { nx := fun _ H' => Q .non H', rt := Q } (start N vs) H) : OkX P w K mg base (k + 1) x ps sp := by
  obtain ⟨f, fd, F, m, b⟩ := F.ex
  have kp := F.kp
  obtain ⟨oc, od, kV, doc, pm, an, cdv, ct, osl, rfl, lk, hcd⟩ := F.ex
  exact ⟨f, _, fn_of lk hcd S len fun A outer s H vs Q E hr hsp => hbody f cdv A outer s H vs Q E hr hsp, m, kp, b⟩
theorem log_nat {n : Nat} (h : n ≤ 100000) : ((n : Nat) : Int).natAbs.log2 < 1000 :=
  Nat.lt_of_lt_of_le (PySem.Flt.log2_lt_of (k := 17) (by decide) (by show ((n : Nat) : Int).natAbs < 2 ^ 17; omega)) (by decide)
end Z

namespace Z
open PySem PySem.Spec PyProof.Rows L2
theorem op_mul_str {X : Cx} : OpR X (binaryOp .Mult) (fun x y H Q => ∃ (a : Str) (n : Int), x = .str a ∧ y = .int n ∧ MulOk a n ∧ Q (.str (Txt.mul a n)) H) := by
  intro pins s σ H x y v u Q I rx ry h
  obtain ⟨a, n, rfl, rfl, ok, q⟩ := h
  obtain ⟨t, rfl⟩ := rx
  obtain ⟨t', rfl⟩ := ry
  exact SB.mul ok (fun t' tk => ⟨.str (Txt.mul a n), H, I.tok _, ⟨_, rfl⟩, q⟩)
/-! ### texts of plans that may be wrong -/
theorem val_lt : ∀ {l : List Nat}, NumText.AllDigits l → NumText.digitsVal l < 10 ^ l.length := by
  intro l
  induction l using snocInd with
  | h0 => intro _; decide
  | h1 m d ih =>
    intro ha
    have hd := ha d (by simp)
    have := ih fun x hx => ha x (List.mem_append_left _ hx)
    rw [val_snoc, List.length_append, List.length_singleton, Nat.pow_succ]
    omega
theorem big665 : (10 : Nat) ^ 200 < 2 ^ 700 := by decide +kernel
theorem whole_lt {x : Str} {i : Int} (h : wholeO x 200 = some i) : 0 ≤ i ∧ i.natAbs < 2 ^ 700 := by
  obtain ⟨_, hl, h0⟩ := whole_back h
  unfold wholeO at h
  split at h
  · cases h
  · next c1 =>
    split at h
    · cases h
    · have e := Option.some.inj h
      have b1 : consB x DIG = true := by
        cases z : consB x DIG with
        | true => rfl
        | false => rw [z] at c1; simp at c1
      obtain ⟨ha, _⟩ := consB_digits b1
      have v := val_lt ha
      have hl2 : x.cps.toList.length ≤ 200 := by rw [str_len] at hl; omega
      have p : 10 ^ x.cps.toList.length ≤ 10 ^ 200 := Nat.pow_le_pow_right (by decide) hl2
      refine ⟨h0, ?_⟩
      rw [← e]
      exact Nat.lt_trans (Nat.lt_of_lt_of_le v p) big665
def numsO (x : Str) : List (Option Int) := (Txt.split x ("/" : Str)).map fun y => wholeO y 200
def ratN : List (Option Int) → Option Rat
  | [some t] => some (t : Rat)
  | [some t, some b] => if b < 2 ∨ Nat.gcd t.natAbs b.natAbs ≠ 1 then none else some (Rat.divInt t b)
  | _ => none
def ratU (x : Str) : Option Rat := ratN (numsO x)
def ratO (x : Str) : Option Rat := if (TL.tl x).head? = some 45 then (match ratU (cutS x (some 1) none) with | none => none | some q => if q = 0 then none else some (-q)) else ratU x
def dOR : Option Rat → PyData
  | none => .none
  | some q => rat2 q
theorem sepSl : Sep ("/" : Str) 47 := ⟨tl_sl, by decide +kernel⟩
theorem divInt_parts {t b : Int} (hb : 2 ≤ b) (hg : Nat.gcd t.natAbs b.natAbs = 1) : (Rat.divInt t b).num = t ∧ ((Rat.divInt t b).den : Int) = b := by
  have g : b.gcd t = 1 := by rw [Int.gcd_comm]; exact hg
  rw [Rat.num_divInt, Rat.den_divInt, if_neg (by omega), g, Int.sign_eq_one_of_pos (by omega)]
  simp
  omega
/-- what is read without a sign, in parts -/
theorem ratU_back {x : Str} {q : Rat} (h : ratU x = some q) : wR q = x ∧ Sz 700 q ∧ 0 ≤ q.num := by
  unfold ratU numsO at h
  have j := sepSl.join x
  revert h j
  generalize Txt.split x ("/" : Str) = l
  intro h j
  match l, h, j with
  | [], h, j => cases h
  | [a], h, j =>
    have j : Txt.join ("/" : Str) [a] = x := j
    cases e : wholeO a 200 with
    | none => rw [List.map_cons, e] at h; cases h
    | some t =>
      rw [List.map_cons, e] at h
      have e2 : q = (t : Rat) := (Option.some.inj h).symm
      subst e2
      obtain ⟨b1, _, b3⟩ := whole_back e
      have b4 := whole_lt e
      refine ⟨?_, sz_int b4.2 (by decide), b3⟩
      unfold wR
      rw [if_pos (show ((t : Int) : Rat).den = 1 from rfl)]
      show nt t = x
      rw [b1, ← j]
      apply TL.ext_tl
      rw [TL.join_eq, TL.tl_join]
      rfl
  | [a, c], h, j =>
    have j : Txt.join ("/" : Str) [a, c] = x := j
    cases e : wholeO a 200 with
    | none => rw [List.map_cons, e] at h; cases h
    | some t =>
    cases e2 : wholeO c 200 with
    | none => rw [List.map_cons, List.map_cons, e, e2] at h; cases h
    | some b =>
      rw [List.map_cons, List.map_cons, e, e2] at h
      have h : (if b < 2 ∨ Nat.gcd t.natAbs b.natAbs ≠ 1 then none else some (Rat.divInt t b)) = some q := h
      by_cases c1 : b < 2 ∨ Nat.gcd t.natAbs b.natAbs ≠ 1
      · rw [if_pos c1] at h; cases h
      · rw [if_neg c1] at h
        have hb : 2 ≤ b := by
          by_cases z : b < 2
          · exact absurd (.inl z) c1
          · omega
        have hg : Nat.gcd t.natAbs b.natAbs = 1 := by
          by_cases z : Nat.gcd t.natAbs b.natAbs = 1
          · exact z
          · exact absurd (.inr z) c1
        have e3 := (Option.some.inj h).symm
        subst e3
        obtain ⟨p1, p2⟩ := divInt_parts hb hg
        obtain ⟨b1, _, b3⟩ := whole_back e
        obtain ⟨d1, _, d3⟩ := whole_back e2
        have b4 := whole_lt e
        have d4 := whole_lt e2
        refine ⟨?_, Sz.divInt (by omega) b4.2 d4.2, by rw [p1]; exact b3⟩
        unfold wR
        rw [if_neg (by omega), p1, p2, b1, d1, ← j]
        apply TL.ext_tl
        rw [TL.join_eq, TL.tl_join, TL.tl_append, TL.tl_append, tl_sl]
        show _ = TL.tl a ++ ([47] ++ TL.tl c)
        rw [List.append_assoc]
  | a :: c :: d :: r, h, j =>
    rw [List.map_cons, List.map_cons, List.map_cons] at h
    unfold ratN at h
    simp at h
theorem tl_cut1 {x : Str} (h : (TL.tl x).head? = some 45) : TL.tl x = 45 :: TL.tl (cutS x (some 1) none) := by
  cases e : TL.tl x with
  | nil => rw [e] at h; cases h
  | cons c r =>
    rw [e] at h
    have : c = 45 := Option.some.inj h
    subst this
    rw [cut_first e]
theorem Sz.neg' {n : Nat} {q : Rat} (h : Sz n q) : Sz n (-q) := ⟨by show (-q.num).natAbs < _; rw [Int.natAbs_neg]; exact h.1, h.2⟩
theorem ratO_back {x : Str} {q : Rat} (h : ratO x = some q) : wR q = x ∧ Sz 700 q := by
  unfold ratO at h
  by_cases c : (TL.tl x).head? = some 45
  · rw [if_pos c] at h
    cases e : ratU (cutS x (some 1) none) with
    | none => rw [e] at h; cases h
    | some r =>
      rw [e] at h
      have h : (if r = 0 then none else some (-r)) = some q := h
      by_cases c2 : r = 0
      · rw [if_pos c2] at h; cases h
      · rw [if_neg c2] at h
        have e3 := (Option.some.inj h).symm
        subst e3
        obtain ⟨h1, h2, h3⟩ := ratU_back e
        refine ⟨TL.ext_tl ?_, h2.neg'⟩
        have hn : (-r).num < 0 := by
          have : r.num ≠ 0 := num0 c2
          show -r.num < 0
          omega
        rw [wR_neg hn, Rat.neg_neg, h1, ← tl_cut1 c]
  · rw [if_neg c] at h
    obtain ⟨h1, h2, _⟩ := ratU_back h
    exact ⟨h1, h2⟩
/-! ### lines -/
def pieceW : List Str → Option Pc
  | [a, b, n, c] => if nameB n = true then (match ratO a, ratO b, ratO c with
    | some s, some e, some v => if s < e ∧ 0 < v then some ⟨s, e, n, v⟩ else none
    | _, _, _ => none) else none
  | _ => none
def pieceO (x : Str) : Option Pc := pieceW (Txt.split x (" " : Str))
structure PcW (p : Pc) : Prop where
  s : Sz 700 p.s
  e : Sz 700 p.e
  v : Sz 700 p.v
  lt : p.s < p.e
  v0 : 0 < p.v
  nl : p.n.length ≤ 8
theorem pieceW_back {l : List Str} {p : Pc} (h : pieceW l = some p) : l = [wR p.s, wR p.e, p.n, wR p.v] ∧ PcW p := by
  unfold pieceW at h
  split at h
  · next a b n c =>
    split at h
    · next hn =>
      split at h
      · next s e v e1 e2 e3 =>
        split at h
        · next hc =>
          have ee := (Option.some.inj h).symm
          subst ee
          obtain ⟨b1, z1⟩ := ratO_back e1
          obtain ⟨b2, z2⟩ := ratO_back e2
          obtain ⟨b3, z3⟩ := ratO_back e3
          refine ⟨by show [a, b, n, c] = [wR s, wR e, n, wR v]; rw [b1, b2, b3], z1, z2, z3, hc.1, hc.2, ?_⟩
          unfold nameB at hn
          rw [Bool.and_eq_true, decide_eq_true_eq] at hn
          show n.length ≤ 8
          omega
        · cases h
      · cases h
    · cases h
  · cases h
theorem pieceO_back {x : Str} {p : Pc} (h : pieceO x = some p) : lineP p = x ∧ PcW p := by
  obtain ⟨h1, h2⟩ := pieceW_back h
  refine ⟨?_, h2⟩
  have e := sepS.join x
  rw [h1] at e
  rw [← e, ← line_join]
def badP (ls : List Str) (i : Nat) : Bool :=
  match ls[i]? with
  | none => false
  | some x => match pieceO x with
    | none => true
    | some p => if i = 0 then false else (match (ls[i - 1]?).bind pieceO with
      | none => false
      | some p' => decide (p.s < p'.e))
def firstP (ls : List Str) : Option Nat := (List.range ls.length).find? (badP ls)
theorem find_is {p : Nat → Bool} {n i : Nat} (hi : i < n) (h : p i = true) (hn : ∀ m < i, p m = false) : (List.range n).find? p = some i := by
  rw [List.find?_eq_some_iff_append]
  refine ⟨h, List.range i, List.range' (i + 1) (n - i - 1), ?_, fun m hm => by rw [hn m (List.mem_range.mp hm)]; rfl⟩
  have z := @List.range'_append_1 0 i ((n - i - 1) + 1)
  rw [Nat.zero_add, show i + (n - i - 1 + 1) = n by omega] at z
  rw [List.range_eq_range', List.range_eq_range', ← z]
  rfl
theorem firstP_is {ls : List Str} {i : Nat} (h : badP ls i = true) (n : ∀ m < i, badP ls m = false) : firstP ls = some i := by
  refine find_is ?_ h n
  rcases Nat.lt_or_ge i ls.length with z | z
  · exact z
  · unfold badP at h
    rw [List.getElem?_eq_none z] at h
    cases h
theorem firstP_no {ls : List Str} (n : ∀ m < ls.length, badP ls m = false) : firstP ls = none := by
  unfold firstP
  rw [List.find?_eq_none]
  intro m hm
  rw [n m (List.mem_range.mp hm)]
  exact Bool.false_ne_true
def wrongP (text : Str) : Option Nat :=
  match firstP (body text) with
  | some i => some (i + 1)
  | none => if rest text = ("" : Str) then none else some (body text).length
theorem plan_join (ps : List Pc) : planT ps = Txt.join ("\n" : Str) (ps.map lineP ++ [("" : Str)]) := by
  unfold planT
  apply TL.ext_tl
  rw [TL.join_eq, TL.join_eq, TL.tl_join, TL.tl_join, tl_e, tl_nl, List.map_append, List.map_map, List.map_map]
  have z := join_nl (ps.map fun j => TL.tl (lineP j))
  rw [List.map_map] at z
  have f : (fun j => TL.tl (lineN j)) = (fun j => TL.tl (lineP j) ++ [10]) := by
    funext j
    unfold lineN
    rw [TL.tl_append, tl_nl]
  show TL.joinL [] (ps.map fun j => TL.tl (lineN j)) = TL.joinL [10] (ps.map (fun j => TL.tl (lineP j)) ++ [TL.tl ("" : Str)])
  rw [f, tl_e]
  exact z
theorem snoc_split (text : Str) : ∃ ini r, Txt.split text ("\n" : Str) = ini ++ [r] ∧ rest text = r ∧ body text = if r = ("" : Str) then ini else ini ++ [r] := by
  have ne := sepN.ne text
  refine ⟨(Txt.split text ("\n" : Str)).dropLast, (Txt.split text ("\n" : Str)).getLast ne, (List.dropLast_concat_getLast ne).symm, ?_, ?_⟩
  · unfold rest
    rw [List.getLastD_eq_getLast?, List.getLast?_eq_getLast ne]
    rfl
  · have e : rest text = (Txt.split text ("\n" : Str)).getLast ne := by
      unfold rest
      rw [List.getLastD_eq_getLast?, List.getLast?_eq_getLast ne]
      rfl
    unfold body
    rw [e]
    split
    · rfl
    · exact (List.dropLast_concat_getLast ne).symm
theorem body_mem {text x : Str} (h : x ∈ body text) : x.length ≤ text.length := by
  refine sepN.len (p := x) ?_
  unfold body at h
  split at h
  · exact (List.dropLast_prefix _).subset h
  · exact h
theorem body_len (text : Str) : (body text).length ≤ text.length + 1 := by
  refine Nat.le_trans ?_ (sepN.count text)
  unfold body
  split
  · rw [List.length_dropLast]
    omega
  · exact Nat.le_refl _
/-- the text that a right text is -/
theorem plan_text {text : Str} {ps : List Pc} (hr : rest text = ("" : Str)) (h : ps.map lineP = body text) : planT ps = text := by
  obtain ⟨ini, r, es, er, eb⟩ := snoc_split text
  rw [hr] at er
  subst er
  rw [if_pos rfl] at eb
  rw [plan_join, h, eb, ← es]
  exact sepN.join text
theorem big212 : (2 : Nat) ^ 700 < 10 ^ 211 := by decide +kernel
theorem nt_lenW {n : Nat} (h : n < 2 ^ 700) : (nt ((n : Nat) : Int)).length ≤ 211 := by
  rw [str_len, show (nt ((n : Nat) : Int)).cps.toList = TL.numL n from TL.tl_num n]
  exact TL.numL_len (by decide) (Nat.lt_trans h big212)
theorem nt_lenWI {i : Int} (h : i.natAbs < 2 ^ 700) : (nt i).length ≤ 212 := by
  by_cases c : i < 0
  · obtain ⟨n, e⟩ := Int.eq_ofNat_of_zero_le (show 0 ≤ -i by omega)
    have z := nt_lenW (n := n) (by omega)
    rw [str_len] at z ⊢
    rw [show (nt i).cps.toList = 45 :: TL.tl (nt (-i)) from nt_neg c, e, List.length_cons]
    have : (TL.tl (nt ((n : Nat) : Int))).length = (nt ((n : Nat) : Int)).cps.toList.length := rfl
    omega
  · obtain ⟨n, rfl⟩ := Int.eq_ofNat_of_zero_le (show 0 ≤ i by omega)
    have := nt_lenW (n := n) (by omega)
    omega
theorem wR_lenW {q : Rat} (h : Sz 700 q) : (wR q).length ≤ 430 := by
  have a := nt_lenWI h.1
  have b := nt_lenW h.2
  unfold wR
  split
  · omega
  · have e : ("/" : Str).length = 1 := by decide +kernel
    rw [len_app2, len_app2, e]
    omega
theorem PcW.len {p : Pc} (h : PcW p) : (lineP p).length ≤ 1310 := by
  have a := wR_lenW h.s
  have b := wR_lenW h.e
  have c := wR_lenW h.v
  have d := h.nl
  have e : (" " : Str).length = 1 := by decide +kernel
  unfold lineP
  simp only [len_app2, e]
  omega
theorem PcW.lenN {p : Pc} (h : PcW p) : (lineN p).length ≤ 1311 := by
  have a := h.len
  have e : ("\n" : Str).length = 1 := by decide +kernel
  unfold lineN
  rw [len_app2, e]
  omega
theorem log_bigW {i : Int} (h : i.natAbs < 2 ^ 700) : i.natAbs.log2 < 1920 := Nat.lt_of_lt_of_le (PySem.Flt.log2_lt_of (k := 700) (by decide) h) (by decide)
end Z

namespace Z
open PySem PySem.Spec PyProof.Rows L2 ZX
def topS (i : Nat) : Stmt := PySem.Challenge.pw_sparewatts_k45_wrong_plan_lines.main.body.getD i (.Pass ⟨0, 0, 0, 0⟩)
abbrev sless : Stmt := topS 9
abbrev sconsists_of : Stmt := topS 14
abbrev sis_name : Stmt := topS 15
abbrev swhole : Stmt := topS 16
abbrev swrite_ratio : Stmt := topS 19
abbrev swrite_plan : Stmt := topS 20
abbrev sread_unsigned : Stmt := topS 21
abbrev sread_ratio : Stmt := topS 22
abbrev sread_piece : Stmt := topS 23
abbrev sread_plan : Stmt := topS 24
abbrev s_law_pool : Stmt := topS 26
abbrev s_law_draw : Stmt := topS 27
abbrev s_law_pick : Stmt := topS 28
abbrev s_law_gcd : Stmt := topS 29
abbrev s_law_ratio : Stmt := topS 30
abbrev s_law_plus : Stmt := topS 31
abbrev s_law_over : Stmt := topS 32
abbrev s_law_less : Stmt := topS 33
abbrev s_law_sum : Stmt := topS 34
abbrev s_law_same : Stmt := topS 35
abbrev s_law_name : Stmt := topS 36
abbrev s_law_window : Stmt := topS 37
abbrev s_law_jobs : Stmt := topS 38
abbrev s_law_points : Stmt := topS 39
abbrev s_law_shares : Stmt := topS 40
abbrev s_law_rival : Stmt := topS 41
abbrev s_law_word : Stmt := topS 42
abbrev s_law_lines : Stmt := topS 43
abbrev s_law_number : Stmt := topS 44
abbrev s_law_value : Stmt := topS 45
abbrev s_law_piece : Stmt := topS 46
abbrev s_law_wrong : Stmt := topS 47
abbrev s_law_spoilt : Stmt := topS 48
abbrev slaw : Stmt := topS 49
theorem scless : FnScope ["a", "b"] ["a", "b"] (defScope sless) := ⟨rfl, rfl, rfl, by decide +kernel, rfl, by decide +kernel, by decide +kernel⟩
theorem scconsists_of : FnScope ["word", "characters", "character"] ["word", "characters"] (defScope sconsists_of) := ⟨rfl, rfl, rfl, by decide +kernel, rfl, by decide +kernel, by decide +kernel⟩
theorem scis_name : FnScope ["word"] ["word"] (defScope sis_name) := ⟨rfl, rfl, rfl, by decide +kernel, rfl, by decide +kernel, by decide +kernel⟩
theorem scwhole : FnScope ["word", "most"] ["word", "most"] (defScope swhole) := ⟨rfl, rfl, rfl, by decide +kernel, rfl, by decide +kernel, by decide +kernel⟩
theorem scwrite_ratio : FnScope ["number", "top", "bottom"] ["number"] (defScope swrite_ratio) := ⟨rfl, rfl, rfl, by decide +kernel, rfl, by decide +kernel, by decide +kernel⟩
theorem scwrite_plan : FnScope ["plan", "lines", "start", "end", "name", "speed"] ["plan"] (defScope swrite_plan) := ⟨rfl, rfl, rfl, by decide +kernel, rfl, by decide +kernel, by decide +kernel⟩
theorem scread_unsigned : FnScope ["word", "words", "numbers", "top", "bottom", "part"] ["word"] (defScope sread_unsigned) := ⟨rfl, rfl, rfl, by decide +kernel, rfl, by decide +kernel, by decide +kernel⟩
theorem scread_ratio : FnScope ["word", "number"] ["word"] (defScope sread_ratio) := ⟨rfl, rfl, rfl, by decide +kernel, rfl, by decide +kernel, by decide +kernel⟩
theorem scread_piece : FnScope ["line", "words", "start", "end", "speed"] ["line"] (defScope sread_piece) := ⟨rfl, rfl, rfl, by decide +kernel, rfl, by decide +kernel, by decide +kernel⟩
theorem scread_plan : FnScope ["text", "lines", "ended", "pieces", "index", "line", "piece"] ["text"] (defScope sread_plan) := ⟨rfl, rfl, rfl, by decide +kernel, rfl, by decide +kernel, by decide +kernel⟩
theorem sc_law_pool : FnScope ["script"] ["script"] (defScope s_law_pool) := ⟨rfl, rfl, rfl, by decide +kernel, rfl, by decide +kernel, by decide +kernel⟩
theorem sc_law_draw : FnScope ["pool", "many", "found", "cell", "mixed"] ["pool", "many"] (defScope s_law_draw) := ⟨rfl, rfl, rfl, by decide +kernel, rfl, by decide +kernel, by decide +kernel⟩
theorem sc_law_pick : FnScope ["pool", "rows"] ["pool", "rows"] (defScope s_law_pick) := ⟨rfl, rfl, rfl, by decide +kernel, rfl, by decide +kernel, by decide +kernel⟩
theorem sc_law_gcd : FnScope ["a", "b", "k"] ["a", "b"] (defScope s_law_gcd) := ⟨rfl, rfl, rfl, by decide +kernel, rfl, by decide +kernel, by decide +kernel⟩
theorem sc_law_ratio : FnScope ["top", "bottom", "common"] ["top", "bottom"] (defScope s_law_ratio) := ⟨rfl, rfl, rfl, by decide +kernel, rfl, by decide +kernel, by decide +kernel⟩
theorem sc_law_plus : FnScope ["a", "b"] ["a", "b"] (defScope s_law_plus) := ⟨rfl, rfl, rfl, by decide +kernel, rfl, by decide +kernel, by decide +kernel⟩
theorem sc_law_over : FnScope ["a", "b"] ["a", "b"] (defScope s_law_over) := ⟨rfl, rfl, rfl, by decide +kernel, rfl, by decide +kernel, by decide +kernel⟩
theorem sc_law_less : FnScope ["a", "b"] ["a", "b"] (defScope s_law_less) := ⟨rfl, rfl, rfl, by decide +kernel, rfl, by decide +kernel, by decide +kernel⟩
theorem sc_law_sum : FnScope ["rows", "found", "row"] ["rows"] (defScope s_law_sum) := ⟨rfl, rfl, rfl, by decide +kernel, rfl, by decide +kernel, by decide +kernel⟩
theorem sc_law_same : FnScope ["actual", "due", "k"] ["actual", "due"] (defScope s_law_same) := ⟨rfl, rfl, rfl, by decide +kernel, rfl, by decide +kernel, by decide +kernel⟩
theorem sc_law_name : FnScope ["pool", "index", "letter", "head"] ["pool", "index"] (defScope s_law_name) := ⟨rfl, rfl, rfl, by decide +kernel, rfl, by decide +kernel, by decide +kernel⟩
theorem sc_law_window : FnScope ["pool", "wide", "comes"] ["pool", "wide"] (defScope s_law_window) := ⟨rfl, rfl, rfl, by decide +kernel, rfl, by decide +kernel, by decide +kernel⟩
theorem sc_law_jobs : FnScope ["pool", "most", "wide", "jobs", "k", "comes", "due", "work", "other"] ["pool", "most"] (defScope s_law_jobs) := ⟨rfl, rfl, rfl, by decide +kernel, rfl, by decide +kernel, by decide +kernel⟩
theorem sc_law_points : FnScope ["pool", "jobs", "points", "job", "k"] ["pool", "jobs"] (defScope s_law_points) := ⟨rfl, rfl, rfl, by decide +kernel, rfl, by decide +kernel, by decide +kernel⟩
theorem sc_law_shares : FnScope ["pool", "job", "slots", "own", "weights", "found", "k", "slot"] ["pool", "job", "slots"] (defScope s_law_shares) := ⟨rfl, rfl, rfl, by decide +kernel, rfl, by decide +kernel, by decide +kernel⟩
theorem sc_law_rival : FnScope ["pool", "jobs", "points", "slots", "rows", "pieces", "k", "low", "high", "load", "speed", "now", "shift", "j", "at", "stop", "job", "row"] ["pool", "jobs"] (defScope s_law_rival) := ⟨rfl, rfl, rfl, by decide +kernel, rfl, by decide +kernel, by decide +kernel⟩
theorem sc_law_word : FnScope ["value"] ["value"] (defScope s_law_word) := ⟨rfl, rfl, rfl, by decide +kernel, rfl, by decide +kernel, by decide +kernel⟩
theorem sc_law_lines : FnScope ["plan", "piece"] ["plan"] (defScope s_law_lines) := ⟨rfl, rfl, rfl, by decide +kernel, rfl, by decide +kernel, by decide +kernel⟩
theorem sc_law_number : FnScope ["word", "char"] ["word"] (defScope s_law_number) := ⟨rfl, rfl, rfl, by decide +kernel, rfl, by decide +kernel, by decide +kernel⟩
theorem sc_law_value : FnScope ["word", "digits", "parts", "numbers", "part"] ["word"] (defScope s_law_value) := ⟨rfl, rfl, rfl, by decide +kernel, rfl, by decide +kernel, by decide +kernel⟩
theorem sc_law_piece : FnScope ["line", "words", "values", "char"] ["line"] (defScope s_law_piece) := ⟨rfl, rfl, rfl, by decide +kernel, rfl, by decide +kernel, by decide +kernel⟩
theorem sc_law_wrong : FnScope ["text", "lines", "rest", "before", "k", "piece"] ["text"] (defScope s_law_wrong) := ⟨rfl, rfl, rfl, by decide +kernel, rfl, by decide +kernel, by decide +kernel⟩
theorem sc_law_spoilt : FnScope ["pool", "lines", "at", "pick", "words", "here", "strange"] ["pool", "lines"] (defScope s_law_spoilt) := ⟨rfl, rfl, rfl, by decide +kernel, rfl, by decide +kernel, by decide +kernel⟩
theorem sclaw : FnScope ["script", "pool", "lines", "k", "text", "pick", "due", "found", "e", "line"] ["script"] (defScope slaw) := ⟨rfl, rfl, rfl, by decide +kernel, rfl, by decide +kernel, by decide +kernel⟩
section
variable {P : Program} {w : World} {K : PySem.W.Frag} {mg : Str → Option Value} {base : Heap}
def spCons : Sp := fun vs H Q _ => ∃ w cs : Str, vs = [.str w, .str cs] ∧ Q (.bl (consB w cs)) H
theorem ok_consists_of (F : At K mg "consists_of" sconsists_of ["word", "characters"]) : Ok P w K mg base 1 "consists_of" ["word", "characters"] [] spCons := by
  refine F.ok scconsists_of (fun vs H Q E h => ?_) (fun f cdv A outer s H vs Q E hr h => ?_)
  · obtain ⟨x, cs, rfl, _⟩ := h
    rfl
  obtain ⟨x, cs, rfl, k⟩ := h
  refine ⟨_, (pss_cons (ps_for PassesOwn.never rfl (pi_str (pv 0)) (pg_name (i := 2) scconsists_of.nd rfl (Or.inl rfl))
        (pss_one (ps_if (pt_cmpR op_notIn_sign (pv 2) (pv 1) rfl)
          (pss_one (ps_ret pe_bl))
          pss_nil)))
      (pss_one (ps_ret (pe_cmpR op_ne (pv 0) pe_str (nomark _))))), ?_⟩
  refine ⟨_, rfl, x, rfl, for_str (fun i σ' H' => ∃ y, σ' = [some (.str x), some (.str cs), y] ∧ H' = H ∧ ∀ (m c : Nat), m < i → x.cps.toList[m]? = some c → c ∈ cs.cps.toList) ?_ ?_ ?_⟩
  · exact ⟨none, rfl, rfl, fun m c h => absurd h (Nat.not_lt_zero m)⟩
  · rintro i c σ' H' hc ⟨y, rfl, e, hm⟩
    subst e
    refine ⟨_, rfl, _, rfl, c, cs, rfl, rfl, _, rfl, ?_⟩
    by_cases z : c ∈ cs.cps.toList
    · rw [decide_eq_true z]
      refine iteF ⟨_, rfl, rfl, fun m d h1 h2 => ?_⟩
      by_cases h3 : m < i
      · exact hm m d h3 h2
      · have : m = i := by omega
        subst this
        rw [hc] at h2
        cases h2
        exact z
    · rw [decide_eq_false z]
      refine iteT ?_
      have e : consB x cs = false := by
        unfold consB
        rw [List.all_eq_false.mpr ⟨c, List.mem_of_getElem? hc, by rw [decide_eq_false z]; exact Bool.false_ne_true⟩]
        rfl
      rw [e] at k
      exact k
  · rintro σ' H' ⟨y, rfl, e, hm⟩
    subst e
    refine ⟨_, rfl, rfl, ?_⟩
    have e : consB x cs = !decide (V.str x = V.str ("" : Str)) := by
      unfold consB
      rw [List.all_eq_true.mpr fun c hc => ?_, Bool.true_and]
      obtain ⟨m, hm2⟩ := List.getElem?_of_mem hc
      exact decide_eq_true (hm m c (List.getElem?_eq_some_iff.mp hm2).1 hm2)
    rw [e] at k
    exact k

def spName1 : Sp := fun vs H Q _ => ∃ x : Str, vs = [.str x] ∧ x.length ≤ sizeLine ∧ Q (.bl (nameB x)) H
theorem ok_is_name (B : BI mg) (G : GS4 mg) (F : At K mg "is_name" sis_name ["word"]) (C_consists_of : Ok P w K mg base 1 "consists_of" ["word", "characters"] [] spCons) : Ok P w K mg base 2 "is_name" ["word"] [] spName1 := by
  refine F.ok scis_name (fun vs H Q E h => ?_) (fun f cdv A outer s H vs Q E hr h => ?_)
  · obtain ⟨x, rfl, _⟩ := h
    rfl
  obtain ⟨x, rfl, hx, k⟩ := h
  obtain ⟨t1, hLETTERS⟩ := G.LETTERS
  obtain ⟨t2, hLONGEST_NAME⟩ := G.LONGEST_NAME
  refine ⟨_, (pss_one (ps_ret (pe_and (pe_cmpR op_le (pe_callB call_len_str rfl B.len PySem.boot_len (pa_cons (pv 0) pa_nil)) (pe_glob (v := .int 8) rfl hLONGEST_NAME ⟨_, rfl⟩) (nomark _)) (pe_one (pe_ok C_consists_of (hr.mono (by first | decide | exact Nat.le_refl _)) rfl (pa_cons (pv 0) (pa_cons (pe_glob (v := .str LET) rfl hLETTERS ⟨_, rfl⟩) pa_nil))))))), ?_⟩
  unfold nameB at k
  refine ⟨_, rfl, x, rfl, hx, _, _, rfl, rfl, _, rfl, ?_⟩
  cases e : decide ((x.length : Int) ≤ 8) with
  | false =>
    refine iteF ?_
    rw [e] at k
    exact k
  | true =>
    refine iteT ⟨_, rfl, x, LET, rfl, ?_⟩
    rw [e, Bool.true_and] at k
    exact k

def spWhole : Sp := fun vs H Q _ => ∃ (x : Str) (m : Int), vs = [.str x, .int m] ∧ x.length ≤ sizeLine ∧ m ≤ 640 ∧ Q (oV (wholeO x m)) H
theorem ok_whole (B : BI mg) (G : GS4 mg) (F : At K mg "whole" swhole ["word", "most"]) (C_consists_of : Ok P w K mg base 1 "consists_of" ["word", "characters"] [] spCons) : Ok P w K mg base 2 "whole" ["word", "most"] [] spWhole := by
  refine F.ok scwhole (fun vs H Q E h => ?_) (fun f cdv A outer s H vs Q E hr h => ?_)
  · obtain ⟨x, m, rfl, _⟩ := h
    rfl
  obtain ⟨x, m, rfl, hx, hm, k⟩ := h
  obtain ⟨t1, hDIGITS⟩ := G.DIGITS
  refine ⟨_, (pss_cons (ps_if (PW.pt (pw_or (pt_cmpR op_gt (pe_callB call_len_str rfl B.len PySem.boot_len (pa_cons (pv 0) pa_nil)) (pv 1) (nomark _)) (pw_or1 (pt_not (pt_val (pe_ok C_consists_of (hr.mono (by first | decide | exact Nat.le_refl _)) rfl (pa_cons (pv 0) (pa_cons (pe_glob (v := .str DIG) rfl hDIGITS ⟨_, rfl⟩) pa_nil))))))))
        (pss_one (ps_ret pe_non))
        pss_nil)
      (pss_cons (ps_if (PW.pt (pw_and (pt_cmpR op_eq (pe_ix ix_str (pv 0) pe_int (fun _ _ => rfl)) pe_str (nomark _)) (pw_and1 (pt_cmpR op_ne (pv 0) pe_str (nomark _)))))
        (pss_one (ps_ret pe_non))
        pss_nil)
      (pss_one (ps_ret (pe_callTy call_int_str rfl B.int (by decide +kernel) (pa_cons (pv 0) pa_nil)))))), ?_⟩
  unfold wholeO at k
  have fin : ∀ {b : Bool}, b = true → (b = true) := fun h => h
  refine ⟨_, rfl, x, rfl, hx, _, rfl, _, _, rfl, rfl, _, rfl, ?_⟩
  cases e : decide (m < (x.length : Int)) with
  | true =>
    refine iteT (iteT ?_)
    rw [e, if_pos (by rfl)] at k
    exact k
  | false =>
    refine iteF ⟨_, rfl, x, DIG, rfl, _, rfl, ?_⟩
    rw [e] at k
    cases e2 : consB x DIG with
    | false =>
      refine iteT ?_
      rw [e2, if_pos (by rfl)] at k
      exact k
    | true =>
      refine iteF ?_
      rw [e2, if_neg (by decide)] at k
      have e3 := e2
      unfold consB at e3
      rw [Bool.and_eq_true] at e3
      have hne : x.cps.toList ≠ [] := fun z => by
        have : x = ("" : Str) := TL.ext_tl (by show x.cps.toList = _; rw [z]; decide +kernel)
        rw [this] at e3
        exact absurd e3.2 (by decide)
      have hall : NumText.AllDigits x.cps.toList := fun c hc => in_dig.mp (of_decide_eq_true (List.all_eq_true.mp e3.1 c hc))
      obtain ⟨c, r, ec⟩ := List.exists_cons_of_ne_nil hne
      have lx : x.length ≤ 640 := by
        have := of_decide_eq_false e
        omega
      refine ⟨_, rfl, x, 0, c, rfl, rfl, hx, by rw [ec]; exact atI_nat (j := 0) rfl, rfl, _, rfl, ?_⟩
      have h1 : (decide (x.cps.toList.head? = some 48)) = decide (V.str ⟨#[c]⟩ = V.str ("0" : Str)) := by
        rw [ec]
        refine decide_eq_decide.mpr ⟨fun z => ?_, fun z => ?_⟩
        · have : c = 48 := Option.some.inj z
          subst this
          exact congrArg V.str (TL.ext_tl (by decide +kernel))
        · have z2 := congrArg TL.tl (V.str.inj z)
          rw [show TL.tl ("0" : Str) = [48] by decide +kernel] at z2
          have z3 : [c] = [48] := z2
          rw [(List.cons.inj z3).1]
          rfl
      have h2 : (decide (x = ("0" : Str))) = decide (V.str x = V.str ("0" : Str)) := decide_eq_decide.mpr ⟨fun z => by rw [z], fun z => V.str.inj z⟩
      rw [h1, h2] at k
      have done : Q (.int ((NumText.digitsVal x.cps.toList : Nat) : Int)) H → ∃ a n, [V.str x] = [V.str a] ∧ PySem.intText? a = some n ∧ a.length ≤ 640 ∧ Q (.int n) H := fun q => ⟨x, _, rfl, intText_digits hall hne (by omega), lx, q⟩
      cases e4 : decide (V.str ⟨#[c]⟩ = V.str ("0" : Str)) with
      | false =>
        refine iteF (iteF ?_)
        rw [e4, if_neg (by rw [Bool.false_and]; decide)] at k
        exact ⟨_, rfl, done k⟩
      | true =>
        rw [e4] at k
        refine iteT ⟨_, rfl, rfl, _, rfl, ?_⟩
        cases e5 : decide (V.str x = V.str ("0" : Str)) with
        | true =>
          refine iteF ?_
          rw [e5, if_neg (by decide)] at k
          exact ⟨_, rfl, done k⟩
        | false =>
          refine iteT ?_
          rw [e5, if_pos (by rfl)] at k
          exact k

theorem small6 {n : Nat} (h : n ≤ 5000000) : n ≤ sizeLine := Nat.le_trans h (by decide)
theorem small6' {n : Nat} (h : n < 5000000) : n < sizeLine := Nat.lt_of_lt_of_le h (by decide)
theorem inV_non : ∀ ns : List (Option Int), inV .non (ns.map oV) = ns.any Option.isNone
  | [] => rfl
  | o :: ns => by
    have h := inV_non ns
    unfold inV at h ⊢
    rw [List.map_cons, List.any_cons, h, List.any_cons]
    cases o <;> rfl
theorem flat_oV (ns : List (Option Int)) : (ns.map oV).all flatV = true := List.all_eq_true.mpr fun z hz => by
  obtain ⟨o, _, rfl⟩ := List.mem_map.mp hz
  cases o <;> rfl
theorem ratN_none {ns : List (Option Int)} (h : ns.any Option.isNone = true) : ratN ns = none := by
  unfold ratN
  split
  · simp at h
  · simp at h
  · rfl
theorem ratN_long {ns : List (Option Int)} (h : 2 < ns.length) : ratN ns = none := by
  unfold ratN
  split
  · simp at h
  · simp at h
  · rfl
def spReadUG (K : PySem.W.Frag) : Sp := fun vs H Q _ => ∃ x : Str, vs = [.str x] ∧ x.length ≤ 4000000 ∧ ∀ v H', Same H H' → Is K H' v (dOR (ratU x)) → Q v H'
theorem ok_read_unsignedG (B : BI mg) (G : GS4 mg) (F : At K mg "read_unsigned" sread_unsigned ["word"]) (C_whole : Ok P w K mg base 2 "whole" ["word", "most"] [] spWhole) (mGcd : mg "gcd" = some (.builtin "math.gcd")) : Ok P w K mg base 3 "read_unsigned" ["word"] [] (spReadUG K) := by
  refine F.ok scread_unsigned (fun vs H Q E h => ?_) (fun f cdv A outer s H vs Q E hr h => ?_)
  · obtain ⟨x, rfl, _⟩ := h
    rfl
  obtain ⟨x, rfl, hx, k⟩ := h
  obtain ⟨t1, hMOST_DIGITS⟩ := G.MOST_DIGITS
  refine ⟨_, (pss_cons (ps_set (i := 1) scread_unsigned.nd rfl (Or.inl rfl) (pe_split (pv 0) pe_str))
      (pss_cons (ps_setLc (i := 2) (own := [("part", 5)]) (g := gName 5) (tt := tYes) rfl scread_unsigned.nd rfl rfl (sw_true rfl rfl rfl (by decide +kernel)) (pi_list (pv 1)) (blkOk_by (own := [("part", 5)]) (N := ["word", "words", "numbers", "top", "bottom", "part"]) (sc := defScope sread_unsigned) (by decide +kernel)) (fun _ _ _ _ _ => (pg_name (i := 5) scread_unsigned.nd rfl (Or.inl rfl))) (fun _ _ _ _ _ => pts_nil) (fun _ _ _ _ _ => (pe_ok C_whole (hr.mono (by first | decide | exact Nat.le_refl _)) rfl (pa_cons (pv 5) (pa_cons (pe_glob (v := .int 200) rfl hMOST_DIGITS ⟨_, rfl⟩) pa_nil)))))
      (pss_cons (ps_if (PW.pt (pw_or (pt_cmpR op_in_seq pe_non (pv 2) rfl) (pw_or1 (pt_cmpR op_gt (pe_callB call_len_seq rfl B.len PySem.boot_len (pa_cons (pv 2) pa_nil)) pe_int (nomark _)))))
        (pss_one (ps_ret pe_non))
        pss_nil)
      (pss_cons (ps_if (pt_cmpR op_eq (pe_callB call_len_seq rfl B.len PySem.boot_len (pa_cons (pv 2) pa_nil)) pe_int (nomark _))
        (pss_one (ps_ret (pe_tup (pa_cons (pe_ix ix_list (pv 2) pe_int (fun _ _ => rfl)) (pa_cons pe_int pa_nil)))))
        pss_nil)
      (pss_cons (ps_asg (pv 2) (pg_lst rfl (pgs_cons (pg_name (i := 3) scread_unsigned.nd rfl (Or.inl rfl)) (pgs_cons (pg_name (i := 4) scread_unsigned.nd rfl (Or.inl rfl)) pgs_nil))))
      (pss_cons (ps_if (PW.pt (pw_or (pt_cmpR op_lt (pv 4) pe_int (nomark _)) (pw_or1 (pt_cmpR op_ne (pe_callBfun cr_gcd rfl mGcd (pa_cons (pv 3) (pa_cons (pv 4) pa_nil))) pe_int (nomark _)))))
        (pss_one (ps_ret pe_non))
        pss_nil)
      (pss_one (ps_ret (pe_tup (pa_cons (pv 3) (pa_cons (pv 4) pa_nil))))))))))), ?_⟩
  have two : (2 : Nat) ≤ sizeLine := by decide
  refine ⟨_, rfl, ⟨_, rfl⟩, x, ("/" : Str), rfl, rfl, by decide +kernel, small6 (by omega), fun L nL => ?_⟩
  have cnt := sepSl.count x
  have ne := sepSl.ne x
  have lp : ∀ p ∈ Txt.split x ("/" : Str), p.length ≤ 4000000 := fun p hp => Nat.le_trans (sepSl.len hp) hx
  unfold ratU numsO at k
  generalize Txt.split x ("/" : Str) = ws at cnt ne lp k ⊢
  have sL := same_upd (o := .lst (ws.map V.str)) nL
  have hL : (upd H L (.lst (ws.map V.str))) L = some (.lst (ws.map V.str)) := upd_same
  generalize upd H L (.lst (ws.map V.str)) = H1 at sL hL
  refine ⟨_, rfl, L, rfl, ⟨_, SqL.of hL⟩, fun D hD => ?_⟩
  refine lc_list (xs := ws.map V.str) (fun i H8 => Same H1 H8 ∧ H8 D = some (.lst (((ws.take i).map fun y => wholeO y 200).map oV))) ⟨same_upd hD, upd_same⟩ (fun i H8 _ h => SqL.of (h.1 _ _ hL)) ?_ ?_
  · rintro i v H8 hv ⟨s8, h8⟩
    rw [List.getElem?_map] at hv
    obtain ⟨y, hy, rfl⟩ := Option.map_eq_some_iff.mp hv
    have il := (List.getElem?_eq_some_iff.mp hy).1
    refine ⟨rfl, _, rfl, y, 200, rfl, small6 (by have := lp y (List.mem_of_getElem? hy); omega), by decide, ?_⟩
    refine ⟨_, h8, small6' (by rw [List.length_map, List.length_map, List.length_take]; omega), Z.Same.mut s8 hD, ?_⟩
    rw [upd_same, List.take_add_one, hy, List.map_append, List.map_append]
    rfl
  rintro H2 ⟨s2, h2⟩
  rw [List.length_map, List.take_length] at h2
  have S2 := sL.trans s2
  have lns : (ws.map fun y => wholeO y 200).length = ws.length := List.length_map _
  generalize (ws.map fun y => wholeO y 200) = ns at h2 k lns
  refine ⟨_, rfl, D, _, rfl, .inl (SqL.of h2), rfl, flat_oV ns, _, rfl, ?_⟩
  show ite (inV V.non (ns.map oV) = true) _ _
  rw [inV_non]
  cases e : ns.any Option.isNone with
  | true =>
    refine iteT (iteT ?_)
    rw [ratN_none e] at k
    exact k _ _ S2 .non
  | false =>
    refine iteF ⟨_, rfl, D, _, rfl, .inl (SqL.of h2), _, _, rfl, rfl, _, rfl, ite2 (fun c => ?_) (fun c => ?_)⟩
    · have c := of_decide_eq_true c
      rw [List.length_map] at c
      rw [ratN_long (by omega)] at k
      exact k _ _ S2 .non
    · have c : ¬ ((2 : Int) < ((ns.map oV).length : Nat)) := of_decide_eq_false (Bool.eq_false_iff.mpr c)
      rw [List.length_map] at c
      match ns, e, k, h2, lns, c with
      | [], e, k, h2, lns, c =>
        cases ws with
        | nil => exact absurd rfl ne
        | cons a r => simp at lns
      | [none], e, k, h2, lns, c => simp at e
      | [none, none], e, k, h2, lns, c => simp at e
      | [none, some b], e, k, h2, lns, c => simp at e
      | [some t, none], e, k, h2, lns, c => simp at e
      | _ :: _ :: _ :: _, e, k, h2, lns, c => simp at c; omega
      | [some t], e, k, h2, lns, c =>
        refine ⟨_, rfl, D, _, rfl, .inl (SqL.of h2), rfl, _, rfl, iteT ?_⟩
        refine ⟨_, rfl, D, _, 0, _, rfl, rfl, SqL.of h2, rfl, two, fun u nu => ?_⟩
        exact k _ _ (S2.trans (same_upd nu)) (.tup (SqT.of upd_same) (.two (.int _) (.int _)))
      | [some t, some b], e, k, h2, lns, c =>
        refine ⟨_, rfl, D, _, rfl, .inl (SqL.of h2), rfl, _, rfl, iteF ?_⟩
        refine ⟨_, rfl, D, _, rfl, SqL.of h2, rfl, .int t, _, rfl, .int b, _, rfl, rfl, ?_⟩
        have k : ∀ v H', Same H H' → Is K H' v (dOR (if b < 2 ∨ Nat.gcd t.natAbs b.natAbs ≠ 1 then none else some (Rat.divInt t b))) → Q v H' := k
        refine ⟨_, rfl, _, _, rfl, rfl, _, rfl, ?_⟩
        by_cases d2 : b < 2
        · rw [decide_eq_true d2]
          refine iteT (iteT ?_)
          rw [if_pos (.inl d2)] at k
          exact k _ _ S2 .non
        · rw [decide_eq_false d2]
          refine iteF ⟨_, rfl, _, rfl, t, b, rfl, rfl, _, rfl, ?_⟩
          by_cases g1 : Nat.gcd t.natAbs b.natAbs = 1
          · rw [g1]
            rw [if_neg (fun z => z.elim d2 (fun z => z g1))] at k
            refine iteF ⟨_, rfl, _, rfl, two, fun u nu => ?_⟩
            obtain ⟨p1, p2⟩ := divInt_parts (t := t) (b := b) (by omega) g1
            refine k _ _ (S2.trans (same_upd nu)) ?_
            show Is K _ _ (rat2 (Rat.divInt t b))
            unfold rat2
            rw [p1, p2]
            exact .tup (SqT.of upd_same) (.two (.int _) (.int _))
          · rw [decide_eq_false (fun z => g1 (by have := V.int.inj z; omega))]
            refine iteT ?_
            rw [if_pos (.inr g1)] at k
            exact k _ _ S2 .non
def spReadRG (K : PySem.W.Frag) : Sp := fun vs H Q _ => ∃ x : Str, vs = [.str x] ∧ x.length ≤ 4000000 ∧ ∀ v H', Same H H' → Is K H' v (dOR (ratO x)) → Q v H'
theorem ok_read_ratioG (B : BI mg) (Z : GZ K mg) (F : At K mg "read_ratio" sread_ratio ["word"]) (C_read_unsigned : Ok P w K mg base 3 "read_unsigned" ["word"] [] (spReadUG K)) : Ok P w K mg base 4 "read_ratio" ["word"] [] (spReadRG K) := by
  refine F.ok scread_ratio (fun vs H Q E h => ?_) (fun f cdv A outer s H vs Q E hr h => ?_)
  · obtain ⟨x, rfl, _⟩ := h
    rfl
  obtain ⟨x, rfl, hx, k⟩ := h
  obtain ⟨zA, hZERO, sZ⟩ := Z
  refine ⟨_, (pss_cons (ps_if (pt_not (pt_val (pe_m1 PySem.F.slot_str_startswith PySem.F.type_str_startswith mt_startswith (pv 0) pe_str)))
        (pss_one (ps_ret (pe_ok C_read_unsigned (hr.mono (by first | decide | exact Nat.le_refl _)) rfl (pa_cons (pv 0) pa_nil))))
        pss_nil)
      (pss_cons (ps_set (i := 1) scread_ratio.nd rfl (Or.inl rfl) (pe_ok C_read_unsigned (hr.mono (by first | decide | exact Nat.le_refl _)) rfl (pa_cons (pe_slice sl_str (pv 0) (po_some pe_int) po_none) pa_nil)))
      (pss_cons (ps_if (PW.pt (pw_or (pt_cmpR op_isN (pv 1) pe_non (nomark _)) (pw_or1 (pt_cmpR (op_eqD hr.units) (pv 1) (pe_glob (v := .ref zA) rfl hZERO rfl) (nomark _)))))
        (pss_one (ps_ret pe_non))
        pss_nil)
      (pss_one (ps_ret (pe_tup (pa_cons (pe_un un_neg (pe_ix ix_tup (pv 1) pe_int (fun _ _ => rfl))) (pa_cons (pe_ix ix_tup (pv 1) pe_int (fun _ _ => rfl)) pa_nil)))))))), ?_⟩
  have two : (2 : Nat) ≤ sizeLine := by decide
  refine ⟨_, rfl, ⟨_, rfl⟩, x, ("-" : Str), rfl, rfl, _, rfl, ?_⟩
  rw [starts_minus]
  unfold ratO at k
  by_cases c : (TL.tl x).head? = some 45
  · rw [if_pos c] at k
    rw [decide_eq_true c]
    refine iteF ⟨_, rfl, 1, rfl, x, rfl, small6 (by omega), ?_⟩
    have lc : (cutS x (some 1) none).length ≤ 4000000 := by
      have e := tl_cut1 c
      have := congrArg List.length e
      rw [List.length_cons] at this
      have h1 : (TL.tl x).length = x.length := rfl
      have h2 : (TL.tl (cutS x (some 1) none)).length = (cutS x (some 1) none).length := rfl
      omega
    refine ⟨cutS x (some 1) none, rfl, lc, fun v H1 s1 i1 => ?_⟩
    cases e : ratU (cutS x (some 1) none) with
    | none =>
      rw [e] at i1 k
      have i1 : Is K H1 v .none := i1
      cases i1
      refine ⟨_, rfl, rfl, true, by simp, iteT (iteT ?_)⟩
      exact k _ _ s1 .non
    | some q =>
      rw [e] at i1 k
      have i1 : Is K H1 v (rat2 q) := i1
      obtain ⟨p, a, b, rfl, st, ia, ib⟩ := i1.two'
      cases ia
      cases ib
      refine ⟨_, rfl, rfl, false, by simp, iteF ⟨_, rfl, rat2 q, rat2 0, i1.dp, (is_zero (sZ _)).dp, shaped_rat2 _, shaped_rat2 _, _, rfl, ?_⟩⟩
      rw [eqv_rat2]
      have k : ∀ v H', Same H H' → Is K H' v (dOR (if q = 0 then none else some (-q))) → Q v H' := k
      refine ite2 (fun z => ?_) (fun z => ?_)
      · rw [if_pos (of_decide_eq_true z)] at k
        exact k _ _ s1 .non
      · rw [if_neg (of_decide_eq_false (Bool.eq_false_iff.mpr z))] at k
        refine ⟨_, rfl, p, _, 0, _, rfl, rfl, st, rfl, _, rfl, _, rfl, p, _, 1, _, rfl, rfl, st, rfl, two, fun t nt' => ?_⟩
        exact k _ _ (s1.trans (same_upd nt')) (.tup (SqT.of upd_same) (.two (.int _) (.int _)))
  · rw [if_neg c] at k
    rw [decide_eq_false c]
    exact iteT ⟨_, rfl, x, rfl, hx, fun v H1 s1 i1 => k v H1 s1 i1⟩
/-- a piece, or None -/
def dOP : Option Pc → PyData
  | none => .none
  | some p => dPc p
def spReadPG (K : PySem.W.Frag) : Sp := fun vs H Q _ => ∃ x : Str, vs = [.str x] ∧ x.length ≤ 4000000 ∧ ∀ v H', Same H H' → Is K H' v (dOP (pieceO x)) → Q v H'
theorem ratO_sz {x : Str} {q : Rat} (h : ratO x = some q) : Sz 3900 q := (ratO_back h).2.mono (by decide)
theorem ok_read_pieceG (B : BI mg) (Z : GZ K mg) (F : At K mg "read_piece" sread_piece ["line"]) (C_is_name : Ok P w K mg base 2 "is_name" ["word"] [] spName1) (C_read_ratio : Ok P w K mg base 4 "read_ratio" ["word"] [] (spReadRG K)) (C_less : Ok P w K mg base 1 "less" ["a", "b"] [] (spLess K)) : Ok P w K mg base 5 "read_piece" ["line"] [] (spReadPG K) := by
  refine F.ok scread_piece (fun vs H Q E h => ?_) (fun f cdv A outer s H vs Q E hr h => ?_)
  · obtain ⟨x, rfl, _⟩ := h
    rfl
  obtain ⟨x, rfl, hx, k⟩ := h
  obtain ⟨zA, hZERO, sZ⟩ := Z
  refine ⟨_, (pss_cons (ps_set (i := 1) scread_piece.nd rfl (Or.inl rfl) (pe_split (pv 0) pe_str))
      (pss_cons (ps_if (PW.pt (pw_or (pt_cmpR op_ne (pe_callB call_len_seq rfl B.len PySem.boot_len (pa_cons (pv 1) pa_nil)) pe_int (nomark _)) (pw_or1 (pt_not (pt_val (pe_ok C_is_name (hr.mono (by first | decide | exact Nat.le_refl _)) rfl (pa_cons (pe_ix ix_list (pv 1) pe_int (fun _ _ => rfl)) pa_nil)))))))
        (pss_one (ps_ret pe_non))
        pss_nil)
      (pss_cons (ps_set (i := 2) scread_piece.nd rfl (Or.inl rfl) (pe_ok C_read_ratio (hr.mono (by first | decide | exact Nat.le_refl _)) rfl (pa_cons (pe_ix ix_list (pv 1) pe_int (fun _ _ => rfl)) pa_nil)))
      (pss_cons (ps_set (i := 3) scread_piece.nd rfl (Or.inl rfl) (pe_ok C_read_ratio (hr.mono (by first | decide | exact Nat.le_refl _)) rfl (pa_cons (pe_ix ix_list (pv 1) pe_int (fun _ _ => rfl)) pa_nil)))
      (pss_cons (ps_set (i := 4) scread_piece.nd rfl (Or.inl rfl) (pe_ok C_read_ratio (hr.mono (by first | decide | exact Nat.le_refl _)) rfl (pa_cons (pe_ix ix_list (pv 1) pe_int (fun _ _ => rfl)) pa_nil)))
      (pss_cons (ps_if (PW.pt (pw_or (pt_cmpR op_isN (pv 2) pe_non (nomark _)) (pw_or (pt_cmpR op_isN (pv 3) pe_non (nomark _)) (pw_or1 (pt_cmpR op_isN (pv 4) pe_non (nomark _))))))
        (pss_one (ps_ret pe_non))
        pss_nil)
      (pss_cons (ps_if (PW.pt (pw_or (pt_not (pt_val (pe_ok C_less (hr.mono (by first | decide | exact Nat.le_refl _)) rfl (pa_cons (pv 2) (pa_cons (pv 3) pa_nil))))) (pw_or1 (pt_not (pt_val (pe_ok C_less (hr.mono (by first | decide | exact Nat.le_refl _)) rfl (pa_cons (pe_glob (v := .ref zA) rfl hZERO rfl) (pa_cons (pv 4) pa_nil))))))))
        (pss_one (ps_ret pe_non))
        pss_nil)
      (pss_one (ps_ret (pe_tup (pa_cons (pv 2) (pa_cons (pv 3) (pa_cons (pe_ix ix_list (pv 1) pe_int (fun _ _ => rfl)) (pa_cons (pv 4) pa_nil)))))))))))))), ?_⟩
  refine ⟨_, rfl, ⟨_, rfl⟩, x, (" " : Str), rfl, rfl, by decide +kernel, small6 (by omega), fun L nL => ?_⟩
  have cnt := sepS.count x
  have lp : ∀ p ∈ Txt.split x (" " : Str), p.length ≤ 4000000 := fun p hp => Nat.le_trans (sepS.len hp) hx
  unfold pieceO at k
  generalize Txt.split x (" " : Str) = ws at cnt lp k ⊢
  have sL := same_upd (o := .lst (ws.map V.str)) nL
  have hL : (upd H L (.lst (ws.map V.str))) L = some (.lst (ws.map V.str)) := upd_same
  generalize upd H L (.lst (ws.map V.str)) = H1 at sL hL
  refine ⟨_, rfl, L, _, rfl, .inl (SqL.of hL), rfl, _, rfl, ?_⟩
  by_cases l4 : ws.length = 4
  · rw [decide_eq_true (show V.int ((ws.map V.str).length : Nat) = V.int 4 by rw [List.length_map, l4]; rfl)]
    match ws, l4, lp, k, hL, cnt with
    | [a, b, n, c], l4, lp, k, hL, cnt =>
    refine iteF ?_
    refine ⟨_, rfl, L, _, 2, _, rfl, rfl, SqL.of hL, rfl, n, rfl, small6 (by have := lp n (by simp); omega), _, rfl, ?_⟩
    have k : ∀ v H', Same H H' → Is K H' v (dOP (if nameB n = true then (match ratO a, ratO b, ratO c with
      | some s, some e, some v => if s < e ∧ 0 < v then some (⟨s, e, n, v⟩ : Pc) else none
      | _, _, _ => none) else none)) → Q v H' := k
    cases hn : nameB n with
    | false =>
      rw [hn, if_neg (by decide)] at k
      exact iteT (k _ _ sL .non)
    | true =>
    rw [hn, if_pos rfl] at k
    refine iteF ?_
    refine ⟨_, rfl, L, _, 0, _, rfl, rfl, SqL.of hL, rfl, a, rfl, lp a (by simp), fun v1 H2 s2 i2 => ?_⟩
    have hL2 := s2 _ _ hL
    refine ⟨_, rfl, L, _, 1, _, rfl, rfl, SqL.of hL2, rfl, b, rfl, lp b (by simp), fun v2 H3 s3 i3 => ?_⟩
    have hL3 := s3 _ _ hL2
    refine ⟨_, rfl, L, _, 3, _, rfl, rfl, SqL.of hL3, rfl, c, rfl, lp c (by simp), fun v3 H4 s4 i4 => ?_⟩
    have hL4 := s4 _ _ hL3
    have S4 := sL.trans (s2.trans (s3.trans s4))
    cases ea : ratO a with
    | none =>
      rw [ea] at i2 k
      have i2 : Is K H2 v1 .none := i2
      cases i2
      exact ⟨_, rfl, rfl, true, by simp, iteT (iteT (k _ _ S4 .non))⟩
    | some s =>
    rw [ea] at i2 k
    have i2 : Is K H2 v1 (rat2 s) := i2
    obtain ⟨t1, _, _, rfl, _⟩ := i2.two'
    refine ⟨_, rfl, rfl, false, by simp, iteF ?_⟩
    cases eb : ratO b with
    | none =>
      rw [eb] at i3 k
      have i3 : Is K H3 v2 .none := i3
      cases i3
      exact ⟨_, rfl, rfl, true, by simp, iteT (iteT (k _ _ S4 .non))⟩
    | some e =>
    rw [eb] at i3 k
    have i3 : Is K H3 v2 (rat2 e) := i3
    obtain ⟨t2, _, _, rfl, _⟩ := i3.two'
    refine ⟨_, rfl, rfl, false, by simp, iteF ?_⟩
    cases ec : ratO c with
    | none =>
      rw [ec] at i4 k
      have i4 : Is K H4 v3 .none := i4
      cases i4
      exact ⟨_, rfl, rfl, true, by simp, iteT (k _ _ S4 .non)⟩
    | some v =>
    rw [ec] at i4 k
    have i4 : Is K H4 v3 (rat2 v) := i4
    obtain ⟨t3, _, _, rfl, _⟩ := i4.two'
    refine ⟨_, rfl, rfl, false, by simp, iteF ?_⟩
    have k : ∀ u H', Same H H' → Is K H' u (dOP (if s < e ∧ 0 < v then some (⟨s, e, n, v⟩ : Pc) else none)) → Q u H' := k
    have j1 := i2.to (Same.tm (s3.trans s4))
    have j2 := i3.to (Same.tm s4)
    have zs := ratO_sz ea
    have ze := ratO_sz eb
    have zv := ratO_sz ec
    refine ⟨_, rfl, _, rfl, .ref t1, .ref t2, s, e, rfl, j1, j2, zs, ze, _, rfl, ?_⟩
    by_cases lt : s < e
    · rw [decide_eq_true lt]
      refine iteF ⟨_, rfl, .ref zA, .ref t3, 0, v, rfl, is_zero (sZ _), i4, Sz.zero.mono (by decide), zv, _, rfl, ?_⟩
      by_cases v0 : 0 < v
      · rw [decide_eq_true v0]
        rw [if_pos ⟨lt, v0⟩] at k
        refine iteF ⟨_, rfl, _, rfl, _, rfl, L, _, 2, _, rfl, rfl, SqL.of hL4, rfl, _, rfl, (by show 4 ≤ sizeLine; decide), fun t nt' => ?_⟩
        exact k _ _ (S4.trans (same_upd nt')) (is_pc (q := ⟨s, e, n, v⟩) (SqT.of upd_same) (j1.to (Tm.new nt')) (j2.to (Tm.new nt')) (i4.to (Tm.new nt')))
      · rw [decide_eq_false v0]
        rw [if_neg (fun z => v0 z.2)] at k
        exact iteT (k _ _ S4 .non)
    · rw [decide_eq_false lt]
      rw [if_neg (fun z => lt z.1)] at k
      exact iteT (iteT (k _ _ S4 .non))
  · rw [decide_eq_false (show ¬ V.int ((ws.map V.str).length : Nat) = V.int 4 from fun z => l4 (by have := V.int.inj z; rw [List.length_map] at this; omega))]
    have : pieceW ws = none := by
      unfold pieceW
      split
      · exact absurd rfl l4
      · rfl
    rw [this] at k
    exact iteT (iteT (k _ _ sL .non))

end
end Z

namespace Z
open PySem PySem.Spec PyProof.Rows L2 ZX
section
variable {P : Program} {w : World} {K : PySem.W.Frag} {mg : Str → Option Value} {base : Heap}
theorem e_app (x : Str) : Str.empty ++ x = x := TL.ext_tl (by rw [TL.tl_append]; rfl)
def spWRW (K : PySem.W.Frag) : Sp := fun vs H Q _ => ∃ (x : V) (q : Rat), vs = [x] ∧ Is K H x (rat2 q) ∧ Sz 700 q ∧ Q (.str (wR q)) H
theorem ok_write_ratioW (B : BI mg) (F : At K mg "write_ratio" swrite_ratio ["number"]) : Ok P w K mg base 1 "write_ratio" ["number"] [] (spWRW K) := by
  refine F.ok scwrite_ratio (fun vs H Q E h => ?_) (fun f cdv A outer s H vs Q E hr h => ?_)
  · obtain ⟨x, q, rfl, _⟩ := h
    rfl
  obtain ⟨x, q, rfl, ix, zq, k⟩ := h
  refine ⟨_, (pss_cons (ps_asg (pv 0) (pg_tup rfl (pgs_cons (pg_name (i := 1) scwrite_ratio.nd rfl (Or.inl rfl)) (pgs_cons (pg_name (i := 2) scwrite_ratio.nd rfl (Or.inl rfl)) pgs_nil))))
      (pss_one (ps_ret (pe_ifExp (pt_cmpR op_eq (pv 2) pe_int (nomark _)) (pe_joined1 (pe_fmt (pv 1))) (pe_joined (PJ.cons (pe_fmt (pv 1)) (PJ.cons pe_str (PJ.cons (pe_fmt (pv 2)) PJ.nil)))))))), ?_⟩
  obtain ⟨p, a, b, rfl, st, ia, ib⟩ := ix.two'
  cases ia
  cases ib
  have zn := zq.1
  have zd := zq.2
  have l1 := nt_lenWI zn
  have l2 := nt_lenW zd
  have es : ("/" : Str).length = 1 := by decide +kernel
  have e0 : Str.empty.length = 0 := by decide +kernel
  refine ⟨_, rfl, p, _, rfl, st, rfl, .int q.num, _, rfl, .int (q.den : Int), _, rfl, rfl, ?_⟩
  unfold wR at k
  refine ⟨_, rfl, rfl, _, rfl, ?_⟩
  by_cases c : q.den = 1
  · rw [if_pos c] at k
    rw [decide_eq_true (show V.int (q.den : Int) = V.int 1 by rw [c]; rfl)]
    refine iteT ⟨_, rfl, .inr ⟨q.num, rfl, log_bigW zn, k⟩⟩
  · rw [if_neg c] at k
    rw [decide_eq_false (show ¬ V.int (q.den : Int) = V.int 1 from fun z => c (by have := V.int.inj z; omega))]
    refine iteF ⟨_, rfl, .inr ⟨q.num, rfl, log_bigW zn, nt q.num, rfl, small5 (by simp only [len_app2, e0, es]; omega), ?_⟩⟩
    refine ⟨_, rfl, small5 (by simp only [len_app2, e0, es]; omega), _, rfl, .inr ⟨(q.den : Int), rfl, log_bigW (by omega), nt (q.den : Int), rfl, small5 (by simp only [len_app2, e0, es]; omega), ?_⟩⟩
    rw [e_app]
    exact k

theorem join0_len (ys : List Str) : (Txt.join ("" : Str) ys).length = (ys.map (·.length)).sum := by
  rw [TL.len_tl, TL.join_eq, TL.tl_join, tl_e]
  have key : ∀ l : List (List Nat), (TL.joinL [] l).length = (l.map List.length).sum := by
    intro l
    induction l with
    | nil => rfl
    | cons p l ih =>
      cases l with
      | nil => simp [TL.joinL]
      | cons q r =>
        show (p ++ ([] ++ TL.joinL [] (q :: r))).length = _
        rw [List.nil_append, List.length_append, ih]
        simp only [List.map_cons, List.sum_cons]
  rw [key, List.map_map]
  rfl
theorem lines_len : ∀ ps : List Pc, ps.length ≤ ((ps.map lineN).map (·.length)).sum
  | [] => Nat.le_refl _
  | p :: ps => by
    have := lines_len ps
    have e : (lineN p).length = (lineP p).length + 1 := by
      unfold lineN
      rw [len_app2, show ("\n" : Str).length = 1 by decide +kernel]
    rw [List.map_cons, List.map_cons, List.sum_cons, List.length_cons, e]
    omega
def spWritePW (K : PySem.W.Frag) : Sp := fun vs H Q _ => ∃ (a : Addr) (xs : List V) (ps : List Pc), vs = [.ref a] ∧ SqT K H a xs ∧ IsA K H xs (ps.map dPc) ∧ (∀ p ∈ ps, PcW p) ∧ (planT ps).length ≤ 3000000 ∧ ∀ H', Same H H' → Q (.str (planT ps)) H'
theorem ok_write_planW (B : BI mg) (F : At K mg "write_plan" swrite_plan ["plan"]) (C_write_ratio : Ok P w K mg base 1 "write_ratio" ["number"] [] (spWRW K)) : Ok P w K mg base 2 "write_plan" ["plan"] [] (spWritePW K) := by
  refine F.ok scwrite_plan (fun vs H Q E h => ?_) (fun f cdv A outer s H vs Q E hr h => ?_)
  · obtain ⟨a, xs, ps, rfl, _⟩ := h
    rfl
  obtain ⟨a, xs, ps, rfl, hS, hI, hp, hl, k⟩ := h
  refine ⟨_, (pss_cons (ps_set (i := 1) scwrite_plan.nd rfl (Or.inl rfl) (pe_lst pa_nil))
      (pss_cons (ps_for PassesOwn.never rfl (pi_tup (pv 0)) (pg_tup rfl (pgs_cons (pg_name (i := 2) scwrite_plan.nd rfl (Or.inl rfl)) (pgs_cons (pg_name (i := 3) scwrite_plan.nd rfl (Or.inl rfl)) (pgs_cons (pg_name (i := 4) scwrite_plan.nd rfl (Or.inl rfl)) (pgs_cons (pg_name (i := 5) scwrite_plan.nd rfl (Or.inl rfl)) pgs_nil)))))
        (pss_one (ps_expr (pe_bm PySem.F.plainAttrs_list PySem.F.slot_list_append PySem.F.type_list_append mt_append (pv 1) (pa_cons (pe_joined (PJ.cons (pe_fmt (pe_ok C_write_ratio (hr.mono (by first | decide | exact Nat.le_refl _)) rfl (pa_cons (pv 2) pa_nil))) (PJ.cons pe_str (PJ.cons (pe_fmt (pe_ok C_write_ratio (hr.mono (by first | decide | exact Nat.le_refl _)) rfl (pa_cons (pv 3) pa_nil))) (PJ.cons pe_str (PJ.cons (pe_fmt (pv 4)) (PJ.cons pe_str (PJ.cons (pe_fmt (pe_ok C_write_ratio (hr.mono (by first | decide | exact Nat.le_refl _)) rfl (pa_cons (pv 5) pa_nil))) (PJ.cons pe_str PJ.nil))))))))) pa_nil)))))
      (pss_one (ps_ret (pe_join pe_str (pv 1)))))), ?_⟩
  have lx : xs.length = ps.length := by rw [hI.len, List.length_map]
  have pl : ps.length ≤ 3000000 := by
    have := lines_len ps
    have := join0_len (ps.map lineN)
    unfold planT at hl
    omega
  have e1 : (" " : Str).length = 1 := by decide +kernel
  have e2 : ("\n" : Str).length = 1 := by decide +kernel
  have e0 : Str.empty.length = 0 := by decide +kernel
  refine ⟨(by show 0 ≤ sizeLine; decide), fun L nL => ?_⟩
  have sL := same_upd (o := .lst []) nL
  have hL : (upd H L (.lst [])) L = some (.lst []) := upd_same
  generalize upd H L (.lst []) = H0 at sL hL
  refine ⟨_, rfl, a, rfl, ⟨_, Tm.sq (Same.tm sL) hS⟩, for_tup (xs := xs) (fun i σ' H' => ∃ (y2 y3 y4 y5 : Option V), σ' = [some (.ref a), some (.ref L), y2, y3, y4, y5] ∧ Same H H' ∧ H' L = some (.lst (((ps.take i).map lineN).map V.str))) ⟨none, none, none, none, rfl, sL, hL⟩ (fun i σ' H' hi h => by
    obtain ⟨y2, y3, y4, y5, rfl, sm, _⟩ := h
    exact Tm.sq (Same.tm sm) hS) ?_ ?_⟩
  · rintro i v σ' H' hv ⟨y2, y3, y4, y5, rfl, sm, hz⟩
    obtain ⟨d, hd, iv⟩ := hI.at hv
    obtain ⟨c, hc, rfl⟩ := getJ hd
    have pc := hp c (List.mem_of_getElem? hc)
    have il : i < ps.length := (List.getElem?_eq_some_iff.mp hc).1
    have w1 := wR_lenW pc.s
    have w2 := wR_lenW pc.e
    have w3 := wR_lenW pc.v
    have w4 := pc.nl
    obtain ⟨tc, c0, c1, c2, rfl, stc, ic0, ic1, ic2⟩ := pc_at (iv.to (Same.tm sm))
    refine ⟨tc, _, rfl, stc, rfl, c0, _, rfl, c1, _, rfl, .str c.n, _, rfl, c2, _, rfl, rfl, ?_⟩
    refine ⟨_, rfl, .inl ⟨rfl, _, SqL.of hz⟩, ?_⟩
    refine ⟨_, rfl, c0, c.s, rfl, ic0, pc.s, .inl ⟨wR c.s, rfl, small5 (by omega), wR c.s, rfl, small5 (by simp only [len_app2, e0, e1, e2]; omega), ?_⟩⟩
    refine ⟨_, rfl, small5 (by simp only [len_app2, e0, e1, e2]; omega), _, rfl, c1, c.e, rfl, ic1, pc.e, .inl ⟨wR c.e, rfl, small5 (by omega), wR c.e, rfl, small5 (by simp only [len_app2, e0, e1, e2]; omega), ?_⟩⟩
    refine ⟨_, rfl, small5 (by simp only [len_app2, e0, e1, e2]; omega), _, rfl, .inl ⟨c.n, rfl, small5 (by omega), c.n, rfl, small5 (by simp only [len_app2, e0, e1, e2]; omega), ?_⟩⟩
    refine ⟨_, rfl, small5 (by simp only [len_app2, e0, e1, e2]; omega), _, rfl, c2, c.v, rfl, ic2, pc.v, .inl ⟨wR c.v, rfl, small5 (by omega), wR c.v, rfl, small5 (by simp only [len_app2, e0, e1, e2]; omega), ?_⟩⟩
    refine ⟨_, rfl, small5 (by simp only [len_app2, e0, e1, e2]; omega), ?_⟩
    refine ⟨L, _, _, rfl, rfl, hz, small6' (by rw [List.length_map, List.length_map, List.length_take]; omega), ?_⟩
    refine ⟨_, _, _, _, rfl, Z.Same.mut sm nL, ?_⟩
    rw [upd_same, List.take_add_one, hc, e_app]
    simp only [Option.toList, List.map_append, List.map_cons, List.map_nil]
    rfl
  · rintro σ' H' ⟨y2, y3, y4, y5, rfl, sm, hz⟩
    rw [lx, List.take_length] at hz
    have sl := join0_len (ps.map lineN)
    unfold planT at hl
    have l3 := lines_len ps
    have ez : ("" : Str).length = 0 := by decide +kernel
    refine ⟨⟨_, rfl⟩, _, rfl, _, L, ps.map lineN, rfl, rfl, .inl (SqL.of hz), by rw [ez, List.length_map]; omega, k _ sm⟩

theorem atI_negT {us : List V} {v : V} (h : us[us.length - 1]? = some v) (h0 : 0 < us.length) : atI us (-1) = some v := by
  obtain ⟨ys, w, e⟩ : ∃ ys w, us = ys ++ [w] := ⟨us.dropLast, us.getLast (List.ne_nil_of_length_pos h0), (List.dropLast_concat_getLast _).symm⟩
  subst e
  have : w = v := by simpa using h
  rw [this]
  exact atI_last _ _
theorem cut_last4 {xs : List V} {v : V} : cutV (xs ++ [v]) none (some (-1)) = xs := by
  unfold cutV
  rw [HT.sIx_none]
  have e : HT.sIx (xs ++ [v]).length (xs ++ [v]).length (some (-1)) = xs.length := by
    unfold HT.sIx
    rw [List.length_append, List.length_singleton]
    simp
    omega
  rw [e]
  simp
theorem logM {n : Nat} (h : n ≤ 4000000) : ((n : Nat) : Int).natAbs.log2 < 1000 :=
  Nat.lt_of_lt_of_le (PySem.Flt.log2_lt_of (k := 30) (by decide) (by show ((n : Nat) : Int).natAbs < 2 ^ 30; omega)) (by decide)
theorem badP_none {ls : List Str} {i : Nat} {x : Str} (h : ls[i]? = some x) (e : pieceO x = none) : badP ls i = true := by
  unfold badP
  rw [h]
  dsimp only
  rw [e]
theorem badP_zero {ls : List Str} {x : Str} {p : Pc} (h : ls[0]? = some x) (e : pieceO x = some p) : badP ls 0 = false := by
  unfold badP
  rw [h]
  dsimp only
  rw [e]
  rfl
theorem badP_some {ls : List Str} {i : Nat} {x y : Str} {p p' : Pc} (h : ls[i]? = some x) (e : pieceO x = some p) (hi : 0 < i) (h' : ls[i - 1]? = some y) (e' : pieceO y = some p') : badP ls i = decide (p.s < p'.e) := by
  unfold badP
  rw [h]
  dsimp only
  rw [e]
  dsimp only
  rw [if_neg (by omega), h']
  show (match pieceO y with | none => false | some p' => decide (p.s < p'.e)) = _
  rw [e']
theorem nm_ok {n : Str} (h : nameB n = true) : PyData.strOk n = true := by
  unfold nameB consB at h
  rw [Bool.and_eq_true, Bool.and_eq_true] at h
  unfold PyData.strOk
  rw [Array.all_eq_true']
  intro c hc
  have h1 := of_decide_eq_true (List.all_eq_true.mp h.2.1 c (by simpa using hc))
  rw [tl_let, List.mem_map] at h1
  obtain ⟨k, hk, rfl⟩ := h1
  have := List.mem_range.mp hk
  exact decide_eq_true (by omega)
theorem pieceO_ok {x : Str} {p : Pc} (h : pieceO x = some p) : PyData.strOk p.n = true := by
  unfold pieceO pieceW at h
  split at h
  · split at h
    · next hn =>
      split at h
      · split at h
        · rw [← Option.some.inj h]
          exact nm_ok hn
        · cases h
      · cases h
    · cases h
  · cases h
def spReadPlG (K : PySem.W.Frag) (C : Addr) : Sp := fun vs H Q E => ∃ text : Str, vs = [.str text] ∧ text.length ≤ 3000000 ∧
  (∀ n : Nat, wrongP text = some n → ∀ d H', Same H H' → H' d = none → E (.ref C) (some d) (upd H' d (.xd [(("line" : Str), .int (n : Nat))]))) ∧
  (wrongP text = none → ∀ t xs ps H', Same H H' → SqT K H' t xs → IsA K H' xs (ps.map dPc) → (∀ p ∈ ps, PcW p) → planT ps = text → Q (.ref t) H')
theorem ok_read_planG (B : BI mg) {C : Addr} {qual pre suf : Str} (TBadText : ZX.ErrTxt P K mg C "BadText" pre suf qual) (F : At K mg "read_plan" sread_plan ["text"]) (C_read_piece : Ok P w K mg base 5 "read_piece" ["line"] [] (spReadPG K)) (C_less : Ok P w K mg base 1 "less" ["a", "b"] [] (spLess K)) : OkX P w K mg base 6 "read_plan" ["text"] (spReadPlG K C) := by
  refine F.okX scread_plan (fun vs H Q E h => ?_) (fun f cdv A outer s H vs Q E hr h => ?_)
  · obtain ⟨text, rfl, _⟩ := h
    rfl
  obtain ⟨text, rfl, hl, k0, k1⟩ := h
  have hbl : (body text).length ≤ 3000001 := by have := body_len text; omega
  refine ⟨_, (pss_cons (ps_set (i := 1) scread_plan.nd rfl (Or.inl rfl) (pe_split (pv 0) pe_str))
      (pss_cons (ps_set (i := 2) scread_plan.nd rfl (Or.inl rfl) (pe_cmpR op_eq (pe_ix ix_list (pv 1) (pe_un un_neg pe_int) (fun _ _ => rfl)) pe_str (nomark _)))
      (Evl.pss_cut (ps_if (pt_val (pv 2))
        (pss_one (ps_set (i := 1) scread_plan.nd rfl (Or.inl rfl) (pe_slice sl_list (pv 1) po_none (po_some (pe_un un_neg pe_int)))))
        pss_nil)
      (pss_cons (ps_set (i := 3) scread_plan.nd rfl (Or.inl rfl) (pe_lst pa_nil))
      (pss_cons (ps_for (passes_of rfl) rfl (pi_enum rfl B.enumerate (pa_cons (pv 1) pa_nil)) (pg_tup rfl (pgs_cons (pg_name (i := 4) scread_plan.nd rfl (Or.inl rfl)) (pgs_cons (pg_name (i := 5) scread_plan.nd rfl (Or.inl rfl)) pgs_nil)))
        (pss_cons (ps_set (i := 6) scread_plan.nd rfl (Or.inl rfl) (pe_ok C_read_piece (hr.mono (by first | decide | exact Nat.le_refl _)) rfl (pa_cons (pv 5) pa_nil)))
        (pss_cons (ps_if (PW.pt (pw_or (pt_cmpR op_isN (pv 6) pe_non (nomark _)) (pw_or1 (PW.pt (pw_and (pt_cmpR (op_neD hr.units) (pv 3) (pe_lst pa_nil) (nomark _)) (pw_and1 (pt_val (pe_ok C_less (hr.mono (by first | decide | exact Nat.le_refl _)) rfl (pa_cons (pe_ix ix_tup (pv 6) pe_int (fun _ _ => rfl)) (pa_cons (pe_ix ix_tup (pe_ix ix_list (pv 3) (pe_un un_neg pe_int) (fun _ _ => rfl)) pe_int (fun _ _ => rfl)) pa_nil))))))))))
          (pss_one (ZX.ps_raiseE rfl TBadText hr (by decide) (L2N.takes_of rfl rfl rfl rfl) (pa_cons (pe_op op_add (pv 4) pe_int) pa_nil)))
          pss_nil)
        (pss_one (ps_expr (pe_bm PySem.F.plainAttrs_list PySem.F.slot_list_append PySem.F.type_list_append mt_append (pv 3) (pa_cons (pv 6) pa_nil)))))))
      (pss_cons (ps_if (pt_not (pt_val (pv 2)))
        (pss_one (ZX.ps_raiseE rfl TBadText hr (by decide) (L2N.takes_of rfl rfl rfl rfl) (pa_cons (pe_callB call_len_seq rfl B.len PySem.boot_len (pa_cons (pv 1) pa_nil)) pa_nil)))
        pss_nil)
      (pss_one (ps_ret (pe_callTy call_tuple_of rfl B.tuple (by decide +kernel) (pa_cons (pv 3) pa_nil)))))))))), ?_⟩
  obtain ⟨ini, r, es, er, eb⟩ := snoc_split text
  refine ⟨_, rfl, ⟨_, rfl⟩, text, ("\n" : Str), rfl, rfl, by decide +kernel, small6 (by omega), ?_⟩
  rw [es]
  unfold rNewStrs
  rw [List.map_append]
  intro L nL
  have s1 := same_upd (o := .lst (ini.map V.str ++ [r].map V.str)) nL
  refine ⟨_, rfl, _, rfl, L, _, -1, .str r, rfl, rfl, SqL.of upd_same, atI_last _ _, rfl, ?_⟩
  refine ⟨fun σ' H' => ∃ L2, σ' = [some (.str text), some (.ref L2), some (.bl (decide (V.str r = V.str ("" : Str)))), none, none, none, none] ∧ Same H H' ∧ H' L2 = some (.lst ((body text).map V.str)), ?_, ?_⟩
  · refine ⟨_, rfl, _, rfl, ite2 (fun c => ?_) (fun c => ?_)⟩
    · have e0 : r = ("" : Str) := V.str.inj (of_decide_eq_true c)
      refine ⟨_, rfl, _, rfl, _, rfl, L, _, rfl, SqL.of upd_same, fun L2 nL2 => ?_⟩
      rw [show cutV (ini.map V.str ++ [r].map V.str) none (some (-1)) = ini.map V.str from cut_last4]
      refine ⟨L2, rfl, s1.trans (same_upd nL2), ?_⟩
      rw [eb, if_pos e0]
      exact upd_same
    · have e0 : ¬ r = ("" : Str) := fun z => c (decide_eq_true (congrArg V.str z))
      refine ⟨L, rfl, s1, ?_⟩
      rw [eb, if_neg e0, List.map_append]
      exact upd_same
  rintro σ2 H2 ⟨L2, rfl, s2, q2⟩
  refine ⟨(by show 0 ≤ sizeLine; decide), fun J nJ => ?_⟩
  have sJ := same_upd (o := .lst []) nJ
  have hJ0 : (upd H2 J (.lst [])) J = some (.lst []) := upd_same
  generalize upd H2 J (.lst []) = H3 at sJ hJ0
  have ll : ((body text).map V.str).length = (body text).length := List.length_map _
  refine ⟨_, rfl, L2, _, rfl, SqL.of (sJ _ _ q2), for_enumL (xs := (body text).map V.str) (fun i σ' H' => ∃ (y4 y5 y6 : Option V) (xs : List V) (ps : List Pc), σ' = [some (.str text), some (.ref L2), some (.bl (decide (V.str r = V.str ("" : Str)))), some (.ref J), y4, y5, y6] ∧ Same H2 H' ∧
    H' J = some (.lst xs) ∧ IsA K H' xs (ps.map dPc) ∧ ps.map some = ((body text).take i).map pieceO ∧ ∀ m < i, badP (body text) m = false) ?_ ?_ ?_ ?_⟩
  · exact ⟨none, none, none, [], [], rfl, sJ, hJ0, .nil, rfl, fun m h => absurd h (Nat.not_lt_zero m)⟩
  · rintro i σ' H' hi ⟨y4, y5, y6, xs, ps, rfl, sm, _⟩
    exact SqL.of (sm _ _ q2)
  · rintro i v T σ' H' hv ⟨y4, y5, y6, xs, ps, rfl, sm, hJ, hI, hps, hbad⟩ nT
    rw [List.getElem?_map] at hv
    obtain ⟨x, hx, rfl⟩ := Option.map_eq_some_iff.mp hv
    have il : i < (body text).length := (List.getElem?_eq_some_iff.mp hx).1
    have xl := body_mem (List.mem_of_getElem? hx)
    have sT := same_upd (o := .tup [.int (i : Nat), .str x]) nT
    have wrong : badP (body text) i = true → wrongP text = some (i + 1) := fun hb => by
      unfold wrongP
      rw [firstP_is hb hbad]
    have pl : ps.length = i := by
      have := congrArg List.length hps
      rw [List.length_map, List.length_map, List.length_take] at this
      omega
    have getps : ∀ (j : Nat) (p : Pc), ps[j]? = some p → ∃ y, (body text)[j]? = some y ∧ pieceO y = some p := fun j p hp => by
      have h1 := congrArg (fun l : List (Option Pc) => l[j]?) hps
      have jl := (List.getElem?_eq_some_iff.mp hp).1
      simp only [List.getElem?_map, hp, Option.map_some] at h1
      rw [List.getElem?_take, if_pos (by omega)] at h1
      cases e : (body text)[j]? with
      | none => rw [e] at h1; cases h1
      | some y =>
        rw [e] at h1
        exact ⟨y, rfl, (Option.some.inj h1).symm⟩
    refine ⟨T, _, rfl, SqT.of upd_same, rfl, .int (i : Nat), _, rfl, .str x, _, rfl, rfl, ?_⟩
    refine ⟨_, rfl, x, rfl, by omega, fun v H5 s5 iv => ?_⟩
    have sm5 := sm.trans (sT.trans s5)
    have hJ5 := (sT.trans s5) _ _ hJ
    have hI5 := hI.to (Same.tm (sT.trans s5))
    cases ep : pieceO x with
    | none =>
      rw [ep] at iv
      have iv : Is K H5 v .none := iv
      cases iv
      refine ⟨_, rfl, rfl, true, by simp, iteT (iteT ?_)⟩
      refine ⟨_, rfl, _, _, rfl, rfl, _, rfl, .inl ⟨_, rfl, logM (n := i + 1) (by omega)⟩, fun d hd => ?_⟩
      exact k0 (i + 1) (wrong (badP_none hx ep)) d _ (s2.trans sm5) hd
    | some c =>
    rw [ep] at iv
    have iv : Is K H5 v (dPc c) := iv
    obtain ⟨tc, c0, c1, c2, rfl, stc, ic0, ic1, ic2⟩ := pc_at iv
    refine ⟨_, rfl, rfl, false, by simp, iteF ?_⟩
    have lxs : xs.length = i := by rw [hI.len, List.length_map, pl]
    refine ⟨_, rfl, (by show 0 ≤ sizeLine; decide), fun b nb => ?_⟩
    have s6 := same_upd (o := .lst []) nb
    have hJ6 := s6 _ _ hJ5
    have hI6 := hI5.to (Same.tm s6)
    have iv6 := iv.to (Same.tm s6)
    have stc6 := Tm.sq (Same.tm s6) stc
    have ic06 := ic0.to (Same.tm s6)
    have okT : POk ps := fun q hq => by
      obtain ⟨j, hj⟩ := List.getElem?_of_mem hq
      obtain ⟨y, _, ey⟩ := getps j q hj
      exact pieceO_ok ey
    refine ⟨.list (ps.map dPc), .list [], .lst (SqL.of hJ6) (IsA.dp _ hI6), .lst (SqL.of upd_same) .nil, shaped_list okT, shaped_nil, _, rfl, ?_⟩
    rw [eqv_nil]
    have sm6 := sm5.trans s6
    generalize upd H5 b (.lst []) = H6 at s6 hJ6 hI6 iv6 stc6 ic06 sm6
    have put : badP (body text) i = false → ∃ (y4' y5' y6' : Option V) (xs' : List V) (ps' : List Pc), [some (V.str text), some (V.ref L2), some (V.bl (decide (V.str r = V.str ("" : Str)))), some (V.ref J), some (V.int (i : Nat)), some (V.str x), some (V.ref tc)] = [some (.str text), some (.ref L2), some (.bl (decide (V.str r = V.str ("" : Str)))), some (.ref J), y4', y5', y6'] ∧ Same H2 (upd H6 J (.lst (xs ++ [.ref tc]))) ∧
      (upd H6 J (.lst (xs ++ [.ref tc]))) J = some (.lst xs') ∧ IsA K (upd H6 J (.lst (xs ++ [.ref tc]))) xs' (ps'.map dPc) ∧ ps'.map some = ((body text).take (i + 1)).map pieceO ∧ ∀ m < i + 1, badP (body text) m = false := fun hb => by
      refine ⟨_, _, _, xs ++ [.ref tc], ps ++ [c], rfl, Z.Same.mut sm6 nJ, upd_same, ?_, ?_, fun m hm => ?_⟩
      · rw [List.map_append]
        exact (hI6.push iv6).to (Tm.lst hJ6)
      · rw [List.take_add_one, hx, List.map_append, List.map_append, hps]
        show _ = _ ++ [pieceO x]
        rw [ep]
        rfl
      · by_cases z : m < i
        · exact hbad m z
        · have : m = i := by omega
          rw [this]
          exact hb
    rcases Nat.eq_zero_or_pos i with i0 | ip
    · subst i0
      have e0 : ps = [] := List.eq_nil_of_length_eq_zero pl
      rw [decide_eq_true e0]
      refine iteF (iteF ⟨_, rfl, .inl ⟨rfl, _, SqL.of hJ6⟩, _, rfl, J, xs, _, rfl, rfl, hJ6, small6' (by omega), put (badP_zero hx ep)⟩)
    · have g := List.getElem?_eq_getElem (l := ps) (i := i - 1) (by omega)
      obtain ⟨vl, hvl, ivl⟩ := hI6.get (i := i - 1) (d := dPc ps[i - 1]) (by rw [List.getElem?_map, g]; rfl)
      obtain ⟨y, hy, ey⟩ := getps _ _ g
      have pw := (pieceO_back ey).2
      have eb2 := badP_some hx ep ip hy ey
      generalize ps[i - 1] = l at ivl pw eb2
      obtain ⟨tl, l0, l1, l2, rfl, stl, il0, il1, il2⟩ := pc_at ivl
      have ne : ¬ ps = [] := fun z => by
        rw [z] at pl
        have : 0 = i := pl
        omega
      rw [decide_eq_false ne]
      have hat : atI xs (-1) = some (.ref tl) := by
        rw [← lxs] at hvl
        exact atI_negT hvl (by omega)
      have cw := (pieceO_back ep).2
      refine iteT ⟨_, rfl, tc, _, 0, _, rfl, rfl, stc6, rfl, _, rfl, 1, rfl, J, xs, _, .ref tl, rfl, rfl, SqL.of hJ6, hat, tl, _, 1, _, rfl, rfl, stl, rfl, c0, l1, c.s, l.e, rfl, ic06, il1, cw.s.mono (by decide), pw.e.mono (by decide), _, rfl, ?_⟩
      rw [← eb2]
      cases hb : badP (body text) i with
      | true =>
        refine iteT ?_
        refine ⟨_, rfl, _, _, rfl, rfl, _, rfl, .inl ⟨_, rfl, logM (n := i + 1) (by omega)⟩, fun d hd => ?_⟩
        exact k0 (i + 1) (wrong hb) d _ (s2.trans sm6) hd
      | false =>
        exact iteF ⟨_, rfl, .inl ⟨rfl, _, SqL.of hJ6⟩, _, rfl, J, xs, _, rfl, rfl, hJ6, small6' (by omega), put hb⟩
  · rintro σ' H' ⟨y4, y5, y6, xs, ps, rfl, sm, hJ, hI, hps, hbad⟩
    rw [ll] at hps hbad
    rw [List.take_length] at hps
    have fn := firstP_no hbad
    refine ⟨_, rfl, _, rfl, ?_⟩
    by_cases e0 : r = ("" : Str)
    · rw [decide_eq_true (congrArg V.str e0)]
      have w0 : wrongP text = none := by
        unfold wrongP
        rw [fn]
        show (if rest text = ("" : Str) then none else some (body text).length) = none
        rw [er, if_pos e0]
      have back : ∀ (j : Nat) (p : Pc), ps[j]? = some p → ∃ y, (body text)[j]? = some y ∧ pieceO y = some p := fun j p hp => by
        have h1 := congrArg (fun l : List (Option Pc) => l[j]?) hps
        simp only [List.getElem?_map, hp, Option.map_some] at h1
        cases e : (body text)[j]? with
        | none => rw [e] at h1; cases h1
        | some y =>
          rw [e] at h1
          exact ⟨y, rfl, (Option.some.inj h1).symm⟩
      have lps : ps.length = (body text).length := by
        have := congrArg List.length hps
        rw [List.length_map, List.length_map] at this
        exact this
      have lines : ps.map lineP = body text := by
        apply List.ext_getElem?
        intro j
        rw [List.getElem?_map]
        cases e : ps[j]? with
        | none =>
          have := List.getElem?_eq_none_iff.mp e
          rw [List.getElem?_eq_none (by omega)]
          rfl
        | some p =>
          obtain ⟨y, hy, ey⟩ := back j p e
          rw [hy]
          exact congrArg some (pieceO_back ey).1
      refine iteF ?_
      exact ⟨_, rfl, J, xs, rfl, .inl ⟨SqL.of hJ, fun t nt => k1 w0 t xs ps _ (s2.trans (sm.trans (same_upd nt))) (SqT.of upd_same) (hI.to (Tm.new nt)) (fun p hp => by
        obtain ⟨j, hj⟩ := List.getElem?_of_mem hp
        obtain ⟨y, _, ey⟩ := back j p hj
        exact (pieceO_back ey).2) (plan_text (er.trans e0) lines)⟩⟩
    · rw [decide_eq_false (fun z => e0 (V.str.inj z))]
      have w0 : wrongP text = some (body text).length := by
        unfold wrongP
        rw [fn]
        show (if rest text = ("" : Str) then none else some (body text).length) = _
        rw [er, if_neg e0]
      refine iteT ⟨_, rfl, L2, _, rfl, .inl (SqL.of (sm _ _ q2)), _, rfl, .inl ⟨_, rfl, ?_⟩, fun d hd => ?_⟩
      · rw [ll]
        exact logM (by omega)
      · rw [ll]
        exact k0 _ w0 d _ (s2.trans sm) hd

theorem cutS_lenP (z : Str) : (cutS z (some 1) none).length ≤ z.length := by
  rw [str_len, str_len]
  show ((z.cps.toList.drop _).take _).length ≤ _
  rw [List.length_take, List.length_drop]
  omega
theorem lc_str {x : Str} {g : TG} {tt : TT} {te : TE} {vs : List Nat} {σ : L2.St} {H1 : Hp} {D : Addr} {Qd : Hp → Prop} (Pv : Nat → Hp → Prop) (h0 : Pv 0 (upd H1 D (.lst [])))
    (hs : ∀ i c H, x.cps.toList[i]? = some c → Pv i H → g (.str ⟨#[c]⟩) (wipe σ vs) H fun σ2 H2 => wipe σ2 vs = wipe σ vs ∧ tt σ2 H2 fun b H3 =>
      if b = true then te σ2 H3 fun y H4 => ∃ acc, H4 D = some (.lst acc) ∧ acc.length < sizeLine ∧ Pv (i + 1) (upd H4 D (.lst (acc ++ [y]))) else Pv (i + 1) H3) (hd : ∀ H, Pv x.cps.toList.length H → Qd H) :
    ∃ W : Nat → Nat → Hp → Prop, (∃ m, W 0 m (upd H1 D (.lst []))) ∧ ∀ i m H, W i m H →
      ((Its x).stop i H ∧ Qd H) ∨ ((Its x).go i H ∧ ∃ Nx : Hp → Prop, (∀ H', Nx H' → ∃ m', m' < m ∧ W (i + 1) m' H') ∧ ∀ v H', (Its x).yld i H v H' → g v (wipe σ vs) H' fun σ2 H2 => wipe σ2 vs = wipe σ vs ∧ tt σ2 H2 fun b H3 =>
        if b = true then te σ2 H3 fun y H4 => ∃ acc, H4 D = some (.lst acc) ∧ acc.length < sizeLine ∧ Nx (upd H4 D (.lst (acc ++ [y]))) else Nx H3) := by
  refine ⟨fun i m H => m = x.cps.size - i ∧ i ≤ x.cps.size ∧ Pv i H, ⟨x.cps.size, (Nat.sub_zero _).symm, Nat.zero_le _, h0⟩, ?_⟩
  rintro i m H ⟨rfl, hi, p⟩
  by_cases c : i < x.cps.size
  · refine .inr ⟨c, Pv (i + 1), fun H' p' => ⟨x.cps.size - (i + 1), by omega, rfl, c, p'⟩, ?_⟩
    rintro v H' ⟨rfl, k, hk, rfl⟩
    exact hs i k _ (by rw [Array.getElem?_toList]; exact hk) p
  · have e : i = x.cps.size := by omega
    subst e
    exact .inl ⟨Nat.le_refl _, hd H (by rw [Array.length_toList]; exact p)⟩
/-- what is kept of the signs that are not among cs -/
def Off (H H' : Hp) (D : Addr) (x cs : Str) (i : Nat) : Prop := Same H H' ∧ ∃ acc : List V, H' D = some (.lst acc) ∧ acc.length ≤ i ∧ (acc = [] ↔ ∀ m c, m < i → x.cps.toList[m]? = some c → c ∈ cs.cps.toList)
theorem Off.keep {H H' : Hp} {D : Addr} {x cs : Str} {i c : Nat} (h : Off H H' D x cs i) (hc : x.cps.toList[i]? = some c) (z : c ∈ cs.cps.toList) : Off H H' D x cs (i + 1) := by
  obtain ⟨s, acc, ha, la, hi⟩ := h
  refine ⟨s, acc, ha, by omega, hi.trans ⟨fun q m d h1 h2 => ?_, fun q m d h1 h2 => q m d (by omega) h2⟩⟩
  by_cases h3 : m < i
  · exact q m d h3 h2
  · have : m = i := by omega
    subst this
    rw [hc] at h2
    cases h2
    exact z
theorem Off.put {H H' : Hp} {D : Addr} {x cs : Str} {i c : Nat} {v : V} (h : Off H H' D x cs i) (hD : H D = none) (hx : x.length ≤ 4000000) (hc : x.cps.toList[i]? = some c) (z : ¬ c ∈ cs.cps.toList) :
    ∃ acc, H' D = some (.lst acc) ∧ acc.length < sizeLine ∧ Off H (upd H' D (.lst (acc ++ [v]))) D x cs (i + 1) := by
  obtain ⟨s, acc, ha, la, hi⟩ := h
  have il := (List.getElem?_eq_some_iff.mp hc).1
  rw [str_len] at hx
  refine ⟨acc, ha, small6' (by omega), Z.Same.mut s hD, _, upd_same, by rw [List.length_append]; exact Nat.succ_le_succ la, ⟨fun q => absurd q (by simp), fun q => absurd (q i c (by omega) hc) z⟩⟩
theorem Off.fin {H H' : Hp} {D : Addr} {x cs : Str} (h : Off H H' D x cs x.cps.toList.length) : Same H H' ∧ ∃ acc : List V, H' D = some (.lst acc) ∧ (decide ((0 : Int) < acc.length) = !x.cps.toList.all fun c => decide (c ∈ cs.cps.toList)) := by
  obtain ⟨s, acc, ha, la, hi⟩ := h
  refine ⟨s, acc, ha, ?_⟩
  cases e : x.cps.toList.all fun c => decide (c ∈ cs.cps.toList) with
  | true =>
    have : acc = [] := hi.mpr fun m c _ hm => of_decide_eq_true (List.all_eq_true.mp e c (List.mem_of_getElem? hm))
    rw [this]
    rfl
  | false =>
    have : acc ≠ [] := fun z => by
      have q := hi.mp z
      rw [List.all_eq_true.mpr fun c hc => ?_] at e
      · cases e
      · obtain ⟨m, hm⟩ := List.getElem?_of_mem hc
        exact decide_eq_true (q m c (List.getElem?_eq_some_iff.mp hm).1 hm)
    have := List.length_pos_iff.mpr this
    rw [decide_eq_true (by omega)]
    rfl
theorem consB_all {x cs : Str} (h : x ≠ ("" : Str)) : consB x cs = x.cps.toList.all fun c => decide (c ∈ cs.cps.toList) := by
  unfold consB
  rw [decide_eq_false (fun z => h (V.str.inj z))]
  exact Bool.and_true _
theorem len_ne {x : Str} (h : (1 : Int) ≤ x.length) : x ≠ ("" : Str) := fun z => by
  rw [z, show (("" : Str)).length = 0 by decide +kernel] at h
  omega
def spNumP : Sp := fun vs H Q _ => ∃ x : Str, vs = [.str x] ∧ x.length ≤ 4000000 ∧ ∀ H', Same H H' → Q (oV (wholeO x 200)) H'
theorem ok_law_numberP (B : BI mg) (F : At K mg "_law_number" s_law_number ["word"]) : Ok P w K mg base 1 "_law_number" ["word"] [] spNumP := by
  refine F.ok sc_law_number (fun vs H Q E h => ?_) (fun f cdv A outer s H vs Q E hr h => ?_)
  · obtain ⟨x, rfl, _⟩ := h
    rfl
  obtain ⟨x, rfl, hx, k⟩ := h
  refine ⟨_, (pss_cons (ps_if (PW.pt (pw_or (pt_not (pt_chain op_le op_le pe_int (pe_callB call_len_str rfl B.len PySem.boot_len (pa_cons (pv 0) pa_nil)) pe_int)) (pw_or1 (pt_cmpR op_gt (pe_callB call_len_seq rfl B.len PySem.boot_len (pa_cons (pe_lc (own := [("char", 1)]) (g := gName 1) (tt := _) rfl sc_law_number.nd (pi_str (pv 0)) (blkOk_by (own := [("char", 1)]) (N := ["word", "char"]) (sc := defScope s_law_number) (by decide +kernel)) (fun _ _ _ _ _ => (pg_name (i := 1) sc_law_number.nd rfl (Or.inl rfl))) (fun _ _ _ _ _ => (pts_one (pt_cmpR op_notIn_sign (pv 1) pe_str rfl))) (fun _ _ _ _ _ => (pv 1))) pa_nil)) pe_int (nomark _)))))
        (pss_one (ps_ret pe_non))
        pss_nil)
      (pss_cons (ps_if (PW.pt (pw_and (pt_cmpR op_eq (pe_ix ix_str (pv 0) pe_int (fun _ _ => rfl)) pe_str (nomark _)) (pw_and1 (pt_cmpR op_ne (pv 0) pe_str (nomark _)))))
        (pss_one (ps_ret pe_non))
        pss_nil)
      (pss_one (ps_ret (pe_callTy call_int_str rfl B.int (by decide +kernel) (pa_cons (pv 0) pa_nil)))))), ?_⟩
  refine ⟨_, rfl, x, rfl, small6 (by omega), _, _, rfl, rfl, _, rfl, ?_⟩
  cases e1 : decide ((1 : Int) ≤ x.length) with
  | false =>
    refine iteF ⟨_, rfl, iteT (iteT ?_)⟩
    have : wholeO x 200 = none := by
      unfold wholeO
      have : consB x DIG = false := by
        have z := of_decide_eq_false e1
        have z2 : x = ("" : Str) := TL.ext_tl (List.eq_nil_of_length_eq_zero (by rw [str_len] at z; show x.cps.toList.length = 0; omega) |>.trans (by decide +kernel))
        rw [z2]
        decide +kernel
      rw [this, Bool.not_false, Bool.or_true, if_pos rfl]
    rw [this] at k
    exact k _ (Same.refl _)
  | true =>
    have z1 := of_decide_eq_true e1
    have hne := len_ne z1
    refine iteT ⟨_, _, rfl, rfl, _, rfl, ?_⟩
    cases e2 : decide ((x.length : Int) ≤ 200) with
    | false =>
      refine iteT (iteT ?_)
      have z2 := of_decide_eq_false e2
      have : wholeO x 200 = none := by
        unfold wholeO
        rw [decide_eq_true (show (200 : Int) < x.length by omega), Bool.true_or, if_pos rfl]
      rw [this] at k
      exact k _ (Same.refl _)
    | true =>
      refine iteF ?_
      have z2 := of_decide_eq_true e2
      have w1 : decide ((200 : Int) < x.length) = false := decide_eq_false (by omega)
      refine ⟨_, rfl, x, rfl, fun D hD => ?_⟩
      refine lc_str (x := x) (fun i H' => Off H H' D x DIG i) ⟨same_upd hD, [], upd_same, Nat.le_refl _, ⟨fun _ m c h => absurd h (Nat.not_lt_zero m), fun _ => rfl⟩⟩ ?_ ?_
      · intro i c H' hc ho
        refine ⟨rfl, _, rfl, c, DIG, rfl, rfl, _, rfl, ?_⟩
        by_cases z : c ∈ DIG.cps.toList
        · rw [decide_eq_true z]
          exact iteF (ho.keep hc z)
        · rw [decide_eq_false z]
          exact iteT ⟨_, rfl, ho.put hD hx hc z⟩
      · intro H' ho
        obtain ⟨s1, acc, ha, hb⟩ := ho.fin
        refine ⟨D, acc, rfl, .inl (SqL.of ha), _, _, rfl, rfl, _, rfl, ?_⟩
        rw [hb, ← consB_all hne]
        unfold wholeO at k
        rw [w1] at k
        cases e3 : consB x DIG with
        | false =>
          refine iteT ?_
          rw [e3, if_pos (by rfl)] at k
          exact k _ s1
        | true =>
          refine iteF ?_
          rw [e3, if_neg (by decide)] at k
          obtain ⟨hall, hne2⟩ := consB_digits e3
          obtain ⟨c, r, ec⟩ := List.exists_cons_of_ne_nil hne2
          refine ⟨_, rfl, x, 0, c, rfl, rfl, small6 (by omega), by rw [ec]; exact atI_nat (j := 0) rfl, rfl, _, rfl, ?_⟩
          have h1 : (decide (x.cps.toList.head? = some 48)) = decide (V.str ⟨#[c]⟩ = V.str ("0" : Str)) := by
            rw [ec]
            refine decide_eq_decide.mpr ⟨fun z => ?_, fun z => ?_⟩
            · have : c = 48 := Option.some.inj z
              subst this
              exact congrArg V.str (TL.ext_tl (by decide +kernel))
            · have z2 := congrArg TL.tl (V.str.inj z)
              rw [show TL.tl ("0" : Str) = [48] by decide +kernel] at z2
              have z3 : [c] = [48] := z2
              rw [(List.cons.inj z3).1]
              rfl
          have h2 : (decide (x = ("0" : Str))) = decide (V.str x = V.str ("0" : Str)) := decide_eq_decide.mpr ⟨fun z => by rw [z], fun z => V.str.inj z⟩
          rw [h1, h2] at k
          have done : Q (.int ((NumText.digitsVal x.cps.toList : Nat) : Int)) H' → ∃ a n, [V.str x] = [V.str a] ∧ PySem.intText? a = some n ∧ a.length ≤ 640 ∧ Q (.int n) H' := fun q => ⟨x, _, rfl, intText_digits hall hne2 (by omega), by omega, q⟩
          cases e4 : decide (V.str ⟨#[c]⟩ = V.str ("0" : Str)) with
          | false =>
            refine iteF (iteF ?_)
            rw [e4, if_neg (by rw [Bool.false_and]; decide)] at k
            exact ⟨_, rfl, done (k _ s1)⟩
          | true =>
            rw [e4] at k
            refine iteT ⟨_, rfl, rfl, _, rfl, ?_⟩
            cases e5 : decide (V.str x = V.str ("0" : Str)) with
            | true =>
              refine iteF ?_
              rw [e5, if_neg (by decide)] at k
              exact ⟨_, rfl, done (k _ s1)⟩
            | false =>
              refine iteT ?_
              rw [e5, if_pos (by rfl)] at k
              exact k _ s1

end
end Z

namespace Z
open PySem PySem.Spec PyProof.Rows L2 ZX
section
variable {P : Program} {w : World} {K : PySem.W.Frag} {mg : Str → Option Value} {base : Heap}
theorem divInt_parts1 {t b : Int} (hb : 1 ≤ b) (hg : Nat.gcd t.natAbs b.natAbs = 1) : (Rat.divInt t b).num = t ∧ ((Rat.divInt t b).den : Int) = b := by
  have g : b.gcd t = 1 := by rw [Int.gcd_comm]; exact hg
  rw [Rat.num_divInt, Rat.den_divInt, if_neg (by omega), g, Int.sign_eq_one_of_pos (by omega)]
  simp
  omega
theorem cut_one {x : Str} : TL.tl (cutS x none (some 1)) = (TL.tl x).take 1 := by
  show ((TL.tl x).drop _).take _ = _
  by_cases h : x.length = 0
  · have : TL.tl x = [] := List.eq_nil_of_length_eq_zero h
    rw [this]
    simp
  · have e : (min (1 : Int).toNat x.length) = 1 := by show min 1 x.length = 1; omega
    show ((TL.tl x).drop 0).take ((if (1 : Int) < 0 then ((1 : Int) + (x.length : Int)).toNat else min (1 : Int).toNat x.length) - 0) = _
    rw [if_neg (by decide), e]
    rfl
theorem minus_eq {x : Str} : decide (V.str (cutS x none (some 1)) = V.str ("-" : Str)) = decide ((TL.tl x).head? = some 45) := by
  refine decide_eq_decide.mpr ⟨fun z => ?_, fun z => ?_⟩
  · have z2 := congrArg TL.tl (V.str.inj z)
    rw [cut_one, tl_mi] at z2
    cases e : TL.tl x with
    | nil => rw [e] at z2; simp at z2
    | cons c r =>
      rw [e] at z2
      have : c = 45 := by simpa using z2
      rw [this]
      rfl
  · refine congrArg V.str (TL.ext_tl ?_)
    rw [cut_one, tl_mi]
    cases e : TL.tl x with
    | nil => rw [e] at z; cases z
    | cons c r =>
      rw [e] at z
      have : c = 45 := Option.some.inj z
      rw [this]
      rfl
theorem ok_law_value (B : BI mg) (F : At K mg "_law_value" s_law_value ["word"]) (C_law_number : Ok P w K mg base 1 "_law_number" ["word"] [] spNumP) (C_law_gcd : Ok P w K mg base 1 "_law_gcd" ["a", "b"] [] spGcd) : Ok P w K mg base 2 "_law_value" ["word"] [] (spReadRG K) := by
  refine F.ok sc_law_value (fun vs H Q E h => ?_) (fun f cdv A outer s H vs Q E hr h => ?_)
  · obtain ⟨x, rfl, _⟩ := h
    rfl
  obtain ⟨x, rfl, hx, k⟩ := h
  refine ⟨_, (pss_cons (ps_set (i := 1) sc_law_value.nd rfl (Or.inl rfl) (pv 0))
      (Evl.pss_cut (ps_if (pt_cmpR op_eq (pe_slice sl_str (pv 0) po_none (po_some pe_int)) pe_str (nomark _))
        (pss_one (ps_set (i := 1) sc_law_value.nd rfl (Or.inl rfl) (pe_slice sl_str (pv 0) (po_some pe_int) po_none)))
        pss_nil)
      (pss_cons (ps_set (i := 2) sc_law_value.nd rfl (Or.inl rfl) (pe_split (pv 1) pe_str))
      (pss_cons (ps_setLc (i := 3) (own := [("part", 4)]) (g := gName 4) (tt := tYes) rfl sc_law_value.nd rfl rfl (sw_true rfl rfl rfl (by decide +kernel)) (pi_list (pv 2)) (blkOk_by (own := [("part", 4)]) (N := ["word", "digits", "parts", "numbers", "part"]) (sc := defScope s_law_value) (by decide +kernel)) (fun _ _ _ _ _ => (pg_name (i := 4) sc_law_value.nd rfl (Or.inl rfl))) (fun _ _ _ _ _ => pts_nil) (fun _ _ _ _ _ => (pe_ok C_law_number (hr.mono (by first | decide | exact Nat.le_refl _)) rfl (pa_cons (pv 4) pa_nil))))
      (pss_cons (ps_if (PW.pt (pw_or (pt_cmpR op_gt (pe_callB call_len_seq rfl B.len PySem.boot_len (pa_cons (pv 2) pa_nil)) pe_int (nomark _)) (pw_or1 (pt_cmpR op_in_seq pe_non (pv 3) rfl))))
        (pss_one (ps_ret pe_non))
        pss_nil)
      (Evl.pss_cut (ps_if (pt_cmpR op_eq (pe_callB call_len_seq rfl B.len PySem.boot_len (pa_cons (pv 2) pa_nil)) pe_int (nomark _))
        (pss_one (ps_expr (pe_bm PySem.F.plainAttrs_list PySem.F.slot_list_append PySem.F.type_list_append mt_append (pv 3) (pa_cons pe_int pa_nil))))
        pss_nil)
      (pss_cons (ps_if (PW.pt (pw_or (pt_cmpR op_eq (pe_ix ix_list (pv 3) pe_int (fun _ _ => rfl)) pe_int (nomark _)) (pw_or (PW.pt (pw_and (pt_cmpR op_eq (pe_callB call_len_seq rfl B.len PySem.boot_len (pa_cons (pv 2) pa_nil)) pe_int (nomark _)) (pw_and1 (pt_cmpR op_eq (pe_ix ix_list (pv 3) pe_int (fun _ _ => rfl)) pe_int (nomark _))))) (pw_or1 (pt_cmpR op_ne (pe_ok C_law_gcd (hr.mono (by first | decide | exact Nat.le_refl _)) rfl (pa_cons (pe_ix ix_list (pv 3) pe_int (fun _ _ => rfl)) (pa_cons (pe_ix ix_list (pv 3) pe_int (fun _ _ => rfl)) pa_nil))) pe_int (nomark _))))))
        (pss_one (ps_ret pe_non))
        pss_nil)
      (pss_cons (ps_if (pt_cmpR op_ne (pv 1) (pv 0) (nomark _))
        (pss_one (ps_ret (pe_ifExp (pt_cmpR op_eq (pe_ix ix_list (pv 3) pe_int (fun _ _ => rfl)) pe_int (nomark _)) pe_non (pe_tup (pa_cons (pe_op op_sub pe_int (pe_ix ix_list (pv 3) pe_int (fun _ _ => rfl))) (pa_cons (pe_ix ix_list (pv 3) pe_int (fun _ _ => rfl)) pa_nil))))))
        pss_nil)
      (pss_one (ps_ret (pe_tup (pa_cons (pe_ix ix_list (pv 3) pe_int (fun _ _ => rfl)) (pa_cons (pe_ix ix_list (pv 3) pe_int (fun _ _ => rfl)) pa_nil))))))))))))), ?_⟩
  have two : (2 : Nat) ≤ sizeLine := by decide
  refine ⟨_, rfl, ?_⟩
  refine ⟨fun σ' H' => ∃ dg : Str, σ' = [some (.str x), some (.str dg), none, none, none] ∧ H = H' ∧ dg.length ≤ 4000000 ∧ (((TL.tl x).head? = some 45 ∧ dg = cutS x (some 1) none) ∨ (¬ (TL.tl x).head? = some 45 ∧ dg = x)), ?_, ?_⟩
  · refine ⟨_, rfl, 1, rfl, x, rfl, small6 (by omega), rfl, _, rfl, ?_⟩
    rw [minus_eq]
    by_cases c : (TL.tl x).head? = some 45
    · rw [decide_eq_true c]
      refine iteT ⟨_, rfl, 1, rfl, x, rfl, small6 (by omega), cutS x (some 1) none, rfl, rfl, ?_, .inl ⟨c, rfl⟩⟩
      have := cutS_lenP x
      omega
    · rw [decide_eq_false c]
      exact iteF ⟨x, rfl, rfl, hx, .inr ⟨c, rfl⟩⟩
  rintro σ1 H1 ⟨dg, rfl, rfl, hd, hcase⟩
  refine ⟨_, rfl, ⟨_, rfl⟩, dg, ("/" : Str), rfl, rfl, by decide +kernel, small6 (by omega), fun L nL => ?_⟩
  have cnt := sepSl.count dg
  have ne := sepSl.ne dg
  have lp : ∀ p ∈ Txt.split dg ("/" : Str), p.length ≤ 4000000 := fun p hp => Nat.le_trans (sepSl.len hp) hd
  have ur : ratU dg = ratN ((Txt.split dg ("/" : Str)).map fun y => wholeO y 200) := rfl
  have wb : ∀ o ∈ (Txt.split dg ("/" : Str)).map (fun y => wholeO y 200), ∀ i, o = some i → 0 ≤ i ∧ i.natAbs < 2 ^ 700 := fun o ho i e => by
    obtain ⟨y, _, rfl⟩ := List.mem_map.mp ho
    exact whole_lt e
  generalize Txt.split dg ("/" : Str) = ws at cnt ne lp ur wb ⊢
  have sL := same_upd (o := .lst (ws.map V.str)) nL
  have hL : (upd H L (.lst (ws.map V.str))) L = some (.lst (ws.map V.str)) := upd_same
  generalize upd H L (.lst (ws.map V.str)) = H1 at sL hL
  refine ⟨_, rfl, L, rfl, ⟨_, SqL.of hL⟩, fun D hD => ?_⟩
  refine lc_list (xs := ws.map V.str) (fun i H8 => Same H1 H8 ∧ H8 D = some (.lst (((ws.take i).map fun y => wholeO y 200).map oV))) ⟨same_upd hD, upd_same⟩ (fun i H8 _ h => SqL.of (h.1 _ _ hL)) ?_ ?_
  · rintro i v H8 hv ⟨s8, h8⟩
    rw [List.getElem?_map] at hv
    obtain ⟨y, hy, rfl⟩ := Option.map_eq_some_iff.mp hv
    have il := (List.getElem?_eq_some_iff.mp hy).1
    refine ⟨rfl, _, rfl, y, rfl, by have := lp y (List.mem_of_getElem? hy); omega, fun H9 s9 => ?_⟩
    refine ⟨_, s9 _ _ h8, small6' (by rw [List.length_map, List.length_map, List.length_take]; omega), Z.Same.mut (s8.trans s9) hD, ?_⟩
    rw [upd_same, List.take_add_one, hy, List.map_append, List.map_append]
    rfl
  rintro H2 ⟨s2, h2⟩
  rw [List.length_map, List.take_length] at h2
  have S2 := sL.trans s2
  have hL2 := s2 _ _ hL
  have lns : (ws.map fun y => wholeO y 200).length = ws.length := List.length_map _
  generalize (ws.map fun y => wholeO y 200) = ns at h2 lns ur wb
  have nDH : H D = none := by
    cases hh : H D with
    | none => rfl
    | some o => rw [sL _ _ hh] at hD; cases hD
  have nLD : L ≠ D := by
    rintro rfl
    rw [hL] at hD
    cases hD
  -- what is answered when no ratio stands there
  have bad : ratU dg = none → ∀ H', Same H H' → Q .non H' := fun e H' sm => by
    refine k _ _ sm ?_
    have : ratO x = none := by
      unfold ratO
      rcases hcase with ⟨c, rfl⟩ | ⟨c, rfl⟩
      · rw [if_pos c, e]
      · rw [if_neg c, e]
    rw [this]
    exact .non
  refine ⟨_, rfl, L, _, rfl, .inl (SqL.of hL2), _, _, rfl, rfl, _, rfl, ite2 (fun c => ?_) (fun c => ?_)⟩
  · have c := of_decide_eq_true c
    rw [List.length_map] at c
    refine iteT (bad ?_ _ S2)
    rw [ur, ratN_long (by omega)]
  have c : ¬ ((2 : Int) < ((ws.map V.str).length : Nat)) := of_decide_eq_false (Bool.eq_false_iff.mpr c)
  rw [List.length_map] at c
  refine ⟨_, rfl, D, _, rfl, .inl (SqL.of h2), rfl, flat_oV ns, _, rfl, ?_⟩
  show ite (inV V.non (ns.map oV) = true) _ _
  rw [inV_non]
  cases e : ns.any Option.isNone with
  | true =>
    refine iteT (bad ?_ _ S2)
    rw [ur, ratN_none e]
  | false =>
  refine iteF ?_
  refine ⟨fun σ' H' => ∃ (t b : Int), σ' = [some (.str x), some (.str dg), some (.ref L), some (.ref D), none] ∧ Same H H' ∧ H' L = some (.lst (ws.map V.str)) ∧ H' D = some (.lst [.int t, .int b]) ∧ 0 ≤ t ∧ t.natAbs < 2 ^ 700 ∧ 0 ≤ b ∧ b.natAbs < 2 ^ 700 ∧ ratU dg = if b = 0 ∨ (ws.length = 2 ∧ b = 1) ∨ Nat.gcd t.natAbs b.natAbs ≠ 1 then none else some (Rat.divInt t b), ?_, ?_⟩
  · refine ⟨_, rfl, L, _, rfl, .inl (SqL.of hL2), rfl, _, rfl, ?_⟩
    match ns, e, h2, lns, ur, wb with
    | [], e, h2, lns, ur, wb =>
      cases ws with
      | nil => exact absurd rfl ne
      | cons a r => simp at lns
    | [none], e, h2, lns, ur, wb => simp at e
    | [none, none], e, h2, lns, ur, wb => simp at e
    | [none, some b], e, h2, lns, ur, wb => simp at e
    | [some t, none], e, h2, lns, ur, wb => simp at e
    | _ :: _ :: _ :: _, e, h2, lns, ur, wb => simp at lns; omega
    | [some t], e, h2, lns, ur, wb =>
      have l1 : ws.length = 1 := lns.symm
      rw [decide_eq_true (show V.int ((ws.map V.str).length : Nat) = V.int 1 by rw [List.length_map, l1]; rfl)]
      refine iteT ⟨_, rfl, .inl ⟨rfl, _, SqL.of h2⟩, D, _, _, rfl, rfl, h2, by show 1 < sizeLine; decide, ?_⟩
      obtain ⟨w0, w1⟩ := wb _ (List.mem_singleton_self _) t rfl
      refine ⟨t, 1, rfl, Z.Same.mut S2 nDH, by rw [upd_ne nLD]; exact hL2, upd_same, w0, w1, by decide, by decide, ?_⟩
      rw [ur, if_neg]
      · show some (t : Rat) = some (Rat.divInt t 1)
        rw [one_rat]
      · rintro (z | ⟨z, _⟩ | z)
        · cases z
        · omega
        · exact z (Nat.gcd_one_right _)
    | [some t, some b], e, h2, lns, ur, wb =>
      have l1 : ws.length = 2 := lns.symm
      rw [decide_eq_false (show ¬ V.int ((ws.map V.str).length : Nat) = V.int 1 from fun z => by have := V.int.inj z; rw [List.length_map, l1] at this; omega)]
      obtain ⟨w0, w1⟩ := wb _ (List.mem_cons_self ..) t rfl
      obtain ⟨u0, u1⟩ := wb _ (List.mem_cons_of_mem _ (List.mem_singleton_self _)) b rfl
      refine iteF ⟨t, b, rfl, S2, hL2, h2, w0, w1, u0, u1, ?_⟩
      rw [ur]
      show (if b < 2 ∨ Nat.gcd t.natAbs b.natAbs ≠ 1 then none else some (Rat.divInt t b)) = _
      by_cases z : b < 2 ∨ Nat.gcd t.natAbs b.natAbs ≠ 1
      · rw [if_pos z, if_pos]
        rcases z with z | z
        · by_cases z0 : b = 0
          · exact .inl z0
          · exact .inr (.inl ⟨l1, by omega⟩)
        · exact .inr (.inr z)
      · rw [if_neg z, if_neg]
        rintro (y | ⟨_, y⟩ | y)
        · exact z (.inl (by omega))
        · exact z (.inl (by omega))
        · exact z (.inr y)
  clear h2 hL2 S2 s2 ur wb lns e c
  rintro σ3 H3 ⟨t, b, rfl, S3, hL3, hD3, t0, t1, b0, b1, ur⟩
  refine ⟨_, rfl, D, _, 1, _, rfl, rfl, SqL.of hD3, rfl, rfl, _, rfl, ite2 (fun z => ?_) (fun z => ?_)⟩
  · have z : b = 0 := V.int.inj (of_decide_eq_true z)
    exact iteT (bad (by rw [ur, if_pos (.inl z)]) _ S3)
  have z0 : ¬ b = 0 := fun y => z (decide_eq_true (by rw [y]))
  refine ⟨_, rfl, L, _, rfl, .inl (SqL.of hL3), rfl, _, rfl, ?_⟩
  obtain ⟨tn, rfl⟩ := Int.eq_ofNat_of_zero_le t0
  obtain ⟨bn, rfl⟩ := Int.eq_ofNat_of_zero_le b0
  have bt : tn < BIG := sz_big (n := 700) (by decide) (by omega)
  have bb : bn < BIG := sz_big (n := 700) (by decide) (by omega)
  by_cases l2 : ws.length = 2
  · rw [decide_eq_true (show V.int ((ws.map V.str).length : Nat) = V.int 2 by rw [List.length_map, l2]; rfl)]
    refine iteT ⟨_, rfl, D, _, 1, _, rfl, rfl, SqL.of hD3, rfl, rfl, _, rfl, ite2 (fun z => ?_) (fun z => ?_)⟩
    · have z : ((bn : Nat) : Int) = 1 := V.int.inj (of_decide_eq_true z)
      exact iteT (bad (by rw [ur, if_pos (.inr (.inl ⟨l2, z⟩))]) _ S3)
    · have nb : ¬ (ws.length = 2 ∧ ((bn : Nat) : Int) = 1) := fun y => z (decide_eq_true (by rw [y.2]))
      refine ⟨_, rfl, D, _, 0, _, rfl, rfl, SqL.of hD3, rfl, _, rfl, D, _, 1, _, rfl, rfl, SqL.of hD3, rfl, tn, bn, rfl, bt, bb, rfl, _, rfl, ?_⟩
      by_cases g1 : Nat.gcd tn bn = 1
      · rw [g1]
        refine iteF ?_
        have ur2 : ratU dg = some (Rat.divInt (tn : Int) (bn : Int)) := by rw [ur, if_neg]; rintro (y | y | y); exact z0 y; exact nb y; exact y g1
        obtain ⟨p1, p2⟩ := divInt_parts1 (t := (tn : Int)) (b := (bn : Int)) (by omega) g1
        have ir : ∀ (m : Int) (H' : Hp) (u : Addr), SqT K H' u [.int m, .int (bn : Int)] → m = (Rat.divInt (tn : Int) (bn : Int)).num → Is K H' (.ref u) (rat2 (Rat.divInt (tn : Int) (bn : Int))) := fun m H' u hu e => by unfold rat2; rw [p2, ← e]; exact .tup hu (.two (.int _) (.int _))
        have in_ : ∀ (m : Int) (H' : Hp) (u : Addr), SqT K H' u [.int m, .int (bn : Int)] → m = -(Rat.divInt (tn : Int) (bn : Int)).num → Is K H' (.ref u) (rat2 (-(Rat.divInt (tn : Int) (bn : Int)))) := fun m H' u hu e => by unfold rat2; rw [show (-(Rat.divInt (tn : Int) (bn : Int))).num = -(Rat.divInt (tn : Int) (bn : Int)).num from rfl, show ((-(Rat.divInt (tn : Int) (bn : Int))).den : Int) = (bn : Int) from p2, ← e]; exact .tup hu (.two (.int _) (.int _))
        rcases hcase with ⟨cm, ed⟩ | ⟨cm, ed⟩
        · have nx : ¬ V.str dg = V.str x := fun y => by
            have e1 := congrArg List.length (tl_cut1 cm)
            rw [← ed, V.str.inj y, List.length_cons] at e1
            omega
          refine ⟨_, rfl, _, rfl, rfl, _, rfl, ?_⟩
          rw [decide_eq_false nx]
          refine iteT ⟨_, rfl, D, _, 0, _, rfl, rfl, SqL.of hD3, rfl, rfl, _, rfl, ite2 (fun y => ?_) (fun y => ?_)⟩
          · have y : ((tn : Nat) : Int) = 0 := V.int.inj (of_decide_eq_true y)
            refine k _ _ S3 ?_
            have : ratO x = none := by
              unfold ratO
              rw [if_pos cm, ← ed, ur2]
              show (if _ then _ else _) = _
              rw [if_pos (Rat.num_eq_zero.mp (by rw [p1]; exact y))]
            rw [this]
            exact .non
          · refine ⟨_, rfl, D, _, 0, _, rfl, rfl, SqL.of hD3, rfl, _, _, rfl, rfl, _, rfl, D, _, 1, _, rfl, rfl, SqL.of hD3, rfl, two, fun u nu => ?_⟩
            refine k _ _ (S3.trans (same_upd nu)) ?_
            have y2 : ¬ ((tn : Nat) : Int) = 0 := fun z => y (decide_eq_true (by rw [z]))
            have : ratO x = some (-(Rat.divInt (tn : Int) (bn : Int))) := by
              unfold ratO
              rw [if_pos cm, ← ed, ur2]
              show (if _ then _ else _) = _
              rw [if_neg (fun z => y2 (by rw [← p1, z]; rfl))]
            rw [this]
            exact in_ _ _ _ (SqT.of upd_same) (by rw [p1]; omega)
        · have ex : V.str dg = V.str x := by rw [ed]
          refine ⟨_, rfl, _, rfl, rfl, _, rfl, ?_⟩
          rw [decide_eq_true ex]
          refine iteF ⟨_, rfl, D, _, 0, _, rfl, rfl, SqL.of hD3, rfl, _, rfl, D, _, 1, _, rfl, rfl, SqL.of hD3, rfl, two, fun u nu => ?_⟩
          refine k _ _ (S3.trans (same_upd nu)) ?_
          have : ratO x = some (Rat.divInt (tn : Int) (bn : Int)) := by
            unfold ratO
            rw [if_neg cm, ← ed, ur2]
          rw [this]
          exact ir _ _ _ (SqT.of upd_same) p1.symm
      · rw [decide_eq_false (show ¬ V.int ((Nat.gcd tn bn : Nat) : Int) = V.int 1 from fun z => g1 (by have := V.int.inj z; omega))]
        refine iteT (bad ?_ _ S3)
        rw [ur, if_pos (.inr (.inr g1))]
  · rw [decide_eq_false (show ¬ V.int ((ws.map V.str).length : Nat) = V.int 2 from fun z => l2 (by have := V.int.inj z; rw [List.length_map] at this; omega))]
    have nb : ¬ (ws.length = 2 ∧ ((bn : Nat) : Int) = 1) := fun y => l2 y.1
    refine iteF ?_
    refine ⟨_, rfl, D, _, 0, _, rfl, rfl, SqL.of hD3, rfl, _, rfl, D, _, 1, _, rfl, rfl, SqL.of hD3, rfl, tn, bn, rfl, bt, bb, rfl, _, rfl, ?_⟩
    by_cases g1 : Nat.gcd tn bn = 1
    · rw [g1]
      refine iteF ?_
      have ur2 : ratU dg = some (Rat.divInt (tn : Int) (bn : Int)) := by rw [ur, if_neg]; rintro (y | y | y); exact z0 y; exact nb y; exact y g1
      obtain ⟨p1, p2⟩ := divInt_parts1 (t := (tn : Int)) (b := (bn : Int)) (by omega) g1
      have ir : ∀ (m : Int) (H' : Hp) (u : Addr), SqT K H' u [.int m, .int (bn : Int)] → m = (Rat.divInt (tn : Int) (bn : Int)).num → Is K H' (.ref u) (rat2 (Rat.divInt (tn : Int) (bn : Int))) := fun m H' u hu e => by unfold rat2; rw [p2, ← e]; exact .tup hu (.two (.int _) (.int _))
      have in_ : ∀ (m : Int) (H' : Hp) (u : Addr), SqT K H' u [.int m, .int (bn : Int)] → m = -(Rat.divInt (tn : Int) (bn : Int)).num → Is K H' (.ref u) (rat2 (-(Rat.divInt (tn : Int) (bn : Int)))) := fun m H' u hu e => by unfold rat2; rw [show (-(Rat.divInt (tn : Int) (bn : Int))).num = -(Rat.divInt (tn : Int) (bn : Int)).num from rfl, show ((-(Rat.divInt (tn : Int) (bn : Int))).den : Int) = (bn : Int) from p2, ← e]; exact .tup hu (.two (.int _) (.int _))
      rcases hcase with ⟨cm, ed⟩ | ⟨cm, ed⟩
      · have nx : ¬ V.str dg = V.str x := fun y => by
          have e1 := congrArg List.length (tl_cut1 cm)
          rw [← ed, V.str.inj y, List.length_cons] at e1
          omega
        refine ⟨_, rfl, _, rfl, rfl, _, rfl, ?_⟩
        rw [decide_eq_false nx]
        refine iteT ⟨_, rfl, D, _, 0, _, rfl, rfl, SqL.of hD3, rfl, rfl, _, rfl, ite2 (fun y => ?_) (fun y => ?_)⟩
        · have y : ((tn : Nat) : Int) = 0 := V.int.inj (of_decide_eq_true y)
          refine k _ _ S3 ?_
          have : ratO x = none := by
            unfold ratO
            rw [if_pos cm, ← ed, ur2]
            show (if _ then _ else _) = _
            rw [if_pos (Rat.num_eq_zero.mp (by rw [p1]; exact y))]
          rw [this]
          exact .non
        · refine ⟨_, rfl, D, _, 0, _, rfl, rfl, SqL.of hD3, rfl, _, _, rfl, rfl, _, rfl, D, _, 1, _, rfl, rfl, SqL.of hD3, rfl, two, fun u nu => ?_⟩
          refine k _ _ (S3.trans (same_upd nu)) ?_
          have y2 : ¬ ((tn : Nat) : Int) = 0 := fun z => y (decide_eq_true (by rw [z]))
          have : ratO x = some (-(Rat.divInt (tn : Int) (bn : Int))) := by
            unfold ratO
            rw [if_pos cm, ← ed, ur2]
            show (if _ then _ else _) = _
            rw [if_neg (fun z => y2 (by rw [← p1, z]; rfl))]
          rw [this]
          exact in_ _ _ _ (SqT.of upd_same) (by rw [p1]; omega)
      · have ex : V.str dg = V.str x := by rw [ed]
        refine ⟨_, rfl, _, rfl, rfl, _, rfl, ?_⟩
        rw [decide_eq_true ex]
        refine iteF ⟨_, rfl, D, _, 0, _, rfl, rfl, SqL.of hD3, rfl, _, rfl, D, _, 1, _, rfl, rfl, SqL.of hD3, rfl, two, fun u nu => ?_⟩
        refine k _ _ (S3.trans (same_upd nu)) ?_
        have : ratO x = some (Rat.divInt (tn : Int) (bn : Int)) := by
          unfold ratO
          rw [if_neg cm, ← ed, ur2]
        rw [this]
        exact ir _ _ _ (SqT.of upd_same) p1.symm
    · rw [decide_eq_false (show ¬ V.int ((Nat.gcd tn bn : Nat) : Int) = V.int 1 from fun z => g1 (by have := V.int.inj z; omega))]
      refine iteT (bad ?_ _ S3)
      rw [ur, if_pos (.inr (.inr g1))]

theorem hu65 {A : Around} {k : Nat} (hr : Room k A) : A.units + 65 < cLine := by have := hr.un; omega
theorem eqv_dOR (o : Option Rat) : PyData.eqv (dOR o) .none = o.isNone := by
  cases o <;> rfl
theorem shaped_dOR3 (a b c : Option Rat) : SeqAt.shaped (.list [dOR a, dOR b, dOR c]) = true := by
  have l : ∀ o, PyData.canLay0 (dOR o) = true ∧ PyData.depth (dOR o) ≤ 1 := fun o => by
    cases o with
    | none => exact ⟨rfl, Nat.zero_le _⟩
    | some q => exact ⟨lay_rat2 q, by show PyData.depth (rat2 q) ≤ 1; rw [depth_rat2]; exact Nat.le_refl _⟩
  unfold SeqAt.shaped
  rw [PyData.canLay0, PyData.canLayAll0, PyData.canLayAll0, PyData.canLayAll0, PyData.canLayAll0, (l a).1, (l b).1, (l c).1, PyData.depth, PyData.depthAll, PyData.depthAll, PyData.depthAll, PyData.depthAll]
  have := (l a).2
  have := (l b).2
  have := (l c).2
  simp
  omega
theorem nameB_split {n : Str} : nameB n = (decide ((1 : Int) ≤ n.length) && decide ((n.length : Int) ≤ 8) && n.cps.toList.all fun c => decide (c ∈ LET.cps.toList)) := by
  unfold nameB
  by_cases h : (1 : Int) ≤ n.length
  · rw [decide_eq_true h, Bool.true_and, consB_all (len_ne h)]
  · rw [decide_eq_false h, Bool.false_and, Bool.false_and]
    have z2 : n = ("" : Str) := TL.ext_tl (List.eq_nil_of_length_eq_zero (by rw [str_len] at h; show n.cps.toList.length = 0; omega) |>.trans (by decide +kernel))
    rw [z2]
    decide +kernel
theorem ok_law_piece (B : BI mg) (F : At K mg "_law_piece" s_law_piece ["line"]) (C_law_value : Ok P w K mg base 2 "_law_value" ["word"] [] (spReadRG K)) (C_law_less : Ok P w K mg base 1 "_law_less" ["a", "b"] [] (spLess K)) : Ok P w K mg base 3 "_law_piece" ["line"] [] (spReadPG K) := by
  refine F.ok sc_law_piece (fun vs H Q E h => ?_) (fun f cdv A outer s H vs Q E hr h => ?_)
  · obtain ⟨x, rfl, _⟩ := h
    rfl
  obtain ⟨x, rfl, hx, k⟩ := h
  refine ⟨_, (pss_cons (ps_set (i := 1) sc_law_piece.nd rfl (Or.inl rfl) (pe_split (pv 0) pe_str))
      (pss_cons (ps_if (PW.pt (pw_or (pt_cmpR op_ne (pe_callB call_len_seq rfl B.len PySem.boot_len (pa_cons (pv 1) pa_nil)) pe_int (nomark _)) (pw_or1 (pt_not (pt_chain op_le op_le pe_int (pe_callB call_len_str rfl B.len PySem.boot_len (pa_cons (pe_ix ix_list (pv 1) pe_int (fun _ _ => rfl)) pa_nil)) pe_int)))))
        (pss_one (ps_ret pe_non))
        pss_nil)
      (pss_cons (ps_if (pt_cmpR op_gt (pe_callB call_len_seq rfl B.len PySem.boot_len (pa_cons (pe_lc (own := [("char", 3)]) (g := gName 3) (tt := _) rfl sc_law_piece.nd (pi_str (pe_ix ix_list (pv 1) pe_int (fun _ _ => rfl))) (blkOk_by (own := [("char", 3)]) (N := ["line", "words", "values", "char"]) (sc := defScope s_law_piece) (by decide +kernel)) (fun _ _ _ _ _ => (pg_name (i := 3) sc_law_piece.nd rfl (Or.inl rfl))) (fun _ _ _ _ _ => (pts_one (pt_cmpR op_notIn_sign (pv 3) pe_str rfl))) (fun _ _ _ _ _ => (pv 3))) pa_nil)) pe_int (nomark _))
        (pss_one (ps_ret pe_non))
        pss_nil)
      (pss_cons (ps_set (i := 2) sc_law_piece.nd rfl (Or.inl rfl) (pe_lst (pa_cons (pe_ok C_law_value (hr.mono (by first | decide | exact Nat.le_refl _)) rfl (pa_cons (pe_ix ix_list (pv 1) pe_int (fun _ _ => rfl)) pa_nil)) (pa_cons (pe_ok C_law_value (hr.mono (by first | decide | exact Nat.le_refl _)) rfl (pa_cons (pe_ix ix_list (pv 1) pe_int (fun _ _ => rfl)) pa_nil)) (pa_cons (pe_ok C_law_value (hr.mono (by first | decide | exact Nat.le_refl _)) rfl (pa_cons (pe_ix ix_list (pv 1) pe_int (fun _ _ => rfl)) pa_nil)) pa_nil)))))
      (pss_cons (ps_if (PW.pt (pw_or (pt_cmpR (op_inD (hu65 hr)) pe_non (pv 2) rfl) (pw_or (pt_not (pt_val (pe_ok C_law_less (hr.mono (by first | decide | exact Nat.le_refl _)) rfl (pa_cons (pe_ix ix_list (pv 2) pe_int (fun _ _ => rfl)) (pa_cons (pe_ix ix_list (pv 2) pe_int (fun _ _ => rfl)) pa_nil))))) (pw_or1 (pt_cmpR op_le (pe_ix ix_tup (pe_ix ix_list (pv 2) pe_int (fun _ _ => rfl)) pe_int (fun _ _ => rfl)) pe_int (nomark _))))))
        (pss_one (ps_ret pe_non))
        pss_nil)
      (pss_one (ps_ret (pe_tup (pa_cons (pe_ix ix_list (pv 2) pe_int (fun _ _ => rfl)) (pa_cons (pe_ix ix_list (pv 2) pe_int (fun _ _ => rfl)) (pa_cons (pe_ix ix_list (pv 1) pe_int (fun _ _ => rfl)) (pa_cons (pe_ix ix_list (pv 2) pe_int (fun _ _ => rfl)) pa_nil)))))))))))), ?_⟩
  refine ⟨_, rfl, ⟨_, rfl⟩, x, (" " : Str), rfl, rfl, by decide +kernel, small6 (by omega), fun L nL => ?_⟩
  have cnt := sepS.count x
  have lp : ∀ p ∈ Txt.split x (" " : Str), p.length ≤ 4000000 := fun p hp => Nat.le_trans (sepS.len hp) hx
  unfold pieceO at k
  generalize Txt.split x (" " : Str) = ws at cnt lp k ⊢
  have sL := same_upd (o := .lst (ws.map V.str)) nL
  have hL : (upd H L (.lst (ws.map V.str))) L = some (.lst (ws.map V.str)) := upd_same
  generalize upd H L (.lst (ws.map V.str)) = H1 at sL hL
  refine ⟨_, rfl, L, _, rfl, .inl (SqL.of hL), rfl, _, rfl, ?_⟩
  by_cases l4 : ws.length = 4
  rotate_left
  · rw [decide_eq_false (show ¬ V.int ((ws.map V.str).length : Nat) = V.int 4 from fun z => l4 (by have := V.int.inj z; rw [List.length_map] at this; omega))]
    have : pieceW ws = none := by
      unfold pieceW
      split
      · exact absurd rfl l4
      · rfl
    rw [this] at k
    exact iteT (iteT (k _ _ sL .non))
  rw [decide_eq_true (show V.int ((ws.map V.str).length : Nat) = V.int 4 by rw [List.length_map, l4]; rfl)]
  match ws, l4, lp, k, hL, cnt with
  | [a, b, n, c], l4, lp, k, hL, cnt =>
  have k : ∀ v H', Same H H' → Is K H' v (dOP (if nameB n = true then (match ratO a, ratO b, ratO c with
    | some s, some e, some v => if s < e ∧ 0 < v then some (⟨s, e, n, v⟩ : Pc) else none
    | _, _, _ => none) else none)) → Q v H' := k
  have ln := lp n (by simp)
  have no : nameB n = false → ∀ H', Same H H' → Q .non H' := fun e H' sm => by
    rw [e, if_neg (by decide)] at k
    exact k _ _ sm .non
  rw [nameB_split] at no
  refine iteF ⟨_, rfl, L, _, 2, _, rfl, rfl, SqL.of hL, rfl, n, rfl, small6 (by omega), _, _, rfl, rfl, _, rfl, ?_⟩
  cases e1 : decide ((1 : Int) ≤ n.length) with
  | false =>
    refine iteF ⟨_, rfl, iteT ?_⟩
    exact no (by rw [e1]; rfl) _ sL
  | true =>
  refine iteT ⟨_, _, rfl, rfl, _, rfl, ?_⟩
  cases e2 : decide ((n.length : Int) ≤ 8) with
  | false =>
    exact iteT (no (by rw [e1, e2]; rfl) _ sL)
  | true =>
  refine iteF ?_
  rw [e1, e2, Bool.true_and, Bool.true_and] at no
  refine ⟨_, rfl, L, _, 2, _, rfl, rfl, SqL.of hL, rfl, n, rfl, fun D hD => ?_⟩
  refine lc_str (x := n) (fun i H' => Off H1 H' D n LET i) ⟨same_upd hD, [], upd_same, Nat.le_refl _, ⟨fun _ m c h => absurd h (Nat.not_lt_zero m), fun _ => rfl⟩⟩ ?_ ?_
  · intro i c H' hc ho
    refine ⟨rfl, _, rfl, c, LET, rfl, rfl, _, rfl, ?_⟩
    by_cases z : c ∈ LET.cps.toList
    · rw [decide_eq_true z]
      exact iteF (ho.keep hc z)
    · rw [decide_eq_false z]
      exact iteT ⟨_, rfl, ho.put hD ln hc z⟩
  intro H' ho
  obtain ⟨s1, acc, ha, hb⟩ := ho.fin
  refine ⟨D, acc, rfl, .inl (SqL.of ha), _, _, rfl, rfl, _, rfl, ?_⟩
  rw [hb]
  have sL1 := sL.trans s1
  have hL1 := s1 _ _ hL
  cases e3 : n.cps.toList.all fun c => decide (c ∈ LET.cps.toList) with
  | false =>
    exact iteT (no e3 _ sL1)
  | true =>
  refine iteF ?_
  have hn : nameB n = true := by rw [nameB_split, e1, e2, e3]; rfl
  rw [hn, if_pos rfl] at k
  refine ⟨_, rfl, L, _, 0, _, rfl, rfl, SqL.of hL1, rfl, a, rfl, lp a (by simp), fun v1 H2 s2 i2 => ?_⟩
  have hL2 := s2 _ _ hL1
  refine ⟨_, rfl, L, _, 1, _, rfl, rfl, SqL.of hL2, rfl, b, rfl, lp b (by simp), fun v2 H3 s3 i3 => ?_⟩
  have hL3 := s3 _ _ hL2
  refine ⟨_, rfl, L, _, 3, _, rfl, rfl, SqL.of hL3, rfl, c, rfl, lp c (by simp), fun v3 H4 s4 i4 => ⟨(by show 3 ≤ sizeLine; decide), fun M nM => ?_⟩⟩
  have hL4 := s4 _ _ hL3
  have sM := same_upd (o := .lst [v1, v2, v3]) nM
  have hM : (upd H4 M (.lst [v1, v2, v3])) M = some (.lst [v1, v2, v3]) := upd_same
  have hL5 := sM _ _ hL4
  have S5 := sL1.trans (s2.trans (s3.trans (s4.trans sM)))
  have j1 := (i2.to (Same.tm (s3.trans s4))).to (Same.tm sM)
  have j2 := (i3.to (Same.tm s4)).to (Same.tm sM)
  have j3 := i4.to (Same.tm sM)
  generalize upd H4 M (.lst [v1, v2, v3]) = H5 at sM hM hL5 S5 j1 j2 j3
  refine ⟨_, rfl, .none, [dOR (ratO a), dOR (ratO b), dOR (ratO c)], .non, .lst (SqL.of hM) (.cons j1.dp (.cons j2.dp (.cons j3.dp .nil))), rfl, shaped_dOR3 _ _ _, _, rfl, ?_⟩
  have ea : ([dOR (ratO a), dOR (ratO b), dOR (ratO c)].any fun z => PyData.eqv z .none) = ((ratO a).isNone || ((ratO b).isNone || (ratO c).isNone)) := by
    rw [List.any_cons, List.any_cons, List.any_cons, List.any_nil, eqv_dOR, eqv_dOR, eqv_dOR, Bool.or_false]
  rw [ea]
  cases oa : ratO a with
  | none =>
    rw [oa] at k
    exact iteT (iteT (k _ _ S5 .non))
  | some s =>
  cases ob : ratO b with
  | none =>
    rw [oa, ob] at k
    exact iteT (iteT (k _ _ S5 .non))
  | some e =>
  cases oc : ratO c with
  | none =>
    rw [oa, ob, oc] at k
    exact iteT (iteT (k _ _ S5 .non))
  | some v =>
  rw [oa, ob, oc] at k
  rw [oa] at j1
  rw [ob] at j2
  rw [oc] at j3
  have j1 : Is K H5 v1 (rat2 s) := j1
  have j2 : Is K H5 v2 (rat2 e) := j2
  have j3 : Is K H5 v3 (rat2 v) := j3
  have k : ∀ u H', Same H H' → Is K H' u (dOP (if s < e ∧ 0 < v then some (⟨s, e, n, v⟩ : Pc) else none)) → Q u H' := k
  obtain ⟨t3, rfl, st3⟩ := rat_at j3
  refine iteF ⟨_, rfl, M, _, 0, _, rfl, rfl, SqL.of hM, rfl, _, rfl, M, _, 1, _, rfl, rfl, SqL.of hM, rfl, v1, v2, s, e, rfl, j1, j2, ratO_sz oa, ratO_sz ob, _, rfl, ?_⟩
  by_cases lt : s < e
  rotate_left
  · rw [decide_eq_false lt]
    rw [if_neg (fun z => lt z.1)] at k
    exact iteT (iteT (k _ _ S5 .non))
  rw [decide_eq_true lt]
  refine iteF ⟨_, rfl, M, _, 2, _, rfl, rfl, SqL.of hM, rfl, t3, _, 0, _, rfl, rfl, st3, rfl, _, _, rfl, rfl, _, rfl, ?_⟩
  by_cases v0 : 0 < v
  · rw [decide_eq_false (show ¬ v.num ≤ 0 by have := num_pos.mpr v0; omega)]
    rw [if_pos ⟨lt, v0⟩] at k
    refine iteF ⟨_, rfl, M, _, 0, _, rfl, rfl, SqL.of hM, rfl, _, rfl, M, _, 1, _, rfl, rfl, SqL.of hM, rfl, _, rfl, L, _, 2, _, rfl, rfl, SqL.of hL5, rfl, _, rfl, M, _, 2, _, rfl, rfl, SqL.of hM, rfl, (by show 4 ≤ sizeLine; decide), fun t nt' => ?_⟩
    exact k _ _ (S5.trans (same_upd nt')) (is_pc (q := ⟨s, e, n, v⟩) (SqT.of upd_same) (j1.to (Tm.new nt')) (j2.to (Tm.new nt')) (j3.to (Tm.new nt')))
  · rw [decide_eq_true (show v.num ≤ 0 by have : ¬ 0 < v.num := fun z => v0 (num_pos.mp z); omega)]
    rw [if_neg (fun z => v0 z.2)] at k
    exact iteT (k _ _ S5 .non)

end
end Z

namespace Z
open PySem PySem.Spec PyProof.Rows L2 ZX
section
variable {P : Program} {w : World} {K : PySem.W.Frag} {mg : Str → Option Value} {base : Heap}
theorem cut_init {xs : List V} {v : V} : cutV (xs ++ [v]) none (some (((xs ++ [v]).length : Int) - 1)) = xs := by
  unfold cutV
  show ((xs ++ [v]).drop 0).take ((if (((xs ++ [v]).length : Int) - 1) < 0 then ((((xs ++ [v]).length : Int) - 1) + ((xs ++ [v]).length : Int)).toNat else min (((xs ++ [v]).length : Int) - 1).toNat (xs ++ [v]).length) - 0) = xs
  rw [List.length_append, List.length_singleton, if_neg (by omega), show min (((xs.length + 1 : Nat) : Int) - 1).toNat (xs.length + 1) - 0 = xs.length by omega, List.drop_zero, List.take_left]
theorem at_last2 {xs : List V} {v : V} : atI (xs ++ [v]) (((xs ++ [v]).length : Int) - 1) = some v := by
  rw [show (((xs ++ [v]).length : Int) - 1) = ((xs.length : Nat) : Int) by rw [List.length_append, List.length_singleton]; omega]
  exact atI_nat (by simp)
def wrongPV (text : Str) : V := match wrongP text with
  | none => .non
  | some n => .int (n : Nat)
def spWrongP : Sp := fun vs H Q _ => ∃ text : Str, vs = [.str text] ∧ text.length ≤ 3000000 ∧ ∀ H', Same H H' → Q (wrongPV text) H'
theorem ok_law_wrongP (B : BI mg) (F : At K mg "_law_wrong" s_law_wrong ["text"]) (C_law_piece : Ok P w K mg base 3 "_law_piece" ["line"] [] (spReadPG K)) (C_law_less : Ok P w K mg base 1 "_law_less" ["a", "b"] [] (spLess K)) : Ok P w K mg base 4 "_law_wrong" ["text"] [] spWrongP := by
  refine F.ok sc_law_wrong (fun vs H Q E h => ?_) (fun f cdv A outer s H vs Q E hr h => ?_)
  · obtain ⟨text, rfl, _⟩ := h
    rfl
  obtain ⟨text, rfl, hl, k⟩ := h
  refine ⟨_, (pss_cons (ps_set (i := 1) sc_law_wrong.nd rfl (Or.inl rfl) (pe_split (pv 0) pe_str))
      (pss_cons (ps_set (i := 2) sc_law_wrong.nd rfl (Or.inl rfl) (pe_ix ix_list (pv 1) (pe_op op_sub (pe_callB call_len_seq rfl B.len PySem.boot_len (pa_cons (pv 1) pa_nil)) pe_int) (fun _ _ => rfl)))
      (Evl.pss_cut (ps_if (pt_cmpR op_eq (pv 2) pe_str (nomark _))
        (pss_one (ps_set (i := 1) sc_law_wrong.nd rfl (Or.inl rfl) (pe_slice sl_list (pv 1) po_none (po_some (pe_op op_sub (pe_callB call_len_seq rfl B.len PySem.boot_len (pa_cons (pv 1) pa_nil)) pe_int)))))
        pss_nil)
      (pss_cons (ps_set (i := 3) sc_law_wrong.nd rfl (Or.inl rfl) pe_non)
      (pss_cons (ps_for PassesOwn.never rfl (pi_range1 rfl B.range (pa_cons (pe_callB call_len_seq rfl B.len PySem.boot_len (pa_cons (pv 1) pa_nil)) pa_nil)) (pg_name (i := 4) sc_law_wrong.nd rfl (Or.inl rfl))
        (pss_cons (ps_set (i := 5) sc_law_wrong.nd rfl (Or.inl rfl) (pe_ok C_law_piece (hr.mono (by first | decide | exact Nat.le_refl _)) rfl (pa_cons (pe_ix ix_list (pv 1) (pv 4) (fun _ _ => rfl)) pa_nil)))
        (pss_cons (ps_if (PW.pt (pw_or (pt_cmpR op_isN (pv 5) pe_non (nomark _)) (pw_or1 (PW.pt (pw_and (pt_cmpR op_notN (pv 3) pe_non (nomark _)) (pw_and1 (pt_val (pe_ok C_law_less (hr.mono (by first | decide | exact Nat.le_refl _)) rfl (pa_cons (pe_ix ix_tup (pv 5) pe_int (fun _ _ => rfl)) (pa_cons (pv 3) pa_nil))))))))))
          (pss_one (ps_ret (pe_op op_add (pv 4) pe_int)))
          pss_nil)
        (pss_one (ps_set (i := 3) sc_law_wrong.nd rfl (Or.inl rfl) (pe_ix ix_tup (pv 5) pe_int (fun _ _ => rfl)))))))
      (pss_cons (ps_if (pt_cmpR op_ne (pv 2) pe_str (nomark _))
        (pss_one (ps_ret (pe_callB call_len_seq rfl B.len PySem.boot_len (pa_cons (pv 1) pa_nil))))
        pss_nil)
      (pss_one (ps_ret pe_non)))))))), ?_⟩
  obtain ⟨ini, r, es, er, eb⟩ := snoc_split text
  have bl := body_len text
  have il : ini.length ≤ text.length := by
    have := sepN.count text
    rw [es, List.length_append, List.length_singleton] at this
    omega
  refine ⟨_, rfl, ⟨_, rfl⟩, text, ("\n" : Str), rfl, rfl, by decide +kernel, small6 (by omega), ?_⟩
  rw [es]
  unfold rNewStrs
  rw [List.map_append]
  intro L nL
  have s1 := same_upd (o := .lst (ini.map V.str ++ [r].map V.str)) nL
  refine ⟨_, rfl, _, rfl, L, _, rfl, .inl (SqL.of upd_same), _, _, rfl, rfl, L, _, _, .str r, rfl, rfl, SqL.of upd_same, at_last2, ?_⟩
  refine ⟨fun σ' H' => ∃ L3, σ' = [some (.str text), some (.ref L3), some (.str r), none, none, none] ∧ Same H H' ∧ H' L3 = some (.lst ((body text).map V.str)), ?_, ?_⟩
  · refine ⟨_, rfl, rfl, _, rfl, ?_⟩
    by_cases e0 : r = ("" : Str)
    · rw [decide_eq_true (congrArg V.str e0)]
      refine iteT ⟨_, rfl, _, rfl, L, _, rfl, .inl (SqL.of upd_same), _, _, rfl, rfl, _, rfl, L, _, rfl, SqL.of upd_same, fun L2 nL2 => ?_⟩
      rw [show cutV (ini.map V.str ++ [r].map V.str) none (some (((ini.map V.str ++ [r].map V.str).length : Int) - 1)) = ini.map V.str from cut_init]
      refine ⟨L2, rfl, s1.trans (same_upd (o := .lst (ini.map V.str)) nL2), ?_⟩
      rw [eb, if_pos e0]
      exact upd_same
    · rw [decide_eq_false (fun z => e0 (V.str.inj z))]
      refine iteF ⟨L, rfl, s1, ?_⟩
      rw [eb, if_neg e0, List.map_append]
      exact upd_same
  rintro σ3 H3 ⟨L3, rfl, s3, q3⟩
  have ll : ((body text).map V.str).length = (body text).length := List.length_map _
  refine ⟨_, rfl, L3, _, rfl, .inl (SqL.of q3), _, rfl, by omega, by rw [ll]; omega, for_range (lo := 0) (n := ((body text).map V.str).length) (fun i σ' H' => ∃ (v3 : V) (y4 y5 : Option V), σ' = [some (.str text), some (.ref L3), some (.str r), some v3, y4, y5] ∧ Same H3 H' ∧
    ((i = 0 ∧ v3 = .non) ∨ (0 < i ∧ ∃ (y : Str) (p : Pc), (body text)[i - 1]? = some y ∧ pieceO y = some p ∧ Is K H' v3 (rat2 p.e))) ∧ ∀ m < i, badP (body text) m = false) ?_ ?_ ?_⟩
  · exact ⟨.non, none, none, rfl, Same.refl _, .inl ⟨rfl, rfl⟩, fun m h => absurd h (Nat.not_lt_zero m)⟩
  · rintro i σ' H' hi ⟨v3, y4, y5, rfl, sm, hb4, hbad⟩
    rw [ll] at hi
    have hi2 : i < (body text).length := by omega
    have hx := List.getElem?_eq_getElem hi2
    generalize (body text)[i] = x at hx
    have xl := body_mem (List.mem_of_getElem? hx)
    have wrong : badP (body text) i = true → wrongPV text = .int ((i + 1 : Nat) : Int) := fun hb => by
      unfold wrongPV wrongP
      rw [firstP_is hb hbad]
    have ret : badP (body text) i = true → ∀ H2, Same H3 H2 → Q (.int (0 + (i : Int) + 1)) H2 := fun hb H2 sm2 => by
      have := k H2 (s3.trans sm2)
      rw [wrong hb] at this
      rw [show (0 : Int) + (i : Int) + 1 = ((i + 1 : Nat) : Int) by omega]
      exact this
    refine ⟨_, rfl, _, rfl, L3, _, _, .str x, rfl, rfl, SqL.of (sm _ _ q3), ?_, x, rfl, by omega, fun v H5 s5 iv => ?_⟩
    · show atI ((body text).map V.str) (0 + (i : Int)) = _
      rw [Int.zero_add]
      exact atI_nat (by rw [List.getElem?_map, hx]; rfl)
    have sm5 := sm.trans s5
    cases ep : pieceO x with
    | none =>
      rw [ep] at iv
      have iv : Is K H5 v .none := iv
      cases iv
      refine ⟨_, rfl, rfl, true, by simp, iteT (iteT ?_)⟩
      exact ⟨_, rfl, _, _, rfl, rfl, ret (badP_none hx ep) _ sm5⟩
    | some c =>
    rw [ep] at iv
    have iv : Is K H5 v (dPc c) := iv
    obtain ⟨tc, c0, c1, c2, rfl, stc, ic0, ic1, ic2⟩ := pc_at iv
    have cw := (pieceO_back ep).2
    refine ⟨_, rfl, rfl, false, by simp, iteF ?_⟩
    have nxt : badP (body text) i = false → ∀ m < i + 1, badP (body text) m = false := fun hb m hm => by
      by_cases z : m < i
      · exact hbad m z
      · have : m = i := by omega
        rw [this]
        exact hb
    rcases hb4 with ⟨rfl, rfl⟩ | ⟨ip, y, p, hy, ey, ipe⟩
    · refine ⟨_, rfl, rfl, false, by simp, iteF (iteF ?_)⟩
      refine ⟨_, rfl, tc, _, 1, _, rfl, rfl, stc, rfl, ?_⟩
      exact ⟨c1, _, _, rfl, sm5, .inr ⟨by omega, x, c, hx, ep, ic1⟩, nxt (badP_zero hx ep)⟩
    · obtain ⟨tp, rfl, stp⟩ := rat_at ipe
      have pw := (pieceO_back ey).2
      have eb2 := badP_some hx ep ip hy ey
      refine ⟨_, rfl, rfl, true, by simp, iteT ?_⟩
      refine ⟨_, rfl, tc, _, 0, _, rfl, rfl, stc, rfl, _, rfl, c0, .ref tp, c.s, p.e, rfl, ic0, ipe.to (Same.tm s5), cw.s.mono (by decide), pw.e.mono (by decide), _, rfl, ?_⟩
      rw [← eb2]
      cases hb : badP (body text) i with
      | true => exact iteT ⟨_, rfl, _, _, rfl, rfl, ret hb _ sm5⟩
      | false =>
        refine iteF ?_
        refine ⟨_, rfl, tc, _, 1, _, rfl, rfl, stc, rfl, ?_⟩
        exact ⟨c1, _, _, rfl, sm5, .inr ⟨by omega, x, c, hx, ep, ic1⟩, nxt hb⟩
  · rintro σ' H' ⟨v3, y4, y5, rfl, sm, hb4, hbad⟩
    rw [ll] at hbad
    have fn := firstP_no hbad
    have S := s3.trans sm
    refine ⟨_, rfl, rfl, _, rfl, ?_⟩
    by_cases e0 : r = ("" : Str)
    · rw [decide_eq_true (congrArg V.str e0)]
      have : wrongPV text = .non := by
        unfold wrongPV wrongP
        rw [fn]
        show (match (if rest text = ("" : Str) then none else some (body text).length) with | none => V.non | some n => V.int (n : Nat)) = _
        rw [er, if_pos e0]
      have kk := k _ S
      rw [this] at kk
      exact iteF kk
    · rw [decide_eq_false (fun z => e0 (V.str.inj z))]
      have : wrongPV text = .int ((body text).length : Nat) := by
        unfold wrongPV wrongP
        rw [fn]
        show (match (if rest text = ("" : Str) then none else some (body text).length) with | none => V.non | some n => V.int (n : Nat)) = _
        rw [er, if_neg e0]
      have kk := k _ S
      rw [this, ← ll] at kk
      exact iteT ⟨_, rfl, L3, _, rfl, .inl (SqL.of (sm _ _ q3)), kk⟩

def wsum (l : List Str) : Nat := (l.map fun x => x.length + 1).sum
theorem mulok (n : Int) (h1 : 1 < n) (h2 : n ≤ 1000) : MulOk ("1" : Str) n := by
  have e : (("1" : Str)).length = 1 := by decide +kernel
  refine ⟨?_, fun _ _ => ?_, fun _ _ => ?_⟩
  · rw [decide_eq_false (by omega), decide_eq_false (by omega)]; rfl
  · rw [e]
    have : 1000 ≤ ((2 ^ 63 - 1) / n : Int) := Int.le_ediv_of_mul_le (by omega) (by omega)
    omega
  · rw [e]
    unfold PySem.Builtin.Str.tooLong
    exact decide_eq_false (by have : (1 * n.toNat : Nat) ≤ 1000 := by omega
                              have : (1000 : Nat) < sizeLine := by decide
                              omega)
theorem wsum_app (a b : List Str) : wsum (a ++ b) = wsum a + wsum b := by
  unfold wsum
  rw [List.map_append, List.sum_append]
theorem wsum_sub : ∀ {a b : List Str}, a.Sublist b → wsum a ≤ wsum b
  | _, _, .slnil => Nat.le_refl _
  | _, _, .cons x h => by
    have := wsum_sub h
    show _ ≤ (List.map _ (_ :: _)).sum
    rw [List.map_cons, List.sum_cons]
    unfold wsum at this ⊢
    omega
  | _, _, .cons₂ x h => by
    have := wsum_sub h
    show (List.map _ (_ :: _)).sum ≤ (List.map _ (_ :: _)).sum
    rw [List.map_cons, List.sum_cons, List.map_cons, List.sum_cons]
    unfold wsum at this
    omega
theorem wsum_set {l : List Str} {y : Str} : ∀ {i : Nat}, wsum (l.set i y) ≤ wsum l + y.length + 1 := by
  induction l with
  | nil => intro i; simp [wsum]
  | cons a l ih =>
    intro i
    cases i with
    | zero =>
      show (List.map _ (y :: l)).sum ≤ (List.map _ (a :: l)).sum + _ + _
      rw [List.map_cons, List.sum_cons, List.map_cons, List.sum_cons]
      omega
    | succ i =>
      have := ih (i := i)
      show (List.map _ (a :: l.set i y)).sum ≤ (List.map _ (a :: l)).sum + _ + _
      rw [List.map_cons, List.sum_cons, List.map_cons, List.sum_cons]
      unfold wsum at this
      omega
theorem join_len : ∀ l : List Str, (Txt.join (" " : Str) l).length ≤ wsum l ∧ (l ≠ [] → wsum l = (Txt.join (" " : Str) l).length + 1) := by
  intro l
  rw [str_len, TL.join_eq, show (Str.join (" " : Str) l).cps.toList = TL.joinL [32] (l.map TL.tl) from (TL.tl_join _ _).trans (by rw [tl_sp])]
  have key : ∀ l : List Str, l ≠ [] → wsum l = (TL.joinL [32] (l.map TL.tl)).length + 1 := by
    intro l
    induction l with
    | nil => intro h; exact absurd rfl h
    | cons a l ih =>
      intro _
      cases l with
      | nil => simp [wsum, TL.joinL, str_len]
      | cons b r =>
        have := ih (by simp)
        show (List.map _ (a :: b :: r)).sum = (TL.tl a ++ ([32] ++ TL.joinL [32] ((b :: r).map TL.tl))).length + 1
        rw [List.map_cons, List.sum_cons, List.length_append, List.length_append]
        unfold wsum at this
        rw [this]
        show a.length + 1 + _ = a.cps.toList.length + _ + _
        rw [str_len]
        simp
        omega
  refine ⟨?_, key l⟩
  cases l with
  | nil => exact Nat.zero_le _
  | cons a l =>
    have := key (a :: l) (by simp)
    omega
theorem wsum_split (x : Str) : wsum (Txt.split x (" " : Str)) = x.length + 1 := by
  rw [(join_len _).2 (sepS.ne x), sepS.join]
theorem cut_strs (us : List Str) (lo hi : Option Int) : ∃ ws : List Str, cutV (us.map V.str) lo hi = ws.map V.str ∧ ws.Sublist us := by
  unfold cutV
  rw [List.length_map]
  exact ⟨(us.drop _).take _, by rw [List.map_take, List.map_drop], (List.take_sublist _ _).trans (List.drop_sublist _ _)⟩
theorem strs_ne {p pa R : Addr} {H : Hp} {us : List Str} (hP : Pl p pa H) (hR : H R = some (.lst (us.map V.str))) : R ≠ p := by
  obtain ⟨ns, i, r, l, c, _, h, _⟩ := hP
  rintro rfl
  rw [h] at hR
  have e := Option.some.inj hR
  cases us with
  | nil => cases e
  | cons a us => cases e
def spPickS : Sp := fun vs H Q _ => ∃ (p pa R : Addr) (us : List Str), vs = [.ref p, .ref R] ∧ Pl p pa H ∧ H R = some (.lst (us.map V.str)) ∧ 0 < us.length ∧ us.length ≤ 5000000 ∧ ∀ x H', x ∈ us → Kp p H H' → Pl p pa H' → Q (.str x) H'
theorem ok_law_pick (B : BI mg) (F : At K mg "_law_pick" s_law_pick ["pool", "rows"]) (C_law_draw : Ok P w K mg base 1 "_law_draw" ["pool", "many"] [] spDraw) : Ok P w K mg base 2 "_law_pick" ["pool", "rows"] [] spPickS := by
  refine F.ok sc_law_pick (fun vs H Q E h => ?_) (fun f cdv A outer s H vs Q E hr h => ?_)
  · obtain ⟨p, pa, R, us, rfl, _⟩ := h
    rfl
  obtain ⟨p, pa, R, us, rfl, hP, hR, h0, h1, k⟩ := h
  refine ⟨_, (pss_one (ps_ret (pe_ix ix_list (pv 1) (pe_ok C_law_draw (hr.mono (by first | decide | exact Nat.le_refl _)) rfl (pa_cons (pv 0) (pa_cons (pe_callB call_len_seq rfl B.len PySem.boot_len (pa_cons (pv 1) pa_nil)) pa_nil))) (fun _ _ => rfl)))), ?_⟩
  refine ⟨_, rfl, _, rfl, _, rfl, R, _, rfl, .inl (SqL.of hR), p, pa, _, rfl, hP, by rw [List.length_map]; omega, by rw [List.length_map]; omega, fun r H1 r0 r1 k1 P1 => ?_⟩
  rw [List.length_map] at r1
  have hx : us[r.toNat]? = some us[r.toNat] := List.getElem?_eq_getElem (by omega)
  refine ⟨R, _, r, _, rfl, rfl, SqL.of (k1 _ _ (strs_ne hP hR) hR), at_of (Int.toNat_of_nonneg r0).symm (by rw [List.getElem?_map, hx]; rfl), ?_⟩
  exact k _ _ (List.getElem_mem _) k1 P1
def spSpoiltP (m : Nat) : Sp := fun vs H Q _ => ∃ (p pa L : Addr) (ws : List Str), vs = [.ref p, .ref L] ∧ Pl p pa H ∧ H L = some (.lst (ws.map V.str)) ∧ 0 < ws.length ∧ ws.length ≤ 400 ∧ (∀ x ∈ ws, x.length ≤ m) ∧
  ∀ (R : Addr) (us : List Str) (H' : Hp), Kp p H H' → Pl p pa H' → H' R = some (.lst (us.map V.str)) → us.length ≤ 2 * ws.length + 1 → (∀ x ∈ us, x.length ≤ 3 * m + 620) → Q (.ref R) H'
def spSpoiltB : Sp := fun vs H Q E => ∃ m : Nat, m ≤ 10000 ∧ spSpoiltP m vs H Q E
theorem ok_law_spoiltP (B : BI mg) (F : At K mg "_law_spoilt" s_law_spoilt ["pool", "lines"]) (C_law_draw : Ok P w K mg base 1 "_law_draw" ["pool", "many"] [] spDraw) (C_law_pick : Ok P w K mg base 2 "_law_pick" ["pool", "rows"] [] spPickS) : Ok P w K mg base 3 "_law_spoilt" ["pool", "lines"] [] spSpoiltB := by
  refine F.ok sc_law_spoilt (fun vs H Q E h => ?_) (fun f cdv A outer s H vs Q E hr h => ?_)
  · obtain ⟨m, _, p, pa, L, ws, rfl, _⟩ := h
    rfl
  obtain ⟨m, hm0, p, pa, L, ws, rfl, hP, hL, h0, hn, hm, q⟩ := h
  refine ⟨_, (pss_cons (ps_set (i := 2) sc_law_spoilt.nd rfl (Or.inl rfl) (pe_ok C_law_draw (hr.mono (by first | decide | exact Nat.le_refl _)) rfl (pa_cons (pv 0) (pa_cons (pe_callB call_len_seq rfl B.len PySem.boot_len (pa_cons (pv 1) pa_nil)) pa_nil))))
      (pss_cons (ps_set (i := 3) sc_law_spoilt.nd rfl (Or.inl rfl) (pe_ok C_law_draw (hr.mono (by first | decide | exact Nat.le_refl _)) rfl (pa_cons (pv 0) (pa_cons pe_int pa_nil))))
      (pss_cons (ps_if (pt_cmpR op_eq (pv 3) pe_int (nomark _))
        (pss_one (ps_ret (pe_op op_cat (pe_slice sl_list (pv 1) po_none (po_some (pv 2))) (pe_slice sl_list (pv 1) (po_some (pe_op op_add (pv 2) pe_int)) po_none))))
        pss_nil)
      (pss_cons (ps_if (pt_cmpR op_eq (pv 3) pe_int (nomark _))
        (pss_one (ps_ret (pe_op op_cat (pe_op op_cat (pe_slice sl_list (pv 1) po_none (po_some (pv 2))) (pe_lst (pa_cons (pe_ok C_law_pick (hr.mono (by first | decide | exact Nat.le_refl _)) rfl (pa_cons (pv 0) (pa_cons (pv 1) pa_nil))) pa_nil))) (pe_slice sl_list (pv 1) (po_some (pe_op op_add (pv 2) pe_int)) po_none))))
        pss_nil)
      (pss_cons (ps_set (i := 4) sc_law_spoilt.nd rfl (Or.inl rfl) (pe_split (pe_ix ix_list (pv 1) (pv 2) (fun _ _ => rfl)) pe_str))
      (pss_cons (ps_set (i := 5) sc_law_spoilt.nd rfl (Or.inl rfl) (pe_ok C_law_draw (hr.mono (by first | decide | exact Nat.le_refl _)) rfl (pa_cons (pv 0) (pa_cons (pe_callB call_len_seq rfl B.len PySem.boot_len (pa_cons (pv 4) pa_nil)) pa_nil))))
      (pss_cons (ps_set (i := 6) sc_law_spoilt.nd rfl (Or.inl rfl) (pe_lst (pa_cons pe_str (pa_cons pe_str (pa_cons pe_str (pa_cons pe_str (pa_cons pe_str (pa_cons pe_str (pa_cons pe_str (pa_cons pe_str (pa_cons pe_str (pa_cons pe_str (pa_cons pe_str (pa_cons pe_str (pa_cons pe_str (pa_cons pe_str (pa_cons pe_str pa_nil)))))))))))))))))
      (pss_cons (ps_set (i := 6) sc_law_spoilt.nd rfl (Or.inl rfl) (pe_op op_cat (pv 6) (pe_lst (pa_cons (pe_op op_mul_str pe_str pe_int) (pa_cons (pe_op op_mul_str pe_str pe_int) (pa_cons pe_str (pa_cons pe_str (pa_cons pe_str (pa_cons pe_str pa_nil)))))))))
      (Evl.pss_cut (ps_if (pt_cmpR op_eq (pv 3) pe_int (nomark _))
        (pss_one (ps_set (i := 4) sc_law_spoilt.nd rfl (Or.inl rfl) (pe_op op_cat (pe_slice sl_list (pv 4) po_none (po_some (pv 5))) (pe_slice sl_list (pv 4) (po_some (pe_op op_add (pv 5) pe_int)) po_none))))
        (pss_one (ps_if (pt_cmpR op_eq (pv 3) pe_int (nomark _))
          (pss_one (ps_set (i := 4) sc_law_spoilt.nd rfl (Or.inl rfl) (pe_op op_cat (pe_op op_cat (pe_slice sl_list (pv 4) po_none (po_some (pv 5))) (pe_lst (pa_cons (pe_ix ix_list (pv 4) (pv 5) (fun _ _ => rfl)) pa_nil))) (pe_slice sl_list (pv 4) (po_some (pv 5)) po_none))))
          (pss_one (ps_asg (pe_ok C_law_pick (hr.mono (by first | decide | exact Nat.le_refl _)) rfl (pa_cons (pv 0) (pa_cons (pe_op op_cat (pv 6) (pe_split (pe_ix ix_list (pv 1) pe_int (fun _ _ => rfl)) pe_str)) pa_nil))) (pg_sub (pv 4) (pv 5) set_list))))))
      (pss_one (ps_ret (pe_op op_cat (pe_op op_cat (pe_slice sl_list (pv 1) po_none (po_some (pv 2))) (pe_lst (pa_cons (pe_join pe_str (pv 4)) pa_nil))) (pe_slice sl_list (pv 1) (po_some (pe_op op_add (pv 2) pe_int)) po_none))))))))))))), ?_⟩
  refine ⟨_, rfl, _, rfl, L, _, rfl, .inl (SqL.of hL), p, pa, _, rfl, hP, by rw [List.length_map]; omega, by rw [List.length_map]; omega, fun r1 H1 r10 r11 k1 P1 => ?_⟩
  rw [List.length_map] at r11
  have nLp := strs_ne hP hL
  refine ⟨_, rfl, p, pa, 6, rfl, P1, by decide, by decide, fun r2 H2 r20 r21 k2 P2 => ?_⟩
  have k12 := k1.trans k2
  have hL2 := k12 _ _ nLp hL
  have hx : ws[r1.toNat]? = some ws[r1.toNat] := List.getElem?_eq_getElem (by omega)
  have xm := hm _ (List.getElem_mem (l := ws) (n := r1.toNat) (by omega))
  generalize ws[r1.toNat] = x at hx xm
  have hat : atI (ws.map V.str) r1 = some (.str x) := at_of (Int.toNat_of_nonneg r10).symm (by rw [List.getElem?_map, hx]; rfl)
  have mem3 : ∀ {A : List Str}, A.Sublist ws → ∀ y ∈ A, y.length ≤ 3 * m + 620 := fun h y hy => by
    have := hm y (h.subset hy)
    omega
  -- pick == 0
  refine ⟨_, rfl, rfl, _, rfl, ite2 (fun e => ?_) (fun e => ?_)⟩
  · refine ⟨_, rfl, _, rfl, _, rfl, L, _, rfl, SqL.of hL2, fun a na => ?_⟩
    obtain ⟨A, eA, lA⟩ := cut_strs ws none (some r1)
    have lA' := lA.length_le
    rw [eA]
    have sa := same_upd (o := .lst (A.map V.str)) na
    refine ⟨_, rfl, _, rfl, _, _, rfl, rfl, _, rfl, L, _, rfl, SqL.of (sa _ _ hL2), fun d nd => ?_⟩
    obtain ⟨D, eD, lD⟩ := cut_strs ws (some (r1 + 1)) none
    have lD' := lD.length_le
    rw [eD]
    have sd := same_upd (o := .lst (D.map V.str)) nd
    refine ⟨a, d, _, _, rfl, rfl, sd _ _ upd_same, upd_same, small6 (by rw [List.length_map, List.length_map]; omega), fun e ne => ?_⟩
    have se := same_upd (o := .lst (A.map V.str ++ D.map V.str)) ne
    have sall := sa.trans (sd.trans se)
    refine q e (A ++ D) _ (k12.trans (.of sall)) (P2.same sall) (by rw [List.map_append]; exact upd_same) (by simp; omega) (fun y hy => ?_)
    rcases List.mem_append.mp hy with hy | hy
    · exact mem3 lA y hy
    · exact mem3 lD y hy
  -- pick == 1
  refine ⟨_, rfl, rfl, _, rfl, ite2 (fun e => ?_) (fun e => ?_)⟩
  · refine ⟨_, rfl, _, rfl, _, rfl, L, _, rfl, SqL.of hL2, fun a na => ?_⟩
    obtain ⟨A, eA, lA⟩ := cut_strs ws none (some r1)
    have lA' := lA.length_le
    rw [eA]
    have sa := same_upd (o := .lst (A.map V.str)) na
    have ha : (upd H2 a (.lst (A.map V.str))) a = some (.lst (A.map V.str)) := upd_same
    have P3 := P2.same sa
    have hL3 := sa _ _ hL2
    have nap := P2.ne na
    generalize upd H2 a (.lst (A.map V.str)) = H3 at sa ha P3 hL3
    refine ⟨_, rfl, _, rfl, p, pa, L, ws, rfl, P3, hL3, h0, by omega, fun y H4 hy k4 P4 => ⟨(by show 1 ≤ sizeLine; decide), fun b nb => ?_⟩⟩
    have sb := same_upd (o := .lst [V.str y]) nb
    have ha4 := k4 _ _ nap.1 ha
    have hL4 := k4 _ _ nLp hL3
    refine ⟨a, b, _, _, rfl, rfl, sb _ _ ha4, upd_same, small6 (by rw [List.length_map]; show A.length + 1 ≤ 5000000; omega), fun c nc => ?_⟩
    have sc := same_upd (o := .lst (A.map V.str ++ [V.str y])) nc
    refine ⟨_, rfl, _, rfl, _, _, rfl, rfl, _, rfl, L, _, rfl, SqL.of (sc _ _ (sb _ _ hL4)), fun d nd => ?_⟩
    obtain ⟨D, eD, lD⟩ := cut_strs ws (some (r1 + 1)) none
    have lD' := lD.length_le
    rw [eD]
    have sd := same_upd (o := .lst (D.map V.str)) nd
    refine ⟨c, d, _, _, rfl, rfl, sd _ _ upd_same, upd_same, small6 (by rw [List.length_append, List.length_map, List.length_map]; show A.length + 1 + D.length ≤ 5000000; omega), fun e ne => ?_⟩
    have se := same_upd (o := .lst (A.map V.str ++ [V.str y] ++ D.map V.str)) ne
    have sall := sb.trans (sc.trans (sd.trans se))
    refine q e (A ++ [y] ++ D) _ ((k12.trans (.of sa)).trans (k4.trans (.of sall))) (P4.same sall) (by rw [List.map_append, List.map_append]; exact upd_same) (by simp; omega) (fun y' hy' => ?_)
    rcases List.mem_append.mp hy' with hy' | hy'
    · rcases List.mem_append.mp hy' with hy' | hy'
      · exact mem3 lA y' hy'
      · rw [List.mem_singleton.mp hy']
        have := hm y hy
        omega
    · exact mem3 lD y' hy'
  -- words
  refine ⟨_, rfl, _, rfl, L, _, r1, .str x, rfl, rfl, SqL.of hL2, hat, ⟨_, rfl⟩, x, (" " : Str), rfl, rfl, by decide +kernel, small6 (by omega), fun W nW => ?_⟩
  have sW := same_upd (o := .lst ((Txt.split x (" " : Str)).map V.str)) nW
  have hW := (show (upd H2 W (.lst ((Txt.split x (" " : Str)).map V.str))) W = _ from upd_same)
  have P3 := P2.same sW
  have hL3 := sW _ _ hL2
  have w0 := sepS.ne x
  have w1 := wsum_split x
  have w2 := sepS.count x
  revert sW hW P3 hL3 w0 w1 w2
  generalize Txt.split x (" " : Str) = wd
  generalize (upd H2 W (.lst (wd.map V.str))) = H3
  intro sW hW P3 hL3 w0 w1 w2
  have wpos := List.length_pos_iff.mpr w0
  refine ⟨_, rfl, _, rfl, W, _, rfl, .inl (SqL.of hW), p, pa, _, rfl, P3, by rw [List.length_map]; omega, by rw [List.length_map]; omega, fun r4 H4 r40 r41 k4 P4 => ?_⟩
  rw [List.length_map] at r41
  have hW4 := k4 _ _ (strs_ne P3 hW) hW
  have hL4 := k4 _ _ nLp hL3
  have k14 := k12.trans ((Kp.of sW).trans k4)
  let L1 : List V := [V.str ("" : Str), V.str ("0" : Str), V.str ("-0" : Str), V.str ("0/2" : Str), V.str ("0/1" : Str), V.str ("2/4" : Str), V.str ("7/1" : Str), V.str ("1/0" : Str), V.str ("-1/2" : Str), V.str ("01" : Str), V.str ("1/02" : Str), V.str ("3/2/1" : Str), V.str ("A" : Str), V.str ("abcdefghi" : Str), V.str ("ab" : Str)]
  refine ⟨(by show 15 ≤ sizeLine; decide), fun S nS => ?_⟩
  have sS := same_upd (o := .lst L1) nS
  have qS := (show (upd H4 S (.lst L1)) S = _ from upd_same)
  generalize (upd H4 S (.lst L1)) = H5a at sS qS ⊢
  refine ⟨_, rfl, ("1" : Str), 200, rfl, rfl, mulok 200 (by decide) (by decide), ("1" : Str), 201, rfl, rfl, mulok 201 (by decide) (by decide), (by show 6 ≤ sizeLine; decide), fun S1 nS1 => ?_⟩
  let L2 : List V := [V.str (Txt.mul ("1" : Str) 200), V.str (Txt.mul ("1" : Str) 201), V.str ("-" : Str), V.str ("/" : Str), V.str ("1/" : Str), V.str ("10000" : Str)]
  have sS1 := same_upd (o := .lst L2) nS1
  refine ⟨S, S1, _, _, rfl, rfl, sS1 _ _ qS, upd_same, (by show 21 ≤ sizeLine; decide), fun S2 nS2 => ?_⟩
  have sS2 := same_upd (o := .lst (L1 ++ L2)) nS2
  have sall := sS.trans (sS1.trans sS2)
  have strange : ∃ us : List Str, (upd (upd H5a S1 (.lst L2)) S2 (.lst (L1 ++ L2))) S2 = some (.lst (us.map V.str)) ∧ us.length = 21 ∧ ∀ y ∈ us, y.length ≤ 201 :=
    ⟨[("" : Str), ("0" : Str), ("-0" : Str), ("0/2" : Str), ("0/1" : Str), ("2/4" : Str), ("7/1" : Str), ("1/0" : Str), ("-1/2" : Str), ("01" : Str), ("1/02" : Str), ("3/2/1" : Str), ("A" : Str), ("abcdefghi" : Str), ("ab" : Str), Txt.mul ("1" : Str) 200, Txt.mul ("1" : Str) 201, ("-" : Str), ("/" : Str), ("1/" : Str), ("10000" : Str)], upd_same, rfl, by decide +kernel⟩
  have hW5 := sall _ _ hW4
  have hL5 := sall _ _ hL4
  have P5 := P4.same sall
  revert sall strange hW5 hL5 P5
  generalize (upd (upd H5a S1 (.lst L2)) S2 (.lst (L1 ++ L2))) = H5
  rintro sall ⟨st, hst, lst, mst⟩ hW5 hL5 P5
  have k25 : Kp p H2 H5 := (Kp.of sW).trans (k4.trans (.of sall))
  have nWp := P2.ne nW
  refine ⟨fun σ' H' => ∃ (W' : Addr) (us : List Str), σ' = [some (.ref p), some (.ref L), some (.int r1), some (.int r2), some (.ref W'), some (.int r4), some (.ref S2)] ∧ Kp p H2 H' ∧ Pl p pa H' ∧ H' W' = some (.lst (us.map V.str)) ∧ us.length ≤ 50000 ∧ wsum us ≤ 3 * m + 620, ?_, ?_⟩
  · refine ⟨_, rfl, rfl, _, rfl, ite2 (fun e => ?_) (fun e => ?_)⟩
    · refine ⟨_, rfl, _, rfl, _, rfl, W, _, rfl, SqL.of hW5, fun a na => ?_⟩
      obtain ⟨A, eA, lA⟩ := cut_strs wd none (some r4)
      have lA' := lA.length_le
      have wA := wsum_sub lA
      rw [eA]
      have sa := same_upd (o := .lst (A.map V.str)) na
      refine ⟨_, rfl, _, rfl, _, _, rfl, rfl, _, rfl, W, _, rfl, SqL.of (sa _ _ hW5), fun d nd => ?_⟩
      obtain ⟨D, eD, lD⟩ := cut_strs wd (some (r4 + 1)) none
      have lD' := lD.length_le
      have wD := wsum_sub lD
      rw [eD]
      have sd := same_upd (o := .lst (D.map V.str)) nd
      refine ⟨a, d, _, _, rfl, rfl, sd _ _ upd_same, upd_same, small6 (by rw [List.length_map, List.length_map]; omega), fun e ne => ?_⟩
      have s5 := sa.trans (sd.trans (same_upd (o := .lst (A.map V.str ++ D.map V.str)) ne))
      exact ⟨e, A ++ D, rfl, k25.trans (.of s5), P5.same s5, by rw [List.map_append]; exact upd_same, by simp; omega, by rw [wsum_app]; omega⟩
    · refine ⟨_, rfl, rfl, _, rfl, ite2 (fun e => ?_) (fun e => ?_)⟩
      · have hy : wd[r4.toNat]? = some wd[r4.toNat] := List.getElem?_eq_getElem (by omega)
        have ym : wd[r4.toNat].length + 1 ≤ wsum wd := by
          have := wsum_sub (List.singleton_sublist.mpr (List.getElem_mem (l := wd) (n := r4.toNat) (by omega)))
          simpa [wsum] using this
        generalize wd[r4.toNat] = y at hy ym
        refine ⟨_, rfl, _, rfl, _, rfl, W, _, rfl, SqL.of hW5, fun a na => ?_⟩
        obtain ⟨A, eA, lA⟩ := cut_strs wd none (some r4)
        have lA' := lA.length_le
        have wA := wsum_sub lA
        rw [eA]
        have sa := same_upd (o := .lst (A.map V.str)) na
        refine ⟨_, rfl, _, rfl, W, _, r4, .str y, rfl, rfl, SqL.of (sa _ _ hW5), at_of (Int.toNat_of_nonneg r40).symm (by rw [List.getElem?_map, hy]; rfl), (by show 1 ≤ sizeLine; decide), fun b nb => ?_⟩
        have sb := same_upd (o := .lst [V.str y]) nb
        refine ⟨a, b, _, _, rfl, rfl, sb _ _ upd_same, upd_same, small6 (by rw [List.length_map]; show A.length + 1 ≤ 5000000; omega), fun c nc => ?_⟩
        have sc := same_upd (o := .lst (A.map V.str ++ [V.str y])) nc
        refine ⟨_, rfl, _, rfl, _, rfl, W, _, rfl, SqL.of (sc _ _ (sb _ _ (sa _ _ hW5))), fun d nd => ?_⟩
        obtain ⟨D, eD, lD⟩ := cut_strs wd (some r4) none
        have lD' := lD.length_le
        have wD := wsum_sub lD
        rw [eD]
        have sd := same_upd (o := .lst (D.map V.str)) nd
        refine ⟨c, d, _, _, rfl, rfl, sd _ _ upd_same, upd_same, small6 (by rw [List.length_append, List.length_map, List.length_map]; show A.length + 1 + D.length ≤ 5000000; omega), fun e ne => ?_⟩
        have s5 := sa.trans (sb.trans (sc.trans (sd.trans (same_upd (o := .lst (A.map V.str ++ [V.str y] ++ D.map V.str)) ne))))
        exact ⟨e, A ++ [y] ++ D, rfl, k25.trans (.of s5), P5.same s5, by rw [List.map_append, List.map_append]; exact upd_same, by simp; omega, by rw [wsum_app, wsum_app, show wsum [y] = y.length + 1 by simp [wsum]]; omega⟩
      · have h0x : ws[0]? = some ws[0] := List.getElem?_eq_getElem h0
        have m0 := hm _ (List.getElem_mem (l := ws) (n := 0) h0)
        generalize ws[0] = x0 at h0x m0
        refine ⟨_, rfl, _, rfl, _, rfl, L, _, 0, .str x0, rfl, rfl, SqL.of hL5, atI_nat (j := 0) (by rw [List.getElem?_map, h0x]; rfl), ⟨_, rfl⟩, x0, (" " : Str), rfl, rfl, by decide +kernel, small6 (by omega), fun T nT => ?_⟩
        have sT := same_upd (o := .lst ((Txt.split x0 (" " : Str)).map V.str)) nT
        have c0 := sepS.count x0
        refine ⟨S2, T, _, _, rfl, rfl, sT _ _ hst, upd_same, small6 (by rw [List.length_map, List.length_map]; omega), fun U nU => ?_⟩
        have sU := same_upd (o := .lst (st.map V.str ++ (Txt.split x0 (" " : Str)).map V.str)) nU
        refine ⟨p, pa, U, st ++ Txt.split x0 (" " : Str), rfl, P5.same (sT.trans sU), by rw [List.map_append]; exact upd_same, by simp; omega, by simp; omega, fun y H6 hy k6 P6 => ?_⟩
        have ym : y.length ≤ m + 201 := by
          rcases List.mem_append.mp hy with hy | hy
          · have := mst y hy
            omega
          · have := sepS.len hy
            omega
        have hW6 := k6 _ _ (strs_ne P5 hW5) (sU _ _ (sT _ _ hW5))
        refine ⟨_, rfl, _, rfl, W, _, r4, r4.toNat, rfl, rfl, hW6, ?_, ?_⟩
        · unfold ixN
          rw [if_pos r40, if_pos (by rw [List.length_map]; exact r41)]
        · refine ⟨W, wd.set r4.toNat y, rfl, ?_, ?_, ?_, by simp; omega, Nat.le_trans wsum_set (by omega)⟩
          · exact (k25.trans ((Kp.of (sT.trans sU)).trans k6)).mut nW
          · exact P6.mut nWp.1 nWp.2
          · rw [List.map_set]
            exact upd_same
  rintro σ6 H6 ⟨W', us, rfl, k6, P6, hW6, lus, wus⟩
  have hL6 := k6 _ _ nLp hL2
  refine ⟨_, rfl, _, rfl, _, rfl, L, _, rfl, SqL.of hL6, fun a na => ?_⟩
  obtain ⟨A, eA, lA⟩ := cut_strs ws none (some r1)
  have lA' := lA.length_le
  rw [eA]
  have sa := same_upd (o := .lst (A.map V.str)) na
  have jl := (join_len us).1
  refine ⟨⟨_, rfl⟩, _, rfl, _, W', us, rfl, rfl, .inl (SqL.of (sa _ _ hW6)), ?_, (by show 1 ≤ sizeLine; decide), fun b nb => ?_⟩
  · have z : ∀ l : List Str, (l.map (·.length)).sum ≤ wsum l := by
      intro l
      induction l with
      | nil => exact Nat.zero_le _
      | cons a l ih =>
        show _ ≤ (List.map _ (_ :: _)).sum
        rw [List.map_cons, List.sum_cons, List.map_cons, List.sum_cons]
        unfold wsum at ih
        omega
    have := z us
    rw [show ((" " : Str)).length = 1 by decide +kernel]
    omega
  have sb := same_upd (o := .lst [V.str (Txt.join (" " : Str) us)]) nb
  refine ⟨a, b, _, _, rfl, rfl, sb _ _ upd_same, upd_same, small6 (by rw [List.length_map]; show A.length + 1 ≤ 5000000; omega), fun c nc => ?_⟩
  have sc := same_upd (o := .lst (A.map V.str ++ [V.str (Txt.join (" " : Str) us)])) nc
  refine ⟨_, rfl, _, rfl, _, _, rfl, rfl, _, rfl, L, _, rfl, SqL.of (sc _ _ (sb _ _ (sa _ _ hL6))), fun d nd => ?_⟩
  obtain ⟨D, eD, lD⟩ := cut_strs ws (some (r1 + 1)) none
  have lD' := lD.length_le
  rw [eD]
  have sd := same_upd (o := .lst (D.map V.str)) nd
  refine ⟨c, d, _, _, rfl, rfl, sd _ _ upd_same, upd_same, small6 (by rw [List.length_append, List.length_map, List.length_map]; show A.length + 1 + D.length ≤ 5000000; omega), fun e ne => ?_⟩
  have s5 := sa.trans (sb.trans (sc.trans (sd.trans (same_upd (o := .lst (A.map V.str ++ [V.str (Txt.join (" " : Str) us)] ++ D.map V.str)) ne))))
  refine q e (A ++ [Txt.join (" " : Str) us] ++ D) _ (k12.trans (k6.trans (.of s5))) (P6.same s5) (by rw [List.map_append, List.map_append]; exact upd_same) (by simp; omega) (fun y hy => ?_)
  rcases List.mem_append.mp hy with hy | hy
  · rcases List.mem_append.mp hy with hy | hy
    · exact mem3 lA y hy
    · rw [List.mem_singleton.mp hy]
      omega
  · exact mem3 lD y hy

end
end Z

namespace Z
open PySem PySem.Spec PyProof.Rows L2 ZX
section
variable {P : Program} {w : World} {K : PySem.W.Frag} {mg : Str → Option Value} {base : Heap}
/-- _law_same(i, j) of two numbers, where an exception is handled -/
def spSameI : Sp := fun vs H Q _ => ∃ i j : Int, vs = [.int i, .int j] ∧ Q (.bl (decide (i = j))) H
theorem ok_same_hot {f : Addr} {fd : FuncData} (B : BI mg) (F : Fun K "_law_same" "_law_same" s_law_same f fd) : L2H.FnH P w K mg base CX0 1 f fd ["actual", "due"] spSameI := by
  obtain ⟨oc, od, kV, doc, pm, an, cdv, ct, osl, rfl, lk, hcd⟩ := F.ex
  refine L2H.fn_ofH lk hcd sc_law_same (fun vs H Q E h => ?_) (fun A outer s H vs Q E p hot hr h => ?_)
  · obtain ⟨i, j, rfl, _⟩ := h
    rfl
  obtain ⟨i, j, rfl, k⟩ := h
  refine ⟨_, (pss_cons (ps_if (pt_val (pe_callB call_isi rfl B.isinstance (by decide +kernel) (pa_cons (pv 1) (pa_cons (pe_bltn (v := .ty "tuple") (by rfl) B.tuple (by decide +kernel) rfl) pa_nil))))
        (pss_cons ps_never (pss_one ps_never))
        pss_nil)
      (pss_cons (ps_if (pt_cmpR op_isN (pv 1) pe_non (nomark _))
        (pss_one ps_never)
        pss_nil)
      (pss_cons (ps_if (pt_val (pe_callB call_isi rfl B.isinstance (by decide +kernel) (pa_cons (pv 1) (pa_cons (pe_bltn (v := .ty "str") (by rfl) B.str (by decide +kernel) rfl) pa_nil))))
        (pss_one ps_never)
        pss_nil)
      (pss_one (ps_ret (pe_and (pe_callB call_isi rfl B.isinstance (by decide +kernel) (pa_cons (pv 0) (pa_cons (pe_bltn (v := .ty "int") (by rfl) B.int (by decide +kernel) rfl) pa_nil)))
        (pe_and (pe_not (pe_callB call_isi rfl B.isinstance (by decide +kernel) (pa_cons (pv 0) (pa_cons (pe_bltn (v := .ty "bool") (by rfl) B.bool (by decide +kernel) rfl) pa_nil)))) (pe_one (pe_cmpR op_eq (pv 0) (pv 1) (nomark _)))))))))), ?_⟩
  have I1 : Is K H (.int i) (.int i) := .int i
  have J1 : Is K H (.int j) (.int j) := .int j
  refine ⟨_, rfl, _, _, _, _, _, rfl, .ty _, J1.ty, kt_of (.int j) (by simp [plainD]) "tuple" (.inl rfl), _, rfl, ?_⟩
  refine iteF ⟨_, rfl, rfl, _, rfl, ?_⟩
  rw [decide_eq_false (show ¬ V.int j = V.non from fun z => nomatch z)]
  refine iteF ⟨_, rfl, _, _, _, _, _, rfl, .ty _, J1.ty, kt_of (.int j) (by simp [plainD]) "str" (.inr (.inl rfl)), _, rfl, ?_⟩
  refine iteF ⟨_, rfl, _, _, _, _, _, rfl, .ty _, I1.ty, kt_of (.int i) (by simp [plainD]) "int" (.inr (.inr rfl)), _, rfl, iteT ?_⟩
  refine ⟨_, rfl, _, _, _, _, _, rfl, .ty _, I1.ty, ktB i, _, rfl, _, rfl, iteT ?_⟩
  refine ⟨_, rfl, _, rfl, rfl, ?_⟩
  rw [show decide (V.int i = V.int j) = decide (i = j) from decide_eq_decide.mpr ⟨fun z => V.int.inj z, fun z => by rw [z]⟩]
  exact k

def spWR (K : PySem.W.Frag) : Sp := fun vs H Q _ => ∃ (x : V) (q : Rat), vs = [x] ∧ Is K H x (rat2 q) ∧ Sz 215 q ∧ Q (.str (wR q)) H
theorem ok_law_word (B : BI mg) (F : At K mg "_law_word" s_law_word ["value"]) : Ok P w K mg base 1 "_law_word" ["value"] [] (spWR K) := by
  refine F.ok sc_law_word (fun vs H Q E h => ?_) (fun f cdv A outer s H vs Q E hr h => ?_)
  · obtain ⟨x, q, rfl, _⟩ := h
    rfl
  obtain ⟨x, q, rfl, ix, zq, k⟩ := h
  refine ⟨_, (pss_cons (ps_if (pt_cmpR op_eq (pe_ix ix_tup (pv 0) pe_int (fun _ _ => rfl)) pe_int (nomark _))
        (pss_one (ps_ret (pe_callTy call_str_int rfl B.str (by decide +kernel) (pa_cons (pe_ix ix_tup (pv 0) pe_int (fun _ _ => rfl)) pa_nil))))
        pss_nil)
      (pss_one (ps_ret (pe_op op_add_str (pe_op op_add_str (pe_callTy call_str_int rfl B.str (by decide +kernel) (pa_cons (pe_ix ix_tup (pv 0) pe_int (fun _ _ => rfl)) pa_nil)) pe_str) (pe_callTy call_str_int rfl B.str (by decide +kernel) (pa_cons (pe_ix ix_tup (pv 0) pe_int (fun _ _ => rfl)) pa_nil)))))), ?_⟩
  obtain ⟨p, a, b, rfl, st, ia, ib⟩ := ix.two'
  cases ia
  cases ib
  have zn := zq.1
  have zd := zq.2
  have l1 := nt_lenI zn
  have l2 := nt_len2 zd
  have es : ("/" : Str).length = 1 := by decide +kernel
  unfold wR at k
  refine ⟨_, rfl, p, _, 1, _, rfl, rfl, st, rfl, rfl, _, rfl, ?_⟩
  by_cases c : q.den = 1
  · rw [if_pos c] at k
    rw [decide_eq_true (show V.int (q.den : Int) = V.int 1 by rw [c]; rfl)]
    refine iteT ⟨_, rfl, p, _, 0, _, rfl, rfl, st, rfl, q.num, rfl, log_big zn, k⟩
  · rw [if_neg c] at k
    rw [decide_eq_false (show ¬ V.int (q.den : Int) = V.int 1 from fun z => c (by have := V.int.inj z; omega))]
    refine iteF ⟨_, rfl, p, _, 0, _, rfl, rfl, st, rfl, q.num, rfl, log_big zn, nt q.num, ("/" : Str), rfl, rfl, small5 (by rw [es]; omega), ?_⟩
    refine ⟨_, rfl, p, _, 1, _, rfl, rfl, st, rfl, (q.den : Int), rfl, log_big (by omega), nt q.num ++ ("/" : Str), nt (q.den : Int), rfl, rfl, small5 (by simp only [len_app2, es]; omega), k⟩

def spLinesT (K : PySem.W.Frag) : Sp := fun vs H Q _ => ∃ (a : Addr) (xs : List V) (ps : List Pc), vs = [.ref a] ∧ SqT K H a xs ∧ IsA K H xs (ps.map dPc) ∧ (∀ p ∈ ps, PcT p) ∧ ps.length ≤ 200 ∧ ∀ L H', Same H H' → H' L = some (.lst ((ps.map lineP).map V.str)) → Q (.ref L) H'
theorem ok_law_linesT (B : BI mg) (F : At K mg "_law_lines" s_law_lines ["plan"]) (C_law_word : Ok P w K mg base 1 "_law_word" ["value"] [] (spWR K)) : Ok P w K mg base 2 "_law_lines" ["plan"] [] (spLinesT K) := by
  refine F.ok sc_law_lines (fun vs H Q E h => ?_) (fun f cdv A outer s H vs Q E hr h => ?_)
  · obtain ⟨a, xs, ps, rfl, _⟩ := h
    rfl
  obtain ⟨a, xs, ps, rfl, hS, hI, hp, hl, k⟩ := h
  refine ⟨_, (pss_one (ps_ret (pe_lc (own := [("piece", 1)]) (g := gName 1) (tt := tYes) rfl sc_law_lines.nd (pi_tup (pv 0)) (blkOk_by (own := [("piece", 1)]) (N := ["plan", "piece"]) (sc := defScope s_law_lines) (by decide +kernel)) (fun _ _ _ _ _ => (pg_name (i := 1) sc_law_lines.nd rfl (Or.inl rfl))) (fun _ _ _ _ _ => pts_nil) (fun _ _ _ _ _ => (pe_joinK (K := K) rfl pe_str (pe_lst (pa_cons (pe_ok C_law_word (hr.mono (by first | decide | exact Nat.le_refl _)) rfl (pa_cons (pe_ix (ix_tupK (K := K) rfl) (pv 1) pe_int (fun _ _ => rfl)) pa_nil)) (pa_cons (pe_ok C_law_word (hr.mono (by first | decide | exact Nat.le_refl _)) rfl (pa_cons (pe_ix (ix_tupK (K := K) rfl) (pv 1) pe_int (fun _ _ => rfl)) pa_nil)) (pa_cons (pe_ix (ix_tupK (K := K) rfl) (pv 1) pe_int (fun _ _ => rfl)) (pa_cons (pe_ok C_law_word (hr.mono (by first | decide | exact Nat.le_refl _)) rfl (pa_cons (pe_ix (ix_tupK (K := K) rfl) (pv 1) pe_int (fun _ _ => rfl)) pa_nil)) pa_nil)))))))))), ?_⟩
  have lx : xs.length = ps.length := by rw [hI.len, List.length_map]
  have e1 : (" " : Str).length = 1 := by decide +kernel
  refine ⟨_, rfl, a, rfl, ⟨_, hS⟩, fun D hD => ?_⟩
  refine lc_tup (xs := xs) (fun i H8 => Same H H8 ∧ H8 D = some (.lst (((ps.take i).map lineP).map V.str))) ⟨same_upd hD, upd_same⟩ (fun i H8 _ h => Tm.sq (Same.tm h.1) hS) ?_ ?_
  · rintro i v H8 hv ⟨sm, h8⟩
    obtain ⟨d, hd, iv⟩ := hI.at hv
    obtain ⟨c, hc, rfl⟩ := getJ hd
    have pc := hp c (List.mem_of_getElem? hc)
    have il : i < ps.length := (List.getElem?_eq_some_iff.mp hc).1
    have w1 := wR_len pc.s
    have w2 := wR_len pc.e
    have w3 := wR_len pc.v
    have w4 := pc.nl
    obtain ⟨tc, c0, c1, c2, rfl, stc, ic0, ic1, ic2⟩ := pc_at (iv.to (Same.tm sm))
    refine ⟨rfl, ?_⟩
    refine ⟨⟨_, rfl⟩, _, rfl, tc, _, 0, _, rfl, rfl, stc, rfl, c0, c.s, rfl, ic0, pc.s, _, rfl, tc, _, 1, _, rfl, rfl, stc, rfl, c1, c.e, rfl, ic1, pc.e, _, rfl, tc, _, 2, _, rfl, rfl, stc, rfl, _, rfl, tc, _, 3, _, rfl, rfl, stc, rfl, c2, c.v, rfl, ic2, pc.v, (by show 4 ≤ sizeLine; decide), fun M nM => ?_⟩
    have sM := same_upd (o := .lst [V.str (wR c.s), V.str (wR c.e), V.str c.n, V.str (wR c.v)]) nM
    have hM : (upd H8 M (.lst [V.str (wR c.s), V.str (wR c.e), V.str c.n, V.str (wR c.v)])) M = some (.lst ([wR c.s, wR c.e, c.n, wR c.v].map V.str)) := upd_same
    refine ⟨(" " : Str), M, [wR c.s, wR c.e, c.n, wR c.v], rfl, rfl, .inl (SqL.of hM), ?_, ?_⟩
    · show (wR c.s).length + ((wR c.e).length + (c.n.length + ((wR c.v).length + 0))) + 4 * (" " : Str).length ≤ 16777216
      omega
    · refine ⟨_, sM _ _ h8, small5' (by rw [List.length_map, List.length_map, List.length_take]; omega), Z.Same.mut (sm.trans sM) hD, ?_⟩
      rw [upd_same, List.take_add_one, hc, ← line_join]
      simp only [Option.toList, List.map_append, List.map_cons, List.map_nil]
  · rintro H8 ⟨sm, h8⟩
    rw [lx, List.take_length] at h8
    exact k D _ sm h8

theorem tk0 {X : Cx} : L2N.Takes X (fun _ _ _ _ => False) := fun _ _ x => by
  obtain ⟨a, B, sI, pins, σ, H, cls, d, e, I, nb, up, sky, na, os, ag, w⟩ := x
  exact w.elim
theorem pas0 {X : Cx} {σ : L2.St} {E : XK} : PassesAt CX0 X σ E := fun _ _ _ _ _ _ h => h.elim
theorem hot_of {X : Cx} {a : Addr} {oe : Obj} {cls : Value} {d : Option Addr} {pn : List (Addr × Obj)} (hz : L2N.Zn cls d oe) (hf : ∃ vs, oe.data = .fields vs) : L2H.HotC (X.suite a ((a, oe) :: pn)) := by
  obtain ⟨vs, hv⟩ := hf
  exact ⟨(a, oe), ⟨rfl, vs, hv, hz.2.2 vs hv⟩, List.mem_cons_self⟩
theorem cutS_lenN (z : Str) (lo hi : Option Int) : (cutS z lo hi).length ≤ z.length := by
  rw [str_len, str_len]
  show ((z.cps.toList.drop _).take _).length ≤ _
  rw [List.length_take, List.length_drop]
  omega
theorem oklaw {f fS CWattsError CBadText CBadJournal CRefused CTooFast : Addr} {fd fdS : FuncData} {qual pre suf : Str} (B : BI mg) (F : Fun K "law" "law" slaw f fd) (TBadText : ZX.ErrTxt P K mg CBadText "BadText" pre suf qual) (IBadText : ZX.IsC K CBadText)
    (gWattsError : mg "WattsError" = some (.ref CWattsError)) (gRefused : mg "Refused" = some (.ref CRefused)) (gBadText : mg "BadText" = some (.ref CBadText)) (gBadJournal : mg "BadJournal" = some (.ref CBadJournal)) (gTooFast : mg "TooFast" = some (.ref CTooFast))
    (eW : PySem.W.exmOne K (.ref CBadText) (.ref CWattsError) = some true) (kR : PySem.W.kitOne K (.ref CBadText) (.ref CBadText) = some true) (kA : PySem.W.kitAny K (.ref CBadText) [.ref CBadJournal, .ref CRefused, .ref CTooFast] = some false)
    (GS1 : L2H.FnH P w K mg base CX0 1 fS fdS ["actual", "due"] spSameI) (mS : mg "_law_same" = some (.ref fS)) (kS : PySem.W.keepIn K (.ref fS) = true) (bS : Binds K fdS ["actual", "due"] [])
    (C_law_pool : Ok P w K mg base 1 "_law_pool" ["script"] [] (spPool K)) (C_law_draw : Ok P w K mg base 1 "_law_draw" ["pool", "many"] [] spDraw) (C_law_jobs : Ok P w K mg base 3 "_law_jobs" ["pool", "most"] [] (spJobs K)) (C_law_rival : Ok P w K mg base 5 "_law_rival" ["pool", "jobs"] [] (spRival K))
    (C_law_lines : Ok P w K mg base 2 "_law_lines" ["plan"] [] (spLinesT K)) (C_law_spoilt : Ok P w K mg base 3 "_law_spoilt" ["pool", "lines"] [] spSpoiltB) (C_law_pick : Ok P w K mg base 2 "_law_pick" ["pool", "rows"] [] spPickS) (C_law_wrong : Ok P w K mg base 4 "_law_wrong" ["text"] [] spWrongP)
    (RL : OkX P w K mg base 6 "read_plan" ["text"] (spReadPlG K CBadText)) (C_write_plan : Ok P w K mg base 2 "write_plan" ["plan"] [] (spWritePW K)) : FnOk P w K mg base CX0 7 f fd ["script"] (spLaw K) := by
  obtain ⟨f_read_plan, fd_read_plan, G_read_plan, m_read_plan, k_read_plan, b_read_plan⟩ := RL.ex
  refine F.ok sclaw (fun vs H Q E h => ?_) (fun cdv A outer s H vs Q E hr h => ?_)
  · obtain ⟨a, ns, rfl, _⟩ := h
    rfl
  obtain ⟨a, ns, rfl, hS, hl, q⟩ := h
  have hH : L2H.RoomH 1 _ := L2H.roomH_of (hr.mono (by decide))
  refine ⟨_, (pss_cons (ps_set (i := 1) sclaw.nd rfl (Or.inl rfl) (pe_ok C_law_pool (hr.mono (by first | decide | exact Nat.le_refl _)) rfl (pa_cons (pv 0) pa_nil)))
      (pss_cons (ps_set (i := 2) sclaw.nd rfl (Or.inl rfl) (pe_ok C_law_lines (hr.mono (by first | decide | exact Nat.le_refl _)) rfl (pa_cons (pe_ok C_law_rival (hr.mono (by first | decide | exact Nat.le_refl _)) rfl (pa_cons (pv 1) (pa_cons (pe_ok C_law_jobs (hr.mono (by first | decide | exact Nat.le_refl _)) rfl (pa_cons (pv 1) (pa_cons pe_int pa_nil))) pa_nil))) pa_nil)))
      (pss_cons (ps_for PassesOwn.never rfl (pi_range1 rfl B.range (pa_cons (pe_ok C_law_draw (hr.mono (by first | decide | exact Nat.le_refl _)) rfl (pa_cons (pv 1) (pa_cons pe_int pa_nil))) pa_nil)) (pg_name (i := 3) sclaw.nd rfl (Or.inl rfl))
        (pss_one (ps_if (pt_cmpR op_gt (pe_callB call_len_seq rfl B.len PySem.boot_len (pa_cons (pv 2) pa_nil)) pe_int (nomark _))
          (pss_one (ps_set (i := 2) sclaw.nd rfl (Or.inl rfl) (pe_ok C_law_spoilt (hr.mono (by first | decide | exact Nat.le_refl _)) rfl (pa_cons (pv 1) (pa_cons (pv 2) pa_nil)))))
          pss_nil)))
      (pss_cons (ps_set (i := 4) sclaw.nd rfl (Or.inl rfl) (pe_join pe_str (pe_lc (own := [("line", 9)]) (g := gName 9) (tt := tYes) rfl sclaw.nd (pi_list (pv 2)) (blkOk_by (own := [("line", 9)]) (N := ["script", "pool", "lines", "k", "text", "pick", "due", "found", "e", "line"]) (sc := defScope slaw) (by decide +kernel)) (fun _ _ _ _ _ => (pg_name (i := 9) sclaw.nd rfl (Or.inl rfl))) (fun _ _ _ _ _ => pts_nil) (fun _ _ _ _ _ => (pe_op op_add_str (pv 9) pe_str)))))
      (pss_cons (ps_set (i := 5) sclaw.nd rfl (Or.inl rfl) (pe_ok C_law_draw (hr.mono (by first | decide | exact Nat.le_refl _)) rfl (pa_cons (pv 1) (pa_cons pe_int pa_nil))))
      (Evl.pss_cut (ps_if (pt_cmpR op_eq (pv 5) pe_int (nomark _))
        (pss_one (ps_set (i := 4) sclaw.nd rfl (Or.inl rfl) (pe_slice sl_str (pv 4) po_none (po_some (pe_ok C_law_draw (hr.mono (by first | decide | exact Nat.le_refl _)) rfl (pa_cons (pv 1) (pa_cons (pe_op op_add (pe_callB call_len_str rfl B.len PySem.boot_len (pa_cons (pv 4) pa_nil)) pe_int) pa_nil)))))))
        pss_nil)
      (Evl.pss_cut (ps_if (pt_cmpR op_eq (pv 5) pe_int (nomark _))
        (pss_one (ps_set (i := 4) sclaw.nd rfl (Or.inl rfl) (pe_op op_add_str (pv 4) (pe_ok C_law_pick (hr.mono (by first | decide | exact Nat.le_refl _)) rfl (pa_cons (pv 1) (pa_cons (pe_lst (pa_cons pe_str (pa_cons pe_str (pa_cons pe_str (pa_cons pe_str pa_nil))))) pa_nil))))))
        pss_nil)
      (pss_cons (ps_set (i := 6) sclaw.nd rfl (Or.inl rfl) (pe_ok C_law_wrong (hr.mono (by first | decide | exact Nat.le_refl _)) rfl (pa_cons (pv 4) pa_nil)))
      (pss_cons (L2N.ps_try_as (i := 8) (Wout := fun _ _ _ _ => False) rfl rfl sclaw.nd rfl rfl ⟨rfl, by decide, Or.inl gWattsError⟩ tk0
      (fun W pn xe tk _ => (pss_one (ps_set (i := 7) sclaw.nd rfl (Or.inl rfl) (by exact (L2.pe_callS G_read_plan (hr.mono (by first | decide | exact Nat.le_refl _)) rfl m_read_plan k_read_plan b_read_plan (fun σ => L2N.passAt tk σ) (pa_cons (pv 4) pa_nil))))))
      (fun a oe cls d pn hz hf => (pss_cons (ps_if (PW.pt (pw_or (pt_not (pt_val (pe_callB (ZX.call_isEd TBadText IBadText hz.zc hf) rfl B.isinstance (by decide +kernel) (pa_cons (pv 8) (pa_cons (pe_glob (v := .ref CBadText) rfl gBadText rfl) pa_nil))))) (pw_or1 (pt_val (pe_callB (ZX.call_isEt TBadText IBadText hz.zc hf) rfl B.isinstance (by decide +kernel) (pa_cons (pv 8) (pa_cons (pe_tup (pa_cons (pe_glob (v := .ref CBadJournal) rfl gBadJournal rfl) (pa_cons (pe_glob (v := .ref CRefused) rfl gRefused rfl) (pa_cons (pe_glob (v := .ref CTooFast) rfl gTooFast rfl) pa_nil)))) pa_nil)))))))
          (pss_one (ps_ret pe_bl))
          pss_nil)
        (pss_one (ps_ret (pe_and (pe_cmpR op_notN (pv 6) pe_non (nomark _)) (pe_one (L2H.pe_callH (E := fun _ => E0) GS1 ⟨hH.dp, hH.un⟩ (hot_of hz hf) rfl mS kS bS (fun _ => pas0) (pa_cons (ZX.pe_line TBadText hz.zc hf (pv 8)) (pa_cons (pv 6) pa_nil))))))))))
      (pss_one (ps_ret (pe_and (pe_cmpR op_isN (pv 6) pe_non (nomark _)) (pe_one (pe_cmpR op_eq (pe_ok C_write_plan (hr.mono (by first | decide | exact Nat.le_refl _)) rfl (pa_cons (pv 7) pa_nil)) (pv 4) (nomark _))))))))))))))), ?_⟩
  refine ⟨_, rfl, a, ns, rfl, hS, hl, fun p pa H1 np s1 P1 => ?_⟩
  refine ⟨_, rfl, _, rfl, p, pa, 5, rfl, P1, by decide, fun J jx js H2 hj hjl k2 P2 nJ hJ hI => ?_⟩
  refine ⟨p, pa, J, jx, js, rfl, P2, SqT.of hJ, hI, hj, by omega, fun A xs ps H3 hR lR k3 P3 nA hA iA => ?_⟩
  have l75 : ps.length ≤ 75 := by
    have : 3 * js.length * js.length ≤ 3 * 5 * 5 := Nat.mul_le_mul (by omega) hjl
    omega
  have pt : ∀ p ∈ ps, PcT p := fun p hp => by
    obtain ⟨h1, h2, h3, h4, h5, j, hj2, e, _⟩ := hR.pc p hp
    obtain ⟨i, hi⟩ := List.getElem?_of_mem hj2
    have nm := hj.nm i j hi
    rw [← e] at nm
    exact ⟨h3.mono (by decide), h4.mono (by decide), h5.mono (by decide), h1, h2, nm.len, nm.line, nm.low, nm_str nm⟩
  refine ⟨A, xs, ps, rfl, SqT.of hA, iA, pt, by omega, fun L H4 s4 hL => ?_⟩
  have P4 := P3.same s4
  have ln : ∀ x ∈ ps.map lineP, x.length ≤ 430 := fun x hx => by
    obtain ⟨p, hp, rfl⟩ := List.mem_map.mp hx
    exact (pt p hp).len
  generalize hws : ps.map lineP = ws at hL ln
  have lws : ws.length ≤ 75 := by rw [← hws, List.length_map]; exact l75
  refine ⟨_, rfl, p, pa, 3, rfl, P4, by decide, by decide, fun r8 H8 r80 r81 k8 P8 => ?_⟩
  have hL8 := k8 _ _ (strs_ne P4 hL) hL
  refine ⟨r8, rfl, by omega, by omega, for_range (lo := 0) (n := r8.toNat) (fun i σ' H' => ∃ (y3 : Option V) (L' : Addr) (us : List Str), σ' = [some (.ref a), some (.ref p), some (.ref L'), y3, none, none, none, none, none, none] ∧ Pl p pa H' ∧ H' L' = some (.lst (us.map V.str)) ∧
    us.length + 1 ≤ 76 * 2 ^ i ∧ ∀ x ∈ us, x.length + 310 ≤ 740 * 3 ^ i) ?_ ?_ ?_⟩
  · exact ⟨none, L, ws, rfl, P8, hL8, by omega, fun x hx => by have := ln x hx; omega⟩
  · rintro i σ' H' hi ⟨y3, L', us, rfl, P', hL', lu, mu⟩
    have i2 : i < 2 := by omega
    refine ⟨_, rfl, L', _, rfl, .inl (SqL.of hL'), _, _, rfl, rfl, _, rfl, ite2 (fun e => ?_) (fun e => ?_)⟩
    · have e0 : (0 : Int) < ((us.map V.str).length : Nat) := of_decide_eq_true e
      rw [List.length_map] at e0
      have n60 : us.length ≤ 400 ∧ 740 * 3 ^ i ≤ 10000 := by
        have : i = 0 ∨ i = 1 := by omega
        rcases this with rfl | rfl
        · simp at lu ⊢; omega
        · simp at lu ⊢; omega
      refine ⟨_, rfl, _, rfl, 740 * 3 ^ i - 310, by omega, p, pa, L', us, rfl, P', hL', by omega, n60.1, fun x hx => by have := mu x hx; omega, fun R vs H2' k' P2' hR l1 l2 => ?_⟩
      refine ⟨_, R, vs, rfl, P2', hR, ?_, fun x hx => ?_⟩
      · rw [Nat.pow_succ]
        omega
      · have := l2 x hx
        have p3 : 1 ≤ 3 ^ i := Nat.one_le_pow _ _ (by decide)
        rw [Nat.pow_succ]
        omega
    · refine ⟨_, L', us, rfl, P', hL', ?_, fun x hx => ?_⟩
      · rw [Nat.pow_succ]
        omega
      · have := mu x hx
        rw [Nat.pow_succ]
        omega
  rintro σ9 H9 ⟨y3, L', us, rfl, P9, hL9, lu, mu⟩
  have b9 : us.length ≤ 303 ∧ ∀ x ∈ us, x.length ≤ 6350 := by
    have : r8.toNat = 0 ∨ r8.toNat = 1 ∨ r8.toNat = 2 := by omega
    rcases this with e | e | e
    · rw [e] at lu mu
      exact ⟨by omega, fun x hx => by have := mu x hx; omega⟩
    · rw [e] at lu mu
      exact ⟨by omega, fun x hx => by have := mu x hx; omega⟩
    · rw [e] at lu mu
      exact ⟨by omega, fun x hx => by have := mu x hx; omega⟩
  have nl1 : (("\n" : Str)).length = 1 := by decide +kernel
  refine ⟨⟨_, rfl⟩, _, rfl, L', rfl, ⟨_, SqL.of hL9⟩, fun D nD => ?_⟩
  refine lc_list (xs := us.map V.str) (fun i H' => Same H9 H' ∧ H' D = some (.lst (((us.take i).map fun x => x ++ ("\n" : Str)).map V.str))) ⟨same_upd nD, upd_same⟩ (fun i H' _ h => SqL.of (h.1 _ _ hL9)) ?_ ?_
  · rintro i v H' hv ⟨sm, hm⟩
    obtain ⟨x, hx, rfl⟩ : ∃ x, us[i]? = some x ∧ v = .str x := by
      rw [List.getElem?_map] at hv
      cases e : us[i]? with
      | none => rw [e] at hv; cases hv
      | some x =>
        rw [e] at hv
        exact ⟨x, rfl, (Option.some.inj hv).symm⟩
    have xl := b9.2 x (List.mem_of_getElem? hx)
    refine ⟨rfl, _, rfl, _, _, rfl, rfl, small5 (by rw [nl1]; omega), _, hm, small5' (by rw [List.length_map, List.length_map, List.length_take]; omega), Z.Same.mut sm nD, ?_⟩
    rw [List.take_add_one, hx, List.map_append, List.map_append]
    exact upd_same
  rintro H10 ⟨s10, h10⟩
  rw [List.length_map, List.take_length] at h10
  have lT2 : (Txt.join ("" : Str) (us.map fun x => x ++ ("\n" : Str))).length ≤ 1930000 ∧ ((us.map fun x => x ++ ("\n" : Str)).map (·.length)).sum ≤ 1930000 := by
    have z := sum_le2 (k := 6351) (ys := us.map fun x => x ++ ("\n" : Str)) fun y hy => by
      obtain ⟨x, hx, rfl⟩ := List.mem_map.mp hy
      have := b9.2 x hx
      rw [len_app2, nl1]
      omega
    rw [join0_len]
    rw [List.length_map] at z
    have := b9.1
    have : 6351 * us.length ≤ 6351 * 303 := Nat.mul_le_mul_left _ this
    exact ⟨by omega, by omega⟩
  refine ⟨_, D, us.map (fun x => x ++ ("\n" : Str)), rfl, rfl, .inl (SqL.of h10), ?_, ?_⟩
  · have z := lT2.2
    rw [List.length_map, show (("" : Str)).length = 0 by decide +kernel]
    omega
  have P10 := P9.same s10
  revert lT2
  generalize Txt.join ("" : Str) (us.map fun x => x ++ ("\n" : Str)) = T1
  rintro ⟨lT2, _⟩
  refine ⟨_, rfl, p, pa, 6, rfl, P10, by decide, by decide, fun r5 H11 r50 r51 k11 P11 => ?_⟩
  refine ⟨fun σ' H' => ∃ T, σ' = [some (.ref a), some (.ref p), some (.ref L'), y3, some (.str T), some (.int r5), none, none, none, none] ∧ Pl p pa H' ∧ T.length ≤ 1930000, ?_, ?_⟩
  · refine ⟨_, rfl, rfl, _, rfl, ite2 (fun e => ?_) (fun e => ⟨T1, rfl, P11, lT2⟩)⟩
    refine ⟨_, rfl, _, rfl, _, rfl, T1, rfl, small6 (by omega), _, _, rfl, rfl, p, pa, _, rfl, P11, by omega, by omega, fun r12 H12 r120 r121 k12 P12 => ⟨_, rfl, T1, rfl, small6 (by omega), cutS T1 none (some r12), rfl, P12, ?_⟩⟩
    have := cutS_lenN T1 none (some r12)
    omega
  rintro σ12 H12 ⟨T2, rfl, P12, lT3⟩
  refine ⟨fun σ' H' => ∃ T, σ' = [some (.ref a), some (.ref p), some (.ref L'), y3, some (.str T), some (.int r5), none, none, none, none] ∧ T.length ≤ 2000000, ?_, ?_⟩
  · refine ⟨_, rfl, rfl, _, rfl, ite2 (fun e => ?_) (fun e => ⟨T2, rfl, by omega⟩)⟩
    refine ⟨_, rfl, _, rfl, (by show 4 ≤ sizeLine; decide), fun S nS => ?_⟩
    refine ⟨p, pa, S, [(" " : Str), ("\n" : Str), ("90000 90001 q 1" : Str), ("q" : Str)], rfl, P12.same (same_upd nS), upd_same, by decide, by decide, fun x H13 hx k13 P13 => ?_⟩
    have xl : x.length ≤ 15 := by
      have : ∀ y ∈ [(" " : Str), ("\n" : Str), ("90000 90001 q 1" : Str), ("q" : Str)], y.length ≤ 15 := by decide +kernel
      exact this x hx
    refine ⟨_, _, rfl, rfl, small6 (by omega), T2 ++ x, rfl, by rw [len_app2]; omega⟩
  rintro σ13 H13 ⟨T, rfl, lT4⟩
  refine ⟨_, rfl, T, rfl, by omega, fun H14 s14 => ?_⟩
  generalize hdv : wrongPV T = dv
  refine ⟨_, rfl, T, rfl, by omega, fun n hn d H15 s15 hd => ?_, fun hn t xs js2 H15 s15 ht hI2 hg htx => ?_⟩
  · have e1 : dv = .int (n : Nat) := by
      rw [← hdv]
      unfold wrongPV
      rw [hn]
    subst e1
    refine ⟨true, eW, fun _ a0 _ => ?_, fun z => Bool.noConfusion z⟩
    refine ⟨_, rfl, rfl, .ref CBadText, .ref CBadText, true, d, _, rfl, upd_same, rfl, fun u r => r, kR, _, rfl, iteF ?_⟩
    refine ⟨_, rfl, (by show 3 ≤ sizeLine; decide), fun tt ntt => ?_⟩
    have stt := same_upd (o := .tup [.ref CBadJournal, .ref CRefused, .ref CTooFast]) ntt
    refine ⟨rfl, tt, _, [.ref CBadJournal, .ref CRefused, .ref CTooFast], false, d, _, rfl, stt _ _ upd_same, rfl, upd_same, fun its r => ?_, kA, _, rfl, iteF ?_⟩
    · cases r with
      | cons r1 r => cases r with
        | cons r2 r => cases r with
          | cons r3 r =>
            cases r
            cases r1; cases r2; cases r3
            rfl
    refine ⟨_, rfl, rfl, _, rfl, ?_⟩
    rw [decide_eq_false (show ¬ V.int ((n : Nat) : Int) = V.non from fun z => nomatch z)]
    refine iteT ⟨_, rfl, rfl, rfl, d, _, rfl, stt _ _ upd_same, _, rfl, (n : Nat), (n : Nat), rfl, ?_⟩
    rw [decide_eq_true rfl]
    exact q _
  · have e1 : dv = .non := by
      rw [← hdv]
      unfold wrongPV
      rw [hn]
    subst e1
    refine ⟨_, rfl, rfl, _, rfl, iteT ?_⟩
    refine ⟨_, rfl, t, xs, js2, rfl, ht, hI2, hg, by rw [htx]; omega, fun H16 s16 => ⟨_, rfl, rfl, ?_⟩⟩
    rw [htx, decide_eq_true rfl]
    exact q _

end
end Z

namespace Z
open PySem PySem.Spec PyProof.Rows L2
section
variable {P : Program} {w : World} {K : PySem.W.Frag} {mg : Str → Option Value} {base : Heap}
theorem ok_less (B : BI mg) (F : At K mg "less" sless ["a", "b"]) : Ok P w K mg base 1 "less" ["a", "b"] [] (spLess K) := by
  refine F.ok scless (fun vs H Q E h => ?_) (fun f cdv A outer s H vs Q E hr h => ?_)
  · obtain ⟨x, y, p, q, rfl, _⟩ := h
    rfl
  obtain ⟨x, y, p, q, rfl, hx, hy, zp, zq, k⟩ := h
  refine ⟨_, (pss_one (ps_ret (pe_cmpR op_lt (pe_op op_mulX (pe_ix ix_tup (pv 0) pe_int (fun _ _ => rfl)) (pe_ix ix_tup (pv 1) pe_int (fun _ _ => rfl))) (pe_op op_mulX (pe_ix ix_tup (pv 1) pe_int (fun _ _ => rfl)) (pe_ix ix_tup (pv 0) pe_int (fun _ _ => rfl))) (nomark _)))), ?_⟩
  obtain ⟨xa, _, _, rfl, sx, hx0, hx1⟩ := hx.two'
  obtain ⟨ya, _, _, rfl, sy, hy0, hy1⟩ := hy.two'
  cases hx0; cases hx1; cases hy0; cases hy1
  refine ⟨_, rfl, xa, _, 0, _, rfl, rfl, sx, rfl, _, rfl, ya, _, 1, _, rfl, rfl, sy, rfl, _, _, rfl, rfl, mulB zp.bn zq.bd, ?_⟩
  refine ⟨_, rfl, ya, _, 0, _, rfl, rfl, sy, rfl, _, rfl, xa, _, 1, _, rfl, rfl, sx, rfl, _, _, rfl, rfl, mulB zq.bn zp.bd, ?_⟩
  refine ⟨_, _, rfl, rfl, ?_⟩
  have e : decide (p.num * (q.den : Int) < q.num * (p.den : Int)) = decide (p < q) := decide_eq_decide.mpr (r_less p q)
  show Q (.bl (decide (p.num * (q.den : Int) < q.num * (p.den : Int)))) H
  rw [e]
  exact k

theorem ok_law_pool (B : BI mg) (F : At K mg "_law_pool" s_law_pool ["script"]) : Ok P w K mg base 1 "_law_pool" ["script"] [] (spPool K) := by
  refine F.ok sc_law_pool (fun vs H Q E h => ?_) (fun f cdv A outer s H vs Q E hr h => ?_)
  · obtain ⟨a, ns, rfl, _⟩ := h
    rfl
  obtain ⟨a, ns, rfl, hS, hl, q⟩ := h
  refine ⟨_, (pss_one (ps_ret (pe_lst (pa_cons (pe_callTy call_list_of rfl B.list (by decide +kernel) (pa_cons (pv 0) pa_nil)) (pa_cons pe_int (pa_cons pe_int (pa_cons pe_int (pa_cons pe_int pa_nil)))))))), ?_⟩
  refine ⟨_, rfl, a, _, rfl, .inl hS, fun l hl' => ⟨(by show 5 ≤ sizeLine; decide), fun p hp => ?_⟩⟩
  have n : p ≠ l := fun e => by rw [e, upd_same] at hp; cases hp
  refine q p l _ ?_ (fun b o e => ?_) ⟨ns, 0, 0, 0, 0, n.symm, upd_same, by rw [upd_ne n.symm, upd_same], hl, by omega, by omega, by omega, by omega, by omega⟩
  · rw [upd_ne n] at hp
    exact hp
  · rw [upd_ne (fun z => by rw [z] at e; rw [upd_ne n] at hp; rw [hp] at e; cases e), upd_ne (ne_of_none e hl')]
    exact e

theorem ok_law_draw (B : BI mg) (F : At K mg "_law_draw" s_law_draw ["pool", "many"]) : Ok P w K mg base 1 "_law_draw" ["pool", "many"] [] spDraw := by
  refine F.ok sc_law_draw (fun vs H Q E h => ?_) (fun f cdv A outer s H vs Q E hr h => ?_)
  · obtain ⟨p, a, m, rfl, _⟩ := h
    rfl
  obtain ⟨p, a, m, rfl, hP, m0, m1, q⟩ := h
  refine ⟨_, (pss_cons (ps_if (pt_cmpR op_gt (pe_ix ix_list (pv 0) pe_int (fun _ _ => rfl)) pe_int (nomark _))
        (pss_cons (ps_set (i := 2) sc_law_draw.nd rfl (Or.inl rfl) (pe_op op_modN (pe_callTy call_int1 rfl B.int (by decide +kernel) (pa_cons (pe_ix ix_list (pv 0) pe_int (fun _ _ => rfl)) pa_nil)) (pv 1)))
        (pss_cons (ps_asg (pe_op op_fdivX (pe_ix ix_list (pv 0) pe_int (fun _ _ => rfl)) (pv 1)) (pg_sub (pv 0) pe_int set_list))
        (pss_one (ps_ret (pv 2)))))
        pss_nil)
      (Evl.pss_cut (ps_if (PW.pt (pw_and (pt_cmpR op_eq (pe_op op_modN (pe_callTy call_int1 rfl B.int (by decide +kernel) (pa_cons (pe_ix ix_list (pv 0) pe_int (fun _ _ => rfl)) pa_nil)) pe_int) pe_int (nomark _)) (pw_and1 (pt_cmpR op_lt (pe_ix ix_list (pv 0) pe_int (fun _ _ => rfl)) (pe_callB call_len_seq rfl B.len PySem.boot_len (pa_cons (pe_ix ix_list (pv 0) pe_int (fun _ _ => rfl)) pa_nil)) (nomark _)))))
        (pss_cons (ps_set (i := 3) sc_law_draw.nd rfl (Or.inl rfl) (pe_callB call_abs rfl B.abs (by decide +kernel) (pa_cons (pe_ix ix_list (pe_ix ix_list (pv 0) pe_int (fun _ _ => rfl)) (pe_ix ix_list (pv 0) pe_int (fun _ _ => rfl)) (fun _ _ => rfl)) pa_nil)))
        (pss_cons (ps_asg (pe_op op_add (pe_ix ix_list (pv 0) pe_int (fun _ _ => rfl)) pe_int) (pg_sub (pv 0) pe_int set_list))
        (pss_cons (ps_if (pt_cmpR op_ge (pv 3) (pe_op op_pow pe_int pe_int) (nomark _))
          (pss_cons (ps_asg (pe_op op_fdivX (pv 3) (pv 1)) (pg_sub (pv 0) pe_int set_list))
          (pss_one (ps_ret (pe_op op_modN (pe_callTy call_int1 rfl B.int (by decide +kernel) (pa_cons (pv 3) pa_nil)) (pv 1)))))
          pss_nil)
        (pss_one (ps_asg (pv 3) (pg_sub (pv 0) pe_int set_list))))))
        pss_nil)
      (pss_cons (ps_asg (pe_op op_add (pe_ix ix_list (pv 0) pe_int (fun _ _ => rfl)) pe_int) (pg_sub (pv 0) pe_int set_list))
      (pss_cons (ps_set (i := 4) sc_law_draw.nd rfl (Or.inl rfl) (pe_op op_modN (pe_callTy call_int1 rfl B.int (by decide +kernel) (pa_cons (pe_op op_add (pe_op op_add (pe_op op_mulX (pe_ix ix_list (pv 0) pe_int (fun _ _ => rfl)) pe_int) (pe_op op_mulX (pe_ix ix_list (pv 0) pe_int (fun _ _ => rfl)) pe_int)) pe_int) pa_nil)) pe_int))
      (pss_cons (ps_set (i := 4) sc_law_draw.nd rfl (Or.inl rfl) (pe_op op_modN (pe_callTy call_int1 rfl B.int (by decide +kernel) (pa_cons (pe_op op_add (pe_op op_mulX (pv 4) (pv 4)) (pe_op op_mulX (pe_ix ix_list (pv 0) pe_int (fun _ _ => rfl)) pe_int)) pa_nil)) pe_int))
      (pss_one (ps_ret (pe_op op_modN (pe_callTy call_int1 rfl B.int (by decide +kernel) (pa_cons (pv 4) pa_nil)) (pv 1))))))))), ?_⟩
  obtain ⟨ns, i, rest, last, cnt, na, hp, ha, hn, i0, r0, l0, l1, c0⟩ := hP
  have mne : m ≠ 0 := by omega
  -- what is stored at p keeps the pool
  have keep : ∀ (H' : Hp) (i' rest' last' cnt' : Int), H' p = some (.lst [.ref a, .int i', .int rest', .int last', .int cnt']) → H' a = H a → 0 ≤ i' → 0 ≤ rest' → 0 ≤ last' → last' < 1000000000000000000 → 0 ≤ cnt' → Pl p a H' :=
    fun H' i' rest' last' cnt' h1 h2 h3 h4 h5 h6 h7 => ⟨ns, i', rest', last', cnt', na, h1, by rw [h2]; exact ha, hn, h3, h4, h5, h6, h7⟩
  -- if pool[2] > 0
  refine ⟨_, rfl, p, _, 2, _, rfl, rfl, SqL.of hp, rfl, _, _, rfl, rfl, _, rfl, ite2 (fun e => ?_) (fun e => ?_)⟩
  · have e1 : 0 < rest := of_decide_eq_true e
    refine ⟨_, rfl, p, _, 2, _, rfl, rfl, SqL.of hp, rfl, .inl ⟨_, rfl, _, rfl, _, _, rfl, rfl, mne, ?_⟩⟩
    refine ⟨_, rfl, p, _, 2, _, rfl, rfl, SqL.of hp, rfl, _, rfl, _, _, rfl, rfl, divX m0 m1, ?_⟩
    refine ⟨_, rfl, p, _, 2, _, rfl, rfl, hp, rfl, ?_⟩
    exact ⟨_, rfl, q _ _ (fm0 m0) (fm1 m0) .sto (keep _ _ _ _ _ upd_same (by rw [upd_ne na]) i0 (fd0 m0 r0) l0 l1 c0)⟩
  -- behind the second if: the count is as it was
  refine ⟨fun σ' H' => ∃ (i' last' : Int) (y2 y3 y4 : Option V), σ' = [some (.ref p), some (.int m), y2, y3, y4] ∧ Kp p H H' ∧ H' p = some (.lst [.ref a, .int i', .int rest, .int last', .int cnt]) ∧ H' a = H a ∧ 0 ≤ i' ∧ 0 ≤ last' ∧ last' < 1000000000000000000, ?_, ?_⟩
  · -- the second if
    refine ⟨_, rfl, p, _, 4, _, rfl, rfl, SqL.of hp, rfl, .inl ⟨_, rfl, _, _, rfl, rfl, (show (8 : Int) ≠ 0 by decide), rfl, _, rfl, ite2 (fun e2 => ?_) (fun e2 => iteF ?_)⟩⟩
    · refine ⟨_, rfl, p, _, 1, _, rfl, rfl, SqL.of hp, rfl, _, rfl, p, _, 0, _, rfl, rfl, SqL.of hp, rfl, a, _, rfl, .inl (SqL.of ha), _, _, rfl, rfl, _, rfl, ite2 (fun e3 => ?_) (fun e3 => ?_)⟩
      · have e4 : i < ((ns.map V.int).length : Int) := of_decide_eq_true e3
        rw [List.length_map] at e4
        have hi : i.toNat < ns.length := by omega
        have g0 : (ns.map V.int)[i.toNat]? = some (.int ns[i.toNat]) := by
          rw [List.getElem?_map, List.getElem?_eq_getElem hi]
          rfl
        have g : atI (ns.map V.int) i = some (.int ns[i.toNat]) := at_of (by omega) g0
        -- cell = abs(..)
        refine ⟨_, rfl, p, _, 0, _, rfl, rfl, SqL.of hp, rfl, _, rfl, p, _, 1, _, rfl, rfl, SqL.of hp, rfl, a, _, i, _, rfl, rfl, SqL.of ha, g, _, rfl, ?_⟩
        generalize hc : (if ns[i.toNat] < 0 then -ns[i.toNat] else ns[i.toNat]) = cell
        have cell0 : 0 ≤ cell := by rw [← hc]; split <;> omega
        -- pool[1] = pool[1] + 1
        refine ⟨_, rfl, p, _, 1, _, rfl, rfl, SqL.of hp, rfl, _, _, rfl, rfl, _, rfl, p, _, 1, _, rfl, rfl, hp, rfl, ?_⟩
        have h7 : (upd H p (.lst [.ref a, .int (i + 1), .int rest, .int last, .int cnt])) p = some (.lst [.ref a, .int (i + 1), .int rest, .int last, .int cnt]) := upd_same
        -- if cell >= 10 ** 18
        refine ⟨_, rfl, _, _, rfl, rfl, ⟨by decide, by decide, by decide⟩, _, _, rfl, rfl, _, rfl, ite2 (fun e5 => ?_) (fun e5 => ?_)⟩
        · refine ⟨_, rfl, _, rfl, _, _, rfl, rfl, divX m0 m1, _, rfl, p, _, 2, _, rfl, rfl, h7, rfl, ?_⟩
          refine ⟨_, rfl, .inl ⟨_, rfl, _, rfl, _, _, rfl, rfl, mne, ?_⟩⟩
          exact q _ _ (fm0 m0) (fm1 m0) (Kp.sto.trans .sto) (keep _ _ _ _ _ upd_same (by rw [upd_ne na, upd_ne na]) (by omega) (fd0 m0 cell0) l0 l1 c0)
        · have e6 : cell < 1000000000000000000 := by
            have z : ¬ ((10 : Int) ^ (18 : Int).toNat ≤ cell) := of_decide_eq_false (Bool.eq_false_iff.mpr e5)
            have y : (10 : Int) ^ (18 : Int).toNat = 1000000000000000000 := by decide +kernel
            omega
          refine ⟨_, rfl, _, rfl, p, _, 3, _, rfl, rfl, h7, rfl, ?_⟩
          exact ⟨i + 1, cell, none, some (.int cell), none, rfl, Kp.sto.trans .sto, upd_same, by rw [upd_ne na, upd_ne na], by omega, cell0, e6⟩
      · exact ⟨i, last, none, none, none, rfl, .refl _ _, hp, rfl, i0, l0, l1⟩
    · exact ⟨i, last, none, none, none, rfl, .refl _ _, hp, rfl, i0, l0, l1⟩
  · rintro σ' H' ⟨i', last', y2, y3, y4, rfl, k, h1, h2, h3, h5, h6⟩
    refine ⟨_, rfl, p, _, 4, _, rfl, rfl, SqL.of h1, rfl, _, _, rfl, rfl, _, rfl, p, _, 4, _, rfl, rfl, h1, rfl, ?_⟩
    have h7 : (upd H' p (.lst [.ref a, .int i', .int rest, .int last', .int (cnt + 1)])) p = some (.lst [.ref a, .int i', .int rest, .int last', .int (cnt + 1)]) := upd_same
    refine ⟨_, rfl, p, _, 3, _, rfl, rfl, SqL.of h7, rfl, _, _, rfl, rfl, mulR ⟨by decide, by decide⟩, ?_⟩
    refine ⟨_, rfl, p, _, 4, _, rfl, rfl, SqL.of h7, rfl, _, _, rfl, rfl, mulR ⟨by decide, by decide⟩, ?_⟩
    refine ⟨_, _, rfl, rfl, _, _, rfl, rfl, .inl ⟨_, rfl, _, _, rfl, rfl, (show (2147483647 : Int) ≠ 0 by decide), ?_⟩⟩
    refine ⟨_, rfl, _, rfl, _, _, rfl, rfl, mulF, ?_⟩
    refine ⟨_, rfl, p, _, 4, _, rfl, rfl, SqL.of h7, rfl, _, _, rfl, rfl, mulR ⟨by decide, by decide⟩, ?_⟩
    refine ⟨_, _, rfl, rfl, .inl ⟨_, rfl, _, _, rfl, rfl, (show (2147483399 : Int) ≠ 0 by decide), ?_⟩⟩
    refine ⟨_, rfl, .inl ⟨_, rfl, ?_⟩⟩
    refine ⟨_, rfl, _, _, rfl, rfl, mne, ?_⟩
    exact q _ _ (fm0 m0) (fm1 m0) (k.trans .sto) (keep _ _ _ _ _ h7 (by rw [upd_ne na]; exact h2) h3 r0 h5 h6 (by omega))

theorem ok_law_gcd (B : BI mg) (F : At K mg "_law_gcd" s_law_gcd ["a", "b"]) : Ok P w K mg base 1 "_law_gcd" ["a", "b"] [] spGcd := by
  refine F.ok sc_law_gcd (fun vs H Q E h => ?_) (fun f cdv A outer s H vs Q E hr h => ?_)
  · obtain ⟨a, b, rfl, _⟩ := h
    rfl
  obtain ⟨a, b, rfl, ha, hb, q⟩ := h
  refine ⟨_, (pss_cons (ps_for PassesOwn.never rfl (pi_range1 rfl B.range (pa_cons pe_int pa_nil)) (pg_name (i := 2) sc_law_gcd.nd rfl (Or.inl rfl))
        (pss_cons (ps_if (pt_cmpR op_eq (pv 1) pe_int (nomark _))
          (pss_one (ps_ret (pv 0)))
          pss_nil)
        (pss_one (ps_par (i := 0) (j := 1) (by rfl) sc_law_gcd.nd rfl rfl (by decide) rfl rfl (pa_cons (pv 1) (pa_cons (pe_op op_modN (pe_callTy call_int1 rfl B.int (by decide +kernel) (pa_cons (pv 0) pa_nil)) (pv 1)) pa_nil)) (by rfl)))))
      (pss_one (ps_ret pe_int))), ?_⟩
  have n2 : 2 ≤ (100000 : Int).toNat := by decide
  refine ⟨100000, rfl, by decide, by decide, for_range (lo := 0) (n := (100000 : Int).toNat) (fun i σ' H' => H' = H ∧ ∃ (x y : Nat) (z : Option V), σ' = [some (.int (x : Int)), some (.int (y : Int)), z] ∧ Nat.gcd x y = Nat.gcd a b ∧ GStep (a * b) i x y ∧ (i = 0 → x = a ∧ y = b))
    ⟨rfl, a, b, none, rfl, rfl, .zero, fun _ => ⟨rfl, rfl⟩⟩ ?_ ?_⟩
  · rintro i σ' H' hi ⟨rfl, x, y, z, rfl, g, st, h0⟩
    refine ⟨_, rfl, rfl, _, rfl, ite2 (fun e => ?_) (fun e => ?_)⟩
    · have e1 : (y : Int) = 0 := V.int.inj (of_decide_eq_true e)
      have e2 : y = 0 := by omega
      subst e2
      refine ⟨_, rfl, ?_⟩
      rw [Nat.gcd_zero_right] at g
      rw [g]
      exact q
    · have e1 : y ≠ 0 := fun h => e (decide_eq_true (by rw [h]; rfl))
      refine ⟨_, rfl, _, rfl, .inl ⟨_, rfl, _, rfl, _, _, rfl, rfl, (show (y : Int) ≠ 0 by omega), ?_⟩⟩
      exact ⟨_, _, rfl, rfl, y, x % y, some (.int (0 + (i : Int))), congrArg (fun v => [some (V.int (y : Int)), some (V.int v), some (V.int (0 + (i : Int)))]) (Int.ofNat_fmod x y).symm, (gcd_turn x y).trans g, st.next h0 e1, fun h => by omega⟩
  · rintro σ' H' ⟨rfl, x, y, z, rfl, g, st, _⟩
    exact (st.end n2 (big_sq ha hb)).elim

theorem ok_law_ratio (B : BI mg) (F : At K mg "_law_ratio" s_law_ratio ["top", "bottom"]) (C_law_gcd : Ok P w K mg base 1 "_law_gcd" ["a", "b"] [] spGcd) : Ok P w K mg base 2 "_law_ratio" ["top", "bottom"] [] (spRat K) := by
  refine F.ok sc_law_ratio (fun vs H Q E h => ?_) (fun f cdv A outer s H vs Q E hr h => ?_)
  · obtain ⟨a, b, rfl, _⟩ := h
    rfl
  obtain ⟨t, b, rfl, b0, ht, hb, q⟩ := h
  refine ⟨_, (pss_cons (ps_set (i := 2) sc_law_ratio.nd rfl (Or.inl rfl) (pe_ok C_law_gcd (hr.mono (by first | decide | exact Nat.le_refl _)) rfl (pa_cons (pe_callB call_abs rfl B.abs (by decide +kernel) (pa_cons (pv 0) pa_nil)) (pa_cons (pe_callB call_abs rfl B.abs (by decide +kernel) (pa_cons (pv 1) pa_nil)) pa_nil))))
      (Evl.pss_cut (ps_if (pt_cmpR op_lt (pv 1) pe_int (nomark _))
        (pss_one (ps_set (i := 2) sc_law_ratio.nd rfl (Or.inl rfl) (pe_op op_sub pe_int (pv 2))))
        pss_nil)
      (pss_one (ps_ret (pe_tup (pa_cons (pe_op op_fdivX (pv 0) (pv 2)) (pa_cons (pe_op op_fdivX (pv 1) (pv 2)) pa_nil))))))), ?_⟩
  refine ⟨_, rfl, _, rfl, _, rfl, _, rfl, t.natAbs, b.natAbs, ?_, ht, hb, ?_⟩
  · show [V.int (if t < 0 then -t else t), V.int (if b < 0 then -b else b)] = _
    rw [abs_nat, abs_nat]
  refine ⟨fun σ' H' => H' = H ∧ ∃ c : Int, σ' = [some (.int t), some (.int b), some (.int c)] ∧ c = (if b < 0 then -((Nat.gcd t.natAbs b.natAbs : Nat) : Int) else ((Nat.gcd t.natAbs b.natAbs : Nat) : Int)), ?_, ?_⟩
  · refine ⟨_, rfl, _, _, rfl, rfl, _, rfl, ite2 (fun e => ?_) (fun e => ?_)⟩
    · have e1 : b < 0 := of_decide_eq_true e
      refine ⟨_, rfl, _, _, rfl, rfl, ?_⟩
      exact ⟨rfl, _, rfl, by rw [if_pos e1]; omega⟩
    · have e1 : ¬ b < 0 := of_decide_eq_false (Bool.eq_false_iff.mpr e)
      exact ⟨rfl, _, rfl, by rw [if_neg e1]⟩
  · rintro σ' H' ⟨rfl, c, rfl, hc⟩
    obtain ⟨n1, n2, n3, n4⟩ := nrm_eq t b b0 c hc
    refine ⟨_, rfl, _, rfl, _, _, rfl, rfl, divB n1 n2 hb, _, rfl, _, rfl, _, _, rfl, rfl, divB n1 n2 hb, (by show 2 ≤ sizeLine; decide), fun p hp => ?_⟩
    exact q _ _ (same_upd hp) (rat2_new hp n3 n4)

theorem ok_law_plus (B : BI mg) (F : At K mg "_law_plus" s_law_plus ["a", "b"]) (C_law_ratio : Ok P w K mg base 2 "_law_ratio" ["top", "bottom"] [] (spRat K)) : Ok P w K mg base 3 "_law_plus" ["a", "b"] [] (spBin K (fun p q => p + q)) := by
  refine F.ok sc_law_plus (fun vs H Q E h => ?_) (fun f cdv A outer s H vs Q E hr h => ?_)
  · obtain ⟨x, y, p, q, rfl, _⟩ := h
    rfl
  obtain ⟨x, y, p, q, rfl, hx, hy, zp, zq, k⟩ := h
  refine ⟨_, (pss_one (ps_ret (pe_ok C_law_ratio (hr.mono (by first | decide | exact Nat.le_refl _)) rfl (pa_cons (pe_op op_add (pe_op op_mulX (pe_ix ix_tup (pv 0) pe_int (fun _ _ => rfl)) (pe_ix ix_tup (pv 1) pe_int (fun _ _ => rfl))) (pe_op op_mulX (pe_ix ix_tup (pv 1) pe_int (fun _ _ => rfl)) (pe_ix ix_tup (pv 0) pe_int (fun _ _ => rfl)))) (pa_cons (pe_op op_mulX (pe_ix ix_tup (pv 0) pe_int (fun _ _ => rfl)) (pe_ix ix_tup (pv 1) pe_int (fun _ _ => rfl))) pa_nil))))), ?_⟩
  obtain ⟨xa, _, _, rfl, sx, hx0, hx1⟩ := hx.two'
  obtain ⟨ya, _, _, rfl, sy, hy0, hy1⟩ := hy.two'
  cases hx0; cases hx1; cases hy0; cases hy1
  refine ⟨_, rfl, xa, _, 0, _, rfl, rfl, sx, rfl, _, rfl, ya, _, 1, _, rfl, rfl, sy, rfl, _, _, rfl, rfl, mulB (zp.bn) (zq.bd), ?_⟩
  refine ⟨_, rfl, ya, _, 0, _, rfl, rfl, sy, rfl, _, rfl, xa, _, 1, _, rfl, rfl, sx, rfl, _, _, rfl, rfl, mulB (zq.bn) (zp.bd), _, _, rfl, rfl, ?_⟩
  refine ⟨_, rfl, xa, _, 1, _, rfl, rfl, sx, rfl, _, rfl, ya, _, 1, _, rfl, rfl, sy, rfl, _, _, rfl, rfl, mulB (zp.bd) (zq.bd), ?_⟩
  refine ⟨_, _, rfl, den_mul p q, sz_big (by decide) (zp.x5 zq), sz_big (by decide) (zp.x3 zq), fun v H1 s1 i1 => ?_⟩
  rw [r_add] at i1
  exact k v H1 s1 i1

theorem ok_law_over (B : BI mg) (F : At K mg "_law_over" s_law_over ["a", "b"]) (C_law_ratio : Ok P w K mg base 2 "_law_ratio" ["top", "bottom"] [] (spRat K)) : Ok P w K mg base 3 "_law_over" ["a", "b"] [] (spBinQ K) := by
  refine F.ok sc_law_over (fun vs H Q E h => ?_) (fun f cdv A outer s H vs Q E hr h => ?_)
  · obtain ⟨x, y, p, q, rfl, _⟩ := h
    rfl
  obtain ⟨x, y, p, q, rfl, hx, hy, zp, zq, hq, k⟩ := h
  refine ⟨_, (pss_one (ps_ret (pe_ok C_law_ratio (hr.mono (by first | decide | exact Nat.le_refl _)) rfl (pa_cons (pe_op op_mulX (pe_ix ix_tup (pv 0) pe_int (fun _ _ => rfl)) (pe_ix ix_tup (pv 1) pe_int (fun _ _ => rfl))) (pa_cons (pe_op op_mulX (pe_ix ix_tup (pv 0) pe_int (fun _ _ => rfl)) (pe_ix ix_tup (pv 1) pe_int (fun _ _ => rfl))) pa_nil))))), ?_⟩
  obtain ⟨xa, _, _, rfl, sx, hx0, hx1⟩ := hx.two'
  obtain ⟨ya, _, _, rfl, sy, hy0, hy1⟩ := hy.two'
  cases hx0; cases hx1; cases hy0; cases hy1
  refine ⟨_, rfl, xa, _, 0, _, rfl, rfl, sx, rfl, _, rfl, ya, _, 1, _, rfl, rfl, sy, rfl, _, _, rfl, rfl, mulB (zp.bn) (zq.bd), ?_⟩
  refine ⟨_, rfl, xa, _, 1, _, rfl, rfl, sx, rfl, _, rfl, ya, _, 0, _, rfl, rfl, sy, rfl, _, _, rfl, rfl, mulB (zp.bd) (zq.bn), ?_⟩
  refine ⟨_, _, rfl, Int.mul_ne_zero (denz p) (num0 hq), sz_big (by decide) (zp.x1 zq), sz_big (by decide) (zp.x4 zq), fun v H1 s1 i1 => ?_⟩
  rw [r_div] at i1
  exact k v H1 s1 i1

theorem ok_law_less (B : BI mg) (F : At K mg "_law_less" s_law_less ["a", "b"]) : Ok P w K mg base 1 "_law_less" ["a", "b"] [] (spLess K) := by
  refine F.ok sc_law_less (fun vs H Q E h => ?_) (fun f cdv A outer s H vs Q E hr h => ?_)
  · obtain ⟨x, y, p, q, rfl, _⟩ := h
    rfl
  obtain ⟨x, y, p, q, rfl, hx, hy, zp, zq, k⟩ := h
  refine ⟨_, (pss_one (ps_ret (pe_cmpR op_lt (pe_op op_mulX (pe_ix ix_tup (pv 0) pe_int (fun _ _ => rfl)) (pe_ix ix_tup (pv 1) pe_int (fun _ _ => rfl))) (pe_op op_mulX (pe_ix ix_tup (pv 1) pe_int (fun _ _ => rfl)) (pe_ix ix_tup (pv 0) pe_int (fun _ _ => rfl))) (nomark _)))), ?_⟩
  obtain ⟨xa, _, _, rfl, sx, hx0, hx1⟩ := hx.two'
  obtain ⟨ya, _, _, rfl, sy, hy0, hy1⟩ := hy.two'
  cases hx0; cases hx1; cases hy0; cases hy1
  refine ⟨_, rfl, xa, _, 0, _, rfl, rfl, sx, rfl, _, rfl, ya, _, 1, _, rfl, rfl, sy, rfl, _, _, rfl, rfl, mulB zp.bn zq.bd, ?_⟩
  refine ⟨_, rfl, ya, _, 0, _, rfl, rfl, sy, rfl, _, rfl, xa, _, 1, _, rfl, rfl, sx, rfl, _, _, rfl, rfl, mulB zq.bn zp.bd, ?_⟩
  refine ⟨_, _, rfl, rfl, ?_⟩
  have e : decide (p.num * (q.den : Int) < q.num * (p.den : Int)) = decide (p < q) := decide_eq_decide.mpr (r_less p q)
  show Q (.bl (decide (p.num * (q.den : Int) < q.num * (p.den : Int)))) H
  rw [e]
  exact k

theorem ok_law_sumP (B : BI mg) (F : At K mg "_law_sum" s_law_sum ["rows"]) (C_law_plus : Ok P w K mg base 3 "_law_plus" ["a", "b"] [] (spBin K (fun p q => p + q))) : Ok P w K mg base 4 "_law_sum" ["rows"] [] (spSumLP K) := by
  refine F.ok sc_law_sum (fun vs H Q E h => ?_) (fun f cdv A outer s H vs Q E hr h => ?_)
  · obtain ⟨a, xs, qs, rfl, _⟩ := h
    rfl
  obtain ⟨a, xs, qs, rfl, hS, hI, hz, hm, k⟩ := h
  refine ⟨_, (pss_cons (ps_set (i := 1) sc_law_sum.nd rfl (Or.inl rfl) (pe_tup (pa_cons pe_int (pa_cons pe_int pa_nil))))
      (pss_cons (ps_for PassesOwn.never rfl (pi_list (pv 0)) (pg_name (i := 2) sc_law_sum.nd rfl (Or.inl rfl))
        (pss_one (ps_set (i := 1) sc_law_sum.nd rfl (Or.inl rfl) (pe_ok C_law_plus (hr.mono (by first | decide | exact Nat.le_refl _)) rfl (pa_cons (pv 1) (pa_cons (pv 2) pa_nil))))))
      (pss_one (ps_ret (pv 1))))), ?_⟩
  refine ⟨(by show 2 ≤ sizeLine; decide), fun z0 n0 => ?_⟩
  have lx : xs.length = qs.length := by rw [hI.len, List.length_map]
  refine ⟨_, rfl, a, rfl, ⟨_, (same_upd n0).seq hS⟩, for_list (xs := xs) (fun i σ' H' => Same H H' ∧ ∃ (v : V) (y : Option V), σ' = [some (.ref a), some v, y] ∧ Is K H' v (rat2 (sumL 0 (qs.take i)))) ?_ ?_ ?_ ?_⟩
  · exact ⟨same_upd n0, _, none, rfl, is_zero (SqT.of upd_same)⟩
  · rintro i σ' H' hi ⟨sm, _⟩
    exact sm.seq hS
  · rintro i x σ' H' hx ⟨sm, v, y, rfl, iv⟩
    obtain ⟨d, hd, ix⟩ := hI.at hx
    obtain ⟨q, hq, rfl⟩ := getR hd
    refine ⟨_, rfl, _, rfl, v, x, _, q, rfl, iv, ix.to (Same.tm sm), hm i, hz q (List.mem_of_getElem? hq), fun u H2 s2 iu => ?_⟩
    refine ⟨sm.trans s2, u, _, rfl, ?_⟩
    rw [sumL_take hq]
    exact iu
  · rintro σ' H' ⟨sm, v, y, rfl, iv⟩
    refine ⟨_, rfl, k v H' sm ?_⟩
    rw [lx, List.take_length] at iv
    exact iv
theorem ok_law_sum (B : BI mg) (F : At K mg "_law_sum" s_law_sum ["rows"]) (C_law_plus : Ok P w K mg base 3 "_law_plus" ["a", "b"] [] (spBin K (fun p q => p + q))) : Ok P w K mg base 4 "_law_sum" ["rows"] [] (spSumL K) := (ok_law_sumP B F C_law_plus).imp sumL_imp

theorem ok_law_name (B : BI mg) (F : At K mg "_law_name" s_law_name ["pool", "index"]) (C_law_draw : Ok P w K mg base 1 "_law_draw" ["pool", "many"] [] spDraw) : Ok P w K mg base 2 "_law_name" ["pool", "index"] [] spName := by
  refine F.ok sc_law_name (fun vs H Q E h => ?_) (fun f cdv A outer s H vs Q E hr h => ?_)
  · obtain ⟨p, pa, k, rfl, _⟩ := h
    rfl
  obtain ⟨p, pa, k, rfl, hP, hk, q⟩ := h
  refine ⟨_, (pss_cons (ps_set (i := 2) sc_law_name.nd rfl (Or.inl rfl) (pe_ix ix_str pe_str (pv 1) (fun _ _ => rfl)))
      (pss_cons (ps_set (i := 3) sc_law_name.nd rfl (Or.inl rfl) (pe_ix ix_list (pe_lst (pa_cons pe_str (pa_cons pe_str (pa_cons pe_str (pa_cons pe_str pa_nil))))) (pe_ok C_law_draw (hr.mono (by first | decide | exact Nat.le_refl _)) rfl (pa_cons (pv 0) (pa_cons pe_int pa_nil))) (fun _ _ => rfl)))
      (pss_one (ps_ret (pe_op op_add_str (pe_op op_add_str (pv 3) (pv 2)) (pe_ix ix_list (pe_lst (pa_cons pe_str (pa_cons pe_str (pa_cons pe_str pa_nil)))) (pe_ok C_law_draw (hr.mono (by first | decide | exact Nat.le_refl _)) rfl (pa_cons (pv 0) (pa_cons pe_int pa_nil))) (fun _ _ => rfl))))))), ?_⟩
  refine ⟨_, rfl, _, (k : Int), _, rfl, rfl, (by show 20 ≤ sizeLine; decide), atI_nat (letters_at k hk), ?_⟩
  refine ⟨(by show 4 ≤ sizeLine; decide), fun l1 n1 => ?_⟩
  have m1 := hP.ne n1
  have P1 := hP.mut (o := .lst [V.str (("" : Str)), V.str (("u" : Str)), V.str (("vw" : Str)), V.str (("xyz" : Str))]) m1.1 m1.2
  refine ⟨_, rfl, p, pa, 4, rfl, P1, by decide, by decide, fun r2 H2 r20 r21 k2 P2 => ?_⟩
  obtain ⟨x, hx, ox⟩ := head_at r20 r21
  refine ⟨l1, _, r2, _, rfl, rfl, SqL.of (k2 _ _ m1.1 upd_same), hx, ?_⟩
  refine ⟨_, rfl, _, rfl, x, ⟨#[97 + k]⟩, rfl, rfl, small5 (by have := ox.1; rw [str_len, str_len]; show x.cps.toList.length + 1 ≤ 100000; omega), ?_⟩
  refine ⟨(by show 3 ≤ sizeLine; decide), fun l3 n3 => ?_⟩
  have m3 := P2.ne n3
  have P3 := P2.mut (o := .lst [V.str (("" : Str)), V.str (("z" : Str)), V.str (("yy" : Str))]) m3.1 m3.2
  refine ⟨_, rfl, p, pa, 3, rfl, P3, by decide, by decide, fun r4 H4 r40 r41 k4 P4 => ?_⟩
  obtain ⟨y, hy, oy⟩ := tail_at r40 r41
  refine ⟨l3, _, r4, _, rfl, rfl, SqL.of (k4 _ _ m3.1 upd_same), hy, ?_⟩
  refine ⟨x ++ ⟨#[97 + k]⟩, y, rfl, rfl, small5 (by have := ox.1; have := oy.1; rw [str_len, str_len, str_app, List.length_append]; show x.cps.toList.length + 1 + y.cps.toList.length ≤ 100000; omega), ?_⟩
  exact q _ _ (nm_of hk ox oy) ((Kp.new n1).trans (k2.trans ((Kp.new n3).trans k4))) P4

theorem ok_law_window (B : BI mg) (F : At K mg "_law_window" s_law_window ["pool", "wide"]) (C_law_draw : Ok P w K mg base 1 "_law_draw" ["pool", "many"] [] spDraw) : Ok P w K mg base 2 "_law_window" ["pool", "wide"] [] (spWin K) := by
  refine F.ok sc_law_window (fun vs H Q E h => ?_) (fun f cdv A outer s H vs Q E hr h => ?_)
  · obtain ⟨p, pa, b, rfl, _⟩ := h
    rfl
  obtain ⟨p, pa, b, rfl, hP, q⟩ := h
  refine ⟨_, (pss_cons (ps_if (pt_val (pv 1))
        (pss_cons (ps_set (i := 2) sc_law_window.nd rfl (Or.inl rfl) (pe_ok C_law_draw (hr.mono (by first | decide | exact Nat.le_refl _)) rfl (pa_cons (pv 0) (pa_cons pe_int pa_nil))))
        (pss_one (ps_ret (pe_tup (pa_cons (pv 2) (pa_cons (pe_op op_add (pe_op op_add (pv 2) pe_int) (pe_ok C_law_draw (hr.mono (by first | decide | exact Nat.le_refl _)) rfl (pa_cons (pv 0) (pa_cons (pe_op op_sub pe_int (pv 2)) pa_nil)))) pa_nil))))))
        pss_nil)
      (pss_cons (ps_set (i := 2) sc_law_window.nd rfl (Or.inl rfl) (pe_ok C_law_draw (hr.mono (by first | decide | exact Nat.le_refl _)) rfl (pa_cons (pv 0) (pa_cons pe_int pa_nil))))
      (pss_one (ps_ret (pe_tup (pa_cons (pv 2) (pa_cons (pe_op op_add (pe_op op_add (pv 2) pe_int) (pe_ok C_law_draw (hr.mono (by first | decide | exact Nat.le_refl _)) rfl (pa_cons (pv 0) (pa_cons pe_int pa_nil)))) pa_nil))))))), ?_⟩
  refine ⟨_, rfl, b, rfl, ite2 (fun e => ?_) (fun e => ?_)⟩
  · refine ⟨_, rfl, p, pa, 10000, rfl, hP, by decide, by decide, fun c H1 c0 c1 k1 P1 => ?_⟩
    refine ⟨_, rfl, _, rfl, _, _, rfl, rfl, ?_⟩
    refine ⟨_, rfl, _, rfl, _, _, rfl, rfl, p, pa, 10000 - c, rfl, P1, by omega, by omega, fun r H2 r0 r1 k2 P2 => ?_⟩
    refine ⟨_, _, rfl, rfl, (by show 2 ≤ sizeLine; decide), fun t nt => ?_⟩
    have nt2 := P2.ne nt
    exact q t c _ _ c0 (by omega) (by omega) ((k1.trans k2).trans (.new nt)) (P2.mut nt2.1 nt2.2) (P2.free (k1.trans k2) nt) upd_same
  · refine ⟨_, rfl, p, pa, 20, rfl, hP, by decide, by decide, fun c H1 c0 c1 k1 P1 => ?_⟩
    refine ⟨_, rfl, _, rfl, _, _, rfl, rfl, ?_⟩
    refine ⟨_, rfl, p, pa, 12, rfl, P1, by omega, by omega, fun r H2 r0 r1 k2 P2 => ?_⟩
    refine ⟨_, _, rfl, rfl, (by show 2 ≤ sizeLine; decide), fun t nt => ?_⟩
    have nt2 := P2.ne nt
    exact q t c _ _ c0 (by omega) (by omega) ((k1.trans k2).trans (.new nt)) (P2.mut nt2.1 nt2.2) (P2.free (k1.trans k2) nt) upd_same

theorem ok_law_jobs (B : BI mg) (F : At K mg "_law_jobs" s_law_jobs ["pool", "most"]) (C_law_draw : Ok P w K mg base 1 "_law_draw" ["pool", "many"] [] spDraw) (C_law_window : Ok P w K mg base 2 "_law_window" ["pool", "wide"] [] (spWin K))
    (C_law_name : Ok P w K mg base 2 "_law_name" ["pool", "index"] [] spName) : Ok P w K mg base 3 "_law_jobs" ["pool", "most"] [] (spJobs K) := by
  refine F.ok sc_law_jobs (fun vs H Q E h => ?_) (fun f cdv A outer s H vs Q E hr h => ?_)
  · obtain ⟨p, pa, n, rfl, _⟩ := h
    rfl
  obtain ⟨p, pa, n, rfl, hP, hn, q⟩ := h
  refine ⟨_, (pss_cons (ps_set (i := 2) sc_law_jobs.nd rfl (Or.inl rfl) (pe_cmpR op_eq (pe_ok C_law_draw (hr.mono (by first | decide | exact Nat.le_refl _)) rfl (pa_cons (pv 0) (pa_cons pe_int pa_nil))) pe_int (nomark _)))
      (pss_cons (ps_set (i := 3) sc_law_jobs.nd rfl (Or.inl rfl) (pe_lst pa_nil))
      (pss_cons (ps_for PassesOwn.never rfl (pi_range1 rfl B.range (pa_cons (pe_ok C_law_draw (hr.mono (by first | decide | exact Nat.le_refl _)) rfl (pa_cons (pv 0) (pa_cons (pe_op op_add (pv 1) pe_int) pa_nil))) pa_nil)) (pg_name (i := 4) sc_law_jobs.nd rfl (Or.inl rfl))
        (pss_cons (ps_asg (pe_ok C_law_window (hr.mono (by first | decide | exact Nat.le_refl _)) rfl (pa_cons (pv 0) (pa_cons (pv 2) pa_nil))) (pg_tup rfl (pgs_cons (pg_name (i := 5) sc_law_jobs.nd rfl (Or.inl rfl)) (pgs_cons (pg_name (i := 6) sc_law_jobs.nd rfl (Or.inl rfl)) pgs_nil))))
        (pss_cons (ps_set (i := 7) sc_law_jobs.nd rfl (Or.inl rfl) (pe_op op_add pe_int (pe_ok C_law_draw (hr.mono (by first | decide | exact Nat.le_refl _)) rfl (pa_cons (pv 0) (pa_cons pe_int pa_nil)))))
        (Evl.pss_cut (ps_if (pt_cmpR op_eq (pe_ok C_law_draw (hr.mono (by first | decide | exact Nat.le_refl _)) rfl (pa_cons (pv 0) (pa_cons pe_int pa_nil))) pe_int (nomark _))
          (pss_one (ps_set (i := 7) sc_law_jobs.nd rfl (Or.inl rfl) (pe_op op_add pe_int (pe_ok C_law_draw (hr.mono (by first | decide | exact Nat.le_refl _)) rfl (pa_cons (pv 0) (pa_cons pe_int pa_nil))))))
          pss_nil)
        (Evl.pss_cut (ps_if (PW.pt (pw_and (pt_cmpR op_gt (pv 4) pe_int (nomark _)) (pw_and1 (pt_cmpR op_eq (pe_ok C_law_draw (hr.mono (by first | decide | exact Nat.le_refl _)) rfl (pa_cons (pv 0) (pa_cons pe_int pa_nil))) pe_int (nomark _)))))
          (pss_cons (ps_set (i := 8) sc_law_jobs.nd rfl (Or.inl rfl) (pe_ix ix_list (pv 3) (pe_ok C_law_draw (hr.mono (by first | decide | exact Nat.le_refl _)) rfl (pa_cons (pv 0) (pa_cons (pv 4) pa_nil))) (fun _ _ => rfl)))
          (pss_one (ps_par (i := 5) (j := 6) (by rfl) sc_law_jobs.nd rfl rfl (by decide) rfl rfl (pa_cons (pe_ix ix_tup (pv 8) pe_int (fun _ _ => rfl)) (pa_cons (pe_ix ix_tup (pv 8) pe_int (fun _ _ => rfl)) pa_nil)) (by rfl))))
          pss_nil)
        (Evl.pss_cut (ps_if (PW.pt (pw_and (pt_cmpR op_gt (pv 4) pe_int (nomark _)) (pw_and1 (pt_cmpR op_eq (pe_ok C_law_draw (hr.mono (by first | decide | exact Nat.le_refl _)) rfl (pa_cons (pv 0) (pa_cons pe_int pa_nil))) pe_int (nomark _)))))
          (pss_cons (ps_set (i := 8) sc_law_jobs.nd rfl (Or.inl rfl) (pe_ix ix_list (pv 3) (pe_ok C_law_draw (hr.mono (by first | decide | exact Nat.le_refl _)) rfl (pa_cons (pv 0) (pa_cons (pv 4) pa_nil))) (fun _ _ => rfl)))
          (pss_one (ps_if (pt_cmpR op_lt (pe_ix ix_tup (pv 8) pe_int (fun _ _ => rfl)) pe_int (nomark _))
            (pss_one (ps_par (i := 5) (j := 6) (by rfl) sc_law_jobs.nd rfl rfl (by decide) rfl rfl (pa_cons (pe_ix ix_tup (pv 8) pe_int (fun _ _ => rfl)) (pa_cons (pe_op op_add (pe_op op_add (pe_ix ix_tup (pv 8) pe_int (fun _ _ => rfl)) pe_int) (pe_ok C_law_draw (hr.mono (by first | decide | exact Nat.le_refl _)) rfl (pa_cons (pv 0) (pa_cons pe_int pa_nil)))) pa_nil)) (by rfl)))
            pss_nil)))
          pss_nil)
        (pss_one (ps_expr (pe_bm PySem.F.plainAttrs_list PySem.F.slot_list_append PySem.F.type_list_append mt_append (pv 3) (pa_cons (pe_tup (pa_cons (pe_ok C_law_name (hr.mono (by first | decide | exact Nat.le_refl _)) rfl (pa_cons (pv 0) (pa_cons (pv 4) pa_nil))) (pa_cons (pv 5) (pa_cons (pv 6) (pa_cons (pv 7) pa_nil))))) pa_nil))))))))))
      (pss_one (ps_ret (pe_callTy call_tuple_of rfl B.tuple (by decide +kernel) (pa_cons (pv 3) pa_nil))))))), ?_⟩
  refine ⟨_, rfl, p, pa, 6, rfl, hP, by decide, by decide, fun r1 H1 r10 r11 k1 P1 => ?_⟩
  refine ⟨rfl, (by show 0 ≤ sizeLine; decide), fun L nL => ?_⟩
  obtain ⟨nLp, nLa⟩ := P1.ne nL
  have fL : H L = none := P1.free k1 nL
  have M2 : LM K p pa L H [] (upd H1 L (.lst [])) := LM.new P1 k1 nL
  refine ⟨_, rfl, _, rfl, _, _, rfl, rfl, p, pa, (n : Int) + 1, rfl, M2.P, by omega, by omega, fun r3 H3 r30 r31 k3 P3 => ?_⟩
  have M3 := M2.step nLp k3 P3
  refine ⟨r3, rfl, by omega, by omega, for_range (lo := 0) (n := r3.toNat) (fun i σ' H' => ∃ js y4 y5 y6 y7 y8, σ' = [some (.ref p), some (.int (n : Int)), some (.bl (decide (r1 = 0))), some (.ref L), y4, y5, y6, y7, y8] ∧ LM K p pa L H (js.map dJob) H' ∧ JobsOk js ∧ js.length = i) ?_ ?_ ?_⟩
  · exact ⟨[], none, none, none, none, none, by rw [show decide (r1 = 0) = decide (V.int r1 = V.int 0) from decide_eq_decide.mpr ⟨fun z => by rw [z], fun z => V.int.inj z⟩]; rfl, M3, JobsOk.nil, rfl⟩
  · rintro i σ' H' hi ⟨js, y4, y5, y6, y7, y8, rfl, M, hj, hjl⟩
    have hi19 : i < 19 := by omega
    -- comes, due = _law_window(pool, wide)
    refine ⟨_, rfl, _, rfl, p, pa, _, rfl, M.P, fun t c d H5 c0 cd d1 k5 P5 nt ht => ?_⟩
    have M5 := M.step nLp k5 P5
    refine ⟨t, _, rfl, SqT.of ht, rfl, .int c, _, rfl, .int d, _, rfl, rfl, ?_⟩
    -- work
    refine ⟨_, rfl, p, pa, 24, rfl, P5, by decide, by decide, fun r6 H6 r60 r61 k6 P6 => ?_⟩
    have M6 := M5.step nLp k6 P6
    refine ⟨_, _, rfl, rfl, ?_⟩
    refine ⟨fun σ7 H7 => ∃ w y8, σ7 = [some (.ref p), some (.int (n : Int)), some (.bl (decide (r1 = 0))), some (.ref L), some (.int (0 + (i : Int))), some (.int c), some (.int d), some (.int w), y8] ∧ 1 ≤ w ∧ w ≤ 10000 ∧ LM K p pa L H (js.map dJob) H7, ?_, ?_⟩
    · refine ⟨_, rfl, p, pa, 5, rfl, P6, by decide, by decide, fun r7 H7 r70 r71 k7 P7 => ?_⟩
      have M7 := M6.step nLp k7 P7
      refine ⟨rfl, _, rfl, ite2 (fun e => ?_) (fun e => ?_)⟩
      · refine ⟨_, rfl, p, pa, 10000, rfl, P7, by decide, by decide, fun r8 H8 r80 r81 k8 P8 => ?_⟩
        exact ⟨_, _, rfl, rfl, _, y8, rfl, by omega, by omega, M7.step nLp k8 P8⟩
      · exact ⟨_, y8, rfl, by omega, by omega, M7⟩
    rintro σ7 H7 ⟨w, y8, rfl, w0, w1, M7⟩
    -- the job of another's window
    refine ⟨fun σ9 H9 => ∃ c d y8, σ9 = [some (.ref p), some (.int (n : Int)), some (.bl (decide (r1 = 0))), some (.ref L), some (.int (0 + (i : Int))), some (.int c), some (.int d), some (.int w), y8] ∧ 0 ≤ c ∧ c < d ∧ d ≤ 10000 ∧ LM K p pa L H (js.map dJob) H9, ?_, ?_⟩
    · refine ⟨_, rfl, _, _, rfl, rfl, _, rfl, ite2 (fun e => ?_) (fun e => iteF ⟨c, d, y8, rfl, c0, cd, d1, M7⟩)⟩
      have e0 : 0 < (0 : Int) + (i : Int) := of_decide_eq_true e
      refine ⟨_, rfl, p, pa, 4, rfl, M7.P, by decide, by decide, fun r8 H8 r80 r81 k8 P8 => ?_⟩
      have M8 := M7.step nLp k8 P8
      refine ⟨rfl, _, rfl, ite2 (fun e => ?_) (fun e => ⟨c, d, y8, rfl, c0, cd, d1, M8⟩)⟩
      refine ⟨_, rfl, _, rfl, _, rfl, p, pa, _, rfl, P8, e0, by omega, fun r9 H9 r90 r91 k9 P9 => ?_⟩
      have M9 := M8.step nLp k9 P9
      obtain ⟨xs, hx, hI⟩ := M9.l
      have hr9 : r9.toNat < js.length := by omega
      obtain ⟨v, gv, iv⟩ := hI.get (i := r9.toNat) (d := dJob js[r9.toNat]) (by rw [List.getElem?_map, List.getElem?_eq_getElem hr9]; rfl)
      have oj := hj.ok _ (List.getElem_mem hr9)
      obtain ⟨t, rfl, st⟩ := job_at iv
      refine ⟨L, _, r9, _, rfl, rfl, SqL.of hx, at_of (by omega) gv, ?_⟩
      refine ⟨_, rfl, t, _, 1, _, rfl, rfl, st, rfl, _, rfl, t, _, 2, _, rfl, rfl, st, rfl, _, _, rfl, ?_⟩
      exact ⟨_, _, _, rfl, oj.c0, oj.cd, oj.d1, M9⟩
    rintro σ9 H9 ⟨c, d, y8, rfl, c0, cd, d1, M9⟩
    -- the job behind another's window
    refine ⟨fun σ9 H9 => ∃ c d y8, σ9 = [some (.ref p), some (.int (n : Int)), some (.bl (decide (r1 = 0))), some (.ref L), some (.int (0 + (i : Int))), some (.int c), some (.int d), some (.int w), y8] ∧ 0 ≤ c ∧ c < d ∧ d ≤ 10000 ∧ LM K p pa L H (js.map dJob) H9, ?_, ?_⟩
    · refine ⟨_, rfl, _, _, rfl, rfl, _, rfl, ite2 (fun e => ?_) (fun e => iteF ⟨c, d, y8, rfl, c0, cd, d1, M9⟩)⟩
      have e0 : 0 < (0 : Int) + (i : Int) := of_decide_eq_true e
      refine ⟨_, rfl, p, pa, 6, rfl, M9.P, by decide, by decide, fun r8 H8 r80 r81 k8 P8 => ?_⟩
      have M8 := M9.step nLp k8 P8
      refine ⟨rfl, _, rfl, ite2 (fun e => ?_) (fun e => ⟨c, d, y8, rfl, c0, cd, d1, M8⟩)⟩
      refine ⟨_, rfl, _, rfl, _, rfl, p, pa, _, rfl, P8, e0, by omega, fun r9 H10 r90 r91 k9 P9 => ?_⟩
      have M10 := M8.step nLp k9 P9
      obtain ⟨xs, hx, hI⟩ := M10.l
      have hr9 : r9.toNat < js.length := by omega
      obtain ⟨v, gv, iv⟩ := hI.get (i := r9.toNat) (d := dJob js[r9.toNat]) (by rw [List.getElem?_map, List.getElem?_eq_getElem hr9]; rfl)
      have oj := hj.ok _ (List.getElem_mem hr9)
      obtain ⟨t, rfl, st⟩ := job_at iv
      refine ⟨L, _, r9, _, rfl, rfl, SqL.of hx, at_of (by omega) gv, ?_⟩
      refine ⟨_, rfl, t, _, 2, _, rfl, rfl, st, rfl, _, _, rfl, rfl, _, rfl, ite2 (fun e2 => ?_) (fun e2 => ⟨c, d, _, rfl, c0, cd, d1, M10⟩)⟩
      have e3 : js[r9.toNat].d < 9990 := of_decide_eq_true e2
      refine ⟨_, rfl, t, _, 2, _, rfl, rfl, st, rfl, _, rfl, t, _, 2, _, rfl, rfl, st, rfl, _, _, rfl, rfl, ?_⟩
      refine ⟨_, rfl, p, pa, 9, rfl, P9, by decide, by decide, fun r11 H11 r110 r111 k11 P11 => ?_⟩
      refine ⟨_, _, rfl, rfl, _, _, rfl, ?_⟩
      have := oj.c0
      have := oj.cd
      exact ⟨_, _, _, rfl, by omega, by omega, by omega, M10.step nLp k11 P11⟩
    rintro σ10 H10 ⟨c, d, y8, rfl, c0, cd, d1, M10⟩
    -- jobs.append(..)
    obtain ⟨xs0, hx0, hI0⟩ := M10.l
    refine ⟨_, rfl, .inl ⟨rfl, _, SqL.of hx0⟩, _, rfl, _, rfl, p, pa, i, (by show [V.ref p, V.int (0 + (i : Int))] = _; rw [Int.zero_add]), M10.P, by omega, fun nm H11 hnm k11 P11 => ?_⟩
    have M11 := M10.step nLp k11 P11
    obtain ⟨xs, hx, hI⟩ := M11.l
    refine ⟨_, rfl, _, rfl, _, rfl, (by show 4 ≤ sizeLine; decide), fun t nt => ?_⟩
    have M12 := M11.same (same_upd (o := .tup [.str nm, .int c, .int d, .int w]) nt)
    have hx12 : (upd H11 t (.tup [.str nm, .int c, .int d, .int w])) L = some (.lst xs) := same_upd nt _ _ hx
    have lxs : xs.length = js.length := by rw [hI.len, List.length_map]
    refine ⟨L, xs, .ref t, rfl, rfl, hx12, small5' (by omega), ?_⟩
    refine ⟨js ++ [⟨nm, c, d, w⟩], _, _, _, _, _, rfl, ?_, hj.push ⟨c0, cd, d1, w0, w1⟩ (by rw [hjl]; exact hnm), by rw [List.length_append, hjl]; rfl⟩
    rw [List.map_append]
    refine M12.put nLp nLa fL ?_
    exact (hI.to (Tm.new nt)).push (is_job (j := ⟨nm, c, d, w⟩) (SqT.of upd_same))
  · rintro σ' H' ⟨js, y4, y5, y6, y7, y8, rfl, M, hj, hjl⟩
    obtain ⟨xs, hx, hI⟩ := M.l
    refine ⟨_, rfl, L, xs, rfl, .inl ⟨SqL.of hx, fun t nt => ?_⟩⟩
    have nt2 := M.P.ne nt
    exact q t xs js _ hj (by omega) (M.k.trans (.new nt)) (M.P.mut nt2.1 nt2.2) (M.P.free M.k nt) upd_same (hI.to (Tm.new nt))

theorem ok_law_points (B : BI mg) (F : At K mg "_law_points" s_law_points ["pool", "jobs"]) (C_law_draw : Ok P w K mg base 1 "_law_draw" ["pool", "many"] [] spDraw) : Ok P w K mg base 2 "_law_points" ["pool", "jobs"] [] (spPoints K) := by
  refine F.ok sc_law_points (fun vs H Q E h => ?_) (fun f cdv A outer s H vs Q E hr h => ?_)
  · obtain ⟨p, pa, J, xs, js, rfl, _⟩ := h
    rfl
  obtain ⟨p, pa, J, xs, js, rfl, hP, hJ, hI, hj, hjl, q⟩ := h
  refine ⟨_, (pss_cons (ps_set (i := 2) sc_law_points.nd rfl (Or.inr rfl) (pe_lst pa_nil))
      (pss_cons (ps_for PassesOwn.never rfl (pi_tup (pv 1)) (pg_name (i := 3) sc_law_points.nd rfl (Or.inl rfl))
        (pss_cons (ps_expr (pe_bm PySem.F.plainAttrs_list PySem.F.slot_list_extend PySem.F.type_list_extend mt_extend (pv 2) (pa_cons (pe_lst (pa_cons (pe_ix ix_tup (pv 3) pe_int (fun _ _ => rfl)) (pa_cons (pe_ix ix_tup (pv 3) pe_int (fun _ _ => rfl)) pa_nil))) pa_nil)))
        (pss_one (ps_if (PW.pt (pw_and (pt_cmpR op_gt (pe_op op_sub (pe_ix ix_tup (pv 3) pe_int (fun _ _ => rfl)) (pe_ix ix_tup (pv 3) pe_int (fun _ _ => rfl))) pe_int (nomark _)) (pw_and1 (pt_cmpR op_eq (pe_ok C_law_draw (hr.mono (by first | decide | exact Nat.le_refl _)) rfl (pa_cons (pv 0) (pa_cons pe_int pa_nil))) pe_int (nomark _)))))
          (pss_one (ps_expr (pe_bm PySem.F.plainAttrs_list PySem.F.slot_list_append PySem.F.type_list_append mt_append (pv 2) (pa_cons (pe_op op_add (pe_op op_add (pe_ix ix_tup (pv 3) pe_int (fun _ _ => rfl)) pe_int) (pe_ok C_law_draw (hr.mono (by first | decide | exact Nat.le_refl _)) rfl (pa_cons (pv 0) (pa_cons (pe_op op_sub (pe_op op_sub (pe_ix ix_tup (pv 3) pe_int (fun _ _ => rfl)) (pe_ix ix_tup (pv 3) pe_int (fun _ _ => rfl))) pe_int) pa_nil)))) pa_nil))))
          pss_nil))))
      (pss_one (ps_ret (pe_callB cr_sorted rfl B.sorted (by decide +kernel) (pa_cons (pe_lc (own := [("k", 4)]) (g := gName 4) (tt := _) rfl sc_law_points.nd (pi_range1 rfl B.range (pa_cons (pe_callB call_len_seq rfl B.len PySem.boot_len (pa_cons (pv 2) pa_nil)) pa_nil)) (blkOk_by (own := [("k", 4)]) (N := ["pool", "jobs", "points", "job", "k"]) (sc := defScope s_law_points) (by decide +kernel)) (fun _ _ _ _ _ => (pg_name (i := 4) sc_law_points.nd rfl (Or.inl rfl))) (fun _ _ _ _ _ => (pts_one (pt_cmpR (op_notInK (K := K) rfl) (pe_ix (ix_listK (K := K) rfl) (pv 2) (pv 4) (fun _ _ => rfl)) (pe_slice (sl_listK (K := K) rfl) (pv 2) po_none (po_some (pv 4))) rfl))) (fun _ _ _ _ _ => (pe_ix (ix_listK (K := K) rfl) (pv 2) (pv 4) (fun _ _ => rfl)))) pa_nil)))))), ?_⟩
  refine ⟨(by show 0 ≤ sizeLine; decide), fun L nL => ?_⟩
  obtain ⟨nLp, nLa⟩ := hP.ne nL
  have M1 : LM K p pa L H ([] : List PyData) (upd H L (.lst [])) := LM.new hP (.refl _ _) nL
  have lxs : xs.length = js.length := by rw [hI.len, List.length_map]
  refine ⟨_, rfl, J, rfl, ⟨_, Tm.sq (Tm.new nL) hJ⟩, for_tup (xs := xs) (fun i σ' H' => ∃ (ns : List Int) (y3 y4 : Option V), σ' = [some (.ref p), some (.ref J), some (.ref L), y3, y4] ∧ LM K p pa L H (ns.map PyData.int) H' ∧ (∀ j ∈ js.take i, j.c ∈ ns ∧ j.d ∈ ns) ∧ (∀ x ∈ ns, ∃ j ∈ js, j.c ≤ x ∧ x ≤ j.d) ∧ ns.length ≤ 3 * i) ?_ ?_ ?_ ?_⟩
  · exact ⟨[], none, none, rfl, M1, fun _ h => (nomatch h), fun _ h => (nomatch h), Nat.le_refl _⟩
  · rintro i σ' H' hi ⟨ns, y3, y4, rfl, M, _⟩
    exact Tm.sq (hP.tm M.k) hJ
  · rintro i v σ' H' hv ⟨ns, y3, y4, rfl, M, h1, h2, h3⟩
    have hil : i < xs.length := (List.getElem?_eq_some_iff.mp hv).1
    obtain ⟨d, hd, iv⟩ := hI.at hv
    obtain ⟨j, hj0, rfl⟩ := getJ hd
    have jm : j ∈ js := List.mem_of_getElem? hj0
    have oj := hj j jm
    have iv' := iv.to (hP.tm M.k)
    obtain ⟨t, rfl, st⟩ := job_at iv'
    obtain ⟨zs, hz, hzI⟩ := M.l
    obtain rfl := isA_ints hzI
    refine ⟨_, rfl, .inl ⟨rfl, _, SqL.of hz⟩, _, rfl, t, _, 1, _, rfl, rfl, st, rfl, _, rfl, t, _, 2, _, rfl, rfl, st, rfl, (by show 2 ≤ sizeLine; decide), fun b nb => ?_⟩
    have M2 := M.same (same_upd (o := .lst [V.int j.c, V.int j.d]) nb)
    have hz2 : (upd H' b (.lst [V.int j.c, V.int j.d])) L = some (.lst (ns.map V.int)) := same_upd nb _ _ hz
    refine ⟨L, b, _, _, rfl, rfl, hz2, upd_same, small5 (by rw [List.length_map]; show ns.length + 2 ≤ 100000; omega), ?_⟩
    have M3 : LM K p pa L H ((ns ++ [j.c, j.d]).map PyData.int) (upd (upd H' b (.lst [V.int j.c, V.int j.d])) L (.lst (ns.map V.int ++ [V.int j.c, V.int j.d]))) := by
      refine M2.put nLp nLa nL ?_
      rw [List.map_append]
      exact (ints_isA ns).append (ints_isA [j.c, j.d])
    have st3 : SqT K (upd (upd H' b (.lst [V.int j.c, V.int j.d])) L (.lst (ns.map V.int ++ [V.int j.c, V.int j.d]))) t [.str j.n, .int j.c, .int j.d, .int j.w] := Tm.sq ((Tm.new nb).trans (Tm.lst hz2)) st
    have g1 : ∀ j' ∈ js.take (i + 1), j'.c ∈ ns ++ [j.c, j.d] ∧ j'.d ∈ ns ++ [j.c, j.d] := fun j' hj' => by
      rw [List.take_add_one, hj0] at hj'
      rcases List.mem_append.mp hj' with z | z
      · exact ⟨List.mem_append_left _ (h1 j' z).1, List.mem_append_left _ (h1 j' z).2⟩
      · have z2 : j' = j := by simpa using z
        rw [z2]
        simp
    have g2 : ∀ x ∈ ns ++ [j.c, j.d], ∃ j ∈ js, j.c ≤ x ∧ x ≤ j.d := fun x hx => by
      have := oj.cd
      rcases List.mem_append.mp hx with z | z
      · exact h2 x z
      · have : x = j.c ∨ x = j.d := by simpa using z
        exact ⟨j, jm, by omega, by omega⟩
    have g3 : (ns ++ [j.c, j.d]).length ≤ 3 * i + 2 := by rw [List.length_append]; show ns.length + 2 ≤ _; omega
    refine ⟨_, rfl, t, _, 2, _, rfl, rfl, st3, rfl, _, rfl, t, _, 1, _, rfl, rfl, st3, rfl, _, _, rfl, rfl, _, _, rfl, rfl, _, rfl, ite2 (fun e => ?_) (fun e => iteF ⟨_, _, _, rfl, M3, g1, g2, by omega⟩)⟩
    have e1 : 1 < j.d - j.c := of_decide_eq_true e
    refine ⟨_, rfl, p, pa, 2, rfl, M3.P, by decide, by decide, fun r4 H4 r40 r41 k4 P4 => ?_⟩
    have M4 := M3.step nLp k4 P4
    have st4 := Tm.sq (M3.P.tm k4) st3
    refine ⟨rfl, _, rfl, ite2 (fun e => ?_) (fun e => ⟨_, _, _, rfl, M4, g1, g2, by omega⟩)⟩
    obtain ⟨zs, hz4, hzI4⟩ := M4.l
    obtain rfl := isA_ints hzI4
    have := oj.c0
    have := oj.d1
    refine ⟨_, rfl, .inl ⟨rfl, _, SqL.of hz4⟩, _, rfl, t, _, 1, _, rfl, rfl, st4, rfl, _, _, rfl, rfl, _, rfl, _, rfl, t, _, 2, _, rfl, rfl, st4, rfl, _, rfl, t, _, 1, _, rfl, rfl, st4, rfl, _, _, rfl, rfl, _, _, rfl, rfl, p, pa, j.d - j.c - 1, rfl, P4, by omega, by omega, fun r5 H5 r50 r51 k5 P5 => ?_⟩
    have M5 := M4.step nLp k5 P5
    have hz5 := k5 _ _ nLp hz4
    refine ⟨_, _, rfl, rfl, L, _, _, rfl, rfl, hz5, small5' (by rw [List.length_map]; omega), ?_⟩
    refine ⟨ns ++ [j.c, j.d] ++ [j.c + 1 + r5], _, _, rfl, ?_, fun j' hj' => ⟨List.mem_append_left _ (g1 j' hj').1, List.mem_append_left _ (g1 j' hj').2⟩, fun x hx => ?_, by rw [List.length_append]; show (ns ++ [j.c, j.d]).length + 1 ≤ _; omega⟩
    · refine M5.put nLp nLa nL ?_
      have e5 : (ns ++ [j.c, j.d] ++ [j.c + 1 + r5]).map PyData.int = (ns ++ [j.c, j.d]).map PyData.int ++ [PyData.int (j.c + 1 + r5)] := List.map_append
      rw [e5]
      exact (ints_isA _).push (.int _)
    · rcases List.mem_append.mp hx with z | z
      · exact g2 x z
      · rw [List.mem_singleton.mp z]
        exact ⟨j, jm, by omega, by omega⟩
  · rintro σ' H' ⟨ns, y3, y4, rfl, M, h1, h2, h3⟩
    rw [lxs, List.take_length] at h1
    obtain ⟨zs, hz, hzI⟩ := M.l
    obtain rfl := isA_ints hzI
    have hnl : ns.length ≤ 57 := by omega
    refine ⟨_, rfl, L, _, rfl, .inl (SqL.of hz), _, rfl, by omega, by rw [List.length_map]; omega, fun D hD => ?_⟩
    have hn0 : ((ns.map V.int).length : Int).toNat = ns.length := by rw [List.length_map]; omega
    refine lc_range (lo := 0) (fun i H2 => Same H' H2 ∧ ∃ ms : List Int, H2 D = some (.lst (ms.map V.int)) ∧ ms.Nodup ∧ (∀ x, x ∈ ms ↔ x ∈ ns.take i) ∧ ms.length ≤ i) ⟨same_upd hD, [], upd_same, List.nodup_nil, fun x => by simp, Nat.le_refl _⟩ ?_ ?_
    · rintro i H2 hi ⟨sm, ms, hms, nd, mem, lms⟩
      have hi2 : i < ns.length := by omega
      have hz2 := sm _ _ hz
      have gi : (ns.map V.int)[i]? = some (.int ns[i]) := by
        rw [List.getElem?_map, List.getElem?_eq_getElem hi2]
        rfl
      have ga : atI (ns.map V.int) (0 + (i : Int)) = some (.int ns[i]) := at_of (by omega) gi
      refine ⟨rfl, _, rfl, _, rfl, L, _, _, _, rfl, rfl, SqL.of hz2, ga, _, rfl, _, rfl, _, rfl, L, _, rfl, SqL.of hz2, fun b nb => ?_⟩
      have eb : cutV (ns.map V.int) none (some (0 + (i : Int))) = (ns.take i).map V.int := by
        rw [Int.zero_add, cut_take, List.map_take]
      rw [eb]
      have sm3 : Same H' (upd H2 b (.lst ((ns.take i).map V.int))) := sm.trans (same_upd nb)
      refine ⟨b, _, rfl, .inl (SqL.of upd_same), rfl, flat_ints _, _, rfl, ?_⟩
      rw [inV_int]
      refine ite2 (fun e => ?_) (fun e => ?_)
      · have e1 : ns[i] ∉ ns.take i := fun z => by
          rw [decide_eq_true z] at e
          exact absurd e (by decide)
        refine ⟨_, rfl, _, rfl, L, _, _, _, rfl, rfl, SqL.of (sm3 _ _ hz), ga, ms.map V.int, ?_, ?_, ?_, ms ++ [ns[i]], ?_, ?_, ?_, ?_⟩
        · exact same_upd nb _ _ hms
        · rw [List.length_map]; exact small5' (by omega)
        · exact Z.Same.mut sm3 hD
        · rw [upd_same, List.map_append]; rfl
        · rw [List.nodup_append]
          refine ⟨nd, List.pairwise_singleton _ _, fun a ha b hb => ?_⟩
          rw [List.mem_singleton.mp hb]
          rintro rfl
          exact e1 ((mem _).mp ha)
        · intro x
          rw [List.take_add_one, List.getElem?_eq_getElem hi2, List.mem_append, List.mem_append, mem]
          rfl
        · rw [List.length_append]; exact Nat.succ_le_succ lms
      · have e1 : ns[i] ∈ ns.take i := by
          by_cases z : ns[i] ∈ ns.take i
          · exact z
          · rw [decide_eq_false z] at e
            exact absurd rfl e
        refine ⟨sm3, ms, same_upd nb _ _ hms, nd, fun x => ?_, by omega⟩
        rw [List.take_add_one, List.getElem?_eq_getElem hi2, List.mem_append, mem]
        refine ⟨.inl, fun z => ?_⟩
        rcases z with z | z
        · exact z
        · have z2 : x = ns[i] := by simpa using z
          rw [z2]
          exact e1
    · rintro H2 ⟨sm, ms, hms, nd, mem, lms⟩
      rw [hn0, List.take_length] at mem
      refine ⟨D, ms, rfl, SqL.of hms, by omega, fun ps l perm pw nl => ?_⟩
      have P2 := M.P.same sm
      have nl2 := P2.ne nl
      have pm : ∀ x, x ∈ ps ↔ x ∈ ns := fun x => perm.mem_iff.trans (mem x)
      refine q l ps _ ⟨pw_lt pw (perm.nodup_iff.mpr nd), fun j hj => ⟨(pm _).mpr (h1 j hj).1, (pm _).mpr (h1 j hj).2⟩, fun x hx => h2 x ((pm x).mp hx), ?_⟩ ((M.k.trans (.of sm)).trans (.new nl)) (P2.mut nl2.1 nl2.2) (P2.free (M.k.trans (.of sm)) nl) upd_same
      rw [perm.length_eq]
      omega

theorem ok_law_shares (B : BI mg) (F : At K mg "_law_shares" s_law_shares ["pool", "job", "slots"]) (C_law_draw : Ok P w K mg base 1 "_law_draw" ["pool", "many"] [] spDraw) (C_law_ratio : Ok P w K mg base 2 "_law_ratio" ["top", "bottom"] [] (spRat K)) :
    Ok P w K mg base 3 "_law_shares" ["pool", "job", "slots"] [] (spShares K) := by
  refine F.ok sc_law_shares (fun vs H Q E h => ?_) (fun f cdv A outer s H vs Q E hr h => ?_)
  · obtain ⟨p, pa, S, v, sx, j, sl, rfl, _⟩ := h
    rfl
  obtain ⟨p, pa, S, v, sx, j, sl, rfl, hP, hv, oj, hS, nS, hI, hl, ⟨s0, hs0, ms0⟩, q⟩ := h
  refine ⟨_, (pss_cons (ps_setLc (i := 3) (own := [("k", 6)]) (g := gName 6) (tt := _) rfl sc_law_shares.nd rfl rfl (sw_true rfl rfl rfl (by decide +kernel)) (pi_range1 rfl B.range (pa_cons (pe_callB call_len_seq rfl B.len PySem.boot_len (pa_cons (pv 2) pa_nil)) pa_nil)) (blkOk_by (own := [("k", 6)]) (N := ["pool", "job", "slots", "own", "weights", "found", "k", "slot"]) (sc := defScope s_law_shares) (by decide +kernel)) (fun _ _ _ _ _ => (pg_name (i := 6) sc_law_shares.nd rfl (Or.inl rfl))) (fun _ _ _ _ _ => (pts_one (PW.pt (pw_and (pt_cmpR op_le (pe_ix (ix_tupK (K := K) rfl) (pv 1) pe_int (fun _ _ => rfl)) (pe_ix (ix_tupK (K := K) rfl) (pe_ix (ix_listK (K := K) rfl) (pv 2) (pv 6) (fun _ _ => rfl)) pe_int (fun _ _ => rfl)) (nomark _)) (pw_and1 (pt_cmpR op_le (pe_ix (ix_tupK (K := K) rfl) (pe_ix (ix_listK (K := K) rfl) (pv 2) (pv 6) (fun _ _ => rfl)) pe_int (fun _ _ => rfl)) (pe_ix (ix_tupK (K := K) rfl) (pv 1) pe_int (fun _ _ => rfl)) (nomark _))))))) (fun _ _ _ _ _ => (pv 6)))
      (pss_cons (ps_setLc (i := 4) (own := [("k", 6)]) (g := gName 6) (tt := tYes) rfl sc_law_shares.nd rfl rfl (sw_true rfl rfl rfl (by decide +kernel)) (pi_list (pv 3)) (blkOk_by (own := [("k", 6)]) (N := ["pool", "job", "slots", "own", "weights", "found", "k", "slot"]) (sc := defScope s_law_shares) (by decide +kernel)) (fun _ _ _ _ _ => (pg_name (i := 6) sc_law_shares.nd rfl (Or.inl rfl))) (fun _ _ _ _ _ => pts_nil) (fun _ _ _ _ _ => (pe_ok C_law_draw (hr.mono (by first | decide | exact Nat.le_refl _)) rfl (pa_cons (pv 0) (pa_cons pe_int pa_nil)))))
      (Evl.pss_cut (ps_if (pt_cmpR op_eq (pe_callB (cr_sum rfl) rfl B.sum (by decide +kernel) (pa_cons (pv 4) pa_nil)) pe_int (nomark _))
        (pss_one (ps_asg pe_int (pg_sub (pv 4) (pe_ok C_law_draw (hr.mono (by first | decide | exact Nat.le_refl _)) rfl (pa_cons (pv 0) (pa_cons (pe_callB call_len_seq rfl B.len PySem.boot_len (pa_cons (pv 3) pa_nil)) pa_nil))) set_list)))
        pss_nil)
      (pss_cons (ps_setLc (i := 5) (own := [("slot", 7)]) (g := gName 7) (tt := tYes) rfl sc_law_shares.nd rfl rfl (sw_true rfl rfl rfl (by decide +kernel)) (pi_list (pv 2)) (blkOk_by (own := [("slot", 7)]) (N := ["pool", "job", "slots", "own", "weights", "found", "k", "slot"]) (sc := defScope s_law_shares) (by decide +kernel)) (fun _ _ _ _ _ => (pg_name (i := 7) sc_law_shares.nd rfl (Or.inl rfl))) (fun _ _ _ _ _ => pts_nil) (fun _ _ _ _ _ => (pe_tup (pa_cons pe_int (pa_cons pe_int pa_nil)))))
      (pss_cons (ps_for PassesOwn.never rfl (pi_range1 rfl B.range (pa_cons (pe_callB call_len_seq rfl B.len PySem.boot_len (pa_cons (pv 3) pa_nil)) pa_nil)) (pg_name (i := 6) sc_law_shares.nd rfl (Or.inl rfl))
        (pss_one (ps_asg (pe_ok C_law_ratio (hr.mono (by first | decide | exact Nat.le_refl _)) rfl (pa_cons (pe_op op_mulX (pe_ix ix_tup (pv 1) pe_int (fun _ _ => rfl)) (pe_ix ix_list (pv 4) (pv 6) (fun _ _ => rfl))) (pa_cons (pe_callB (cr_sum rfl) rfl B.sum (by decide +kernel) (pa_cons (pv 4) pa_nil)) pa_nil))) (pg_sub (pv 5) (pe_ix ix_list (pv 3) (pv 6) (fun _ _ => rfl)) set_list))))
      (pss_one (ps_ret (pv 5)))))))), ?_⟩
  obtain ⟨t, rfl, st⟩ := job_at hv
  have lsx : sx.length = sl.length := by rw [hI.len, List.length_map]
  have hn0 : ((sx.length : Nat) : Int).toNat = sl.length := by rw [lsx]; omega
  -- own
  refine ⟨_, rfl, S, sx, rfl, .inl (SqL.of hS), _, rfl, by omega, by omega, fun O hO => ?_⟩
  have nO := hP.ne hO
  refine lc_range (lo := 0) (fun i H2 => Same H H2 ∧ H2 O = some (.lst ((owns j sl i).map vN))) ⟨same_upd hO, upd_same⟩ ?_ ?_
  · rintro i H2 hi ⟨sm, h2⟩
    have hi2 : i < sl.length := by omega
    obtain ⟨ta, ga, sa⟩ := is_slots hI hi2
    have sa2 := Tm.sq (Same.tm sm) sa
    have st2 := Tm.sq (Same.tm sm) st
    have gat : atI sx (0 + (i : Int)) = some (.ref ta) := at_of (by omega) ga
    refine ⟨rfl, _, rfl, t, _, 1, _, rfl, rfl, st2, rfl, _, rfl, _, rfl, S, _, _, _, rfl, rfl, SqL.of (sm _ _ hS), gat, ta, _, 0, _, rfl, rfl, sa2, rfl, _, _, rfl, rfl, _, rfl, ite2 (fun e => ?_) (fun e => iteF ?_)⟩
    · refine ⟨_, rfl, _, rfl, S, _, _, _, rfl, rfl, SqL.of (sm _ _ hS), gat, ta, _, 1, _, rfl, rfl, sa2, rfl, _, rfl, t, _, 2, _, rfl, rfl, st2, rfl, _, _, rfl, rfl, _, rfl, ite2 (fun e2 => ?_) (fun e2 => ?_)⟩
      · have hm : mine j (sl.getD i (0, 0)) = true := by
          unfold mine
          rw [Bool.and_eq_true]
          exact ⟨e, e2⟩
        refine ⟨_, rfl, _, h2, small5' (by rw [List.length_map]; have := owns_len j sl i; omega), Z.Same.mut sm hO, ?_⟩
        rw [upd_same, owns_yes hm, List.map_append]
        show some (HO.lst (_ ++ [V.int (0 + (i : Int))])) = _
        rw [Int.zero_add]
        rfl
      · refine ⟨sm, ?_⟩
        rw [owns_no]
        · exact h2
        · unfold mine
          have : decide ((sl.getD i (0, 0)).2 ≤ j.d) = false := Bool.eq_false_iff.mpr e2
          rw [this, Bool.and_false]
    · refine ⟨sm, ?_⟩
      rw [owns_no]
      · exact h2
      · unfold mine
        have : decide (j.c ≤ (sl.getD i (0, 0)).1) = false := Bool.eq_false_iff.mpr e
        rw [this, Bool.false_and]
  rw [hn0]
  rintro H3 ⟨s3, h3⟩
  generalize hos : owns j sl sl.length = os at h3
  have olen : os.length ≤ sl.length := by rw [← hos]; exact owns_len ..
  have ond : os.Nodup := by rw [← hos]; exact owns_nodup ..
  have omem : ∀ k ∈ os, k < sl.length ∧ mine j (sl.getD k (0, 0)) = true := fun k hk => by rw [← hos] at hk; exact owns_mem.mp hk
  have opos : 0 < os.length := by
    obtain ⟨k, hk⟩ := List.getElem?_of_mem hs0
    have hk2 := (List.getElem?_eq_some_iff.mp hk).1
    have : k ∈ os := by rw [← hos]; exact owns_mem.mpr ⟨hk2, by rw [getD_at hk]; exact ms0⟩
    exact List.length_pos_of_mem this
  have P3 := hP.same s3
  -- weights
  refine ⟨_, rfl, O, rfl, ⟨_, SqL.of h3⟩, fun W hW => ?_⟩
  have nW := P3.ne hW
  have nOW : W ≠ O := fun e => by rw [e, h3] at hW; cases hW
  refine lc_list (xs := os.map vN) (fun i H4 => Kp p H3 H4 ∧ Pl p pa H4 ∧ ∃ ws : List Int, H4 W = some (.lst (ws.map V.int)) ∧ ws.length = i ∧ ∀ w ∈ ws, 0 ≤ w ∧ w ≤ 3) ⟨.new hW, P3.same (same_upd hW), [], upd_same, rfl, fun _ h => (nomatch h)⟩ (fun i H4 _ h => SqL.of (h.1 _ _ nO.1 h3)) ?_ ?_
  · rintro i x H4 hx ⟨k4, P4, ws, h4, wl, wb⟩
    have hil : i < (os.map vN).length := (List.getElem?_eq_some_iff.mp hx).1
    rw [List.length_map] at hil
    refine ⟨rfl, _, rfl, p, pa, 4, rfl, P4, by decide, by decide, fun r H5 r0 r1 k5 P5 => ?_⟩
    refine ⟨_, k5 _ _ nW.1 h4, small5' (by rw [List.length_map]; omega), Kp.mut (k4.trans k5) hW, P5.mut nW.1 nW.2, ws ++ [r], ?_, by rw [List.length_append, wl]; rfl, fun w hw => ?_⟩
    · rw [upd_same, List.map_append]; rfl
    · rcases List.mem_append.mp hw with z | z
      · exact wb w z
      · rw [List.mem_singleton.mp z]
        omega
  rintro H4 ⟨k4, P4, ws, h4, wl, wb⟩
  rw [List.length_map] at wl
  have kO : Kp p H H4 := (Kp.of s3).trans k4
  have h4O := k4 _ _ nO.1 h3
  -- the weights are not all 0
  refine ⟨fun σ5 H5 => σ5 = [some (.ref p), some (.ref t), some (.ref S), some (.ref O), some (.ref W), none, none, none] ∧ Kp p H H5 ∧ Pl p pa H5 ∧ H5 O = some (.lst (os.map vN)) ∧ ∃ ws : List Int, H5 W = some (.lst (ws.map V.int)) ∧ ws.length = os.length ∧ (∀ w ∈ ws, 0 ≤ w ∧ w ≤ 3) ∧ 0 < ws.sum, ?_, ?_⟩
  · refine ⟨_, rfl, W, ws, rfl, SqL.of h4, rfl, _, rfl, ite2 (fun e => ?_) (fun e => ?_)⟩
    · have e1 : ws.sum = 0 := V.int.inj (of_decide_eq_true e)
      refine ⟨_, rfl, _, rfl, _, rfl, O, _, rfl, .inl (SqL.of h4O), p, pa, _, rfl, P4, by rw [List.length_map]; omega, by rw [List.length_map]; omega, fun r H5 r0 r1 k5 P5 => ?_⟩
      rw [List.length_map] at r1
      have h5 := k5 _ _ nW.1 h4
      have hr : r.toNat < ws.length := by omega
      refine ⟨W, _, r, r.toNat, rfl, rfl, h5, ?_, ?_⟩
      · exact ixN_of r0 (by rw [List.length_map]; omega)
      · refine ⟨rfl, Kp.mut (kO.trans k5) (s3.free hW), P5.mut nW.1 nW.2, ?_, ws.set r.toNat 1, ?_, ?_, ?_, ?_⟩
        · rw [upd_ne nOW.symm]
          exact k5 _ _ nO.1 h4O
        · rw [upd_same, List.map_set]
        · rw [List.length_set]; exact wl
        · intro w hw
          rcases List.mem_or_eq_of_mem_set hw with z | z
          · exact wb w z
          · omega
        · have g := List.getElem?_eq_getElem hr
          have z := le_sum (fun w hw => (wb w hw).1) (List.getElem_mem hr)
          rw [sum_set g, e1]
          rw [e1] at z
          omega
    · have n := sum_nonneg (fun w hw => (wb w hw).1)
      have e1 : ws.sum ≠ 0 := fun z => e (decide_eq_true (by rw [z]))
      exact ⟨rfl, kO, P4, h4O, ws, h4, wl, wb, by omega⟩
  rintro σ5 H5 ⟨rfl, k5, P5, h5O, ws, h5, wl, wb, wpos⟩
  have h5S := k5 _ _ nS hS
  -- found
  refine ⟨_, rfl, S, rfl, ⟨_, SqL.of h5S⟩, fun D hD => ?_⟩
  have nD := P5.ne hD
  refine lc_list (xs := sx) (fun i H6 => Same H5 H6 ∧ ∃ xs, H6 D = some (.lst xs) ∧ IsA K H6 xs ((List.replicate i (0 : Rat)).map rat2)) ⟨same_upd hD, [], upd_same, .nil⟩ (fun i H6 _ h => h.1.seq (SqL.of h5S)) ?_ ?_
  · rintro i x H6 hx ⟨s6, xs, h6, i6⟩
    have hil : i < sx.length := (List.getElem?_eq_some_iff.mp hx).1
    refine ⟨rfl, (by show 2 ≤ sizeLine; decide), fun z nz => ⟨xs, same_upd nz _ _ h6, ?_, ?_⟩⟩
    · have := i6.len
      rw [List.length_map, List.length_replicate] at this
      exact small5' (by omega)
    · have s7 := s6.trans (same_upd (o := .tup [V.int 0, V.int 1]) nz)
      refine ⟨Z.Same.mut s7 hD, _, upd_same, ?_⟩
      rw [List.replicate_succ', List.map_append]
      exact ((i6.to (Tm.new nz)).push (is_zero (SqT.of upd_same))).to (Tm.lst (same_upd nz _ _ h6))
  rintro H6 ⟨s6, xs6, h6, i6⟩
  rw [lsx] at i6
  -- the shares
  have W200 : ws.sum ≤ 200 := by
    have := sum_le3 (fun w hw => (wb w hw).2)
    omega
  refine ⟨_, rfl, O, _, rfl, .inl (SqL.of (s6 _ _ h5O)), _, rfl, by omega, by rw [List.length_map]; omega, for_range (lo := 0) (fun i σ' H' => ∃ (y6 : Option V) (xs : List V) (fs : List Rat), σ' = [some (.ref p), some (.ref t), some (.ref S), some (.ref O), some (.ref W), some (.ref D), y6, none] ∧ ShMid j sl os ws ws.sum i fs ∧ Kp p H5 H' ∧ Pl p pa H' ∧ H' D = some (.lst xs) ∧ IsA K H' xs (fs.map rat2)) ?_ ?_ ?_⟩
  · exact ⟨_, xs6, List.replicate sl.length 0, rfl, ShMid.zero fun x hx => (omem x hx).1, .of s6, P5.same s6, h6, i6⟩
  · rintro i σ' H' hi ⟨y6, xs, fs, rfl, hm, k7, P7, h7, i7⟩
    have hi2 : i < os.length := by rw [List.length_map] at hi; omega
    have hiw : i < ws.length := by omega
    have st7 := Tm.sq ((hP.tm (k5.trans k7))) st
    have h7W := k7 _ _ nW.1 h5
    have h7O := k7 _ _ nO.1 h5O
    have gw : ws[i]? = some ws[i] := List.getElem?_eq_getElem hiw
    have go : os[i]? = some os[i] := List.getElem?_eq_getElem hi2
    have bw := wb _ (List.getElem_mem hiw)
    have bo := omem _ (List.getElem_mem hi2)
    have w0 := oj.w0
    have w1 := oj.w1
    have bj : (j.w * ws[i]).natAbs ≤ 30000 := by
      rw [Int.natAbs_mul]
      have : j.w.natAbs * (ws[i]).natAbs ≤ 10000 * 3 := Nat.mul_le_mul (by omega) (by omega)
      omega
    refine ⟨_, rfl, t, _, 3, _, rfl, rfl, st7, rfl, _, rfl, _, rfl, W, _, _, .int ws[i], rfl, rfl, SqL.of h7W, at_of (j := i) (by omega) (by rw [List.getElem?_map, gw]; rfl), _, _, rfl, rfl, mulL ⟨by omega, by omega⟩, _, rfl, W, ws, rfl, SqL.of h7W, _, _, rfl, by omega, bigK (by omega), bigK (by omega), fun v H8 s8 i8 => ?_⟩
    have h8 := s8 _ _ h7
    have lx : xs.length = sl.length := by rw [i7.len, List.length_map, hm.len]
    refine ⟨_, rfl, _, rfl, _, rfl, O, _, _, .int (os[i] : Nat), rfl, rfl, SqL.of (s8 _ _ h7O), at_of (j := i) (by omega) (by rw [List.getElem?_map, go]; rfl), D, _, _, os[i], rfl, rfl, h8, ?_, ?_⟩
    · have z := ixN_of (n := xs.length) (i := ((os[i] : Nat) : Int)) (by omega) (by omega)
      exact z
    · refine ⟨_, _, _, rfl, hm.next oj ond go gw bw.1 bw.2 wpos ?_, Kp.mut (k7.trans (.of s8)) hD, (P7.same s8).mut nD.1 nD.2, upd_same, ?_⟩
      · intro s hs
        have := bo.2
        rw [getD_at hs] at this
        exact this
      · rw [List.map_set]
        exact (IsA.set i8 _ (i7.to (Same.tm s8))).to (Tm.lst h8)
  · rintro σ' H' ⟨y6, xs, fs, rfl, hm, k7, P7, h7, i7⟩
    have e : ((os.map vN).length : Int).toNat = ws.length := by rw [List.length_map]; omega
    rw [e] at hm
    have nDH : H D = none := P5.free k5 hD
    exact ⟨_, rfl, q D xs fs H' (hm.done wpos W200 rfl) (k5.trans k7) P7 nDH h7 i7⟩

theorem ok_law_rival (B : BI mg) (F : At K mg "_law_rival" s_law_rival ["pool", "jobs"]) (C_law_draw : Ok P w K mg base 1 "_law_draw" ["pool", "many"] [] spDraw) (C_law_ratio : Ok P w K mg base 2 "_law_ratio" ["top", "bottom"] [] (spRat K))
    (C_law_points : Ok P w K mg base 2 "_law_points" ["pool", "jobs"] [] (spPoints K)) (C_law_shares : Ok P w K mg base 3 "_law_shares" ["pool", "job", "slots"] [] (spShares K)) (C_law_sum : Ok P w K mg base 4 "_law_sum" ["rows"] [] (spSumL K))
    (C_law_plus : Ok P w K mg base 3 "_law_plus" ["a", "b"] [] (spBin K (fun p q => p + q))) (C_law_over : Ok P w K mg base 3 "_law_over" ["a", "b"] [] (spBinQ K)) : Ok P w K mg base 5 "_law_rival" ["pool", "jobs"] [] (spRival K) := by
  refine F.ok sc_law_rival (fun vs H Q E h => ?_) (fun f cdv A outer s H vs Q E hr h => ?_)
  · obtain ⟨p, pa, J, xs, js, rfl, _⟩ := h
    rfl
  obtain ⟨p, pa, J, jx, js, rfl, hP, hJ, hI, hj, hjl, q⟩ := h
  refine ⟨_, (pss_cons (ps_set (i := 2) sc_law_rival.nd rfl (Or.inr rfl) (pe_ok C_law_points (hr.mono (by first | decide | exact Nat.le_refl _)) rfl (pa_cons (pv 0) (pa_cons (pv 1) pa_nil))))
      (pss_cons (ps_set (i := 3) sc_law_rival.nd rfl (Or.inr rfl) (pe_lc (own := [("k", 6)]) (g := gName 6) (tt := tYes) rfl sc_law_rival.nd (pi_range1 rfl B.range (pa_cons (pe_op op_sub (pe_callB call_len_seq rfl B.len PySem.boot_len (pa_cons (pv 2) pa_nil)) pe_int) pa_nil)) (blkOk_by (own := [("k", 6)]) (N := ["pool", "jobs", "points", "slots", "rows", "pieces", "k", "low", "high", "load", "speed", "now", "shift", "j", "at", "stop", "job", "row"]) (sc := defScope s_law_rival) (by decide +kernel)) (fun _ _ _ _ _ => (pg_name (i := 6) sc_law_rival.nd rfl (Or.inl rfl))) (fun _ _ _ _ _ => pts_nil) (fun _ _ _ _ _ => (pe_tup (pa_cons (pe_ix (ix_listK (K := K) rfl) (pv 2) (pv 6) (fun _ _ => rfl)) (pa_cons (pe_ix (ix_listK (K := K) rfl) (pv 2) (pe_op op_add (pv 6) pe_int) (fun _ _ => rfl)) pa_nil))))))
      (pss_cons (ps_setLc (i := 4) (own := [("job", 16)]) (g := gName 16) (tt := tYes) rfl sc_law_rival.nd rfl rfl (sw_true rfl rfl rfl (by decide +kernel)) (pi_tup (pv 1)) (blkOk_by (own := [("job", 16)]) (N := ["pool", "jobs", "points", "slots", "rows", "pieces", "k", "low", "high", "load", "speed", "now", "shift", "j", "at", "stop", "job", "row"]) (sc := defScope s_law_rival) (by decide +kernel)) (fun _ _ _ _ _ => (pg_name (i := 16) sc_law_rival.nd rfl (Or.inl rfl))) (fun _ _ _ _ _ => pts_nil) (fun _ _ _ _ _ => (pe_ok C_law_shares (hr.mono (by first | decide | exact Nat.le_refl _)) rfl (pa_cons (pv 0) (pa_cons (pv 16) (pa_cons (pv 3) pa_nil))))))
      (pss_cons (ps_set (i := 5) sc_law_rival.nd rfl (Or.inl rfl) (pe_lst pa_nil))
      (pss_cons (ps_for PassesOwn.never rfl (pi_range1 rfl B.range (pa_cons (pe_callB call_len_seq rfl B.len PySem.boot_len (pa_cons (pv 3) pa_nil)) pa_nil)) (pg_name (i := 6) sc_law_rival.nd rfl (Or.inr rfl))
        (pss_cons (ps_asg (pe_ix ix_list (pv 3) (pv 6) (fun _ _ => rfl)) (pg_tup rfl (pgs_cons (pg_name (i := 7) sc_law_rival.nd rfl (Or.inl rfl)) (pgs_cons (pg_name (i := 8) sc_law_rival.nd rfl (Or.inl rfl)) pgs_nil))))
        (pss_cons (ps_set (i := 9) sc_law_rival.nd rfl (Or.inl rfl) (pe_ok C_law_sum (hr.mono (by first | decide | exact Nat.le_refl _)) rfl (pa_cons (pe_lc (own := [("row", 17)]) (g := gName 17) (tt := tYes) rfl sc_law_rival.nd (pi_list (pv 4)) (blkOk_by (own := [("row", 17)]) (N := ["pool", "jobs", "points", "slots", "rows", "pieces", "k", "low", "high", "load", "speed", "now", "shift", "j", "at", "stop", "job", "row"]) (sc := defScope s_law_rival) (by decide +kernel)) (fun _ _ _ _ _ => (pg_name (i := 17) sc_law_rival.nd rfl (Or.inl rfl))) (fun _ _ _ _ _ => pts_nil) (fun _ _ _ _ _ => (pe_ix (ix_listK (K := K) rfl) (pv 17) (pv 6) (fun _ _ => rfl)))) pa_nil)))
        (pss_cons (ps_set (i := 10) sc_law_rival.nd rfl (Or.inl rfl) (pe_ok C_law_ratio (hr.mono (by first | decide | exact Nat.le_refl _)) rfl (pa_cons (pe_ix ix_tup (pv 9) pe_int (fun _ _ => rfl)) (pa_cons (pe_op op_mulX (pe_ix ix_tup (pv 9) pe_int (fun _ _ => rfl)) (pe_op op_sub (pv 8) (pv 7))) pa_nil))))
        (pss_cons (ps_set (i := 11) sc_law_rival.nd rfl (Or.inl rfl) (pe_tup (pa_cons (pv 7) (pa_cons pe_int pa_nil))))
        (pss_cons (ps_set (i := 12) sc_law_rival.nd rfl (Or.inl rfl) (pe_ok C_law_draw (hr.mono (by first | decide | exact Nat.le_refl _)) rfl (pa_cons (pv 0) (pa_cons (pe_callB call_len_seq rfl B.len PySem.boot_len (pa_cons (pv 1) pa_nil)) pa_nil))))
        (pss_one (ps_for PassesOwn.never rfl (pi_range1 rfl B.range (pa_cons (pe_callB call_len_seq rfl B.len PySem.boot_len (pa_cons (pv 1) pa_nil)) pa_nil)) (pg_name (i := 13) sc_law_rival.nd rfl (Or.inl rfl))
          (pss_cons (ps_set (i := 14) sc_law_rival.nd rfl (Or.inl rfl) (pe_op op_modN (pe_callTy call_int1 rfl B.int (by decide +kernel) (pa_cons (pe_op op_add (pv 13) (pv 12)) pa_nil)) (pe_callB call_len_seq rfl B.len PySem.boot_len (pa_cons (pv 1) pa_nil))))
          (pss_one (ps_if (pt_cmpR op_gt (pe_ix ix_tup (pe_ix ix_list (pe_ix ix_list (pv 4) (pv 14) (fun _ _ => rfl)) (pv 6) (fun _ _ => rfl)) pe_int (fun _ _ => rfl)) pe_int (nomark _))
            (pss_cons (ps_set (i := 15) sc_law_rival.nd rfl (Or.inl rfl) (pe_ok C_law_plus (hr.mono (by first | decide | exact Nat.le_refl _)) rfl (pa_cons (pv 11) (pa_cons (pe_ok C_law_over (hr.mono (by first | decide | exact Nat.le_refl _)) rfl (pa_cons (pe_ix ix_list (pe_ix ix_list (pv 4) (pv 14) (fun _ _ => rfl)) (pv 6) (fun _ _ => rfl)) (pa_cons (pv 10) pa_nil))) pa_nil))))
            (pss_cons (ps_expr (pe_bm PySem.F.plainAttrs_list PySem.F.slot_list_append PySem.F.type_list_append mt_append (pv 5) (pa_cons (pe_tup (pa_cons (pv 11) (pa_cons (pv 15) (pa_cons (pe_ix ix_tup (pe_ix ix_tup (pv 1) (pv 14) (fun _ _ => rfl)) pe_int (fun _ _ => rfl)) (pa_cons (pv 10) pa_nil))))) pa_nil)))
            (pss_one (ps_set (i := 11) sc_law_rival.nd rfl (Or.inl rfl) (pv 15)))))
            pss_nil)))))))))))
      (pss_one (ps_ret (pe_callTy call_tuple_of rfl B.tuple (by decide +kernel) (pa_cons (pv 5) pa_nil))))))))), ?_⟩
  have ljx : jx.length = js.length := by rw [hI.len, List.length_map]
  -- points
  refine ⟨_, rfl, _, rfl, p, pa, J, jx, js, rfl, hP, hJ, hI, hj.ok, hjl, fun PT pts H1 hpt k1 P1 nPT h1 => ?_⟩
  have sok := slots_ok hpt hj.ok
  have smine := fun j (hm : j ∈ js) => slots_mine hpt hm (hj.ok j hm)
  have sll := slots_len pts
  have ptl := hpt.len
  generalize hsl : slotsOf pts = sl at sok smine sll
  -- slots
  refine ⟨_, rfl, PT, _, rfl, .inl (SqL.of h1), _, _, rfl, rfl, _, rfl, by omega, by rw [List.length_map]; omega, fun S nS => ?_⟩
  have nS2 := P1.ne nS
  have en : (((pts.map V.int).length : Int) - 1).toNat = sl.length := by rw [List.length_map]; omega
  refine lc_range (lo := 0) (fun i H2 => Same H1 H2 ∧ ∃ sx, H2 S = some (.lst sx) ∧ IsA K H2 sx ((sl.take i).map dSlot)) ⟨same_upd nS, [], upd_same, by rw [List.take_zero]; exact .nil⟩ ?_ ?_
  · rintro i H2 hi ⟨s2, sx, h2, i2⟩
    have hi2 : i < pts.length - 1 := by omega
    have g1 : (pts.map V.int)[i]? = some (.int (pts.getD i 0)) := by
      rw [List.getElem?_map, List.getElem?_eq_getElem (show i < pts.length by omega), getD_at (List.getElem?_eq_getElem (show i < pts.length by omega))]
      rfl
    have g2 : (pts.map V.int)[i + 1]? = some (.int (pts.getD (i + 1) 0)) := by
      rw [List.getElem?_map, List.getElem?_eq_getElem (show i + 1 < pts.length by omega), getD_at (List.getElem?_eq_getElem (show i + 1 < pts.length by omega))]
      rfl
    have hPT := s2 _ _ h1
    refine ⟨rfl, _, rfl, _, rfl, PT, _, _, _, rfl, rfl, SqL.of hPT, at_of (by omega) g1, _, rfl, _, rfl, _, _, rfl, rfl, PT, _, _, _, rfl, rfl, SqL.of hPT, at_of (by omega) g2, (by show 2 ≤ sizeLine; decide), fun t nt => ?_⟩
    have es : sl[i]? = some (pts.getD i 0, pts.getD (i + 1) 0) := by rw [← hsl]; exact slots_at hi2
    have lsx : sx.length ≤ i := by rw [i2.len, List.length_map, List.length_take]; omega
    have h2t := same_upd (o := .tup [V.int (pts.getD i 0), V.int (pts.getD (i + 1) 0)]) nt _ _ h2
    refine ⟨sx, h2t, small5' (by omega), Z.Same.mut (s2.trans (same_upd nt)) nS, _, upd_same, ?_⟩
    rw [List.take_add_one, es, List.map_append]
    exact ((i2.to (Tm.new nt)).push (.tup (SqT.of upd_same) (.two (.int _) (.int _)))).to (Tm.lst h2t)
  rw [en]
  rintro H2 ⟨s2, sx, h2, i2⟩
  rw [List.take_length] at i2
  have P2 := P1.same s2
  have lsx : sx.length = sl.length := by rw [i2.len, List.length_map]
  -- rows
  have hJ2 : SqT K H2 J jx := Tm.sq ((hP.tm k1).trans (Same.tm s2)) hJ
  have hI2 : IsA K H2 jx (js.map dJob) := hI.to ((hP.tm k1).trans (Same.tm s2))
  refine ⟨_, rfl, J, rfl, ⟨_, hJ2⟩, fun R nR => ?_⟩
  have nR2 := P2.ne nR
  refine lc_tup (xs := jx) (fun i H3 => Pl p pa H3 ∧ Kp p H2 H3 ∧ ∃ ras fss, H3 R = some (.lst (ras.map V.ref)) ∧ fss.length = i ∧ RowsAt K p R H3 ras fss ∧ ∀ (a : Nat) (j : Job) (fs : List Rat), js[a]? = some j → fss[a]? = some fs → ShOk j sl fs) ⟨P2.same (same_upd nR), .new nR, [], [], upd_same, rfl, ⟨rfl, fun _ _ _ h => by simp at h⟩, fun _ _ _ _ h => by simp at h⟩ (fun i H3 _ h => Tm.sq (P2.tm h.2.1) hJ2) ?_ ?_
  · rintro i v H3 hv ⟨P3, k3, ras, fss, h3, fl, ro, hsh⟩
    obtain ⟨d, hd, iv⟩ := hI2.at hv
    obtain ⟨j, hj0, rfl⟩ := getJ hd
    have jm : j ∈ js := List.mem_of_getElem? hj0
    have hil : i < jx.length := (List.getElem?_eq_some_iff.mp hv).1
    refine ⟨rfl, _, rfl, _, rfl, _, rfl, p, pa, S, v, sx, j, sl, rfl, P3, iv.to (P2.tm k3), hj.ok j jm, k3 _ _ nS2.1 h2, nS2.1, i2.to (P2.tm k3), by omega, smine j jm, fun ra xs fs H4 sh k4 P4 nra hra ira => ?_⟩
    have nra3 := P3.ne nra
    have nraR : ra ≠ R := fun e => by rw [e, h3] at nra; cases nra
    have h4 := k4 _ _ nR2.1 h3
    have lr : ras.length = i := by rw [ro.1, fl]
    have ro4 := ro.kp P3 k4
    refine ⟨ras.map V.ref, h4, small5' (by rw [List.length_map]; omega), P4.mut nR2.1 nR2.2, Kp.mut (k3.trans k4) nR, ras ++ [ra], fss ++ [fs], ?_, by rw [List.length_append, fl]; rfl, ⟨by rw [List.length_append, List.length_append, ro.1]; rfl, ?_⟩, ?_⟩
    · rw [upd_same, List.map_append]; rfl
    · intro a rb gs h5 h6
      have tm := Tm.lst (ys := ras.map V.ref ++ [V.ref ra]) h4
      by_cases ha : a < i
      · rw [List.getElem?_append_left (by omega)] at h5 h6
        obtain ⟨n1, n2, ys, hy, hyi⟩ := ro4.2 a rb gs h5 h6
        exact ⟨n1, n2, ys, by rw [upd_ne n2]; exact hy, hyi.to tm⟩
      · rw [List.getElem?_append_right (by omega)] at h5 h6
        have a5 : a - ras.length = 0 := by
          cases z : a - ras.length with
          | zero => rfl
          | succ n => rw [z] at h5; simp at h5
        rw [a5] at h5
        rw [show a - fss.length = 0 by omega] at h6
        have e5 : ra = rb := Option.some.inj h5
        have e6 : fs = gs := Option.some.inj h6
        subst e5 e6
        exact ⟨nra3.1, nraR, xs, by rw [upd_ne nraR]; exact hra, ira.to tm⟩
    · intro a j' gs h5 h6
      by_cases ha : a < i
      · rw [List.getElem?_append_left (by omega)] at h6
        exact hsh a j' gs h5 h6
      · rw [List.getElem?_append_right (by omega)] at h6
        have a5 : a - fss.length = 0 := by
          cases z : a - fss.length with
          | zero => rfl
          | succ n => rw [z] at h6; simp at h6
        rw [a5] at h6
        have e6 : fs = gs := Option.some.inj h6
        have ea : a = i := by omega
        rw [ea, hj0] at h5
        have e5 : j = j' := Option.some.inj h5
        subst e5 e6
        exact sh
  rintro H3 ⟨P3, k3, ras, fss, h3, fl, ro, hsh⟩
  have RH : RHyp js sl fss := ⟨hj, hjl, sok, by omega, hsh⟩
  have lras : ras.length = js.length := by rw [ro.1, fl, ljx]
  have lfss : fss.length = js.length := by omega
  have h3S := k3 _ _ nS2.1 h2
  have i3S := i2.to (P2.tm k3)
  have hJ3 := Tm.sq (P2.tm k3) hJ2
  have hI3 := hI2.to (P2.tm k3)
  have k03 : Kp p H H3 := k1.trans ((Kp.of s2).trans k3)
  -- pieces
  refine ⟨(by show 0 ≤ sizeLine; decide), fun L nL => ?_⟩
  have nL3 := P3.ne nL
  have nLR : L ≠ R := fun e => by rw [e, h3] at nL; cases nL
  have M4 : LM K p pa L H3 ([] : List PyData) (upd H3 L (.lst [])) := LM.new P3 (.refl _ _) nL
  -- what stands behind H3
  have atS : ∀ {H' : Hp} {ds : List PyData}, LM K p pa L H3 ds H' → H' S = some (.lst sx) := fun M => M.k _ _ nS2.1 h3S
  have atJ : ∀ {H' : Hp} {ds : List PyData}, LM K p pa L H3 ds H' → SqT K H' J jx := fun M => Tm.sq (P3.tm M.k) hJ3
  have isJ : ∀ {H' : Hp} {ds : List PyData}, LM K p pa L H3 ds H' → IsA K H' jx (js.map dJob) := fun M => hI3.to (P3.tm M.k)
  have atR : ∀ {H' : Hp} {ds : List PyData}, LM K p pa L H3 ds H' → H' R = some (.lst (ras.map V.ref)) := fun M => M.k _ _ nR2.1 h3
  have isR : ∀ {H' : Hp} {ds : List PyData}, LM K p pa L H3 ds H' → RowsAt K p R H' ras fss := fun M => ro.kp P3 M.k
  refine ⟨_, rfl, S, sx, rfl, .inl (SqL.of (atS M4)), _, rfl, by omega, by omega, for_range (lo := 0) (fun i σ' H' => ∃ (ps : List Pc) (y6 y7 y8 y9 y10 y11 y12 y13 y14 y15 : Option V), σ' = [some (.ref p), some (.ref J), some (.ref PT), some (.ref S), some (.ref R), some (.ref L), y6, y7, y8, y9, y10, y11, y12, y13, y14, y15, none, none] ∧ LM K p pa L H3 (ps.map dPc) H' ∧ OutMid js sl fss i ps ∧ ps.length ≤ i * js.length) ?_ ?_ ?_⟩
  · exact ⟨[], none, none, none, none, none, none, none, none, none, none, rfl, M4, .zero, Nat.zero_le _⟩
  · rintro i σ' H' hi ⟨ps, y6, y7, y8, y9, y10, y11, y12, y13, y14, y15, rfl, M, OM, hpl⟩
    have hi2 : i < sl.length := by omega
    obtain ⟨ts, gts, sts⟩ := is_slots i3S hi2
    have gsl : sl[i]? = some (sl.getD i (0, 0)) := by rw [getD_at (List.getElem?_eq_getElem hi2)]; exact List.getElem?_eq_getElem hi2
    generalize hlh : sl.getD i (0, 0) = lh at sts gsl
    obtain ⟨lo, hi'⟩ := lh
    have bs := sok.bd _ (List.mem_of_getElem? gsl)
    have bs1 : 0 ≤ lo := bs.1
    have bs2 : lo < hi' := bs.2.1
    have bs3 : hi' ≤ 10000 := bs.2.2
    have sts' := Tm.sq (P3.tm M.k) sts
    -- low, high = slots[k]
    refine ⟨_, rfl, _, rfl, S, _, _, _, rfl, rfl, SqL.of (atS M), at_of (by omega) gts, ts, _, rfl, sts', rfl, .int lo, _, rfl, .int hi', _, rfl, rfl, ?_⟩
    -- load
    refine ⟨_, rfl, R, rfl, ⟨_, SqL.of (atR M)⟩, fun C nC => ?_⟩
    have nC2 := M.P.ne nC
    refine lc_list (xs := ras.map V.ref) (fun a H5 => Same H' H5 ∧ ∃ cs, H5 C = some (.lst cs) ∧ IsA K H5 cs (((fss.map fun fs => fs.getD i 0).take a).map rat2)) ⟨same_upd nC, [], upd_same, by rw [List.take_zero]; exact .nil⟩ (fun a H5 _ h => h.1.seq (SqL.of (atR M))) ?_ ?_
    · rintro a v H5 hv ⟨s5, cs, h5, i5⟩
      rw [List.getElem?_map] at hv
      have al : a < ras.length := by
        by_cases z : a < ras.length
        · exact z
        · rw [List.getElem?_eq_none (by omega)] at hv
          cases hv
      have ga : ras[a]? = some ras[a] := List.getElem?_eq_getElem al
      rw [ga] at hv
      have ev : V.ref ras[a] = v := Option.some.inj hv
      subst ev
      have gf : fss[a]? = some (fss[a]'(by omega)) := List.getElem?_eq_getElem _
      have gj : js[a]? = some (js[a]'(by omega)) := List.getElem?_eq_getElem _
      obtain ⟨n1, n2, rx, hrx, irx⟩ := (isR M).2 a _ _ ga gf
      have shl := (hsh a _ _ gj gf).len
      have gk : (fss[a]'(by omega))[i]? = some ((fss[a]'(by omega)).getD i 0) := by
        rw [getD_at (List.getElem?_eq_getElem (show i < (fss[a]'(by omega)).length by omega))]
        exact List.getElem?_eq_getElem _
      obtain ⟨u, gu, iu⟩ := irx.get (i := i) (d := rat2 ((fss[a]'(by omega)).getD i 0)) (by rw [List.getElem?_map, gk]; rfl)
      have lcs : cs.length ≤ a := by rw [i5.len, List.length_map, List.length_take]; omega
      refine ⟨rfl, _, rfl, _, rfl, ras[a], _, _, u, rfl, rfl, SqL.of (s5 _ _ hrx), at_of (by omega) gu, cs, h5, small5' (by omega), Z.Same.mut s5 nC, _, upd_same, ?_⟩
      rw [List.take_add_one, List.getElem?_map, gf, List.map_append]
      exact ((i5.push (iu.to (Same.tm s5)))).to (Tm.lst h5)
    rintro H5 ⟨s5, cs, h5, i5⟩
    rw [List.take_of_length_le (by rw [List.length_map, List.length_map]; omega)] at i5
    have M5 := M.same s5
    have zcol : ∀ x ∈ fss.map (fun fs => fs.getD i 0), Sz 16 x := fun x hx => by
      obtain ⟨fs, hfs, rfl⟩ := List.mem_map.mp hx
      obtain ⟨a, ha⟩ := List.getElem?_of_mem hfs
      have al := (List.getElem?_eq_some_iff.mp ha).1
      have gj : js[a]? = some (js[a]'(by omega)) := List.getElem?_eq_getElem _
      have sh := hsh a _ _ gj ha
      have gk := List.getElem?_eq_getElem (show i < fs.length by rw [sh.len]; exact hi2)
      rw [getD_at gk]
      exact sh.sz _ (List.mem_of_getElem? gk)
    refine ⟨C, cs, _, 16, rfl, SqL.of h5, i5, zcol, by decide, by rw [List.length_map]; omega, fun vl H6 s6 il => ?_⟩
    have eload : sumL 0 (fss.map fun fs => fs.getD i 0) = load fss i := by
      unfold sumL
      rw [foldl_rsum]
      show 0 + load fss i = _
      grind
    have zload : Sz 400 (load fss i) := by
      rw [← eload]
      refine (sumL_sz zcol Sz.zero).mono ?_
      rw [List.length_map]
      omega
    rw [eload] at il
    have M6 := M5.same s6
    obtain ⟨tl, rfl, stl⟩ := rat_at il
    -- speed
    have hd0 : hi' - lo ≠ 0 := by omega
    refine ⟨_, rfl, tl, _, 0, _, rfl, rfl, stl, rfl, _, rfl, tl, _, 1, _, rfl, rfl, stl, rfl, _, rfl, _, rfl, _, _, rfl, rfl, _, _, rfl, rfl, mulR ⟨by omega, by omega⟩, _, _, rfl, Int.mul_ne_zero (denz _) hd0, ?_, ?_, fun vv H7 s7 iv => ?_⟩
    · exact sz_big (n := 400) (by decide) zload.1
    · rw [Int.natAbs_mul]
      have b1 : (((load fss i).den : Int)).natAbs < 2 ^ 400 := by rw [Int.natAbs_natCast]; exact zload.2
      have b2 : (hi' - lo).natAbs < 2 ^ 20 := by omega
      exact sz_big (n := 420) (by decide) (lt_pow_mul b1 b2)
    rw [rd_of_div hd0] at iv
    have M7 := M6.same s7
    -- now = (low, 1), shift
    refine ⟨_, rfl, (by show 2 ≤ sizeLine; decide), fun tn ntn => ?_⟩
    have M8 := M7.same (same_upd (o := .tup [V.int lo, V.int 1]) ntn)
    have inow : Is K (upd H7 tn (.tup [V.int lo, V.int 1])) (.ref tn) (rat2 (lo : Rat)) := .tup (SqT.of upd_same) (.two (.int _) (.int _))
    have jpos : 0 < js.length := by
      by_cases z : 0 < js.length
      · exact z
      · have : pts.length = 0 := by omega
        omega
    refine ⟨_, rfl, _, rfl, J, _, rfl, .inr (atJ M8), p, pa, (jx.length : Int), rfl, M8.P, by omega, by omega, fun sh H9 sh0 sh1 k9 P9 => ?_⟩
    have M9 := M8.step nL3.1 k9 P9
    obtain ⟨shn, rfl⟩ : ∃ n : Nat, sh = (n : Int) := ⟨sh.toNat, by omega⟩
    have shl : shn < fss.length := by omega
    have iv9 : Is K H9 vv (rat2 (load fss i / ((hi' - lo : Int) : Rat))) := (iv.to (Tm.new ntn)).to (M8.P.tm k9)
    have in9 : Is K H9 (.ref tn) (rat2 (lo : Rat)) := inow.to (M8.P.tm k9)
    -- the inner loop
    refine ⟨_, rfl, J, _, rfl, .inr (atJ M9), _, rfl, by omega, by omega, for_range (lo := 0) (fun a σ' H'' => ∃ (qs : List Pc) (now : Rat) (vn : V) (y13 y14 y15 : Option V), σ' = [some (.ref p), some (.ref J), some (.ref PT), some (.ref S), some (.ref R), some (.ref L), some (.int (0 + (i : Int))), some (.int lo), some (.int hi'), some (.ref tl), some vv, some vn, some (.int (shn : Int)), y13, y14, y15, none, none] ∧ LM K p pa L H3 (qs.map dPc) H'' ∧ InMid js sl fss i lo hi' (rot shn fss.length) a now qs ∧ Is K H'' vn (rat2 now) ∧ Is K H'' vv (rat2 (load fss i / ((hi' - lo : Int) : Rat))) ∧ qs.length ≤ i * js.length + a) ?_ ?_ ?_⟩
    · exact ⟨ps, (lo : Rat), .ref tn, y13, y14, y15, rfl, M9, OM.start gsl, in9, iv9, hpl⟩
    · rintro a σ' H10 ha ⟨qs, now, vn, y13, y14, y15, rfl, M10, IM, in10, iv10, hql⟩
      have al : a < fss.length := by omega
      have ga : (rot shn fss.length)[a]? = some ((a + shn) % fss.length) := rot_at shl al
      have bl : (a + shn) % fss.length < fss.length := Nat.mod_lt _ (by omega)
      generalize hb : (a + shn) % fss.length = b at ga bl
      -- at
      refine ⟨_, rfl, _, rfl, _, _, rfl, rfl, .inl ⟨_, rfl, _, rfl, J, _, rfl, .inr (atJ M10), _, _, rfl, rfl, (by show (jx.length : Int) ≠ 0; omega), ?_⟩⟩
      have eat : Int.fmod (0 + (a : Int) + (shn : Int)) (jx.length : Int) = (b : Int) := by
        rw [Int.zero_add, show (a : Int) + (shn : Int) = ((a + shn : Nat) : Int) by omega, show (jx.length : Int) = (fss.length : Int) by omega, ← Int.ofNat_fmod, hb]
      have gra : ras[b]? = some (ras[b]'(by omega)) := List.getElem?_eq_getElem _
      have gf : fss[b]? = some (fss[b]'bl) := List.getElem?_eq_getElem _
      have gj : js[b]? = some (js[b]'(by omega)) := List.getElem?_eq_getElem _
      obtain ⟨n1, n2, rx, hrx, irx⟩ := (isR M10).2 b _ _ gra gf
      have shb := hsh b _ _ gj gf
      have gk : (fss[b]'bl)[i]? = some (col fss i b) := by
        unfold col
        rw [getD_at gf, getD_at (List.getElem?_eq_getElem (show i < (fss[b]'bl).length by rw [shb.len]; exact hi2))]
        exact List.getElem?_eq_getElem _
      obtain ⟨u, gu, iu⟩ := irx.get (i := i) (d := rat2 (col fss i b)) (by rw [List.getElem?_map, gk]; rfl)
      obtain ⟨tu, rfl, stu⟩ := rat_at iu
      have gR : atI (ras.map V.ref) (Int.fmod (0 + (a : Int) + (shn : Int)) (jx.length : Int)) = some (.ref (ras[b]'(by omega))) := at_of (j := b) eat (by rw [List.getElem?_map, gra]; rfl)
      have gU : atI rx (0 + (i : Int)) = some (.ref tu) := at_of (by omega) gu
      -- if rows[at][k][0] > 0
      refine ⟨_, rfl, _, rfl, R, _, _, _, rfl, rfl, SqL.of (atR M10), gR, _, rfl, _, _, _, _, rfl, rfl, SqL.of hrx, gU, tu, _, 0, _, rfl, rfl, stu, rfl, _, _, rfl, rfl, _, rfl, ite2 (fun e => ?_) (fun e => ?_)⟩
      · have e1 : 0 < (col fss i b).num := of_decide_eq_true e
        have e2 : 0 < col fss i b := num_pos.mp e1
        obtain ⟨vp, zv, zc, zn, IM2⟩ := IM.add RH (by omega) ga gj gf gsl e2
        -- stop
        refine ⟨_, rfl, _, rfl, _, rfl, R, _, _, _, rfl, rfl, SqL.of (atR M10), gR, _, rfl, _, _, _, _, rfl, rfl, SqL.of hrx, gU, _, rfl, .ref tu, vv, _, _, rfl, iu, iv10, zc.mono (by decide), zv.mono (by decide), by grind, fun v11 H11 s11 i11 => ?_⟩
        refine ⟨vn, v11, _, _, rfl, in10.to (Same.tm s11), i11, zn.mono (by decide), ?_, fun v12 H12 s12 i12 => ?_⟩
        · exact (zc.div zv (by grind)).mono (by decide)
        have M12 := (M10.same s11).same s12
        have t12 := (Same.tm s11).trans (Same.tm s12)
        obtain ⟨zs, hz, hzI⟩ := M12.l
        obtain ⟨vj, gvj, ivj⟩ := (isJ M12).get (i := b) (d := dJob (js[b]'(by omega))) (by rw [List.getElem?_map, gj]; rfl)
        obtain ⟨tj, rfl, stj⟩ := job_at ivj
        -- pieces.append(..)
        refine ⟨_, rfl, .inl ⟨rfl, _, SqL.of hz⟩, _, rfl, _, rfl, _, rfl, _, rfl, J, _, _, _, rfl, rfl, atJ M12, at_of eat gvj, tj, _, 0, _, rfl, rfl, stj, rfl, _, rfl, (by show 4 ≤ sizeLine; decide), fun tp ntp => ?_⟩
        have lz : zs.length = qs.length := by rw [hzI.len, List.length_map]
        have M13 := M12.same (same_upd (o := .tup [vn, v12, .str (js[b]'(by omega)).n, vv]) ntp)
        have hz13 := same_upd (o := .tup [vn, v12, .str (js[b]'(by omega)).n, vv]) ntp _ _ hz
        have bq : i * js.length ≤ 60 * 19 := Nat.mul_le_mul (by omega) hjl
        refine ⟨L, zs, _, rfl, rfl, hz13, small5' (by omega), ?_⟩
        have t13 := Tm.new (H := H12) (o := .tup [vn, v12, .str (js[b]'(by omega)).n, vv]) ntp
        have t14 := t13.trans (Tm.lst (ys := zs ++ [V.ref tp]) hz13)
        refine ⟨_, rfl, qs ++ [⟨now, now + col fss i b / (load fss i / ((hi' - lo : Int) : Rat)), (js[b]'(by omega)).n, load fss i / ((hi' - lo : Int) : Rat)⟩], _, v12, _, _, _, rfl, ?_, IM2, i12.to t14, iv10.to (t12.trans t14), by rw [List.length_append]; show qs.length + 1 ≤ _; omega⟩
        rw [List.map_append]
        refine M13.put nL3.1 nL3.2 nL ?_
        exact (hzI.to t13).push (is_pc (q := ⟨now, now + col fss i b / (load fss i / ((hi' - lo : Int) : Rat)), (js[b]'(by omega)).n, load fss i / ((hi' - lo : Int) : Rat)⟩) (SqT.of upd_same) ((in10.to t12).to t13) (i12.to t13) ((iv10.to t12).to t13))
      · have e1 : ¬ 0 < (col fss i b).num := of_decide_eq_false (Bool.eq_false_iff.mpr e)
        have e2 : col fss i b = 0 := by
          have h1 := RH.col0 i b
          have h2 : ¬ 0 < col fss i b := fun z => e1 (num_pos.mpr z)
          grind
        exact ⟨qs, now, vn, _, _, _, rfl, M10, IM.skip ga e2, in10, iv10, by omega⟩
    · rintro σ' H10 ⟨qs, now, vn, y13, y14, y15, rfl, M10, IM, in10, iv10, hql⟩
      have en2 : ((jx.length : Nat) : Int).toNat = fss.length := by omega
      rw [en2] at IM hql
      refine ⟨qs, _, _, _, _, _, _, _, _, _, _, rfl, M10, IM.finish RH (by omega) gsl, ?_⟩
      rw [Nat.succ_mul]
      omega
  · rintro σ' H' ⟨ps, y6, y7, y8, y9, y10, y11, y12, y13, y14, y15, rfl, M, OM, hpl⟩
    have en3 : ((sx.length : Nat) : Int).toNat = sl.length := by omega
    rw [en3] at OM hpl
    obtain ⟨zs, hz, hzI⟩ := M.l
    refine ⟨_, rfl, L, zs, rfl, .inl ⟨SqL.of hz, fun t nt => ?_⟩⟩
    have nt2 := M.P.ne nt
    have k0 := k03.trans M.k
    refine q t zs ps _ (OM.done RH (by omega)) (Nat.le_trans hpl (Nat.mul_le_mul_right _ (by omega))) (k0.trans (.new nt)) (M.P.mut nt2.1 nt2.2) (M.P.free k0 nt) upd_same (hzI.to (Tm.new nt))

theorem all {flaw : Addr} {fdlaw : FuncData} {CWattsError CBadText CBadJournal CRefused CTooFast : Addr} {qualBadText preBadText sufBadText : Str} (B : BI mg) (B2 : BJ mg) (mGcd : mg "gcd" = some (.builtin "math.gcd")) (G : GS4 mg) (Z : GZ K mg) (gWattsError : mg "WattsError" = some (.ref CWattsError)) (gBadText : mg "BadText" = some (.ref CBadText)) (gBadJournal : mg "BadJournal" = some (.ref CBadJournal)) (gRefused : mg "Refused" = some (.ref CRefused)) (gTooFast : mg "TooFast" = some (.ref CTooFast)) (TBadText : ZX.ErrTxt P K mg CBadText "BadText" preBadText sufBadText qualBadText) (IBadText : ZX.IsC K CBadText) (eBadText_WattsError : PySem.W.exmOne K (.ref CBadText) (.ref CWattsError) = some true) (kBadText_BadJournal_Refused_TooFast : PySem.W.kitAny K (.ref CBadText) [.ref CBadJournal, .ref CRefused, .ref CTooFast] = some false) (kBadText_BadText : PySem.W.kitOne K (.ref CBadText) (.ref CBadText) = some true) (Fless : At K mg "less" sless ["a", "b"]) (Fconsists_of : At K mg "consists_of" sconsists_of ["word", "characters"]) (Fis_name : At K mg "is_name" sis_name ["word"]) (Fwhole : At K mg "whole" swhole ["word", "most"]) (Fwrite_ratio : At K mg "write_ratio" swrite_ratio ["number"]) (Fwrite_plan : At K mg "write_plan" swrite_plan ["plan"]) (Fread_unsigned : At K mg "read_unsigned" sread_unsigned ["word"]) (Fread_ratio : At K mg "read_ratio" sread_ratio ["word"]) (Fread_piece : At K mg "read_piece" sread_piece ["line"]) (Fread_plan : At K mg "read_plan" sread_plan ["text"]) (F_law_pool : At K mg "_law_pool" s_law_pool ["script"]) (F_law_draw : At K mg "_law_draw" s_law_draw ["pool", "many"]) (F_law_pick : At K mg "_law_pick" s_law_pick ["pool", "rows"]) (F_law_gcd : At K mg "_law_gcd" s_law_gcd ["a", "b"]) (F_law_ratio : At K mg "_law_ratio" s_law_ratio ["top", "bottom"]) (F_law_plus : At K mg "_law_plus" s_law_plus ["a", "b"]) (F_law_over : At K mg "_law_over" s_law_over ["a", "b"]) (F_law_less : At K mg "_law_less" s_law_less ["a", "b"]) (F_law_sum : At K mg "_law_sum" s_law_sum ["rows"]) (F_law_same : At K mg "_law_same" s_law_same ["actual", "due"]) (F_law_name : At K mg "_law_name" s_law_name ["pool", "index"]) (F_law_window : At K mg "_law_window" s_law_window ["pool", "wide"]) (F_law_jobs : At K mg "_law_jobs" s_law_jobs ["pool", "most"]) (F_law_points : At K mg "_law_points" s_law_points ["pool", "jobs"]) (F_law_shares : At K mg "_law_shares" s_law_shares ["pool", "job", "slots"]) (F_law_rival : At K mg "_law_rival" s_law_rival ["pool", "jobs"]) (F_law_word : At K mg "_law_word" s_law_word ["value"]) (F_law_lines : At K mg "_law_lines" s_law_lines ["plan"]) (F_law_number : At K mg "_law_number" s_law_number ["word"]) (F_law_value : At K mg "_law_value" s_law_value ["word"]) (F_law_piece : At K mg "_law_piece" s_law_piece ["line"]) (F_law_wrong : At K mg "_law_wrong" s_law_wrong ["text"]) (F_law_spoilt : At K mg "_law_spoilt" s_law_spoilt ["pool", "lines"]) (Flaw : Fun K "law" "law" slaw flaw fdlaw) : FnOk P w K mg base CX0 7 flaw fdlaw ["script"] (spLaw K) := by
  have D_pool := ok_law_pool (P := P) (w := w) (base := base) B F_law_pool
  have D_draw := ok_law_draw (P := P) (w := w) (base := base) B F_law_draw
  have D_gcd := ok_law_gcd (P := P) (w := w) (base := base) B F_law_gcd
  have D_ratio := ok_law_ratio (P := P) (w := w) (base := base) B F_law_ratio D_gcd
  have D_plus := ok_law_plus B F_law_plus D_ratio
  have D_over := ok_law_over B F_law_over D_ratio
  have D_sum := ok_law_sum B F_law_sum D_plus
  have D_less := ok_law_less (P := P) (w := w) (base := base) B F_law_less
  have D_name := ok_law_name B F_law_name D_draw
  have D_window := ok_law_window B F_law_window D_draw
  have D_jobs := ok_law_jobs B F_law_jobs D_draw D_window D_name
  have D_points := ok_law_points B F_law_points D_draw
  have D_shares := ok_law_shares B F_law_shares D_draw D_ratio
  have D_rival := ok_law_rival B F_law_rival D_draw D_ratio D_points D_shares D_sum D_plus D_over
  have C_less := ok_less (P := P) (w := w) (base := base) B Fless
  have C_cons := ok_consists_of (P := P) (w := w) (base := base) Fconsists_of
  have C_name := ok_is_name B G Fis_name C_cons
  have C_whole := ok_whole B G Fwhole C_cons
  have C_wp := ok_write_planW B Fwrite_plan (ok_write_ratioW (P := P) (w := w) (base := base) B Fwrite_ratio)
  have C_ru := ok_read_unsignedG B G Fread_unsigned C_whole mGcd
  have C_rr := ok_read_ratioG B Z Fread_ratio C_ru
  have C_rp := ok_read_pieceG B Z Fread_piece C_name C_rr C_less
  have C_rpl := ok_read_planG B TBadText Fread_plan C_rp C_less
  have D_lines := ok_law_linesT B F_law_lines (ok_law_word (P := P) (w := w) (base := base) B F_law_word)
  have D_pick := ok_law_pick B F_law_pick D_draw
  have D_spoilt := ok_law_spoiltP B F_law_spoilt D_draw D_pick
  have D_value := ok_law_value B F_law_value (ok_law_numberP (P := P) (w := w) (base := base) B F_law_number) D_gcd
  have D_wrong := ok_law_wrongP B F_law_wrong (ok_law_piece B F_law_piece D_value D_less) D_less
  obtain ⟨fS, fdS, FS, mS, bS⟩ := F_law_same.ex
  exact oklaw B Flaw TBadText IBadText gWattsError gRefused gBadText gBadJournal gTooFast eBadText_WattsError kBadText_BadText kBadText_BadJournal_Refused_TooFast (ok_same_hot (P := P) (w := w) (base := base) B FS) mS FS.kp bS
    D_pool D_draw D_jobs D_rival D_lines D_spoilt D_pick D_wrong C_rpl C_wp
end
theorem all_mk {l : PySem.W.OpenLaw} {w : World} {K : PySem.W.Frag} {h : Heap} {mg : Str → Option Value} {fa f1 f2 f3 f4 f5 f6 f7 f8 f9 f10 f11 f12 f13 f14 f15 f16 f17 f18 f19 f20 f21 f22 f23 f24 f25 f26 f27 f28 f29 f30 f31 f32 f33 f34 : Addr} (X : K.In h) (G : h.Ns mainGlobals mg) (hfa : mg "law" = some (.ref fa))
    {od1 an1 od2 an2 od3 an3 od4 an4 od5 an5 od6 an6 od7 an7 od8 an8 od9 an9 od10 an10 od11 an11 od12 an12 od13 an13 od14 an14 od15 an15 od16 an16 od17 an17 od18 an18 od19 an19 od20 an20 od21 an21 od22 an22 od23 an23 od24 an24 od25 an25 od26 an26 od27 an27 od28 an28 od29 an29 od30 an30 od31 an31 od32 an32 od33 an33 od34 an34 : Option Addr} {sl1 sl2 sl3 sl4 sl5 sl6 sl7 sl8 sl9 sl10 sl11 sl12 sl13 sl14 sl15 sl16 sl17 sl18 sl19 sl20 sl21 sl22 sl23 sl24 sl25 sl26 sl27 sl28 sl29 sl30 sl31 sl32 sl33 sl34 : Array (Option Value)} {oc1 kV1 dc1 pm1 cd1 ct1 oc2 kV2 dc2 pm2 cd2 ct2 oc3 kV3 dc3 pm3 cd3 ct3 oc4 kV4 dc4 pm4 cd4 ct4 oc5 kV5 dc5 pm5 cd5 ct5 oc6 kV6 dc6 pm6 cd6 ct6 oc7 kV7 dc7 pm7 cd7 ct7 oc8 kV8 dc8 pm8 cd8 ct8 oc9 kV9 dc9 pm9 cd9 ct9 oc10 kV10 dc10 pm10 cd10 ct10 oc11 kV11 dc11 pm11 cd11 ct11 oc12 kV12 dc12 pm12 cd12 ct12 oc13 kV13 dc13 pm13 cd13 ct13 oc14 kV14 dc14 pm14 cd14 ct14 oc15 kV15 dc15 pm15 cd15 ct15 oc16 kV16 dc16 pm16 cd16 ct16 oc17 kV17 dc17 pm17 cd17 ct17 oc18 kV18 dc18 pm18 cd18 ct18 oc19 kV19 dc19 pm19 cd19 ct19 oc20 kV20 dc20 pm20 cd20 ct20 oc21 kV21 dc21 pm21 cd21 ct21 oc22 kV22 dc22 pm22 cd22 ct22 oc23 kV23 dc23 pm23 cd23 ct23 oc24 kV24 dc24 pm24 cd24 ct24 oc25 kV25 dc25 pm25 cd25 ct25 oc26 kV26 dc26 pm26 cd26 ct26 oc27 kV27 dc27 pm27 cd27 ct27 oc28 kV28 dc28 pm28 cd28 ct28 oc29 kV29 dc29 pm29 cd29 ct29 oc30 kV30 dc30 pm30 cd30 ct30 oc31 kV31 dc31 pm31 cd31 ct31 oc32 kV32 dc32 pm32 cd32 ct32 oc33 kV33 dc33 pm33 cd33 ct33 oc34 kV34 dc34 pm34 cd34 ct34 : Value}
    (a1 : PySem.W.nsIn K mainGlobals "less" = some (some (.ref f1))) (l1 : K.lookup f1 = some ⟨oc1, od1, .func (PySem.W.fnOf "less" "less" (defArgs sless) (defBody sless) (defScope sless) .none kV1 dc1 pm1 an1 cd1 ct1), sl1⟩) (c1 : PySem.W.codeIn K cd1 "less" = true) (k1 : PySem.W.keepIn K (.ref f1) = true)
    (a2 : PySem.W.nsIn K mainGlobals "consists_of" = some (some (.ref f2))) (l2 : K.lookup f2 = some ⟨oc2, od2, .func (PySem.W.fnOf "consists_of" "consists_of" (defArgs sconsists_of) (defBody sconsists_of) (defScope sconsists_of) .none kV2 dc2 pm2 an2 cd2 ct2), sl2⟩) (c2 : PySem.W.codeIn K cd2 "consists_of" = true) (k2 : PySem.W.keepIn K (.ref f2) = true)
    (a3 : PySem.W.nsIn K mainGlobals "is_name" = some (some (.ref f3))) (l3 : K.lookup f3 = some ⟨oc3, od3, .func (PySem.W.fnOf "is_name" "is_name" (defArgs sis_name) (defBody sis_name) (defScope sis_name) .none kV3 dc3 pm3 an3 cd3 ct3), sl3⟩) (c3 : PySem.W.codeIn K cd3 "is_name" = true) (k3 : PySem.W.keepIn K (.ref f3) = true)
    (a4 : PySem.W.nsIn K mainGlobals "whole" = some (some (.ref f4))) (l4 : K.lookup f4 = some ⟨oc4, od4, .func (PySem.W.fnOf "whole" "whole" (defArgs swhole) (defBody swhole) (defScope swhole) .none kV4 dc4 pm4 an4 cd4 ct4), sl4⟩) (c4 : PySem.W.codeIn K cd4 "whole" = true) (k4 : PySem.W.keepIn K (.ref f4) = true)
    (a5 : PySem.W.nsIn K mainGlobals "write_ratio" = some (some (.ref f5))) (l5 : K.lookup f5 = some ⟨oc5, od5, .func (PySem.W.fnOf "write_ratio" "write_ratio" (defArgs swrite_ratio) (defBody swrite_ratio) (defScope swrite_ratio) .none kV5 dc5 pm5 an5 cd5 ct5), sl5⟩) (c5 : PySem.W.codeIn K cd5 "write_ratio" = true) (k5 : PySem.W.keepIn K (.ref f5) = true)
    (a6 : PySem.W.nsIn K mainGlobals "write_plan" = some (some (.ref f6))) (l6 : K.lookup f6 = some ⟨oc6, od6, .func (PySem.W.fnOf "write_plan" "write_plan" (defArgs swrite_plan) (defBody swrite_plan) (defScope swrite_plan) .none kV6 dc6 pm6 an6 cd6 ct6), sl6⟩) (c6 : PySem.W.codeIn K cd6 "write_plan" = true) (k6 : PySem.W.keepIn K (.ref f6) = true)
    (a7 : PySem.W.nsIn K mainGlobals "read_unsigned" = some (some (.ref f7))) (l7 : K.lookup f7 = some ⟨oc7, od7, .func (PySem.W.fnOf "read_unsigned" "read_unsigned" (defArgs sread_unsigned) (defBody sread_unsigned) (defScope sread_unsigned) .none kV7 dc7 pm7 an7 cd7 ct7), sl7⟩) (c7 : PySem.W.codeIn K cd7 "read_unsigned" = true) (k7 : PySem.W.keepIn K (.ref f7) = true)
    (a8 : PySem.W.nsIn K mainGlobals "read_ratio" = some (some (.ref f8))) (l8 : K.lookup f8 = some ⟨oc8, od8, .func (PySem.W.fnOf "read_ratio" "read_ratio" (defArgs sread_ratio) (defBody sread_ratio) (defScope sread_ratio) .none kV8 dc8 pm8 an8 cd8 ct8), sl8⟩) (c8 : PySem.W.codeIn K cd8 "read_ratio" = true) (k8 : PySem.W.keepIn K (.ref f8) = true)
    (a9 : PySem.W.nsIn K mainGlobals "read_piece" = some (some (.ref f9))) (l9 : K.lookup f9 = some ⟨oc9, od9, .func (PySem.W.fnOf "read_piece" "read_piece" (defArgs sread_piece) (defBody sread_piece) (defScope sread_piece) .none kV9 dc9 pm9 an9 cd9 ct9), sl9⟩) (c9 : PySem.W.codeIn K cd9 "read_piece" = true) (k9 : PySem.W.keepIn K (.ref f9) = true)
    (a10 : PySem.W.nsIn K mainGlobals "read_plan" = some (some (.ref f10))) (l10 : K.lookup f10 = some ⟨oc10, od10, .func (PySem.W.fnOf "read_plan" "read_plan" (defArgs sread_plan) (defBody sread_plan) (defScope sread_plan) .none kV10 dc10 pm10 an10 cd10 ct10), sl10⟩) (c10 : PySem.W.codeIn K cd10 "read_plan" = true) (k10 : PySem.W.keepIn K (.ref f10) = true)
    (a11 : PySem.W.nsIn K mainGlobals "_law_pool" = some (some (.ref f11))) (l11 : K.lookup f11 = some ⟨oc11, od11, .func (PySem.W.fnOf "_law_pool" "_law_pool" (defArgs s_law_pool) (defBody s_law_pool) (defScope s_law_pool) .none kV11 dc11 pm11 an11 cd11 ct11), sl11⟩) (c11 : PySem.W.codeIn K cd11 "_law_pool" = true) (k11 : PySem.W.keepIn K (.ref f11) = true)
    (a12 : PySem.W.nsIn K mainGlobals "_law_draw" = some (some (.ref f12))) (l12 : K.lookup f12 = some ⟨oc12, od12, .func (PySem.W.fnOf "_law_draw" "_law_draw" (defArgs s_law_draw) (defBody s_law_draw) (defScope s_law_draw) .none kV12 dc12 pm12 an12 cd12 ct12), sl12⟩) (c12 : PySem.W.codeIn K cd12 "_law_draw" = true) (k12 : PySem.W.keepIn K (.ref f12) = true)
    (a13 : PySem.W.nsIn K mainGlobals "_law_pick" = some (some (.ref f13))) (l13 : K.lookup f13 = some ⟨oc13, od13, .func (PySem.W.fnOf "_law_pick" "_law_pick" (defArgs s_law_pick) (defBody s_law_pick) (defScope s_law_pick) .none kV13 dc13 pm13 an13 cd13 ct13), sl13⟩) (c13 : PySem.W.codeIn K cd13 "_law_pick" = true) (k13 : PySem.W.keepIn K (.ref f13) = true)
    (a14 : PySem.W.nsIn K mainGlobals "_law_gcd" = some (some (.ref f14))) (l14 : K.lookup f14 = some ⟨oc14, od14, .func (PySem.W.fnOf "_law_gcd" "_law_gcd" (defArgs s_law_gcd) (defBody s_law_gcd) (defScope s_law_gcd) .none kV14 dc14 pm14 an14 cd14 ct14), sl14⟩) (c14 : PySem.W.codeIn K cd14 "_law_gcd" = true) (k14 : PySem.W.keepIn K (.ref f14) = true)
    (a15 : PySem.W.nsIn K mainGlobals "_law_ratio" = some (some (.ref f15))) (l15 : K.lookup f15 = some ⟨oc15, od15, .func (PySem.W.fnOf "_law_ratio" "_law_ratio" (defArgs s_law_ratio) (defBody s_law_ratio) (defScope s_law_ratio) .none kV15 dc15 pm15 an15 cd15 ct15), sl15⟩) (c15 : PySem.W.codeIn K cd15 "_law_ratio" = true) (k15 : PySem.W.keepIn K (.ref f15) = true)
    (a16 : PySem.W.nsIn K mainGlobals "_law_plus" = some (some (.ref f16))) (l16 : K.lookup f16 = some ⟨oc16, od16, .func (PySem.W.fnOf "_law_plus" "_law_plus" (defArgs s_law_plus) (defBody s_law_plus) (defScope s_law_plus) .none kV16 dc16 pm16 an16 cd16 ct16), sl16⟩) (c16 : PySem.W.codeIn K cd16 "_law_plus" = true) (k16 : PySem.W.keepIn K (.ref f16) = true)
    (a17 : PySem.W.nsIn K mainGlobals "_law_over" = some (some (.ref f17))) (l17 : K.lookup f17 = some ⟨oc17, od17, .func (PySem.W.fnOf "_law_over" "_law_over" (defArgs s_law_over) (defBody s_law_over) (defScope s_law_over) .none kV17 dc17 pm17 an17 cd17 ct17), sl17⟩) (c17 : PySem.W.codeIn K cd17 "_law_over" = true) (k17 : PySem.W.keepIn K (.ref f17) = true)
    (a18 : PySem.W.nsIn K mainGlobals "_law_less" = some (some (.ref f18))) (l18 : K.lookup f18 = some ⟨oc18, od18, .func (PySem.W.fnOf "_law_less" "_law_less" (defArgs s_law_less) (defBody s_law_less) (defScope s_law_less) .none kV18 dc18 pm18 an18 cd18 ct18), sl18⟩) (c18 : PySem.W.codeIn K cd18 "_law_less" = true) (k18 : PySem.W.keepIn K (.ref f18) = true)
    (a19 : PySem.W.nsIn K mainGlobals "_law_sum" = some (some (.ref f19))) (l19 : K.lookup f19 = some ⟨oc19, od19, .func (PySem.W.fnOf "_law_sum" "_law_sum" (defArgs s_law_sum) (defBody s_law_sum) (defScope s_law_sum) .none kV19 dc19 pm19 an19 cd19 ct19), sl19⟩) (c19 : PySem.W.codeIn K cd19 "_law_sum" = true) (k19 : PySem.W.keepIn K (.ref f19) = true)
    (a20 : PySem.W.nsIn K mainGlobals "_law_same" = some (some (.ref f20))) (l20 : K.lookup f20 = some ⟨oc20, od20, .func (PySem.W.fnOf "_law_same" "_law_same" (defArgs s_law_same) (defBody s_law_same) (defScope s_law_same) .none kV20 dc20 pm20 an20 cd20 ct20), sl20⟩) (c20 : PySem.W.codeIn K cd20 "_law_same" = true) (k20 : PySem.W.keepIn K (.ref f20) = true)
    (a21 : PySem.W.nsIn K mainGlobals "_law_name" = some (some (.ref f21))) (l21 : K.lookup f21 = some ⟨oc21, od21, .func (PySem.W.fnOf "_law_name" "_law_name" (defArgs s_law_name) (defBody s_law_name) (defScope s_law_name) .none kV21 dc21 pm21 an21 cd21 ct21), sl21⟩) (c21 : PySem.W.codeIn K cd21 "_law_name" = true) (k21 : PySem.W.keepIn K (.ref f21) = true)
    (a22 : PySem.W.nsIn K mainGlobals "_law_window" = some (some (.ref f22))) (l22 : K.lookup f22 = some ⟨oc22, od22, .func (PySem.W.fnOf "_law_window" "_law_window" (defArgs s_law_window) (defBody s_law_window) (defScope s_law_window) .none kV22 dc22 pm22 an22 cd22 ct22), sl22⟩) (c22 : PySem.W.codeIn K cd22 "_law_window" = true) (k22 : PySem.W.keepIn K (.ref f22) = true)
    (a23 : PySem.W.nsIn K mainGlobals "_law_jobs" = some (some (.ref f23))) (l23 : K.lookup f23 = some ⟨oc23, od23, .func (PySem.W.fnOf "_law_jobs" "_law_jobs" (defArgs s_law_jobs) (defBody s_law_jobs) (defScope s_law_jobs) .none kV23 dc23 pm23 an23 cd23 ct23), sl23⟩) (c23 : PySem.W.codeIn K cd23 "_law_jobs" = true) (k23 : PySem.W.keepIn K (.ref f23) = true)
    (a24 : PySem.W.nsIn K mainGlobals "_law_points" = some (some (.ref f24))) (l24 : K.lookup f24 = some ⟨oc24, od24, .func (PySem.W.fnOf "_law_points" "_law_points" (defArgs s_law_points) (defBody s_law_points) (defScope s_law_points) .none kV24 dc24 pm24 an24 cd24 ct24), sl24⟩) (c24 : PySem.W.codeIn K cd24 "_law_points" = true) (k24 : PySem.W.keepIn K (.ref f24) = true)
    (a25 : PySem.W.nsIn K mainGlobals "_law_shares" = some (some (.ref f25))) (l25 : K.lookup f25 = some ⟨oc25, od25, .func (PySem.W.fnOf "_law_shares" "_law_shares" (defArgs s_law_shares) (defBody s_law_shares) (defScope s_law_shares) .none kV25 dc25 pm25 an25 cd25 ct25), sl25⟩) (c25 : PySem.W.codeIn K cd25 "_law_shares" = true) (k25 : PySem.W.keepIn K (.ref f25) = true)
    (a26 : PySem.W.nsIn K mainGlobals "_law_rival" = some (some (.ref f26))) (l26 : K.lookup f26 = some ⟨oc26, od26, .func (PySem.W.fnOf "_law_rival" "_law_rival" (defArgs s_law_rival) (defBody s_law_rival) (defScope s_law_rival) .none kV26 dc26 pm26 an26 cd26 ct26), sl26⟩) (c26 : PySem.W.codeIn K cd26 "_law_rival" = true) (k26 : PySem.W.keepIn K (.ref f26) = true)
    (a27 : PySem.W.nsIn K mainGlobals "_law_word" = some (some (.ref f27))) (l27 : K.lookup f27 = some ⟨oc27, od27, .func (PySem.W.fnOf "_law_word" "_law_word" (defArgs s_law_word) (defBody s_law_word) (defScope s_law_word) .none kV27 dc27 pm27 an27 cd27 ct27), sl27⟩) (c27 : PySem.W.codeIn K cd27 "_law_word" = true) (k27 : PySem.W.keepIn K (.ref f27) = true)
    (a28 : PySem.W.nsIn K mainGlobals "_law_lines" = some (some (.ref f28))) (l28 : K.lookup f28 = some ⟨oc28, od28, .func (PySem.W.fnOf "_law_lines" "_law_lines" (defArgs s_law_lines) (defBody s_law_lines) (defScope s_law_lines) .none kV28 dc28 pm28 an28 cd28 ct28), sl28⟩) (c28 : PySem.W.codeIn K cd28 "_law_lines" = true) (k28 : PySem.W.keepIn K (.ref f28) = true)
    (a29 : PySem.W.nsIn K mainGlobals "_law_number" = some (some (.ref f29))) (l29 : K.lookup f29 = some ⟨oc29, od29, .func (PySem.W.fnOf "_law_number" "_law_number" (defArgs s_law_number) (defBody s_law_number) (defScope s_law_number) .none kV29 dc29 pm29 an29 cd29 ct29), sl29⟩) (c29 : PySem.W.codeIn K cd29 "_law_number" = true) (k29 : PySem.W.keepIn K (.ref f29) = true)
    (a30 : PySem.W.nsIn K mainGlobals "_law_value" = some (some (.ref f30))) (l30 : K.lookup f30 = some ⟨oc30, od30, .func (PySem.W.fnOf "_law_value" "_law_value" (defArgs s_law_value) (defBody s_law_value) (defScope s_law_value) .none kV30 dc30 pm30 an30 cd30 ct30), sl30⟩) (c30 : PySem.W.codeIn K cd30 "_law_value" = true) (k30 : PySem.W.keepIn K (.ref f30) = true)
    (a31 : PySem.W.nsIn K mainGlobals "_law_piece" = some (some (.ref f31))) (l31 : K.lookup f31 = some ⟨oc31, od31, .func (PySem.W.fnOf "_law_piece" "_law_piece" (defArgs s_law_piece) (defBody s_law_piece) (defScope s_law_piece) .none kV31 dc31 pm31 an31 cd31 ct31), sl31⟩) (c31 : PySem.W.codeIn K cd31 "_law_piece" = true) (k31 : PySem.W.keepIn K (.ref f31) = true)
    (a32 : PySem.W.nsIn K mainGlobals "_law_wrong" = some (some (.ref f32))) (l32 : K.lookup f32 = some ⟨oc32, od32, .func (PySem.W.fnOf "_law_wrong" "_law_wrong" (defArgs s_law_wrong) (defBody s_law_wrong) (defScope s_law_wrong) .none kV32 dc32 pm32 an32 cd32 ct32), sl32⟩) (c32 : PySem.W.codeIn K cd32 "_law_wrong" = true) (k32 : PySem.W.keepIn K (.ref f32) = true)
    (a33 : PySem.W.nsIn K mainGlobals "_law_spoilt" = some (some (.ref f33))) (l33 : K.lookup f33 = some ⟨oc33, od33, .func (PySem.W.fnOf "_law_spoilt" "_law_spoilt" (defArgs s_law_spoilt) (defBody s_law_spoilt) (defScope s_law_spoilt) .none kV33 dc33 pm33 an33 cd33 ct33), sl33⟩) (c33 : PySem.W.codeIn K cd33 "_law_spoilt" = true) (k33 : PySem.W.keepIn K (.ref f33) = true)
    (a34 : PySem.W.nsIn K mainGlobals "law" = some (some (.ref f34))) (l34 : K.lookup f34 = some ⟨oc34, od34, .func (PySem.W.fnOf "law" "law" (defArgs slaw) (defBody slaw) (defScope slaw) .none kV34 dc34 pm34 an34 cd34 ct34), sl34⟩) (c34 : PySem.W.codeIn K cd34 "law" = true) (k34 : PySem.W.keepIn K (.ref f34) = true)
    (z_len : PySem.W.nsIn K mainGlobals "len" = some none)
    (z_int : PySem.W.nsIn K mainGlobals "int" = some none)
    (z_abs : PySem.W.nsIn K mainGlobals "abs" = some none)
    (z_list : PySem.W.nsIn K mainGlobals "list" = some none)
    (z_tuple : PySem.W.nsIn K mainGlobals "tuple" = some none)
    (z_range : PySem.W.nsIn K mainGlobals "range" = some none)
    (z_isinstance : PySem.W.nsIn K mainGlobals "isinstance" = some none)
    (z_str : PySem.W.nsIn K mainGlobals "str" = some none)
    (z_bool : PySem.W.nsIn K mainGlobals "bool" = some none)
    (z_sum : PySem.W.nsIn K mainGlobals "sum" = some none)
    (z_sorted : PySem.W.nsIn K mainGlobals "sorted" = some none)
    (z_enumerate : PySem.W.nsIn K mainGlobals "enumerate" = some none)
    (z_zip : PySem.W.nsIn K mainGlobals "zip" = some none)
    (z_max : PySem.W.nsIn K mainGlobals "max" = some none)
    (z_min : PySem.W.nsIn K mainGlobals "min" = some none)
    {CWattsError CBadText CBadJournal CRefused CTooFast : Addr}
    (xWattsError : PySem.W.nsIn K mainGlobals "WattsError" = some (some (.ref CWattsError)))
    (xBadText : PySem.W.nsIn K mainGlobals "BadText" = some (some (.ref CBadText)))
    (xBadJournal : PySem.W.nsIn K mainGlobals "BadJournal" = some (some (.ref CBadJournal)))
    (xRefused : PySem.W.nsIn K mainGlobals "Refused" = some (some (.ref CRefused)))
    (xTooFast : PySem.W.nsIn K mainGlobals "TooFast" = some (some (.ref CTooFast)))
    (xS : PySem.W.nsIn K mainGlobals "super" = some none)
    (xany : PySem.W.nsIn K cStatics "thirdparty.any" = some none)
    (xtop : (l.prog.main.scope.names.lookup ("super" : Str)).isSome = false)
    {fIBadText ccBadText cdaBadText N0BadText : Addr} {nm0BadText q0BadText : Str} {bs0BadText : List Value} {sn0BadText : List Str} {sub0BadText : List Value} {ab0BadText : Bool} {col0BadText : Option Bool} {dd0BadText : Option Addr} {m0BadText m1BadText m2BadText m3BadText m5BadText : Option Value} {od0BadText an0BadText cldBadText cddBadText : Option Addr} {sl0BadText cslBadText ccsBadText : Array (Option Value)} {oc0BadText dc0BadText pm0BadText ct0BadText cl0BadText cclBadText : Value} {fvsBadText : Array Value} {fileBadText : Str} {tfBadText : Tok}
    (xLBadText : K.lookup CBadText = some (excClassObj nm0BadText q0BadText CBadText N0BadText bs0BadText [.ref CWattsError, .type "ValueError", .type "Exception", .type "BaseException", .type "object"] true sn0BadText sub0BadText ab0BadText col0BadText dd0BadText m0BadText m1BadText m2BadText m3BadText m5BadText "ValueError.__new__"))
    (xA : PySem.W.alongIn K "__init__" [.ref CWattsError, .type "ValueError", .type "Exception", .type "BaseException", .type "object"] = some (some (.builtin "ValueError.__init__")))
    (xsaBadText : PySem.W.findIn K (.ref CBadText) "__setattr__" = some (some (.builtin "object.__setattr__")))
    (xgaBadText : PySem.W.findIn K (.ref CBadText) "__getattribute__" = some (some (.builtin "BaseException.__getattribute__")))
    (xggBadText : PySem.W.findIn K (.ref CBadText) "__getattr__" = some none)
    (xnlBadText : PySem.W.findIn K (.ref CBadText) "line" = some none)
    (xkBadText : PySem.W.keepIn K (.ref CBadText) = true)
    (xeBadText : PySem.W.subIn K (.ref CBadText) (.type "BaseException") = some true)
    (xvBadText : PySem.W.subIn K (.ref CBadText) (.type "ValueError") = some true)
    (xtBadText : PySem.W.typeIn K (.ref CBadText) = some (.type "type"))
    (xhBadText : PySem.W.hasDictIn K CBadText = true)
    (xselfBadText : PySem.W.mroIn K CBadText (.ref CBadText) = some true)
    (xiBadText : PySem.W.findIn K (.ref CBadText) "__init__" = some (some (.ref fIBadText)))
    (xitBadText : PySem.W.typeIn K (.ref fIBadText) = some (.type "function"))
    (xilBadText : K.lookup fIBadText = some ⟨oc0BadText, od0BadText, .func (PySem.W.fnX "__init__" "BadText.__init__" (ZX.eP ⟨7, 17, 7, 21⟩ ⟨7, 23, 7, 27⟩) (ZX.eB "line " " of the text is wrong" ⟨8, 8, 8, 13⟩ ⟨8, 8, 8, 15⟩ ⟨8, 8, 8, 24⟩ ⟨8, 27, 8, 32⟩ ⟨8, 33, 8, 37⟩ ⟨8, 32, 8, 38⟩ ⟨8, 38, 8, 59⟩ ⟨8, 25, 8, 60⟩ ⟨8, 8, 8, 61⟩ ⟨8, 8, 8, 61⟩ ⟨9, 8, 9, 12⟩ ⟨9, 8, 9, 17⟩ ⟨9, 20, 9, 24⟩ ⟨9, 8, 9, 24⟩) ZX.eS [("__class__", ccBadText)] .none .none dc0BadText pm0BadText an0BadText (.ref cdaBadText) ct0BadText), sl0BadText⟩)
    (xicBadText : PySem.W.codeIn K (.ref cdaBadText) "BadText.__init__" = true)
    (xccBadText : K.lookup ccBadText = some ⟨cl0BadText, cldBadText, .cell (some (.ref CBadText)), cslBadText⟩)
    (xcdBadText : K.lookup cdaBadText = some ⟨cclBadText, cddBadText, .fields fvsBadText, ccsBadText⟩)
    (xf2BadText : fvsBadText[2]? = some (.str fileBadText tfBadText))
    (xfileBadText : ((l.prog.main.file : Str) == fileBadText) = true)
    (xclBadText : PySem.W.isClsIn K CBadText = true)
    (xhaBadText : PySem.W.findIn K (.ref CBadText) "__class__" = some (some (.builtin "object.__class__")))
    (xhmBadText : PySem.W.mroIn K CBadText (.type "object") = some true)
    (xw4BadText : PySem.W.subIn K (.ref CBadText) (.ref CWattsError) = some true)
    (xhn : PySem.W.specialIn K (.builtin "object.__class__") "__get__" = some (some (.builtin "getset_descriptor.__get__")))
    (xht : PySem.W.takesIn K (.builtin "object.__class__") = some true)
    (xw1 : PySem.W.subIn K (.ref CWattsError) (.type "BaseException") = some true)
    (xw2 : PySem.W.hasDictIn K CWattsError = true)
    (xw3 : PySem.W.typeIn K (.ref CWattsError) = some (.type "type"))
    (xkBadText_BadJournal_Refused_TooFast : PySem.W.kitAny K (.ref CBadText) [.ref CBadJournal, .ref CRefused, .ref CTooFast] = some false)
    (xkBadText_BadText : PySem.W.kitOne K (.ref CBadText) (.ref CBadText) = some true)
    (zgcd : PySem.W.nsIn K mainGlobals "gcd" = some (some (.builtin "math.gcd")))
    {zAZERO : Addr} {zdZERO : Option Addr} {znZERO : Nat} {zsZERO : Array (Option Value)} {ztZERO zuZERO : Tok} (zgZERO : PySem.W.nsIn K mainGlobals "ZERO" = some (some (.ref zAZERO))) (zlZERO : K.lookup zAZERO = some ⟨.type "tuple", zdZERO, .seq #[.int 0 ztZERO, .int 1 zuZERO] znZERO, zsZERO⟩)
    {ztLETTERS : Tok} (zgLETTERS : PySem.W.nsIn K mainGlobals "LETTERS" = some (some (.str LET ztLETTERS)))
    {ztDIGITS : Tok} (zgDIGITS : PySem.W.nsIn K mainGlobals "DIGITS" = some (some (.str DIG ztDIGITS)))
    {ztLONGEST_NAME : Tok} (zgLONGEST_NAME : PySem.W.nsIn K mainGlobals "LONGEST_NAME" = some (some (.int 8 ztLONGEST_NAME)))
    {ztMOST_DIGITS : Tok} (zgMOST_DIGITS : PySem.W.nsIn K mainGlobals "MOST_DIGITS" = some (some (.int 200 ztMOST_DIGITS)))
    : ∃ fd : FuncData, (∀ (s : Shared) (v : Value), BindsTo s fd ⟨[v], []⟩ [("script", v)]) ∧ ∀ base : Heap, K.In base → base.Ns mainGlobals mg → FnOk l.prog w K mg base CX0 7 fa fd ["script"] (spLaw K) := by
  have e := hfa.symm.trans (PySem.W.mg_of X G a34)
  cases e
  have B : BI mg := ⟨PySem.W.mg_none_of X G z_len, PySem.W.mg_none_of X G z_int, PySem.W.mg_none_of X G z_abs, PySem.W.mg_none_of X G z_list, PySem.W.mg_none_of X G z_tuple, PySem.W.mg_none_of X G z_range, PySem.W.mg_none_of X G z_isinstance, PySem.W.mg_none_of X G z_str, PySem.W.mg_none_of X G z_bool, PySem.W.mg_none_of X G z_sum, PySem.W.mg_none_of X G z_sorted, PySem.W.mg_none_of X G z_enumerate⟩
  have B2 : BJ mg := ⟨PySem.W.mg_none_of X G z_zip, PySem.W.mg_none_of X G z_max, PySem.W.mg_none_of X G z_min⟩
  have Fless : At K mg "less" sless ["a", "b"] := ⟨_, _, fun_mk (st := sless) l1 c1 k1, PySem.W.mg_of X G a1, (fun_mk (st := sless) l1 c1 k1).binds (ps := ["a", "b"]) fun _ _ _ _ _ _ us hl => match us, hl with | [_, _], _ => rfl⟩
  have Fconsists_of : At K mg "consists_of" sconsists_of ["word", "characters"] := ⟨_, _, fun_mk (st := sconsists_of) l2 c2 k2, PySem.W.mg_of X G a2, (fun_mk (st := sconsists_of) l2 c2 k2).binds (ps := ["word", "characters"]) fun _ _ _ _ _ _ us hl => match us, hl with | [_, _], _ => rfl⟩
  have Fis_name : At K mg "is_name" sis_name ["word"] := ⟨_, _, fun_mk (st := sis_name) l3 c3 k3, PySem.W.mg_of X G a3, (fun_mk (st := sis_name) l3 c3 k3).binds (ps := ["word"]) fun _ _ _ _ _ _ us hl => match us, hl with | [_], _ => rfl⟩
  have Fwhole : At K mg "whole" swhole ["word", "most"] := ⟨_, _, fun_mk (st := swhole) l4 c4 k4, PySem.W.mg_of X G a4, (fun_mk (st := swhole) l4 c4 k4).binds (ps := ["word", "most"]) fun _ _ _ _ _ _ us hl => match us, hl with | [_, _], _ => rfl⟩
  have Fwrite_ratio : At K mg "write_ratio" swrite_ratio ["number"] := ⟨_, _, fun_mk (st := swrite_ratio) l5 c5 k5, PySem.W.mg_of X G a5, (fun_mk (st := swrite_ratio) l5 c5 k5).binds (ps := ["number"]) fun _ _ _ _ _ _ us hl => match us, hl with | [_], _ => rfl⟩
  have Fwrite_plan : At K mg "write_plan" swrite_plan ["plan"] := ⟨_, _, fun_mk (st := swrite_plan) l6 c6 k6, PySem.W.mg_of X G a6, (fun_mk (st := swrite_plan) l6 c6 k6).binds (ps := ["plan"]) fun _ _ _ _ _ _ us hl => match us, hl with | [_], _ => rfl⟩
  have Fread_unsigned : At K mg "read_unsigned" sread_unsigned ["word"] := ⟨_, _, fun_mk (st := sread_unsigned) l7 c7 k7, PySem.W.mg_of X G a7, (fun_mk (st := sread_unsigned) l7 c7 k7).binds (ps := ["word"]) fun _ _ _ _ _ _ us hl => match us, hl with | [_], _ => rfl⟩
  have Fread_ratio : At K mg "read_ratio" sread_ratio ["word"] := ⟨_, _, fun_mk (st := sread_ratio) l8 c8 k8, PySem.W.mg_of X G a8, (fun_mk (st := sread_ratio) l8 c8 k8).binds (ps := ["word"]) fun _ _ _ _ _ _ us hl => match us, hl with | [_], _ => rfl⟩
  have Fread_piece : At K mg "read_piece" sread_piece ["line"] := ⟨_, _, fun_mk (st := sread_piece) l9 c9 k9, PySem.W.mg_of X G a9, (fun_mk (st := sread_piece) l9 c9 k9).binds (ps := ["line"]) fun _ _ _ _ _ _ us hl => match us, hl with | [_], _ => rfl⟩
  have Fread_plan : At K mg "read_plan" sread_plan ["text"] := ⟨_, _, fun_mk (st := sread_plan) l10 c10 k10, PySem.W.mg_of X G a10, (fun_mk (st := sread_plan) l10 c10 k10).binds (ps := ["text"]) fun _ _ _ _ _ _ us hl => match us, hl with | [_], _ => rfl⟩
  have F_law_pool : At K mg "_law_pool" s_law_pool ["script"] := ⟨_, _, fun_mk (st := s_law_pool) l11 c11 k11, PySem.W.mg_of X G a11, (fun_mk (st := s_law_pool) l11 c11 k11).binds (ps := ["script"]) fun _ _ _ _ _ _ us hl => match us, hl with | [_], _ => rfl⟩
  have F_law_draw : At K mg "_law_draw" s_law_draw ["pool", "many"] := ⟨_, _, fun_mk (st := s_law_draw) l12 c12 k12, PySem.W.mg_of X G a12, (fun_mk (st := s_law_draw) l12 c12 k12).binds (ps := ["pool", "many"]) fun _ _ _ _ _ _ us hl => match us, hl with | [_, _], _ => rfl⟩
  have F_law_pick : At K mg "_law_pick" s_law_pick ["pool", "rows"] := ⟨_, _, fun_mk (st := s_law_pick) l13 c13 k13, PySem.W.mg_of X G a13, (fun_mk (st := s_law_pick) l13 c13 k13).binds (ps := ["pool", "rows"]) fun _ _ _ _ _ _ us hl => match us, hl with | [_, _], _ => rfl⟩
  have F_law_gcd : At K mg "_law_gcd" s_law_gcd ["a", "b"] := ⟨_, _, fun_mk (st := s_law_gcd) l14 c14 k14, PySem.W.mg_of X G a14, (fun_mk (st := s_law_gcd) l14 c14 k14).binds (ps := ["a", "b"]) fun _ _ _ _ _ _ us hl => match us, hl with | [_, _], _ => rfl⟩
  have F_law_ratio : At K mg "_law_ratio" s_law_ratio ["top", "bottom"] := ⟨_, _, fun_mk (st := s_law_ratio) l15 c15 k15, PySem.W.mg_of X G a15, (fun_mk (st := s_law_ratio) l15 c15 k15).binds (ps := ["top", "bottom"]) fun _ _ _ _ _ _ us hl => match us, hl with | [_, _], _ => rfl⟩
  have F_law_plus : At K mg "_law_plus" s_law_plus ["a", "b"] := ⟨_, _, fun_mk (st := s_law_plus) l16 c16 k16, PySem.W.mg_of X G a16, (fun_mk (st := s_law_plus) l16 c16 k16).binds (ps := ["a", "b"]) fun _ _ _ _ _ _ us hl => match us, hl with | [_, _], _ => rfl⟩
  have F_law_over : At K mg "_law_over" s_law_over ["a", "b"] := ⟨_, _, fun_mk (st := s_law_over) l17 c17 k17, PySem.W.mg_of X G a17, (fun_mk (st := s_law_over) l17 c17 k17).binds (ps := ["a", "b"]) fun _ _ _ _ _ _ us hl => match us, hl with | [_, _], _ => rfl⟩
  have F_law_less : At K mg "_law_less" s_law_less ["a", "b"] := ⟨_, _, fun_mk (st := s_law_less) l18 c18 k18, PySem.W.mg_of X G a18, (fun_mk (st := s_law_less) l18 c18 k18).binds (ps := ["a", "b"]) fun _ _ _ _ _ _ us hl => match us, hl with | [_, _], _ => rfl⟩
  have F_law_sum : At K mg "_law_sum" s_law_sum ["rows"] := ⟨_, _, fun_mk (st := s_law_sum) l19 c19 k19, PySem.W.mg_of X G a19, (fun_mk (st := s_law_sum) l19 c19 k19).binds (ps := ["rows"]) fun _ _ _ _ _ _ us hl => match us, hl with | [_], _ => rfl⟩
  have F_law_same : At K mg "_law_same" s_law_same ["actual", "due"] := ⟨_, _, fun_mk (st := s_law_same) l20 c20 k20, PySem.W.mg_of X G a20, (fun_mk (st := s_law_same) l20 c20 k20).binds (ps := ["actual", "due"]) fun _ _ _ _ _ _ us hl => match us, hl with | [_, _], _ => rfl⟩
  have F_law_name : At K mg "_law_name" s_law_name ["pool", "index"] := ⟨_, _, fun_mk (st := s_law_name) l21 c21 k21, PySem.W.mg_of X G a21, (fun_mk (st := s_law_name) l21 c21 k21).binds (ps := ["pool", "index"]) fun _ _ _ _ _ _ us hl => match us, hl with | [_, _], _ => rfl⟩
  have F_law_window : At K mg "_law_window" s_law_window ["pool", "wide"] := ⟨_, _, fun_mk (st := s_law_window) l22 c22 k22, PySem.W.mg_of X G a22, (fun_mk (st := s_law_window) l22 c22 k22).binds (ps := ["pool", "wide"]) fun _ _ _ _ _ _ us hl => match us, hl with | [_, _], _ => rfl⟩
  have F_law_jobs : At K mg "_law_jobs" s_law_jobs ["pool", "most"] := ⟨_, _, fun_mk (st := s_law_jobs) l23 c23 k23, PySem.W.mg_of X G a23, (fun_mk (st := s_law_jobs) l23 c23 k23).binds (ps := ["pool", "most"]) fun _ _ _ _ _ _ us hl => match us, hl with | [_, _], _ => rfl⟩
  have F_law_points : At K mg "_law_points" s_law_points ["pool", "jobs"] := ⟨_, _, fun_mk (st := s_law_points) l24 c24 k24, PySem.W.mg_of X G a24, (fun_mk (st := s_law_points) l24 c24 k24).binds (ps := ["pool", "jobs"]) fun _ _ _ _ _ _ us hl => match us, hl with | [_, _], _ => rfl⟩
  have F_law_shares : At K mg "_law_shares" s_law_shares ["pool", "job", "slots"] := ⟨_, _, fun_mk (st := s_law_shares) l25 c25 k25, PySem.W.mg_of X G a25, (fun_mk (st := s_law_shares) l25 c25 k25).binds (ps := ["pool", "job", "slots"]) fun _ _ _ _ _ _ us hl => match us, hl with | [_, _, _], _ => rfl⟩
  have F_law_rival : At K mg "_law_rival" s_law_rival ["pool", "jobs"] := ⟨_, _, fun_mk (st := s_law_rival) l26 c26 k26, PySem.W.mg_of X G a26, (fun_mk (st := s_law_rival) l26 c26 k26).binds (ps := ["pool", "jobs"]) fun _ _ _ _ _ _ us hl => match us, hl with | [_, _], _ => rfl⟩
  have F_law_word : At K mg "_law_word" s_law_word ["value"] := ⟨_, _, fun_mk (st := s_law_word) l27 c27 k27, PySem.W.mg_of X G a27, (fun_mk (st := s_law_word) l27 c27 k27).binds (ps := ["value"]) fun _ _ _ _ _ _ us hl => match us, hl with | [_], _ => rfl⟩
  have F_law_lines : At K mg "_law_lines" s_law_lines ["plan"] := ⟨_, _, fun_mk (st := s_law_lines) l28 c28 k28, PySem.W.mg_of X G a28, (fun_mk (st := s_law_lines) l28 c28 k28).binds (ps := ["plan"]) fun _ _ _ _ _ _ us hl => match us, hl with | [_], _ => rfl⟩
  have F_law_number : At K mg "_law_number" s_law_number ["word"] := ⟨_, _, fun_mk (st := s_law_number) l29 c29 k29, PySem.W.mg_of X G a29, (fun_mk (st := s_law_number) l29 c29 k29).binds (ps := ["word"]) fun _ _ _ _ _ _ us hl => match us, hl with | [_], _ => rfl⟩
  have F_law_value : At K mg "_law_value" s_law_value ["word"] := ⟨_, _, fun_mk (st := s_law_value) l30 c30 k30, PySem.W.mg_of X G a30, (fun_mk (st := s_law_value) l30 c30 k30).binds (ps := ["word"]) fun _ _ _ _ _ _ us hl => match us, hl with | [_], _ => rfl⟩
  have F_law_piece : At K mg "_law_piece" s_law_piece ["line"] := ⟨_, _, fun_mk (st := s_law_piece) l31 c31 k31, PySem.W.mg_of X G a31, (fun_mk (st := s_law_piece) l31 c31 k31).binds (ps := ["line"]) fun _ _ _ _ _ _ us hl => match us, hl with | [_], _ => rfl⟩
  have F_law_wrong : At K mg "_law_wrong" s_law_wrong ["text"] := ⟨_, _, fun_mk (st := s_law_wrong) l32 c32 k32, PySem.W.mg_of X G a32, (fun_mk (st := s_law_wrong) l32 c32 k32).binds (ps := ["text"]) fun _ _ _ _ _ _ us hl => match us, hl with | [_], _ => rfl⟩
  have F_law_spoilt : At K mg "_law_spoilt" s_law_spoilt ["pool", "lines"] := ⟨_, _, fun_mk (st := s_law_spoilt) l33 c33 k33, PySem.W.mg_of X G a33, (fun_mk (st := s_law_spoilt) l33 c33 k33).binds (ps := ["pool", "lines"]) fun _ _ _ _ _ _ us hl => match us, hl with | [_, _], _ => rfl⟩
  have Flaw := fun_mk (st := slaw) l34 c34 k34
  refine ⟨PySem.W.fnOf "law" "law" (defArgs slaw) (defBody slaw) (defScope slaw) .none kV34 dc34 pm34 an34 cd34 ct34, fun s v => .of_eq rfl, fun base _ _ => ?_⟩
  have TBadText : ZX.ErrTxt l.prog K mg CBadText "BadText" _ _ _ := ⟨PySem.W.mg_of X G xBadText, PySem.W.mg_none_of X G xS, ⟨_, _, _, _, _, _, _, _, _, _, _, _, _, _, _, xLBadText, rfl, xA⟩, xsaBadText, xgaBadText, xggBadText, xnlBadText, xkBadText, xeBadText, xvBadText, xtBadText, xhBadText, xselfBadText, xany, xtop, ⟨by decide +kernel, by decide +kernel⟩,
    ⟨_, _, _, _, _, _, _, _, _, _, _, _, _, _, _, _, _, _, _, _, _, _, _, _, _, _, _, _, _, _, _, _, _, _, _, xiBadText, xitBadText, xilBadText, xicBadText, xccBadText, xcdBadText, xf2BadText, xfileBadText, fun _ => ⟨_, rfl⟩⟩⟩
  exact all (P := l.prog) (w := w) (base := base) B B2 (PySem.W.mg_of X G zgcd) ⟨⟨_, PySem.W.mg_of X G zgLETTERS⟩, ⟨_, PySem.W.mg_of X G zgDIGITS⟩, ⟨_, PySem.W.mg_of X G zgLONGEST_NAME⟩, ⟨_, PySem.W.mg_of X G zgMOST_DIGITS⟩⟩ ⟨zAZERO, PySem.W.mg_of X G zgZERO, fun _ => .inr ⟨_, _, _, zlZERO, rfl, rfl, by show 2 ≤ sizeLine; decide, .cons ⟨_, rfl⟩ (.cons ⟨_, rfl⟩ .nil)⟩⟩ (PySem.W.mg_of X G xWattsError) (PySem.W.mg_of X G xBadText) (PySem.W.mg_of X G xBadJournal) (PySem.W.mg_of X G xRefused) (PySem.W.mg_of X G xTooFast) TBadText ⟨xclBadText, xhaBadText, xhn, xht, xhmBadText⟩ (PySem.W.exm_ref xw1 xw2 xw3 xw4BadText) xkBadText_BadJournal_Refused_TooFast xkBadText_BadText Fless Fconsists_of Fis_name Fwhole Fwrite_ratio Fwrite_plan Fread_unsigned Fread_ratio Fread_piece Fread_plan F_law_pool F_law_draw F_law_pick F_law_gcd F_law_ratio F_law_plus F_law_over F_law_less F_law_sum F_law_same F_law_name F_law_window F_law_jobs F_law_points F_law_shares F_law_rival F_law_word F_law_lines F_law_number F_law_value F_law_piece F_law_wrong F_law_spoilt Flaw
end Z
open PySem PySem.W PyProof.Rows
set_option maxRecDepth 100000 in
set_option maxHeartbeats 0 in
theorem PySem.Challenge.cw_sparewatts_k45_wrong_plan_lines_holds : PySem.Challenge.rw_sparewatts_k45_wrong_plan_lines.Holds := by
  w_on; o_law; k_head; (case hw => w_witness2)
  k_fill
  refine L2.walk_of (l := PySem.Challenge.rw_sparewatts_k45_wrong_plan_lines) (n := 63) (k := 7) (x := "script") (CX := fun _ => L2.CX0) (sp := fun w => Z.spLaw _) rfl (by decide) rfl ⟨rfl, by decide, by decide⟩ (fun w h Y => PySem.W.kIn_of Y) ?F (fun _ _ a ns hl _ hS => ⟨a, ns, rfl, hS, hl, fun _ => rfl⟩) (fun _ _ _ _ _ h => h)
  case F =>
    intro w mg fa h KX G hmg
    refine' Z.all_mk KX G hmg ?a1 ?l1 ?c1 ?k1 ?a2 ?l2 ?c2 ?k2 ?a3 ?l3 ?c3 ?k3 ?a4 ?l4 ?c4 ?k4 ?a5 ?l5 ?c5 ?k5 ?a6 ?l6 ?c6 ?k6 ?a7 ?l7 ?c7 ?k7 ?a8 ?l8 ?c8 ?k8 ?a9 ?l9 ?c9 ?k9 ?a10 ?l10 ?c10 ?k10 ?a11 ?l11 ?c11 ?k11 ?a12 ?l12 ?c12 ?k12 ?a13 ?l13 ?c13 ?k13 ?a14 ?l14 ?c14 ?k14 ?a15 ?l15 ?c15 ?k15 ?a16 ?l16 ?c16 ?k16 ?a17 ?l17 ?c17 ?k17 ?a18 ?l18 ?c18 ?k18 ?a19 ?l19 ?c19 ?k19 ?a20 ?l20 ?c20 ?k20 ?a21 ?l21 ?c21 ?k21 ?a22 ?l22 ?c22 ?k22 ?a23 ?l23 ?c23 ?k23 ?a24 ?l24 ?c24 ?k24 ?a25 ?l25 ?c25 ?k25 ?a26 ?l26 ?c26 ?k26 ?a27 ?l27 ?c27 ?k27 ?a28 ?l28 ?c28 ?k28 ?a29 ?l29 ?c29 ?k29 ?a30 ?l30 ?c30 ?k30 ?a31 ?l31 ?c31 ?k31 ?a32 ?l32 ?c32 ?k32 ?a33 ?l33 ?c33 ?k33 ?a34 ?l34 ?c34 ?k34 ?z_len ?z_int ?z_abs ?z_list ?z_tuple ?z_range ?z_isinstance ?z_str ?z_bool ?z_sum ?z_sorted ?z_enumerate ?z_zip ?z_max ?z_min ?xWattsError ?xBadText ?xBadJournal ?xRefused ?xTooFast ?xS ?xany ?xtop ?xLBadText ?xA ?xsaBadText ?xgaBadText ?xggBadText ?xnlBadText ?xkBadText ?xeBadText ?xvBadText ?xtBadText ?xhBadText ?xselfBadText ?xiBadText ?xitBadText ?xilBadText ?xicBadText ?xccBadText ?xcdBadText ?xf2BadText ?xfileBadText ?xclBadText ?xhaBadText ?xhmBadText ?xw4BadText ?xhn ?xht ?xw1 ?xw2 ?xw3 ?xkBadText_BadJournal_Refused_TooFast ?xkBadText_BadText ?zgcd ?zgZERO ?zlZERO ?zgLETTERS ?zgDIGITS ?zgLONGEST_NAME ?zgMOST_DIGITS
    (case a1 => k_is)
    (case l1 => k_is)
    (case c1 => k_is)
    (case k1 => k_is)
    (case a2 => k_is)
    (case l2 => k_is)
    (case c2 => k_is)
    (case k2 => k_is)
    (case a3 => k_is)
    (case l3 => k_is)
    (case c3 => k_is)
    (case k3 => k_is)
    (case a4 => k_is)
    (case l4 => k_is)
    (case c4 => k_is)
    (case k4 => k_is)
    (case a5 => k_is)
    (case l5 => k_is)
    (case c5 => k_is)
    (case k5 => k_is)
    (case a6 => k_is)
    (case l6 => k_is)
    (case c6 => k_is)
    (case k6 => k_is)
    (case a7 => k_is)
    (case l7 => k_is)
    (case c7 => k_is)
    (case k7 => k_is)
    (case a8 => k_is)
    (case l8 => k_is)
    (case c8 => k_is)
    (case k8 => k_is)
    (case a9 => k_is)
    (case l9 => k_is)
    (case c9 => k_is)
    (case k9 => k_is)
    (case a10 => k_is)
    (case l10 => k_is)
    (case c10 => k_is)
    (case k10 => k_is)
    (case a11 => k_is)
    (case l11 => k_is)
    (case c11 => k_is)
    (case k11 => k_is)
    (case a12 => k_is)
    (case l12 => k_is)
    (case c12 => k_is)
    (case k12 => k_is)
    (case a13 => k_is)
    (case l13 => k_is)
    (case c13 => k_is)
    (case k13 => k_is)
    (case a14 => k_is)
    (case l14 => k_is)
    (case c14 => k_is)
    (case k14 => k_is)
    (case a15 => k_is)
    (case l15 => k_is)
    (case c15 => k_is)
    (case k15 => k_is)
    (case a16 => k_is)
    (case l16 => k_is)
    (case c16 => k_is)
    (case k16 => k_is)
    (case a17 => k_is)
    (case l17 => k_is)
    (case c17 => k_is)
    (case k17 => k_is)
    (case a18 => k_is)
    (case l18 => k_is)
    (case c18 => k_is)
    (case k18 => k_is)
    (case a19 => k_is)
    (case l19 => k_is)
    (case c19 => k_is)
    (case k19 => k_is)
    (case a20 => k_is)
    (case l20 => k_is)
    (case c20 => k_is)
    (case k20 => k_is)
    (case a21 => k_is)
    (case l21 => k_is)
    (case c21 => k_is)
    (case k21 => k_is)
    (case a22 => k_is)
    (case l22 => k_is)
    (case c22 => k_is)
    (case k22 => k_is)
    (case a23 => k_is)
    (case l23 => k_is)
    (case c23 => k_is)
    (case k23 => k_is)
    (case a24 => k_is)
    (case l24 => k_is)
    (case c24 => k_is)
    (case k24 => k_is)
    (case a25 => k_is)
    (case l25 => k_is)
    (case c25 => k_is)
    (case k25 => k_is)
    (case a26 => k_is)
    (case l26 => k_is)
    (case c26 => k_is)
    (case k26 => k_is)
    (case a27 => k_is)
    (case l27 => k_is)
    (case c27 => k_is)
    (case k27 => k_is)
    (case a28 => k_is)
    (case l28 => k_is)
    (case c28 => k_is)
    (case k28 => k_is)
    (case a29 => k_is)
    (case l29 => k_is)
    (case c29 => k_is)
    (case k29 => k_is)
    (case a30 => k_is)
    (case l30 => k_is)
    (case c30 => k_is)
    (case k30 => k_is)
    (case a31 => k_is)
    (case l31 => k_is)
    (case c31 => k_is)
    (case k31 => k_is)
    (case a32 => k_is)
    (case l32 => k_is)
    (case c32 => k_is)
    (case k32 => k_is)
    (case a33 => k_is)
    (case l33 => k_is)
    (case c33 => k_is)
    (case k33 => k_is)
    (case a34 => k_is)
    (case l34 => k_is)
    (case c34 => k_is)
    (case k34 => k_is)
    (case z_len => k_is)
    (case z_int => k_is)
    (case z_abs => k_is)
    (case z_list => k_is)
    (case z_tuple => k_is)
    (case z_range => k_is)
    (case z_isinstance => k_is)
    (case z_str => k_is)
    (case z_bool => k_is)
    (case z_sum => k_is)
    (case z_sorted => k_is)
    (case z_enumerate => k_is)
    (case z_zip => k_is)
    (case z_max => k_is)
    (case z_min => k_is)
    (case xWattsError => k_is)
    (case xBadText => k_is)
    (case xBadJournal => k_is)
    (case xRefused => k_is)
    (case xTooFast => k_is)
    (case xS => k_is)
    (case xany => k_is)
    (case xtop => rfl)
    (case xLBadText => k_is)
    (case xA => first | k_is | ks_is | kx_is | rfl | kernel_rfl | decide +kernel)
    (case xsaBadText => k_is)
    (case xgaBadText => k_is)
    (case xggBadText => k_is)
    (case xnlBadText => k_is)
    (case xkBadText => first | k_is | ks_is | kx_is | rfl | kernel_rfl | decide +kernel)
    (case xeBadText => k_is)
    (case xvBadText => k_is)
    (case xtBadText => k_is)
    (case xhBadText => k_is)
    (case xselfBadText => first | k_is | ks_is | kx_is | rfl | kernel_rfl | decide +kernel)
    (case xiBadText => k_is)
    (case xitBadText => k_is)
    (case xilBadText => k_is)
    (case xicBadText => k_is)
    (case xccBadText => k_is)
    (case xcdBadText => k_is)
    (case xf2BadText => rfl)
    (case xfileBadText => rfl)
    (case xclBadText => k_is)
    (case xhaBadText => k_is)
    (case xhmBadText => first | k_is | ks_is | kx_is | rfl | kernel_rfl | decide +kernel)
    (case xw4BadText => k_is)
    (case xhn => first | k_is | ks_is | kx_is | rfl | kernel_rfl | decide +kernel)
    (case xht => first | k_is | ks_is | kx_is | rfl | kernel_rfl | decide +kernel)
    (case xw1 => k_is)
    (case xw2 => k_is)
    (case xw3 => k_is)
    (case xkBadText_BadJournal_Refused_TooFast => first | k_is | ks_is | kx_is | rfl | kernel_rfl | decide +kernel)
    (case xkBadText_BadText => first | k_is | ks_is | kx_is | rfl | kernel_rfl | decide +kernel)
    (case zgcd => k_is)
    (case zgZERO => k_is)
    (case zlZERO => k_is)
    (case zgLETTERS => k_is)
    (case zgDIGITS => k_is)
    (case zgLONGEST_NAME => k_is)
    (case zgMOST_DIGITS => k_is)
