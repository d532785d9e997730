import PyProof.Rows.All
import Wide.All
import OpenK.AllK
import Wide.FinOn
import HandS.ForMost
import HandS.Wide
import HandS.Gcd
import HandS.IsInst
import HandS.Defaults
import HandS.Evl
import PySem.Challenge.RW_sparewatts_k01_arithmetic_of_ratios
set_option Elab.async false
set_option linter.all false
set_option maxRecDepth 100000
set_option maxHeartbeats 4000000
/-! Own mathematics: lowest terms, greatest common divisors. -/
namespace Z
theorem sgn_mul (b : Int) (hb : b ≠ 0) : b.sign * b = (b.natAbs : Int) := by
  rw [Int.mul_comm]
  exact Int.mul_sign_self b
/-- what both texts reckon: the two parts divided by the greatest common divisor with the sign of the second one -/
theorem nrm_eq (t b : Int) (hb : b ≠ 0) (s : Int) (hs : s = if b < 0 then -((Nat.gcd t.natAbs b.natAbs : Nat) : Int) else ((Nat.gcd t.natAbs b.natAbs : Nat) : Int)) :
    s ≠ 0 ∧ s.natAbs ≤ b.natAbs ∧ t.fdiv s = (Rat.divInt t b).num ∧ b.fdiv s = ((Rat.divInt t b).den : Int) := by
  have g0 : 0 < Nat.gcd t.natAbs b.natAbs := Nat.gcd_pos_of_pos_right _ (by omega)
  have gl : Nat.gcd t.natAbs b.natAbs ≤ b.natAbs := Nat.gcd_le_right _ (by omega)
  have ht : ((Nat.gcd t.natAbs b.natAbs : Nat) : Int) ∣ t := Int.ofNat_dvd_left.mpr (Nat.gcd_dvd_left _ _)
  have hbd : ((Nat.gcd t.natAbs b.natAbs : Nat) : Int) ∣ b := Int.ofNat_dvd_left.mpr (Nat.gcd_dvd_right _ _)
  have hn := Rat.num_divInt t b
  have hd := Rat.den_divInt t b
  have hg : b.gcd t = Nat.gcd t.natAbs b.natAbs := by rw [Int.gcd_comm]; rfl
  rw [hg] at hn hd
  rw [if_neg hb] at hd
  generalize hG : Nat.gcd t.natAbs b.natAbs = g at *
  have g1 : (g : Int) ≠ 0 := by omega
  obtain ⟨t', rfl⟩ := ht
  obtain ⟨b', rfl⟩ := hbd
  have b0 : b' ≠ 0 := by rintro rfl; simp at hb
  have hna : ((g : Int) * b').natAbs = g * b'.natAbs := by rw [Int.natAbs_mul]; rfl
  have dd : (Rat.divInt (↑g * t') (↑g * b')).den = b'.natAbs := by
    rw [hd, hna]
    exact Nat.mul_div_cancel_left _ g0
  have nn : (Rat.divInt (↑g * t') (↑g * b')).num = b'.sign * t' := by
    rw [hn, Int.sign_mul, Int.sign_eq_one_of_pos (show (0 : Int) < g by omega), Int.one_mul, Int.mul_left_comm]
    exact Int.mul_ediv_cancel_left _ g1
  by_cases hneg : (g : Int) * b' < 0
  · rw [if_pos hneg] at hs
    have hb' : b' < 0 := by
      rcases Int.lt_trichotomy b' 0 with h | h | h
      · exact h
      · exact absurd h b0
      · have := Int.mul_pos (show (0 : Int) < g by omega) h
        omega
    refine ⟨by omega, by omega, ?_, ?_⟩
    · rw [nn, hs, Int.sign_eq_neg_one_of_neg hb', show (g : Int) * t' = (-1 * t') * (-(g : Int)) by rw [Int.neg_mul, Int.one_mul, Int.neg_mul_neg, Int.mul_comm]]
      exact Int.mul_fdiv_cancel _ (by omega)
    · rw [dd, hs, show (g : Int) * b' = (-b') * (-(g : Int)) by rw [Int.neg_mul_neg, Int.mul_comm], Int.mul_fdiv_cancel _ (by omega)]
      omega
  · rw [if_neg hneg] at hs
    have hb' : 0 < b' := by
      rcases Int.lt_trichotomy b' 0 with h | h | h
      · have := Int.mul_neg_of_pos_of_neg (show (0 : Int) < g by omega) h
        omega
      · exact absurd h b0
      · exact h
    refine ⟨by omega, by omega, ?_, ?_⟩
    · rw [nn, hs, Int.sign_eq_one_of_pos hb', show (g : Int) * t' = (1 * t') * (g : Int) by rw [Int.one_mul, Int.mul_comm]]
      exact Int.mul_fdiv_cancel _ (by omega)
    · rw [dd, hs, Int.mul_comm, Int.mul_fdiv_cancel _ (by omega)]
      omega
theorem num_le (t b : Int) (hb : b ≠ 0) : (Rat.divInt t b).num.natAbs ≤ t.natAbs := by
  rw [Rat.num_divInt]
  refine Nat.le_trans (Int.natAbs_ediv_le_natAbs _ _) ?_
  rw [Int.natAbs_mul, Int.natAbs_sign_of_ne_zero hb, Nat.one_mul]
  exact Nat.le_refl _
theorem den_le (t b : Int) (hb : b ≠ 0) : (Rat.divInt t b).den ≤ b.natAbs := by
  rw [Rat.den_divInt, if_neg hb]
  exact Nat.div_le_self _ _
/-- the last word of a loop of greatest common divisors: after i turns the two numbers are small -/
def GStep (C i x y : Nat) : Prop := (1 ≤ i → y < x ∧ x * y * 2 ^ (i - 1) ≤ C) ∧ (2 ≤ i → x * 2 ^ (i - 2) ≤ C)
theorem GStep.zero {C x y : Nat} : GStep C 0 x y := ⟨by omega, by omega⟩
theorem GStep.next {i x y a b : Nat} (h : GStep (a * b) i x y) (h0 : i = 0 → x = a ∧ y = b) (hy : y ≠ 0) : GStep (a * b) (i + 1) y (x % y) := by
  have m1 : x % y < y := Nat.mod_lt _ (by omega)
  refine ⟨fun _ => ⟨m1, ?_⟩, fun h2 => ?_⟩
  · by_cases hi : i = 0
    · obtain ⟨rfl, rfl⟩ := h0 hi
      subst hi
      show y * (x % y) * 2 ^ 0 ≤ x * y
      rw [Nat.pow_zero, Nat.mul_one, Nat.mul_comm x y]
      exact Nat.mul_le_mul_left _ (Nat.mod_le _ _)
    · obtain ⟨h1, h2⟩ := h.1 (by omega)
      refine Nat.le_trans ?_ h2
      have e : i + 1 - 1 = (i - 1) + 1 := by omega
      rw [e, Nat.pow_succ]
      have k : 2 * (x % y) ≤ x := by
        have := Nat.div_add_mod x y
        have d : 1 ≤ x / y := Nat.div_pos (by omega) (by omega)
        have : y * 1 ≤ y * (x / y) := Nat.mul_le_mul_left _ d
        omega
      calc y * (x % y) * (2 ^ (i - 1) * 2) = y * (2 * (x % y)) * 2 ^ (i - 1) := by
            rw [Nat.mul_comm (2 ^ (i - 1)) 2, ← Nat.mul_assoc, Nat.mul_assoc y (x % y) 2, Nat.mul_comm (x % y) 2]
        _ ≤ y * x * 2 ^ (i - 1) := Nat.mul_le_mul_right _ (Nat.mul_le_mul_left _ k)
        _ = x * y * 2 ^ (i - 1) := by rw [Nat.mul_comm y x]
  · obtain ⟨h1, h3⟩ := h.1 (by omega)
    refine Nat.le_trans ?_ h3
    have e : i + 1 - 2 = i - 1 := by omega
    rw [e]
    refine Nat.mul_le_mul_right _ ?_
    have : 1 * y ≤ x * y := Nat.mul_le_mul_right _ (by omega)
    omega
theorem GStep.end {C n x y : Nat} (h : GStep C n x y) (hn : 2 ≤ n) (hC : C < 2 ^ (n - 2)) : False := by
  obtain ⟨h1, _⟩ := h.1 (by omega)
  have h2 := h.2 hn
  have : 1 * 2 ^ (n - 2) ≤ x * 2 ^ (n - 2) := Nat.mul_le_mul_right _ (by omega)
  omega
theorem gcd_turn (x y : Nat) : Nat.gcd y (x % y) = Nat.gcd x y := by
  rw [Nat.gcd_comm y, ← Nat.gcd_rec, Nat.gcd_comm]
theorem abs_nat (i : Int) : (if i < 0 then -i else i) = (i.natAbs : Int) := by split <;> omega
end Z

/-! Own mathematics: ratios as rational numbers, and how large they are. -/
namespace Z
def Sz (n : Nat) (q : Rat) : Prop := q.num.natAbs < 2 ^ n ∧ q.den < 2 ^ n
theorem Sz.mono {n m : Nat} {q : Rat} (h : Sz n q) (l : n ≤ m) : Sz m q :=
  ⟨Nat.lt_of_lt_of_le h.1 (Nat.pow_le_pow_right (by decide) l), Nat.lt_of_lt_of_le h.2 (Nat.pow_le_pow_right (by decide) l)⟩
theorem Sz.divInt {n : Nat} {t b : Int} (hb : b ≠ 0) (h : t.natAbs < 2 ^ n) (h' : b.natAbs < 2 ^ n) : Sz n (Rat.divInt t b) :=
  ⟨Nat.lt_of_le_of_lt (num_le t b hb) h, Nat.lt_of_le_of_lt (den_le t b hb) h'⟩
theorem lt_pow_mul {x y a b : Nat} (hx : x < 2 ^ a) (hy : y < 2 ^ b) : x * y < 2 ^ (a + b) := by
  rw [Nat.pow_add]
  exact Nat.mul_lt_mul'' hx hy
theorem denz (q : Rat) : (q.den : Int) ≠ 0 := by
  have := q.den_nz
  omega
theorem den_mul (p q : Rat) : (p.den : Int) * (q.den : Int) ≠ 0 := Int.mul_ne_zero (denz p) (denz q)
theorem r_add (p q : Rat) : Rat.divInt (p.num * (q.den : Int) + q.num * (p.den : Int)) ((p.den : Int) * (q.den : Int)) = p + q := by
  conv => rhs; rw [← Rat.num_divInt_den p, ← Rat.num_divInt_den q]
  rw [Rat.divInt_add_divInt _ _ (denz p) (denz q)]
theorem r_sub (p q : Rat) : Rat.divInt (p.num * (q.den : Int) - q.num * (p.den : Int)) ((p.den : Int) * (q.den : Int)) = p - q := by
  conv => rhs; rw [← Rat.num_divInt_den p, ← Rat.num_divInt_den q]
  rw [Rat.divInt_sub_divInt _ _ (denz p) (denz q)]
theorem r_mul (p q : Rat) : Rat.divInt (p.num * q.num) ((p.den : Int) * (q.den : Int)) = p * q := by
  conv => rhs; rw [← Rat.num_divInt_den p, ← Rat.num_divInt_den q]
  rw [Rat.divInt_mul_divInt _ _]
theorem r_div (p q : Rat) : Rat.divInt (p.num * (q.den : Int)) ((p.den : Int) * q.num) = p / q := by
  rw [Rat.div_def, Rat.inv_def]
  conv => rhs; rw [← Rat.num_divInt_den p]
  rw [Rat.divInt_mul_divInt _ _]
theorem r_less (p q : Rat) : (p.num * (q.den : Int) < q.num * (p.den : Int)) ↔ p < q := (Rat.lt_iff p q).symm
theorem num0 {q : Rat} (h : q ≠ 0) : q.num ≠ 0 := fun z => h (Rat.num_eq_zero.mp z)
section
variable {p q : Rat} {a b : Nat}
theorem Sz.x1 (h : Sz a p) (k : Sz b q) : (p.num * (q.den : Int)).natAbs < 2 ^ (a + b) := by
  rw [Int.natAbs_mul]
  exact lt_pow_mul h.1 k.2
theorem Sz.x2 (h : Sz a p) (k : Sz b q) : (p.num * q.num).natAbs < 2 ^ (a + b) := by
  rw [Int.natAbs_mul]
  exact lt_pow_mul h.1 k.1
theorem Sz.x3 (h : Sz a p) (k : Sz b q) : ((p.den : Int) * (q.den : Int)).natAbs < 2 ^ (a + b) := by
  rw [Int.natAbs_mul]
  exact lt_pow_mul h.2 k.2
theorem Sz.x4 (h : Sz a p) (k : Sz b q) : ((p.den : Int) * q.num).natAbs < 2 ^ (a + b) := by
  rw [Int.natAbs_mul]
  exact lt_pow_mul h.2 k.1
theorem Sz.x5 (h : Sz a p) (k : Sz b q) : (p.num * (q.den : Int) + q.num * (p.den : Int)).natAbs < 2 ^ (a + b + 1) := by
  have h1 := h.x1 k
  have h2 := k.x1 h
  rw [Nat.add_comm b a] at h2
  rw [Nat.pow_succ]
  omega
theorem Sz.x6 (h : Sz a p) (k : Sz b q) : (p.num * (q.den : Int) - q.num * (p.den : Int)).natAbs < 2 ^ (a + b + 1) := by
  have h1 := h.x1 k
  have h2 := k.x1 h
  rw [Nat.add_comm b a] at h2
  rw [Nat.pow_succ]
  omega
theorem up1 {x n : Nat} (h : x < 2 ^ n) : x < 2 ^ (n + 1) := Nat.lt_of_lt_of_le h (Nat.pow_le_pow_right (by decide) (by omega))
theorem Sz.add (h : Sz a p) (k : Sz b q) : Sz (a + b + 1) (p + q) := by
  rw [← r_add]
  exact Sz.divInt (den_mul p q) (h.x5 k) (up1 (h.x3 k))
theorem Sz.sub (h : Sz a p) (k : Sz b q) : Sz (a + b + 1) (p - q) := by
  rw [← r_sub]
  exact Sz.divInt (den_mul p q) (h.x6 k) (up1 (h.x3 k))
theorem Sz.mul (h : Sz a p) (k : Sz b q) : Sz (a + b) (p * q) := by
  rw [← r_mul]
  exact Sz.divInt (den_mul p q) (h.x2 k) (h.x3 k)
theorem Sz.div (h : Sz a p) (k : Sz b q) (hq : q ≠ 0) : Sz (a + b) (p / q) := by
  rw [← r_div]
  exact Sz.divInt (Int.mul_ne_zero (denz p) (num0 hq)) (h.x1 k) (h.x4 k)
end
theorem Sz.zero : Sz 1 0 := ⟨by decide, by decide⟩
end Z

/-! Own base: a def's promise with its place, draws, data that is made of tuples. -/
namespace Z
open PySem PySem.Spec PyProof.Rows L2

/-! ### heaps -/
/-- all stays but what stands at p -/
def Kp (p : Addr) (H H' : Hp) : Prop := ∀ a o, a ≠ p → H a = some o → H' a = some o
theorem Kp.refl (p : Addr) (H : Hp) : Kp p H H := fun _ _ _ h => h
theorem Kp.trans {p : Addr} {H H1 H2 : Hp} (a : Kp p H H1) (b : Kp p H1 H2) : Kp p H H2 := fun x o n h => b x o n (a x o n h)
theorem Kp.of {p : Addr} {H H' : Hp} (e : Same H H') : Kp p H H' := fun a o _ h => e a o h
theorem Kp.sto {p : Addr} {H : Hp} {o : HO} : Kp p H (upd H p o) := fun a u n h => by rw [upd_ne n]; exact h
theorem same_upd {H : Hp} {p : Addr} {o : HO} (h : H p = none) : Same H (upd H p o) := fun b x e => by
  rw [upd_ne (ne_of_none e h)]
  exact e
theorem Kp.new {p q : Addr} {H : Hp} {o : HO} (h : H q = none) : Kp p H (upd H q o) := .of (same_upd h)
/-- a place that H does not know may change -/
theorem Kp.mut {p q : Addr} {H H' : Hp} {o : HO} (e : Kp p H H') (h : H q = none) : Kp p H (upd H' q o) := fun a u n ha => by
  rw [upd_ne (ne_of_none ha h)]
  exact e a u n ha
theorem Same.mut {q : Addr} {H H' : Hp} {o : HO} (e : Same H H') (h : H q = none) : Same H (upd H' q o) := fun a u ha => by
  rw [upd_ne (ne_of_none ha h)]
  exact e a u ha
/-- what may be read as a tuple stays so -/
def Tm (H H' : Hp) : Prop := ∀ a xs, Rd H a (.tup xs) → Rd H' a (.tup xs)
theorem Same.tm {H H' : Hp} (e : Same H H') : Tm H H' := fun a xs h => by
  rcases h with h | ⟨o, h⟩
  · exact .inl (e _ _ h)
  · exact .inr ⟨o, e _ _ h⟩
theorem Kp.tm {p : Addr} {H H' : Hp} {xs : List V} (e : Kp p H H') (hp : H p = some (.lst xs)) : Tm H H' := fun a ys h => by
  rcases h with h | ⟨o, h⟩
  · exact .inl (e _ _ (by rintro rfl; rw [hp] at h; cases h) h)
  · exact .inr ⟨o, e _ _ (by rintro rfl; rw [hp] at h; cases h) h⟩
theorem Tm.refl (H : Hp) : Tm H H := fun _ _ h => h
theorem Tm.trans {H H1 H2 : Hp} (a : Tm H H1) (b : Tm H1 H2) : Tm H H2 := fun x o h => b x o (a x o h)
/-- a list is stored -/
theorem Tm.lst {p : Addr} {H : Hp} {xs ys : List V} (hp : H p = some (.lst xs)) : Tm H (upd H p (.lst ys)) := Kp.tm (Kp.sto (p := p)) hp
theorem Tm.new {p : Addr} {H : Hp} {o : HO} (hp : H p = none) : Tm H (upd H p o) := Same.tm (same_upd hp)
theorem Tm.sq {K : PySem.W.Frag} {H H' : Hp} {a : Addr} {xs : List V} (e : Tm H H') (h : SqT K H a xs) : SqT K H' a xs := by
  rcases h with h | h
  · exact .inl (e _ _ h)
  · exact .inr h

/-! ### data of tuples -/
mutual
inductive Is (K : PySem.W.Frag) (H : Hp) : V → PyData → Prop
  | non : Is K H .non .none
  | bl (b : Bool) : Is K H (.bl b) (.bool b)
  | int (i : Int) : Is K H (.int i) (.int i)
  | str (x : Str) : Is K H (.str x) (.str x)
  | tup {a : Addr} {xs : List V} {ds : List PyData} : SqT K H a xs → IsA K H xs ds → Is K H (.ref a) (.tuple ds)
inductive IsA (K : PySem.W.Frag) (H : Hp) : List V → List PyData → Prop
  | nil : IsA K H [] []
  | cons {v : V} {vs : List V} {d : PyData} {ds : List PyData} : Is K H v d → IsA K H vs ds → IsA K H (v :: vs) (d :: ds)
end
section
variable {K : PySem.W.Frag} {H H' : Hp}
mutual
theorem Is.mono (e : Tm H H') : ∀ (d : PyData) {v : V}, Is K H v d → Is K H' v d
  | _, _, .non => .non
  | _, _, .bl b => .bl b
  | _, _, .int i => .int i
  | _, _, .str x => .str x
  | .tuple ds, _, .tup s a => .tup (e.sq s) (IsA.mono e ds a)
theorem IsA.mono (e : Tm H H') : ∀ (ds : List PyData) {vs : List V}, IsA K H vs ds → IsA K H' vs ds
  | _, _, .nil => .nil
  | d :: ds, _, .cons h t => .cons (Is.mono e d h) (IsA.mono e ds t)
end
mutual
theorem Is.dp : ∀ (d : PyData) {v : V}, Is K H v d → Dp K H v d
  | _, _, .non => .non
  | _, _, .bl b => .bl b
  | _, _, .int i => .int i
  | _, _, .str x => .str x
  | .tuple ds, _, .tup s a => .tup s (IsA.dp ds a)
theorem IsA.dp : ∀ (ds : List PyData) {vs : List V}, IsA K H vs ds → DpAll K H vs ds
  | _, _, .nil => .nil
  | d :: ds, _, .cons h t => .cons (Is.dp d h) (IsA.dp ds t)
end
theorem Is.to {d : PyData} {v : V} (h : Is K H v d) (e : Tm H H') : Is K H' v d := Is.mono e d h
theorem IsA.to {ds : List PyData} {vs : List V} (h : IsA K H vs ds) (e : Tm H H') : IsA K H' vs ds := IsA.mono e ds h
theorem Is.int' {v : V} {i : Int} (h : Is K H v (.int i)) : v = .int i := by cases h; rfl
theorem Is.str' {v : V} {i : Str} (h : Is K H v (.str i)) : v = .str i := by cases h; rfl
theorem Is.tup' {v : V} {ds : List PyData} (h : Is K H v (.tuple ds)) : ∃ a xs, v = .ref a ∧ SqT K H a xs ∧ IsA K H xs ds := by
  cases h with
  | tup s a => exact ⟨_, _, rfl, s, a⟩
theorem IsA.len : ∀ {vs : List V} {ds : List PyData}, IsA K H vs ds → vs.length = ds.length
  | _, _, .nil => rfl
  | _, _, .cons _ t => congrArg Nat.succ (IsA.len t)
theorem IsA.get : ∀ {vs : List V} {ds : List PyData} {i : Nat} {d : PyData}, IsA K H vs ds → ds[i]? = some d → ∃ v, vs[i]? = some v ∧ Is K H v d
  | _, _, _, _, .nil, e => by simp at e
  | _, _, 0, _, .cons h _, e => by simp at e; subst e; exact ⟨_, rfl, h⟩
  | _, _, i + 1, d, .cons _ t, e => by
    obtain ⟨v, h1, h2⟩ := IsA.get (i := i) (d := d) t (by simpa using e)
    exact ⟨v, by simpa using h1, h2⟩
theorem IsA.append : ∀ {vs us : List V} {ds es : List PyData}, IsA K H vs ds → IsA K H us es → IsA K H (vs ++ us) (ds ++ es)
  | _, _, _, _, .nil, s => s
  | _, _, _, _, .cons h t, s => .cons h (IsA.append t s)
theorem IsA.take : ∀ {vs : List V} {ds : List PyData} (n : Nat), IsA K H vs ds → IsA K H (vs.take n) (ds.take n)
  | _, _, 0, _ => .nil
  | _, _, _ + 1, .nil => .nil
  | _, _, n + 1, .cons h t => .cons h (IsA.take n t)
theorem IsA.drop : ∀ {vs : List V} {ds : List PyData} (n : Nat), IsA K H vs ds → IsA K H (vs.drop n) (ds.drop n)
  | _, _, 0, h => h
  | _, _, _ + 1, .nil => .nil
  | _, _, n + 1, .cons _ t => IsA.drop n t
theorem IsA.set {v : V} {d : PyData} (h : Is K H v d) : ∀ {vs : List V} {ds : List PyData} (i : Nat), IsA K H vs ds → IsA K H (vs.set i v) (ds.set i d)
  | _, _, _, .nil => .nil
  | _, _, 0, .cons _ t => .cons h t
  | _, _, i + 1, .cons q t => .cons q (IsA.set h i t)
theorem IsA.two {a b : V} {d e : PyData} (h : Is K H a d) (h' : Is K H b e) : IsA K H [a, b] [d, e] := .cons h (.cons h' .nil)
theorem Is.two' {v : V} {d e : PyData} (h : Is K H v (.tuple [d, e])) : ∃ p a b, v = .ref p ∧ SqT K H p [a, b] ∧ Is K H a d ∧ Is K H b e := by
  obtain ⟨p, xs, rfl, s, q⟩ := h.tup'
  cases q with
  | cons h1 q => cases q with
    | cons h2 q => cases q; exact ⟨p, _, _, rfl, s, h1, h2⟩
/-- a new tuple -/
theorem Is.newT {p : Addr} {xs : List V} {ds : List PyData} (hp : H p = none) (h : IsA K H xs ds) : Is K (upd H p (.tup xs)) (.ref p) (.tuple ds) := .tup (.inl (.inl upd_same)) (h.to (Tm.new hp))
/-- its type -/
def tyD : PyData → String
  | .none => "NoneType" | .bool _ => "bool" | .int _ => "int" | .str _ => "str" | _ => "tuple"
theorem Is.ty {v : V} {d : PyData} (h : Is K H v d) : TyX K H v (.type (tyD d)) := by
  cases h with
  | non => exact .base .non
  | bl b => exact .base (.bl b)
  | int i => exact .base (.int i)
  | str x => exact .base (.str x)
  | tup s a =>
    rcases s with (s | ⟨o, s⟩) | ⟨o, its, n, hk, hc, _⟩
    · exact .base (.tup s)
    · exact .fTuple s
    · exact .kTuple hk hc
end

/-! ### a def of the text, and what it promises -/
structure At (K : PySem.W.Frag) (mg : Str → Option Value) (x : Str) (st : Stmt) (ps : List Str) : Prop where
  ex : ∃ (f : Addr) (fd : FuncData), Fun K x x st f fd ∧ mg x = some (.ref f) ∧ Binds K fd ps []
structure Ok (P : Program) (w : World) (K : PySem.W.Frag) (mg : Str → Option Value) (base : Heap) (lvl : Nat) (x : Str) (ps : List Str) (dvs : List V) (sp : Sp) : Prop where
  ex : ∃ (f : Addr) (fd : FuncData) (ds : List Value), FnOk P w K mg base CX0 lvl f fd ps sp ∧ mg x = some (.ref f) ∧ PySem.W.keepIn K (.ref f) = true ∧ Binds K fd ps ds ∧ Vals dvs ds
section
variable {P : Program} {w : World} {K : PySem.W.Frag} {mg : Str → Option Value} {base : Heap} {x : Str} {st : Stmt} {ps N : List Str} {k : Nat} {sp : Sp}
theorem At.ok (F : At K mg x st ps) (S : FnScope N ps (defScope st)) (len : ∀ vs H Q E, sp vs H Q E → vs.length = ps.length)
    (hbody : ∀ (f : Addr) (cdv : Value) (A : Around) (outer : List Env) (s : Shared) (H : Hp) (vs : List V) (Q : VK) (E : XK), Room k (A.deeper (envOfC x (defScope st) s.heap.objs.size f cdv)) → sp vs H Q E →
      ∃ t, PSs (cxOf CX0 P w K mg base N x (defScope st) f cdv A outer s H E).nox (defBody st) t ∧ t { nx := fun _ H' => Q .non H', rt := Q } (start N vs) H) : Ok P w K mg base (k + 1) x ps [] sp := by
  obtain ⟨f, fd, F, m, b⟩ := F.ex
  exact ⟨f, fd, [], F.ok S len (fun cdv A outer s H vs Q E hr h => hbody f cdv A outer s H vs Q E hr h), m, F.kp, b, .nil⟩
theorem Ok.imp {dvs : List V} {sp' : Sp} (F : Ok P w K mg base k x ps dvs sp) (h : ∀ vs H Q E, sp' vs H Q E → sp vs H Q E) : Ok P w K mg base k x ps dvs sp' := by
  obtain ⟨f, fd, ds, F, m, kp, b, d⟩ := F.ex
  exact ⟨f, fd, ds, F.imp h, m, kp, b, d⟩
theorem Ok.up {dvs : List V} {j : Nat} (F : Ok P w K mg base k x ps dvs sp) (h : k ≤ j) : Ok P w K mg base j x ps dvs sp := by
  obtain ⟨f, fd, ds, F, m, kp, b, d⟩ := F.ex
  exact ⟨f, fd, ds, F.mono h, m, kp, b, d⟩
end
section
variable {X : Cx} {x : Str} {p pos : Pos} {e : Expr} {es : List Expr} {k : Nat} {ps : List Str} {dvs : List V} {sp : Sp} {t : TA}
theorem pe_ok (C : Ok X.prog X.w X.K X.mg X.base k x ps dvs sp) (hr : Room k X.A) (hg : Gl X x) (ha : PA X (e :: es) t) (hdb : (x == ("__debug__" : Str)) = false := by decide)
    (he : starEach (e :: es) X.env = (false, eval e X.env) :: starEach es X.env := by rfl) (hpl : (backTo pos (starEach es X.env)).any (·.1) = false := by rfl) :
    PE X (.Call (.Name x p) (e :: es) [] pos) (tCall sp dvs E0 t) := by
  obtain ⟨f, fd, ds, F, m, kp, b, d⟩ := C.ex
  exact pe_call F hr hg m kp b d pass0 ha hdb he hpl
/-- // by any divisor but 0 below 2 ^ 9000 -/
def CDivX (_ j : Int) : Prop := j ≠ 0 ∧ j.natAbs.log2 < 9000
theorem op_fdivX : OpR X (binaryOp .FloorDiv) (rI CDivX fun i j => .int (i.fdiv j)) := opI fun i j _ _ _ _ _ hc q => floordiv_int hc.1 q (.inl (PyProof.noPylong_of_log2 hc.2))
end
section
variable {X : Cx}
/-- a product: one side small, or both of moderate size -/
def CMulX (i j : Int) : Prop := CMul i j ∨ CMulW i j
theorem op_mulX : OpR X (binaryOp .Mult) (rI CMulX fun i j => .int (i * j)) := opI fun _ _ _ _ _ _ _ hc q => mul_int q (hc.elim (fun h => h.ok) (fun h => h.ok))
end
theorem mulL {i j : Int} (h : -(2 ^ 64) < i ∧ i < 2 ^ 64) : CMulX i j := .inl (.inl h)
theorem mulR {i j : Int} (h : -(2 ^ 64) < j ∧ j < 2 ^ 64) : CMulX i j := .inl (.inr h)
/-! the same rules, the written part named (within a comprehension) -/
section
variable {X : Cx} {K : PySem.W.Frag}
theorem ix_tupK (h : X.K = K) : IxR X (rIxT K) := h ▸ ix_tup
theorem ix_listK (h : X.K = K) : IxR X (rIxL K) := h ▸ ix_list
theorem call_lenK (h : X.K = K) : CallR X (.builtin "len") (fun xs H Q => ∃ p ys, xs = [.ref p] ∧ (SqL K H p ys ∨ SqT K H p ys) ∧ Q (.int ys.length) H) := h ▸ call_len_seq
theorem op_inK (h : X.K = K) : OpR X (compareOp .In) (rIn K false) := h ▸ op_in_seq
theorem op_notInK (h : X.K = K) : OpR X (compareOp .NotIn) (rIn K true) := h ▸ op_notIn_seq
theorem op_eqK (h : X.K = K) (hu : X.A.units + 64 < cLine) : OpR X (compareOp .Eq) (rEqD K) := h ▸ op_eqD hu
theorem op_neK (h : X.K = K) (hu : X.A.units + 64 < cLine) : OpR X (compareOp .NotEq) (rNeD K) := h ▸ op_neD hu
theorem sl_listK (h : X.K = K) : SlR X (rSlL K) := h ▸ sl_list
theorem sl_tupK (h : X.K = K) : SlR X (rSlT K) := h ▸ sl_tup
end
/-- what the program leaves alone -/
structure BI (mg : Str → Option Value) : Prop where
  len : mg "len" = none
  int : mg "int" = none
  abs : mg "abs" = none
  list : mg "list" = none
  tuple : mg "tuple" = none
  range : mg "range" = none
  isinstance : mg "isinstance" = none
  str : mg "str" = none
  bool : mg "bool" = none
  sum : mg "sum" = none
  sorted : mg "sorted" = none
  enumerate : mg "enumerate" = none

/-! ### draws -/
/-- a pool of draws stands at p, its cells at a -/
def Pl (p a : Addr) (H : Hp) : Prop := ∃ (ns : List Int) (i rest last cnt : Int), a ≠ p ∧ H p = some (.lst [.ref a, .int i, .int rest, .int last, .int cnt]) ∧ H a = some (.lst (ns.map V.int)) ∧ ns.length ≤ 63 ∧
  0 ≤ i ∧ 0 ≤ rest ∧ 0 ≤ last ∧ last < 1000000000000000000 ∧ 0 ≤ cnt
theorem Pl.lst {p a : Addr} {H : Hp} (h : Pl p a H) : ∃ xs, H p = some (.lst xs) := by
  obtain ⟨ns, i, rest, last, cnt, _, h, _⟩ := h
  exact ⟨_, h⟩
theorem Pl.tm {p a : Addr} {H H' : Hp} (h : Pl p a H) (e : Kp p H H') : Tm H H' := by
  obtain ⟨xs, h⟩ := h.lst
  exact e.tm h
theorem Pl.same {p a : Addr} {H H' : Hp} (h : Pl p a H) (e : Same H H') : Pl p a H' := by
  obtain ⟨ns, i, rest, last, cnt, n, h, h1, h2⟩ := h
  exact ⟨ns, i, rest, last, cnt, n, e _ _ h, e _ _ h1, h2⟩
/-- another place is stored -/
theorem Pl.mut {p a q : Addr} {H : Hp} {o : HO} (h : Pl p a H) (n : q ≠ p) (na : q ≠ a) : Pl p a (upd H q o) := by
  obtain ⟨ns, i, rest, last, cnt, nn, h, h1, h3⟩ := h
  exact ⟨ns, i, rest, last, cnt, nn, by rw [upd_ne n.symm]; exact h, by rw [upd_ne na.symm]; exact h1, h3⟩
theorem Pl.ne {p a q : Addr} {H : Hp} (h : Pl p a H) (hq : H q = none) : q ≠ p ∧ q ≠ a := by
  obtain ⟨ns, i, rest, last, cnt, nn, h, h1, h3⟩ := h
  exact ⟨fun e => (by rw [e, h] at hq; cases hq), fun e => (by rw [e, h1] at hq; cases hq)⟩
def spPool (K : PySem.W.Frag) : Sp := fun vs H Q _ => ∃ (s : Addr) (ns : List Int), vs = [.ref s] ∧ SqL K H s (ns.map V.int) ∧ ns.length ≤ 63 ∧ ∀ p a H', H p = none → Same H H' → Pl p a H' → Q (.ref p) H'
def spDraw : Sp := fun vs H Q _ => ∃ (p a : Addr) (m : Int), vs = [.ref p, .int m] ∧ Pl p a H ∧ 0 < m ∧ m ≤ 10000000000000000000000000000000000000000 ∧
  ∀ r H', 0 ≤ r → r < m → Kp p H H' → Pl p a H' → Q (.int r) H'
theorem tenK : (10 : Int) ^ (40 : Int).toNat = 10000000000000000000000000000000000000000 := by decide +kernel
theorem divX {i m : Int} (h0 : 0 < m) (h1 : m ≤ 10000000000000000000000000000000000000000) : CDivX i m := by
  refine ⟨by omega, ?_⟩
  have h : m.natAbs < 2 ^ 200 := by
    have : (10000000000000000000000000000000000000000 : Nat) < 2 ^ 200 := by decide +kernel
    omega
  exact Nat.lt_of_lt_of_le (PySem.Flt.log2_lt_of (by decide) h) (by decide)
theorem fm0 {i m : Int} (h0 : 0 < m) : 0 ≤ i.fmod m := Int.fmod_nonneg_of_pos i h0
theorem fm1 {i m : Int} (h0 : 0 < m) : i.fmod m < m := Int.fmod_lt_of_pos i h0
theorem mulF {i j : Int} : CMulX (i.fmod 2147483647) j := mulL ⟨by have := fm0 (i := i) (m := 2147483647) (by decide); omega, by have := fm1 (i := i) (m := 2147483647) (by decide); omega⟩
theorem fd0 {i m : Int} (h0 : 0 < m) (hi : 0 ≤ i) : 0 ≤ i.fdiv m := by
  rw [Int.fdiv_eq_ediv_of_nonneg i (by omega)]
  exact Int.ediv_nonneg hi (by omega)
theorem small5 {n : Nat} (h : n ≤ 100000) : n ≤ sizeLine := Nat.le_trans h (by decide)
theorem small5' {n : Nat} (h : n < 100000) : n < sizeLine := Nat.lt_of_lt_of_le h (by decide)
/-- a product with one small side -/
theorem mulS {i j : Int} (hi : i.natAbs < 2 ^ 400000) (hj : j.natAbs < 2 ^ 400000) : CMulW i j := wide_mul hi hj (by decide) (by decide) (by decide)
end Z

namespace Z
open PySem PySem.Spec PyProof.Rows L2
/-! ### numbers and ratios -/
def BIG : Nat := 2 ^ 8000
theorem big_lt {n : Nat} (h : n < BIG) : n < 2 ^ 8000 := h
theorem divB {i s : Int} {b : Nat} (h0 : s ≠ 0) (h1 : s.natAbs ≤ b) (h2 : b < BIG) : CDivX i s :=
  ⟨h0, Nat.lt_of_lt_of_le (PySem.Flt.log2_lt_of (by decide) (big_lt (Nat.lt_of_le_of_lt h1 h2))) (by decide)⟩
theorem big_sq {a b : Nat} (ha : a < BIG) (hb : b < BIG) : a * b < 2 ^ (100000 - 2) := by
  have h : a * b < BIG * BIG := Nat.mul_lt_mul'' ha hb
  refine Nat.lt_of_lt_of_le h ?_
  unfold BIG
  rw [← Nat.pow_add]
  exact Nat.pow_le_pow_right (by decide) (by decide)
theorem mulB {i j : Int} (hi : i.natAbs < BIG) (hj : j.natAbs < BIG) : CMulX i j := .inr (wide_mul (big_lt hi) (big_lt hj) (by decide) (by decide) (by decide))
/-- a ratio as the program writes it -/
def rat2 (q : Rat) : PyData := .tuple [.int q.num, .int (q.den : Int)]
def spGcd : Sp := fun vs H Q _ => ∃ a b : Nat, vs = [.int (a : Int), .int (b : Int)] ∧ a < BIG ∧ b < BIG ∧ Q (.int ((Nat.gcd a b : Nat) : Int)) H
/-- the ratio of two numbers -/
def spRat (K : PySem.W.Frag) : Sp := fun vs H Q _ => ∃ t b : Int, vs = [.int t, .int b] ∧ b ≠ 0 ∧ t.natAbs < BIG ∧ b.natAbs < BIG ∧ ∀ v H', Same H H' → Is K H' v (rat2 (Rat.divInt t b)) → Q v H'
theorem rat2_new {K : PySem.W.Frag} {H : Hp} {p : Addr} {x y : Int} {q : Rat} (hp : H p = none) (hx : x = q.num) (hy : y = (q.den : Int)) : Is K (upd H p (.tup [.int x, .int y])) (.ref p) (rat2 q) := by
  subst hx hy
  exact Is.newT hp (.two (.int _) (.int _))
/-! ### two data are the same -/
mutual
def plainD : PyData → Bool
  | .none | .int _ | .str _ => true
  | .tuple ds => decide (ds.length ≤ 1000) && plainDs ds
  | _ => false
def plainDs : List PyData → Bool
  | [] => true
  | d :: ds => plainD d && plainDs ds
end
theorem plain_get : ∀ {ds : List PyData} {i : Nat} {d : PyData}, plainDs ds = true → ds[i]? = some d → plainD d = true
  | [], _, _, _, e => by simp at e
  | x :: xs, 0, d, h, e => by
    simp at e
    subst e
    exact (Bool.and_eq_true_iff.mp (by simpa [plainDs] using h)).1
  | x :: xs, i + 1, d, h, e => plain_get (ds := xs) (i := i) (Bool.and_eq_true_iff.mp (by simpa [plainDs] using h)).2 (by simpa using e)
mutual
def depD : PyData → Nat
  | .tuple ds => depDs ds + 1
  | _ => 0
def depDs : List PyData → Nat
  | [] => 0
  | d :: ds => max (depD d) (depDs ds)
end
theorem dep_get : ∀ {ds : List PyData} {i : Nat} {d : PyData}, ds[i]? = some d → depD d ≤ depDs ds
  | [], _, _, e => by simp at e
  | x :: xs, 0, d, e => by
    simp at e
    subst e
    show depD x ≤ max (depD x) (depDs xs)
    omega
  | x :: xs, i + 1, d, e => by
    have := dep_get (ds := xs) (i := i) (d := d) (by simpa using e)
    show depD d ≤ max (depD x) (depDs xs)
    omega
/-- n calls, one in another, are allowed -/
def spSame (K : PySem.W.Frag) (n : Nat) : Sp := fun vs H Q _ => ∃ (x y : V) (d e : PyData), vs = [x, y] ∧ Is K H x d ∧ Is K H y e ∧ plainD d = true ∧ plainD e = true ∧ depD e < n ∧ ∀ (b : Bool) H', Same H H' → (b = true ↔ d = e) → Q (.bl b) H'
theorem kt {K : PySem.W.Frag} {a b : String} {r : Bool} (h : kitB a b = some r) : PySem.W.kitOne K (.type a) (.type b) = some r := kit_ty h
/-- which built-in type a datum has -/
theorem kt_of {K : PySem.W.Frag} (d : PyData) (hd : plainD d = true) (T : String) (hT : T = "tuple" ∨ T = "str" ∨ T = "int") : PySem.W.kitOne K (.type (tyD d)) (.type T) = some (decide (tyD d = T)) := by
  cases d with
  | none =>
            rcases hT with rfl | rfl | rfl
            · exact kt (show kitB "NoneType" "tuple" = some (decide ("NoneType" = "tuple")) by decide +kernel)
            · exact kt (show kitB "NoneType" "str" = some (decide ("NoneType" = "str")) by decide +kernel)
            · exact kt (show kitB "NoneType" "int" = some (decide ("NoneType" = "int")) by decide +kernel)
  | int i =>
            rcases hT with rfl | rfl | rfl
            · exact kt (show kitB "int" "tuple" = some (decide ("int" = "tuple")) by decide +kernel)
            · exact kt (show kitB "int" "str" = some (decide ("int" = "str")) by decide +kernel)
            · exact kt (show kitB "int" "int" = some (decide ("int" = "int")) by decide +kernel)
  | str s =>
            rcases hT with rfl | rfl | rfl
            · exact kt (show kitB "str" "tuple" = some (decide ("str" = "tuple")) by decide +kernel)
            · exact kt (show kitB "str" "str" = some (decide ("str" = "str")) by decide +kernel)
            · exact kt (show kitB "str" "int" = some (decide ("str" = "int")) by decide +kernel)
  | tuple ds =>
            rcases hT with rfl | rfl | rfl
            · exact kt (show kitB "tuple" "tuple" = some (decide ("tuple" = "tuple")) by decide +kernel)
            · exact kt (show kitB "tuple" "str" = some (decide ("tuple" = "str")) by decide +kernel)
            · exact kt (show kitB "tuple" "int" = some (decide ("tuple" = "int")) by decide +kernel)
  | bool b => simp [plainD] at hd
  | list ds => simp [plainD] at hd
  | dict ds => simp [plainD] at hd
theorem ktB {K : PySem.W.Frag} (i : Int) : PySem.W.kitOne K (.type (tyD (.int i))) (.type "bool") = some false := kt (show kitB "int" "bool" = some false by decide +kernel)
end Z
namespace Z
open PySem PySem.Spec PyProof.Rows L2
theorem ty_tuple {d : PyData} (hd : plainD d = true) (h : tyD d = "tuple") : ∃ ds, d = .tuple ds ∧ ds.length ≤ 1000 ∧ plainDs ds = true := by
  cases d with
  | none => exact absurd h (show ¬ "NoneType" = "tuple" by decide)
  | int i => exact absurd h (show ¬ "int" = "tuple" by decide)
  | str s => exact absurd h (show ¬ "str" = "tuple" by decide)
  | tuple ds =>
    have h2 : (decide (ds.length ≤ 1000) && plainDs ds) = true := by simpa [plainD] using hd
    exact ⟨ds, rfl, of_decide_eq_true (Bool.and_eq_true_iff.mp h2).1, (Bool.and_eq_true_iff.mp h2).2⟩
  | bool b => simp [plainD] at hd
  | list ds => simp [plainD] at hd
  | dict ds => simp [plainD] at hd
theorem no_tuple {d : PyData} (hd : plainD d = true) (h : ¬ tyD d = "tuple") : d = .none ∨ (∃ i, d = .int i) ∨ ∃ s, d = .str s := by
  cases d with
  | none => exact .inl rfl
  | int i => exact .inr (.inl ⟨i, rfl⟩)
  | str s => exact .inr (.inr ⟨s, rfl⟩)
  | tuple ds => exact absurd rfl h
  | bool b => simp [plainD] at hd
  | list ds => simp [plainD] at hd
  | dict ds => simp [plainD] at hd
theorem ext_of {α : Type} {xs ys : List α} (hl : xs.length = ys.length) (h : ∀ j < ys.length, xs[j]? = ys[j]?) : xs = ys := by
  apply List.ext_getElem? 
  intro j
  by_cases hj : j < ys.length
  · exact h j hj
  · rw [List.getElem?_eq_none (by omega), List.getElem?_eq_none (by omega)]
/-- a def with defaults dvs, the last of which may be left out -/
structure AtD (K : PySem.W.Frag) (mg : Str → Option Value) (x : Str) (st : Stmt) (ps : List Str) (dvs : List V) : Prop where
  ex : ∃ (f : Addr) (fd : FuncData) (ds : List Value), FunD K x x (defArgs st) (defBody st) (defScope st) dvs [] f fd ∧ mg x = some (.ref f) ∧ Binds K fd ps [] ∧ Binds K fd ps ds ∧ Vals dvs ds
section
variable {P : Program} {w : World} {K : PySem.W.Frag} {mg : Str → Option Value} {base : Heap} {x : Str} {st : Stmt} {ps N : List Str} {k : Nat} {sp : Sp} {dvs : List V}
theorem AtD.ok (F : AtD K mg x st ps dvs) (S : FnScope N ps (defScope st)) (len : ∀ vs H Q E, sp vs H Q E → vs.length = ps.length)
    (hbody : ∀ (f : Addr) (cdv : Value) (A : Around) (outer : List Env) (s : Shared) (H : Hp) (vs : List V) (Q : VK) (E : XK), Room k (A.deeper (envOfC x (defScope st) s.heap.objs.size f cdv)) → sp vs H Q E →
      ∃ t, PSs (cxOf CX0 P w K mg base N x (defScope st) f cdv A outer s H E).nox (defBody st) t ∧ t { nx := fun _ H' => Q .non H', rt := Q } (start N vs) H) :
    Ok P w K mg base (k + 1) x ps [] sp ∧ Ok P w K mg base (k + 1) x ps dvs sp := by
  obtain ⟨f, fd, ds, F, m, b, b2, d⟩ := F.ex
  have G : FnOk P w K mg base CX0 (k + 1) f fd ps sp := F.ok S len (fun cdv A outer s H vs Q E hr h => by
    obtain ⟨t, h1, h2⟩ := hbody f cdv A outer s H vs Q E hr h
    exact ⟨t, h1.nox, h2⟩)
  exact ⟨⟨f, fd, [], G, m, F.kp, b, .nil⟩, ⟨f, fd, ds, G, m, F.kp, b2, d⟩⟩
end
end Z
namespace Z
open PySem PySem.Spec PyProof.Rows L2
theorem plain_rat2 (q : Rat) : plainD (rat2 q) = true := by
  unfold rat2
  rw [plainD, plainDs, plainDs, plainDs, plainD, plainD]
  rfl
theorem dep_rat2 (q : Rat) : depD (rat2 q) = 1 := by
  simp [rat2, depD, depDs]
theorem rat2_inj {q r : Rat} (h : rat2 q = rat2 r) : q = r := by
  have h1 := PyData.tuple.inj h
  have h2 : PyData.int q.num = PyData.int r.num ∧ _ := List.cons.inj h1
  have h3 := List.cons.inj h2.2
  have h4 := PyData.int.inj h2.1
  have h5 := PyData.int.inj h3.1
  exact Rat.ext h4 (by omega)
/-- what law(script) promises -/
def spLaw (K : PySem.W.Frag) : Sp := fun vs H Q _ => ∃ (a : Addr) (ns : List Int), vs = [.ref a] ∧ SqL K H a (ns.map V.int) ∧ ns.length ≤ 63 ∧ ∀ H', Q (.bl true) H'
theorem t41 : (100000000000000000000000000000000000000000 : Nat) < BIG := Nat.lt_of_lt_of_le (show 100000000000000000000000000000000000000000 < 2 ^ 200 by decide +kernel) (Nat.pow_le_pow_right (by decide) (by decide))
theorem bigK {n : Nat} (h : n ≤ 100000000000000000000000000000000000000000000000000) : n < BIG :=
  Nat.lt_of_le_of_lt h (Nat.lt_of_lt_of_le (show 100000000000000000000000000000000000000000000000000 < 2 ^ 200 by decide +kernel) (Nat.pow_le_pow_right (by decide) (by decide)))
end Z

namespace Z
open PySem PySem.Spec PyProof.Rows L2
/-! ### the promises of the ratios' operations -/
theorem sz_big {x n : Nat} (h : n ≤ 8000) (hx : x < 2 ^ n) : x < BIG := Nat.lt_of_lt_of_le hx (Nat.pow_le_pow_right (by decide) h)
theorem Sz.bn {q : Rat} (h : Sz 2000 q) : q.num.natAbs < BIG := sz_big (by decide) h.1
theorem Sz.bd {q : Rat} (h : Sz 2000 q) : ((q.den : Int)).natAbs < BIG := sz_big (n := 2000) (by decide) (by rw [Int.natAbs_natCast]; exact h.2)
def spBin (K : PySem.W.Frag) (g : Rat → Rat → Rat) : Sp := fun vs H Q _ => ∃ (x y : V) (p q : Rat), vs = [x, y] ∧ Is K H x (rat2 p) ∧ Is K H y (rat2 q) ∧ Sz 2000 p ∧ Sz 2000 q ∧ ∀ v H', Same H H' → Is K H' v (rat2 (g p q)) → Q v H'
def spBinQ (K : PySem.W.Frag) : Sp := fun vs H Q _ => ∃ (x y : V) (p q : Rat), vs = [x, y] ∧ Is K H x (rat2 p) ∧ Is K H y (rat2 q) ∧ Sz 2000 p ∧ Sz 2000 q ∧ q ≠ 0 ∧ ∀ v H', Same H H' → Is K H' v (rat2 (p / q)) → Q v H'
def spLess (K : PySem.W.Frag) : Sp := fun vs H Q _ => ∃ (x y : V) (p q : Rat), vs = [x, y] ∧ Is K H x (rat2 p) ∧ Is K H y (rat2 q) ∧ Sz 2000 p ∧ Sz 2000 q ∧ Q (.bl (decide (p < q))) H
/-- the program's own zero -/
def GZ (K : PySem.W.Frag) (mg : Str → Option Value) : Prop := ∃ zA : Addr, mg "ZERO" = some (.ref zA) ∧ ∀ H : Hp, SqT K H zA [.int 0, .int 1]
theorem is_zero {K : PySem.W.Frag} {H : Hp} {a : Addr} (h : SqT K H a [.int 0, .int 1]) : Is K H (.ref a) (rat2 0) := .tup h (.two (.int 0) (.int 1))
/-! ### sums -/
def sumR : List Rat → Rat
  | [] => 0
  | q :: r => q + sumR r
def sumL (z : Rat) (qs : List Rat) : Rat := qs.foldl (· + ·) z
theorem sumL_take {qs : List Rat} {i : Nat} {q : Rat} (h : qs[i]? = some q) (z : Rat) : sumL z (qs.take (i + 1)) = sumL z (qs.take i) + q := by
  unfold sumL
  rw [List.take_add_one, h, List.foldl_append]
  rfl
theorem sumL_sz {n : Nat} : ∀ {qs : List Rat} {m : Nat} {z : Rat}, (∀ q ∈ qs, Sz n q) → Sz m z → Sz (m + qs.length * (n + 1)) (sumL z qs)
  | [], m, z, _, hz => hz.mono (by omega)
  | q :: r, m, z, h, hz => by
    have h1 := hz.add (h q (List.mem_cons_self ..))
    have h2 := sumL_sz (qs := r) (fun x hx => h x (List.mem_cons_of_mem _ hx)) h1
    refine h2.mono ?_
    rw [List.length_cons, Nat.add_mul]
    omega
/-- the sum of ratios that stand in a list at a; n bounds their size -/
def spSumL (K : PySem.W.Frag) : Sp := fun vs H Q _ => ∃ (a : Addr) (xs : List V) (qs : List Rat) (n : Nat), vs = [.ref a] ∧ SqL K H a xs ∧ IsA K H xs (qs.map rat2) ∧ (∀ q ∈ qs, Sz n q) ∧ n ≤ 2000 ∧ qs.length * (n + 1) ≤ 1900 ∧
  ∀ v H', Same H H' → Is K H' v (rat2 (sumL 0 qs)) → Q v H'
def spSumT (K : PySem.W.Frag) : Sp := fun vs H Q _ => ∃ (a : Addr) (xs : List V) (qs : List Rat) (n : Nat), vs = [.ref a] ∧ SqT K H a xs ∧ IsA K H xs (qs.map rat2) ∧ (∀ q ∈ qs, Sz n q) ∧ n ≤ 2000 ∧ qs.length * (n + 1) ≤ 1900 ∧
  ∀ v H', Same H H' → Is K H' v (rat2 (sumL 0 qs)) → Q v H'
theorem sumL_mid {qs : List Rat} {n i : Nat} (h : ∀ q ∈ qs, Sz n q) (hl : qs.length * (n + 1) ≤ 1900) : Sz 2000 (sumL 0 (qs.take i)) := by
  refine (sumL_sz (fun q hq => h q (List.mem_of_mem_take hq)) Sz.zero).mono ?_
  have : (qs.take i).length ≤ qs.length := by rw [List.length_take]; omega
  have := Nat.mul_le_mul_right (n + 1) this
  omega
theorem getR {qs : List Rat} {i : Nat} {d : PyData} (h : (qs.map rat2)[i]? = some d) : ∃ q, qs[i]? = some q ∧ d = rat2 q := by
  rw [List.getElem?_map] at h
  cases hq : qs[i]? with
  | none => rw [hq] at h; cases h
  | some q => rw [hq] at h; exact ⟨q, rfl, (Option.some.inj h).symm⟩
theorem seq_same {K : PySem.W.Frag} {H H' : Hp} {a : Addr} {xs : List V} (e : Same H H') (h : SqL K H a xs) : SqL K H' a xs := e.seq h
/-- an item of a list of data -/
theorem IsA.at {K : PySem.W.Frag} {H : Hp} : ∀ {vs : List V} {ds : List PyData} {i : Nat} {v : V}, IsA K H vs ds → vs[i]? = some v → ∃ d, ds[i]? = some d ∧ Is K H v d
  | _, _, _, _, .nil, e => by simp at e
  | _, _, 0, _, .cons h _, e => by simp at e; subst e; exact ⟨_, rfl, h⟩
  | _, _, i + 1, v, .cons _ t, e => by
    obtain ⟨d, h1, h2⟩ := IsA.at (i := i) (v := v) t (by simpa using e)
    exact ⟨d, by simpa using h1, h2⟩
section
variable {K : PySem.W.Frag} {σ : L2.St} {H : Hp} {Q : VK} {i j : Nat} {va vb : V} {p q : Rat} {g : Rat → Rat → Rat}
/-- two answers of ratios, the same -/
theorem rd_same2 (h1 : σ[i]? = some (some va)) (h2 : σ[j]? = some (some vb)) (ia : Is K H va (rat2 p)) (ib : Is K H vb (rat2 q)) (zp : Sz 2000 p) (zq : Sz 2000 q) (k : ∀ H', Same H H' → Q (.bl true) H') :
    tCall (spSame K 2) [] E0 (tCons (tCall (spBin K g) [] E0 (tCons (tVar i) (tCons (tVar j) tNil))) (tCons (tCall (spBin K g) [] E0 (tCons (tVar i) (tCons (tVar j) tNil))) tNil)) σ H Q := by
  refine ⟨va, h1, vb, h2, va, vb, p, q, rfl, ia, ib, zp, zq, fun v1 H1 s1 i1 => ?_⟩
  refine ⟨va, h1, vb, h2, va, vb, p, q, rfl, ia.to (Same.tm s1), ib.to (Same.tm s1), zp, zq, fun v2 H2 s2 i2 => ?_⟩
  refine ⟨v1, v2, _, _, rfl, i1.to (Same.tm s2), i2, plain_rat2 _, plain_rat2 _, by rw [dep_rat2]; decide, fun c H3 s3 hc => ?_⟩
  obtain rfl : c = true := hc.mpr rfl
  exact k H3 (s1.trans (s2.trans s3))
theorem rd_same2Q (h1 : σ[i]? = some (some va)) (h2 : σ[j]? = some (some vb)) (ia : Is K H va (rat2 p)) (ib : Is K H vb (rat2 q)) (zp : Sz 2000 p) (zq : Sz 2000 q) (hq : q ≠ 0) (k : ∀ H', Same H H' → Q (.bl true) H') :
    tCall (spSame K 2) [] E0 (tCons (tCall (spBinQ K) [] E0 (tCons (tVar i) (tCons (tVar j) tNil))) (tCons (tCall (spBinQ K) [] E0 (tCons (tVar i) (tCons (tVar j) tNil))) tNil)) σ H Q := by
  refine ⟨va, h1, vb, h2, va, vb, p, q, rfl, ia, ib, zp, zq, hq, fun v1 H1 s1 i1 => ?_⟩
  refine ⟨va, h1, vb, h2, va, vb, p, q, rfl, ia.to (Same.tm s1), ib.to (Same.tm s1), zp, zq, hq, fun v2 H2 s2 i2 => ?_⟩
  refine ⟨v1, v2, _, _, rfl, i1.to (Same.tm s2), i2, plain_rat2 _, plain_rat2 _, by rw [dep_rat2]; decide, fun c H3 s3 hc => ?_⟩
  obtain rfl : c = true := hc.mpr rfl
  exact k H3 (s1.trans (s2.trans s3))
end
end Z

namespace Z
open PySem PySem.Spec PyProof.Rows L2
def topS (i : Nat) : Stmt := PySem.Challenge.pw_sparewatts_k01_arithmetic_of_ratios.main.body.getD i (.Pass ⟨0, 0, 0, 0⟩)
abbrev sratio : Stmt := topS 3
abbrev splus : Stmt := topS 4
abbrev sminus : Stmt := topS 5
abbrev stimes : Stmt := topS 6
abbrev sover : Stmt := topS 7
abbrev sless : Stmt := topS 8
abbrev stotal : Stmt := topS 9
abbrev s_law_pool : Stmt := topS 11
abbrev s_law_draw : Stmt := topS 12
abbrev s_law_gcd : Stmt := topS 13
abbrev s_law_ratio : Stmt := topS 14
abbrev s_law_plus : Stmt := topS 15
abbrev s_law_minus : Stmt := topS 16
abbrev s_law_times : Stmt := topS 17
abbrev s_law_over : Stmt := topS 18
abbrev s_law_less : Stmt := topS 19
abbrev s_law_sum : Stmt := topS 20
abbrev s_law_same : Stmt := topS 21
abbrev s_law_drawn : Stmt := topS 22
abbrev slaw : Stmt := topS 23
theorem scratio : FnScope ["top", "bottom", "shared"] ["top", "bottom"] (defScope sratio) := ⟨rfl, rfl, rfl, by decide +kernel, rfl, by decide +kernel, by decide +kernel⟩
theorem scplus : FnScope ["a", "b"] ["a", "b"] (defScope splus) := ⟨rfl, rfl, rfl, by decide +kernel, rfl, by decide +kernel, by decide +kernel⟩
theorem scminus : FnScope ["a", "b"] ["a", "b"] (defScope sminus) := ⟨rfl, rfl, rfl, by decide +kernel, rfl, by decide +kernel, by decide +kernel⟩
theorem sctimes : FnScope ["a", "b"] ["a", "b"] (defScope stimes) := ⟨rfl, rfl, rfl, by decide +kernel, rfl, by decide +kernel, by decide +kernel⟩
theorem scover : FnScope ["a", "b"] ["a", "b"] (defScope sover) := ⟨rfl, rfl, rfl, by decide +kernel, rfl, by decide +kernel, by decide +kernel⟩
theorem scless : FnScope ["a", "b"] ["a", "b"] (defScope sless) := ⟨rfl, rfl, rfl, by decide +kernel, rfl, by decide +kernel, by decide +kernel⟩
theorem sctotal : FnScope ["ratios", "so_far", "part"] ["ratios"] (defScope stotal) := ⟨rfl, rfl, rfl, by decide +kernel, rfl, by decide +kernel, by decide +kernel⟩
theorem sc_law_pool : FnScope ["script"] ["script"] (defScope s_law_pool) := ⟨rfl, rfl, rfl, by decide +kernel, rfl, by decide +kernel, by decide +kernel⟩
theorem sc_law_draw : FnScope ["pool", "many", "found", "cell", "mixed"] ["pool", "many"] (defScope s_law_draw) := ⟨rfl, rfl, rfl, by decide +kernel, rfl, by decide +kernel, by decide +kernel⟩
theorem sc_law_gcd : FnScope ["a", "b", "k"] ["a", "b"] (defScope s_law_gcd) := ⟨rfl, rfl, rfl, by decide +kernel, rfl, by decide +kernel, by decide +kernel⟩
theorem sc_law_ratio : FnScope ["top", "bottom", "common"] ["top", "bottom"] (defScope s_law_ratio) := ⟨rfl, rfl, rfl, by decide +kernel, rfl, by decide +kernel, by decide +kernel⟩
theorem sc_law_plus : FnScope ["a", "b"] ["a", "b"] (defScope s_law_plus) := ⟨rfl, rfl, rfl, by decide +kernel, rfl, by decide +kernel, by decide +kernel⟩
theorem sc_law_minus : FnScope ["a", "b"] ["a", "b"] (defScope s_law_minus) := ⟨rfl, rfl, rfl, by decide +kernel, rfl, by decide +kernel, by decide +kernel⟩
theorem sc_law_times : FnScope ["a", "b"] ["a", "b"] (defScope s_law_times) := ⟨rfl, rfl, rfl, by decide +kernel, rfl, by decide +kernel, by decide +kernel⟩
theorem sc_law_over : FnScope ["a", "b"] ["a", "b"] (defScope s_law_over) := ⟨rfl, rfl, rfl, by decide +kernel, rfl, by decide +kernel, by decide +kernel⟩
theorem sc_law_less : FnScope ["a", "b"] ["a", "b"] (defScope s_law_less) := ⟨rfl, rfl, rfl, by decide +kernel, rfl, by decide +kernel, by decide +kernel⟩
theorem sc_law_sum : FnScope ["rows", "found", "row"] ["rows"] (defScope s_law_sum) := ⟨rfl, rfl, rfl, by decide +kernel, rfl, by decide +kernel, by decide +kernel⟩
theorem sc_law_same : FnScope ["actual", "due", "k"] ["actual", "due"] (defScope s_law_same) := ⟨rfl, rfl, rfl, by decide +kernel, rfl, by decide +kernel, by decide +kernel⟩
theorem sc_law_drawn : FnScope ["pool"] ["pool"] (defScope s_law_drawn) := ⟨rfl, rfl, rfl, by decide +kernel, rfl, by decide +kernel, by decide +kernel⟩
theorem sclaw : FnScope ["script", "pool", "rows", "a", "b", "found", "k"] ["script"] (defScope slaw) := ⟨rfl, rfl, rfl, by decide +kernel, rfl, by decide +kernel, by decide +kernel⟩
section
variable {P : Program} {w : World} {K : PySem.W.Frag} {mg : Str → Option Value} {base : Heap}
theorem ok_law_pool (B : BI mg) (F : At K mg "_law_pool" s_law_pool ["script"]) : Ok P w K mg base 1 "_law_pool" ["script"] [] (spPool K) := by
  refine F.ok sc_law_pool (fun vs H Q E h => ?_) (fun f cdv A outer s H vs Q E hr h => ?_)
  · obtain ⟨a, ns, rfl, _⟩ := h
    rfl
  obtain ⟨a, ns, rfl, hS, hl, q⟩ := h
  refine ⟨_, (pss_one (ps_ret (pe_lst (pa_cons (pe_callTy call_list_of rfl B.list (by decide +kernel) (pa_cons (pv 0) pa_nil)) (pa_cons pe_int (pa_cons pe_int (pa_cons pe_int (pa_cons pe_int pa_nil)))))))), ?_⟩
  refine ⟨_, rfl, a, _, rfl, .inl hS, fun l hl' => ⟨(by show 5 ≤ sizeLine; decide), fun p hp => ?_⟩⟩
  have n : p ≠ l := fun e => by rw [e, upd_same] at hp; cases hp
  refine q p l _ ?_ (fun b o e => ?_) ⟨ns, 0, 0, 0, 0, n.symm, upd_same, by rw [upd_ne n.symm, upd_same], hl, by omega, by omega, by omega, by omega, by omega⟩
  · rw [upd_ne n] at hp
    exact hp
  · rw [upd_ne (fun z => by rw [z] at e; rw [upd_ne n] at hp; rw [hp] at e; cases e), upd_ne (ne_of_none e hl')]
    exact e

theorem ok_law_draw (B : BI mg) (F : At K mg "_law_draw" s_law_draw ["pool", "many"]) : Ok P w K mg base 1 "_law_draw" ["pool", "many"] [] spDraw := by
  refine F.ok sc_law_draw (fun vs H Q E h => ?_) (fun f cdv A outer s H vs Q E hr h => ?_)
  · obtain ⟨p, a, m, rfl, _⟩ := h
    rfl
  obtain ⟨p, a, m, rfl, hP, m0, m1, q⟩ := h
  refine ⟨_, (pss_cons (ps_if (pt_cmpR op_gt (pe_ix ix_list (pv 0) pe_int (fun _ _ => rfl)) pe_int (nomark _))
        (pss_cons (ps_set (i := 2) sc_law_draw.nd rfl (Or.inl rfl) (pe_op op_modN (pe_callTy call_int1 rfl B.int (by decide +kernel) (pa_cons (pe_ix ix_list (pv 0) pe_int (fun _ _ => rfl)) pa_nil)) (pv 1)))
        (pss_cons (ps_asg (pe_op op_fdivX (pe_ix ix_list (pv 0) pe_int (fun _ _ => rfl)) (pv 1)) (pg_sub (pv 0) pe_int set_list))
        (pss_one (ps_ret (pv 2)))))
        pss_nil)
      (Evl.pss_cut (ps_if (PW.pt (pw_and (pt_cmpR op_eq (pe_op op_modN (pe_callTy call_int1 rfl B.int (by decide +kernel) (pa_cons (pe_ix ix_list (pv 0) pe_int (fun _ _ => rfl)) pa_nil)) pe_int) pe_int (nomark _)) (pw_and1 (pt_cmpR op_lt (pe_ix ix_list (pv 0) pe_int (fun _ _ => rfl)) (pe_callB call_len_seq rfl B.len PySem.boot_len (pa_cons (pe_ix ix_list (pv 0) pe_int (fun _ _ => rfl)) pa_nil)) (nomark _)))))
        (pss_cons (ps_set (i := 3) sc_law_draw.nd rfl (Or.inl rfl) (pe_callB call_abs rfl B.abs (by decide +kernel) (pa_cons (pe_ix ix_list (pe_ix ix_list (pv 0) pe_int (fun _ _ => rfl)) (pe_ix ix_list (pv 0) pe_int (fun _ _ => rfl)) (fun _ _ => rfl)) pa_nil)))
        (pss_cons (ps_asg (pe_op op_add (pe_ix ix_list (pv 0) pe_int (fun _ _ => rfl)) pe_int) (pg_sub (pv 0) pe_int set_list))
        (pss_cons (ps_if (pt_cmpR op_ge (pv 3) (pe_op op_pow pe_int pe_int) (nomark _))
          (pss_cons (ps_asg (pe_op op_fdivX (pv 3) (pv 1)) (pg_sub (pv 0) pe_int set_list))
          (pss_one (ps_ret (pe_op op_modN (pe_callTy call_int1 rfl B.int (by decide +kernel) (pa_cons (pv 3) pa_nil)) (pv 1)))))
          pss_nil)
        (pss_one (ps_asg (pv 3) (pg_sub (pv 0) pe_int set_list))))))
        pss_nil)
      (pss_cons (ps_asg (pe_op op_add (pe_ix ix_list (pv 0) pe_int (fun _ _ => rfl)) pe_int) (pg_sub (pv 0) pe_int set_list))
      (pss_cons (ps_set (i := 4) sc_law_draw.nd rfl (Or.inl rfl) (pe_op op_modN (pe_callTy call_int1 rfl B.int (by decide +kernel) (pa_cons (pe_op op_add (pe_op op_add (pe_op op_mulX (pe_ix ix_list (pv 0) pe_int (fun _ _ => rfl)) pe_int) (pe_op op_mulX (pe_ix ix_list (pv 0) pe_int (fun _ _ => rfl)) pe_int)) pe_int) pa_nil)) pe_int))
      (pss_cons (ps_set (i := 4) sc_law_draw.nd rfl (Or.inl rfl) (pe_op op_modN (pe_callTy call_int1 rfl B.int (by decide +kernel) (pa_cons (pe_op op_add (pe_op op_mulX (pv 4) (pv 4)) (pe_op op_mulX (pe_ix ix_list (pv 0) pe_int (fun _ _ => rfl)) pe_int)) pa_nil)) pe_int))
      (pss_one (ps_ret (pe_op op_modN (pe_callTy call_int1 rfl B.int (by decide +kernel) (pa_cons (pv 4) pa_nil)) (pv 1))))))))), ?_⟩
  obtain ⟨ns, i, rest, last, cnt, na, hp, ha, hn, i0, r0, l0, l1, c0⟩ := hP
  have mne : m ≠ 0 := by omega
  -- what is stored at p keeps the pool
  have keep : ∀ (H' : Hp) (i' rest' last' cnt' : Int), H' p = some (.lst [.ref a, .int i', .int rest', .int last', .int cnt']) → H' a = H a → 0 ≤ i' → 0 ≤ rest' → 0 ≤ last' → last' < 1000000000000000000 → 0 ≤ cnt' → Pl p a H' :=
    fun H' i' rest' last' cnt' h1 h2 h3 h4 h5 h6 h7 => ⟨ns, i', rest', last', cnt', na, h1, by rw [h2]; exact ha, hn, h3, h4, h5, h6, h7⟩
  -- if pool[2] > 0
  refine ⟨_, rfl, p, _, 2, _, rfl, rfl, SqL.of hp, rfl, _, _, rfl, rfl, _, rfl, ite2 (fun e => ?_) (fun e => ?_)⟩
  · have e1 : 0 < rest := of_decide_eq_true e
    refine ⟨_, rfl, p, _, 2, _, rfl, rfl, SqL.of hp, rfl, .inl ⟨_, rfl, _, rfl, _, _, rfl, rfl, mne, ?_⟩⟩
    refine ⟨_, rfl, p, _, 2, _, rfl, rfl, SqL.of hp, rfl, _, rfl, _, _, rfl, rfl, divX m0 m1, ?_⟩
    refine ⟨_, rfl, p, _, 2, _, rfl, rfl, hp, rfl, ?_⟩
    exact ⟨_, rfl, q _ _ (fm0 m0) (fm1 m0) .sto (keep _ _ _ _ _ upd_same (by rw [upd_ne na]) i0 (fd0 m0 r0) l0 l1 c0)⟩
  -- behind the second if: the count is as it was
  refine ⟨fun σ' H' => ∃ (i' last' : Int) (y2 y3 y4 : Option V), σ' = [some (.ref p), some (.int m), y2, y3, y4] ∧ Kp p H H' ∧ H' p = some (.lst [.ref a, .int i', .int rest, .int last', .int cnt]) ∧ H' a = H a ∧ 0 ≤ i' ∧ 0 ≤ last' ∧ last' < 1000000000000000000, ?_, ?_⟩
  · -- the second if
    refine ⟨_, rfl, p, _, 4, _, rfl, rfl, SqL.of hp, rfl, .inl ⟨_, rfl, _, _, rfl, rfl, (show (8 : Int) ≠ 0 by decide), rfl, _, rfl, ite2 (fun e2 => ?_) (fun e2 => iteF ?_)⟩⟩
    · refine ⟨_, rfl, p, _, 1, _, rfl, rfl, SqL.of hp, rfl, _, rfl, p, _, 0, _, rfl, rfl, SqL.of hp, rfl, a, _, rfl, .inl (SqL.of ha), _, _, rfl, rfl, _, rfl, ite2 (fun e3 => ?_) (fun e3 => ?_)⟩
      · have e4 : i < ((ns.map V.int).length : Int) := of_decide_eq_true e3
        rw [List.length_map] at e4
        have hi : i.toNat < ns.length := by omega
        have g0 : (ns.map V.int)[i.toNat]? = some (.int ns[i.toNat]) := by
          rw [List.getElem?_map, List.getElem?_eq_getElem hi]
          rfl
        have g : atI (ns.map V.int) i = some (.int ns[i.toNat]) := at_of (by omega) g0
        -- cell = abs(..)
        refine ⟨_, rfl, p, _, 0, _, rfl, rfl, SqL.of hp, rfl, _, rfl, p, _, 1, _, rfl, rfl, SqL.of hp, rfl, a, _, i, _, rfl, rfl, SqL.of ha, g, _, rfl, ?_⟩
        generalize hc : (if ns[i.toNat] < 0 then -ns[i.toNat] else ns[i.toNat]) = cell
        have cell0 : 0 ≤ cell := by rw [← hc]; split <;> omega
        -- pool[1] = pool[1] + 1
        refine ⟨_, rfl, p, _, 1, _, rfl, rfl, SqL.of hp, rfl, _, _, rfl, rfl, _, rfl, p, _, 1, _, rfl, rfl, hp, rfl, ?_⟩
        have h7 : (upd H p (.lst [.ref a, .int (i + 1), .int rest, .int last, .int cnt])) p = some (.lst [.ref a, .int (i + 1), .int rest, .int last, .int cnt]) := upd_same
        -- if cell >= 10 ** 18
        refine ⟨_, rfl, _, _, rfl, rfl, ⟨by decide, by decide, by decide⟩, _, _, rfl, rfl, _, rfl, ite2 (fun e5 => ?_) (fun e5 => ?_)⟩
        · refine ⟨_, rfl, _, rfl, _, _, rfl, rfl, divX m0 m1, _, rfl, p, _, 2, _, rfl, rfl, h7, rfl, ?_⟩
          refine ⟨_, rfl, .inl ⟨_, rfl, _, rfl, _, _, rfl, rfl, mne, ?_⟩⟩
          exact q _ _ (fm0 m0) (fm1 m0) (Kp.sto.trans .sto) (keep _ _ _ _ _ upd_same (by rw [upd_ne na, upd_ne na]) (by omega) (fd0 m0 cell0) l0 l1 c0)
        · have e6 : cell < 1000000000000000000 := by
            have z : ¬ ((10 : Int) ^ (18 : Int).toNat ≤ cell) := of_decide_eq_false (Bool.eq_false_iff.mpr e5)
            have y : (10 : Int) ^ (18 : Int).toNat = 1000000000000000000 := by decide +kernel
            omega
          refine ⟨_, rfl, _, rfl, p, _, 3, _, rfl, rfl, h7, rfl, ?_⟩
          exact ⟨i + 1, cell, none, some (.int cell), none, rfl, Kp.sto.trans .sto, upd_same, by rw [upd_ne na, upd_ne na], by omega, cell0, e6⟩
      · exact ⟨i, last, none, none, none, rfl, .refl _ _, hp, rfl, i0, l0, l1⟩
    · exact ⟨i, last, none, none, none, rfl, .refl _ _, hp, rfl, i0, l0, l1⟩
  · rintro σ' H' ⟨i', last', y2, y3, y4, rfl, k, h1, h2, h3, h5, h6⟩
    refine ⟨_, rfl, p, _, 4, _, rfl, rfl, SqL.of h1, rfl, _, _, rfl, rfl, _, rfl, p, _, 4, _, rfl, rfl, h1, rfl, ?_⟩
    have h7 : (upd H' p (.lst [.ref a, .int i', .int rest, .int last', .int (cnt + 1)])) p = some (.lst [.ref a, .int i', .int rest, .int last', .int (cnt + 1)]) := upd_same
    refine ⟨_, rfl, p, _, 3, _, rfl, rfl, SqL.of h7, rfl, _, _, rfl, rfl, mulR ⟨by decide, by decide⟩, ?_⟩
    refine ⟨_, rfl, p, _, 4, _, rfl, rfl, SqL.of h7, rfl, _, _, rfl, rfl, mulR ⟨by decide, by decide⟩, ?_⟩
    refine ⟨_, _, rfl, rfl, _, _, rfl, rfl, .inl ⟨_, rfl, _, _, rfl, rfl, (show (2147483647 : Int) ≠ 0 by decide), ?_⟩⟩
    refine ⟨_, rfl, _, rfl, _, _, rfl, rfl, mulF, ?_⟩
    refine ⟨_, rfl, p, _, 4, _, rfl, rfl, SqL.of h7, rfl, _, _, rfl, rfl, mulR ⟨by decide, by decide⟩, ?_⟩
    refine ⟨_, _, rfl, rfl, .inl ⟨_, rfl, _, _, rfl, rfl, (show (2147483399 : Int) ≠ 0 by decide), ?_⟩⟩
    refine ⟨_, rfl, .inl ⟨_, rfl, ?_⟩⟩
    refine ⟨_, rfl, _, _, rfl, rfl, mne, ?_⟩
    exact q _ _ (fm0 m0) (fm1 m0) (k.trans .sto) (keep _ _ _ _ _ h7 (by rw [upd_ne na]; exact h2) h3 r0 h5 h6 (by omega))

theorem ok_law_gcd (B : BI mg) (F : At K mg "_law_gcd" s_law_gcd ["a", "b"]) : Ok P w K mg base 1 "_law_gcd" ["a", "b"] [] spGcd := by
  refine F.ok sc_law_gcd (fun vs H Q E h => ?_) (fun f cdv A outer s H vs Q E hr h => ?_)
  · obtain ⟨a, b, rfl, _⟩ := h
    rfl
  obtain ⟨a, b, rfl, ha, hb, q⟩ := h
  refine ⟨_, (pss_cons (ps_for PassesOwn.never rfl (pi_range1 rfl B.range (pa_cons pe_int pa_nil)) (pg_name (i := 2) sc_law_gcd.nd rfl (Or.inl rfl))
        (pss_cons (ps_if (pt_cmpR op_eq (pv 1) pe_int (nomark _))
          (pss_one (ps_ret (pv 0)))
          pss_nil)
        (pss_one (ps_par (i := 0) (j := 1) (by rfl) sc_law_gcd.nd rfl rfl (by decide) rfl rfl (pa_cons (pv 1) (pa_cons (pe_op op_modN (pe_callTy call_int1 rfl B.int (by decide +kernel) (pa_cons (pv 0) pa_nil)) (pv 1)) pa_nil)) (by rfl)))))
      (pss_one (ps_ret pe_int))), ?_⟩
  have n2 : 2 ≤ (100000 : Int).toNat := by decide
  refine ⟨100000, rfl, by decide, by decide, for_range (lo := 0) (n := (100000 : Int).toNat) (fun i σ' H' => H' = H ∧ ∃ (x y : Nat) (z : Option V), σ' = [some (.int (x : Int)), some (.int (y : Int)), z] ∧ Nat.gcd x y = Nat.gcd a b ∧ GStep (a * b) i x y ∧ (i = 0 → x = a ∧ y = b))
    ⟨rfl, a, b, none, rfl, rfl, .zero, fun _ => ⟨rfl, rfl⟩⟩ ?_ ?_⟩
  · rintro i σ' H' hi ⟨rfl, x, y, z, rfl, g, st, h0⟩
    refine ⟨_, rfl, rfl, _, rfl, ite2 (fun e => ?_) (fun e => ?_)⟩
    · have e1 : (y : Int) = 0 := V.int.inj (of_decide_eq_true e)
      have e2 : y = 0 := by omega
      subst e2
      refine ⟨_, rfl, ?_⟩
      rw [Nat.gcd_zero_right] at g
      rw [g]
      exact q
    · have e1 : y ≠ 0 := fun h => e (decide_eq_true (by rw [h]; rfl))
      refine ⟨_, rfl, _, rfl, .inl ⟨_, rfl, _, rfl, _, _, rfl, rfl, (show (y : Int) ≠ 0 by omega), ?_⟩⟩
      exact ⟨_, _, rfl, rfl, y, x % y, some (.int (0 + (i : Int))), congrArg (fun v => [some (V.int (y : Int)), some (V.int v), some (V.int (0 + (i : Int)))]) (Int.ofNat_fmod x y).symm, (gcd_turn x y).trans g, st.next h0 e1, fun h => by omega⟩
  · rintro σ' H' ⟨rfl, x, y, z, rfl, g, st, _⟩
    exact (st.end n2 (big_sq ha hb)).elim

theorem ok_law_ratio (B : BI mg) (F : At K mg "_law_ratio" s_law_ratio ["top", "bottom"]) (C_law_gcd : Ok P w K mg base 1 "_law_gcd" ["a", "b"] [] spGcd) : Ok P w K mg base 2 "_law_ratio" ["top", "bottom"] [] (spRat K) := by
  refine F.ok sc_law_ratio (fun vs H Q E h => ?_) (fun f cdv A outer s H vs Q E hr h => ?_)
  · obtain ⟨a, b, rfl, _⟩ := h
    rfl
  obtain ⟨t, b, rfl, b0, ht, hb, q⟩ := h
  refine ⟨_, (pss_cons (ps_set (i := 2) sc_law_ratio.nd rfl (Or.inl rfl) (pe_ok C_law_gcd (hr.mono (by first | decide | exact Nat.le_refl _)) rfl (pa_cons (pe_callB call_abs rfl B.abs (by decide +kernel) (pa_cons (pv 0) pa_nil)) (pa_cons (pe_callB call_abs rfl B.abs (by decide +kernel) (pa_cons (pv 1) pa_nil)) pa_nil))))
      (Evl.pss_cut (ps_if (pt_cmpR op_lt (pv 1) pe_int (nomark _))
        (pss_one (ps_set (i := 2) sc_law_ratio.nd rfl (Or.inl rfl) (pe_op op_sub pe_int (pv 2))))
        pss_nil)
      (pss_one (ps_ret (pe_tup (pa_cons (pe_op op_fdivX (pv 0) (pv 2)) (pa_cons (pe_op op_fdivX (pv 1) (pv 2)) pa_nil))))))), ?_⟩
  refine ⟨_, rfl, _, rfl, _, rfl, _, rfl, t.natAbs, b.natAbs, ?_, ht, hb, ?_⟩
  · show [V.int (if t < 0 then -t else t), V.int (if b < 0 then -b else b)] = _
    rw [abs_nat, abs_nat]
  refine ⟨fun σ' H' => H' = H ∧ ∃ c : Int, σ' = [some (.int t), some (.int b), some (.int c)] ∧ c = (if b < 0 then -((Nat.gcd t.natAbs b.natAbs : Nat) : Int) else ((Nat.gcd t.natAbs b.natAbs : Nat) : Int)), ?_, ?_⟩
  · refine ⟨_, rfl, _, _, rfl, rfl, _, rfl, ite2 (fun e => ?_) (fun e => ?_)⟩
    · have e1 : b < 0 := of_decide_eq_true e
      refine ⟨_, rfl, _, _, rfl, rfl, ?_⟩
      exact ⟨rfl, _, rfl, by rw [if_pos e1]; omega⟩
    · have e1 : ¬ b < 0 := of_decide_eq_false (Bool.eq_false_iff.mpr e)
      exact ⟨rfl, _, rfl, by rw [if_neg e1]⟩
  · rintro σ' H' ⟨rfl, c, rfl, hc⟩
    obtain ⟨n1, n2, n3, n4⟩ := nrm_eq t b b0 c hc
    refine ⟨_, rfl, _, rfl, _, _, rfl, rfl, divB n1 n2 hb, _, rfl, _, rfl, _, _, rfl, rfl, divB n1 n2 hb, (by show 2 ≤ sizeLine; decide), fun p hp => ?_⟩
    exact q _ _ (same_upd hp) (rat2_new hp n3 n4)

theorem ok_ratio (B : BI mg) (F : AtD K mg "ratio" sratio ["top", "bottom"] [.int 1]) (mGcd : mg "gcd" = some (.builtin "math.gcd")) : Ok P w K mg base 1 "ratio" ["top", "bottom"] [] (spRat K) ∧ Ok P w K mg base 1 "ratio" ["top", "bottom"] [.int 1] (spRat K) := by
  refine F.ok scratio (fun vs H Q E h => ?_) (fun f cdv A outer s H vs Q E hr h => ?_)
  · obtain ⟨a, b, rfl, _⟩ := h
    rfl
  obtain ⟨t, b, rfl, b0, ht, hb, q⟩ := h
  refine ⟨_, (pss_cons (ps_set (i := 2) scratio.nd rfl (Or.inl rfl) (pe_callBfun cr_gcd rfl mGcd (pa_cons (pv 0) (pa_cons (pv 1) pa_nil))))
      (Evl.pss_cut (ps_if (pt_cmpR op_lt (pv 1) pe_int (nomark _))
        (pss_one (ps_set (i := 2) scratio.nd rfl (Or.inl rfl) (pe_un un_neg (pv 2))))
        pss_nil)
      (pss_one (ps_ret (pe_tup (pa_cons (pe_op op_fdivX (pv 0) (pv 2)) (pa_cons (pe_op op_fdivX (pv 1) (pv 2)) pa_nil))))))), ?_⟩
  refine ⟨_, rfl, _, rfl, t, b, rfl, ?_⟩
  refine ⟨fun σ' H' => H' = H ∧ ∃ c : Int, σ' = [some (.int t), some (.int b), some (.int c)] ∧ c = (if b < 0 then -((Nat.gcd t.natAbs b.natAbs : Nat) : Int) else ((Nat.gcd t.natAbs b.natAbs : Nat) : Int)), ?_, ?_⟩
  · refine ⟨_, rfl, _, _, rfl, rfl, _, rfl, ite2 (fun e => ?_) (fun e => ?_)⟩
    · have e1 : b < 0 := of_decide_eq_true e
      refine ⟨_, rfl, _, rfl, ?_⟩
      exact ⟨rfl, _, rfl, by rw [if_pos e1]⟩
    · have e1 : ¬ b < 0 := of_decide_eq_false (Bool.eq_false_iff.mpr e)
      exact ⟨rfl, _, rfl, by rw [if_neg e1]⟩
  · rintro σ' H' ⟨rfl, c, rfl, hc⟩
    obtain ⟨n1, n2, n3, n4⟩ := nrm_eq t b b0 c hc
    refine ⟨_, rfl, _, rfl, _, _, rfl, rfl, divB n1 n2 hb, _, rfl, _, rfl, _, _, rfl, rfl, divB n1 n2 hb, (by show 2 ≤ sizeLine; decide), fun p hp => ?_⟩
    exact q _ _ (same_upd hp) (rat2_new hp n3 n4)

theorem ok_law_same_step (B : BI mg) (F : At K mg "_law_same" s_law_same ["actual", "due"]) {n : Nat} (C_law_same : Ok P w K mg base n "_law_same" ["actual", "due"] [] (spSame K n)) :
    Ok P w K mg base (n + 1) "_law_same" ["actual", "due"] [] (spSame K (n + 1)) := by
  refine F.ok sc_law_same (fun vs H Q E h => ?_) (fun f cdv A outer s H vs Q E hr h => ?_)
  · obtain ⟨x, y, d, e, rfl, _⟩ := h
    rfl
  obtain ⟨x, y, d, e, rfl, hx, hy, pd, pe, dp, q⟩ := h
  refine ⟨_, (pss_cons (ps_if (pt_val (pe_callB call_isi rfl B.isinstance (by decide +kernel) (pa_cons (pv 1) (pa_cons (pe_bltn (v := .ty "tuple") (by rfl) B.tuple (by decide +kernel) rfl) pa_nil))))
        (pss_cons (ps_if (PW.pt (pw_or (pt_not (pt_val (pe_callB call_isi rfl B.isinstance (by decide +kernel) (pa_cons (pv 0) (pa_cons (pe_bltn (v := .ty "tuple") (by rfl) B.tuple (by decide +kernel) rfl) pa_nil))))) (pw_or1 (pt_cmpR op_ne (pe_callB call_len_seq rfl B.len PySem.boot_len (pa_cons (pv 0) pa_nil)) (pe_callB call_len_seq rfl B.len PySem.boot_len (pa_cons (pv 1) pa_nil)) (nomark _)))))
          (pss_one (ps_ret pe_bl))
          pss_nil)
        (pss_one (ps_ret (pe_cmpR op_eq (pe_callB call_len_seq rfl B.len PySem.boot_len (pa_cons (pe_lc (own := [("k", 2)]) (g := gName 2) (tt := _) rfl sc_law_same.nd (pi_range1 rfl B.range (pa_cons (pe_callB call_len_seq rfl B.len PySem.boot_len (pa_cons (pv 1) pa_nil)) pa_nil)) (blkOk_by (own := [("k", 2)]) (N := ["actual", "due", "k"]) (sc := defScope s_law_same) (by decide +kernel)) (fun _ _ _ _ _ => (pg_name (i := 2) sc_law_same.nd rfl (Or.inl rfl))) (fun _ _ _ _ _ => (pts_one (pt_not (pt_val (pe_ok C_law_same (hr.mono (by first | decide | exact Nat.le_refl _)) rfl (pa_cons (pe_ix (ix_tupK (K := K) rfl) (pv 0) (pv 2) (fun _ _ => rfl)) (pa_cons (pe_ix (ix_tupK (K := K) rfl) (pv 1) (pv 2) (fun _ _ => rfl)) pa_nil))))))) (fun _ _ _ _ _ => (pv 2))) pa_nil)) pe_int (nomark _)))))
        pss_nil)
      (pss_cons (ps_if (pt_cmpR op_isN (pv 1) pe_non (nomark _))
        (pss_one (ps_ret (pe_cmpR op_isN (pv 0) pe_non (nomark _))))
        pss_nil)
      (pss_cons (ps_if (pt_val (pe_callB call_isi rfl B.isinstance (by decide +kernel) (pa_cons (pv 1) (pa_cons (pe_bltn (v := .ty "str") (by rfl) B.str (by decide +kernel) rfl) pa_nil))))
        (pss_one (ps_ret (pe_and (pe_callB call_isi rfl B.isinstance (by decide +kernel) (pa_cons (pv 0) (pa_cons (pe_bltn (v := .ty "str") (by rfl) B.str (by decide +kernel) rfl) pa_nil))) (pe_one (pe_cmpR op_eq (pv 0) (pv 1) (nomark _))))))
        pss_nil)
      (pss_one (ps_ret (pe_and (pe_callB call_isi rfl B.isinstance (by decide +kernel) (pa_cons (pv 0) (pa_cons (pe_bltn (v := .ty "int") (by rfl) B.int (by decide +kernel) rfl) pa_nil))) (pe_and (pe_not (pe_callB call_isi rfl B.isinstance (by decide +kernel) (pa_cons (pv 0) (pa_cons (pe_bltn (v := .ty "bool") (by rfl) B.bool (by decide +kernel) rfl) pa_nil)))) (pe_one (pe_cmpR op_eq (pv 0) (pv 1) (nomark _)))))))))), ?_⟩
  refine ⟨_, rfl, _, _, _, _, _, rfl, .ty _, hy.ty, kt_of e pe "tuple" (.inl rfl), _, rfl, ite2 (fun c => ?_) (fun c => ?_)⟩
  · obtain ⟨es, rfl, le, pes⟩ := ty_tuple pe (of_decide_eq_true c)
    obtain ⟨ya, ys, rfl, sy, ay⟩ := hy.tup'
    refine ⟨_, rfl, _, _, _, _, _, rfl, .ty _, hx.ty, kt_of d pd "tuple" (.inl rfl), _, rfl, ite2 (fun c2 => iteT ?_) (fun c2 => ?_)⟩
    · have c3 : ¬ tyD d = "tuple" := fun z => by rw [decide_eq_true z] at c2; cases c2
      exact q false _ (Same.refl _) ⟨fun z => (Bool.false_ne_true z).elim, fun z => by subst z; exact absurd rfl c3⟩
    · have c3 : tyD d = "tuple" := by
        by_cases z : tyD d = "tuple"
        · exact z
        · rw [decide_eq_false z] at c2
          exact absurd rfl c2
      obtain ⟨ds, rfl, _, pds⟩ := ty_tuple pd c3
      obtain ⟨xa, xs, rfl, sx, ax⟩ := hx.tup'
      refine ⟨_, rfl, xa, _, rfl, .inr sx, _, rfl, ya, _, rfl, .inr sy, rfl, _, rfl, ite2 (fun c4 => ?_) (fun c4 => ?_)⟩
      · have c5 : ¬ xs.length = ys.length := fun z => by
          rw [z, decide_eq_true rfl] at c4
          cases c4
        rw [ax.len, ay.len] at c5
        exact q false _ (Same.refl _) ⟨fun z => (Bool.false_ne_true z).elim, fun z => by rw [PyData.tuple.inj z] at c5; exact absurd rfl c5⟩
      · have c5 : xs.length = ys.length := by
          by_cases z : (xs.length : Int) = (ys.length : Int)
          · omega
          · rw [decide_eq_false (fun y => z (V.int.inj y))] at c4
            exact absurd rfl c4
        have ly : ys.length ≤ 1000 := by rw [ay.len]; exact le
        have ly2 : (ys.length : Int) < 2 ^ 62 := by omega
        have hl : ds.length = es.length := by rw [← ax.len, ← ay.len]; exact c5
        refine ⟨_, rfl, ya, _, rfl, .inr sy, _, rfl, by omega, ly2, fun D hD => ?_⟩
        refine lc_range (lo := 0) (fun i H' => Same H H' ∧ ∃ acc, H' D = some (.lst acc) ∧ acc.length ≤ i ∧ (acc = [] ↔ ∀ j < i, ds[j]? = es[j]?))
          ⟨same_upd hD, [], upd_same, Nat.le_refl _, ⟨fun _ j hj => absurd hj (Nat.not_lt_zero j), fun _ => rfl⟩⟩ ?_ ?_
        · rintro i H' hi ⟨sm, acc, hacc, lacc, hiff⟩
          have hi2 : i < es.length := by rw [← ay.len]; exact (by simpa using hi)
          have ge : es[i]? = some es[i] := List.getElem?_eq_getElem hi2
          have gd : ds[i]? = some (ds[i]'(by omega)) := List.getElem?_eq_getElem (by omega)
          obtain ⟨v, gv, iv⟩ := ax.get gd
          obtain ⟨u, gu, iu⟩ := ay.get ge
          have tm := Same.tm sm
          refine ⟨rfl, _, rfl, _, rfl, xa, _, _, v, rfl, rfl, tm.sq sx, ?_, _, rfl, _, rfl, ya, _, _, u, rfl, rfl, tm.sq sy, ?_, ?_⟩
          · show atI xs (0 + (i : Int)) = some v
            rw [Int.zero_add]
            exact atI_nat gv
          · show atI ys (0 + (i : Int)) = some u
            rw [Int.zero_add]
            exact atI_nat gu
          · have de := dep_get ge
            refine ⟨v, u, _, _, rfl, iv.to tm, iu.to tm, plain_get pds gd, plain_get pes ge, ?_, fun b H2 s2 hb => ?_⟩
            · have : depDs es + 1 < n + 1 := dp
              omega
            · refine ⟨b, rfl, ?_⟩
              cases b with
              | true =>
                refine iteF ⟨sm.trans s2, acc, s2 _ _ hacc, by omega, hiff.trans ⟨fun z j hj => ?_, fun z j hj => z j (by omega)⟩⟩
                by_cases hj2 : j < i
                · exact z j hj2
                · have : j = i := by omega
                  subst this
                  rw [gd, ge, hb.mp rfl]
              | false =>
                refine iteT ⟨_, rfl, acc, s2 _ _ hacc, ?_, ?_⟩
                · exact small5' (by omega)
                · refine ⟨Z.Same.mut (sm.trans s2) hD, _, upd_same, ?_, ?_⟩
                  · rw [List.length_append]
                    exact Nat.succ_le_succ lacc
                  · refine ⟨fun z => absurd z (by simp), fun z => ?_⟩
                    have := z i (by omega)
                    rw [gd, ge] at this
                    exact absurd (hb.mpr (Option.some.inj this)) (by decide)
        · rintro H' ⟨sm, acc, hacc, lacc, hiff⟩
          refine ⟨D, acc, rfl, .inl (SqL.of hacc), rfl, ?_⟩
          refine q _ _ sm ?_
          have key : (∀ j < ys.length, ds[j]? = es[j]?) ↔ PyData.tuple ds = PyData.tuple es := by
            rw [ay.len]
            exact ⟨fun z => congrArg _ (ext_of hl z), fun z => by rw [PyData.tuple.inj z]; intro j _; rfl⟩
          rw [← key]
          refine Iff.trans ?_ (by simpa using hiff)
          rw [decide_eq_true_iff]
          refine ⟨fun z => ?_, fun z => by rw [z]; rfl⟩
          have z2 := V.int.inj z
          exact List.eq_nil_of_length_eq_zero (by omega)
  · have nt : ¬ tyD e = "tuple" := fun z => c (decide_eq_true z)
    refine ⟨_, rfl, rfl, _, rfl, ite2 (fun c2 => ?_) (fun c2 => ?_)⟩
    · have e1 : y = .non := of_decide_eq_true c2
      subst e1
      cases hy
      refine ⟨_, rfl, rfl, ?_⟩
      refine q _ _ (Same.refl _) ?_
      rw [decide_eq_true_iff]
      exact ⟨fun z => by subst z; cases hx; rfl, fun z => by subst z; cases hx; rfl⟩
    · have e1 : ¬ y = .non := fun z => c2 (decide_eq_true z)
      refine ⟨_, rfl, _, _, _, _, _, rfl, .ty _, hy.ty, kt_of e pe "str" (.inr (.inl rfl)), _, rfl, ite2 (fun c3 => ?_) (fun c3 => ?_)⟩
      · rcases no_tuple pe nt with rfl | ⟨i, rfl⟩ | ⟨z, rfl⟩
        · cases hy; exact absurd rfl e1
        · exact absurd (of_decide_eq_true c3) (show ¬ "int" = "str" by decide)
        cases hy
        refine ⟨_, rfl, _, _, _, _, _, rfl, .ty _, hx.ty, kt_of d pd "str" (.inr (.inl rfl)), _, rfl, ite2 (fun c4 => ?_) (fun c4 => ?_)⟩
        · have : ∃ z2, d = .str z2 := by
            have c5 := of_decide_eq_true c4
            cases d with
            | str z2 => exact ⟨z2, rfl⟩
            | none => exact absurd c5 (show ¬ "NoneType" = "str" by decide)
            | int i => exact absurd c5 (show ¬ "int" = "str" by decide)
            | tuple ds => exact absurd c5 (show ¬ "tuple" = "str" by decide)
            | bool b => simp [plainD] at pd
            | list ds => simp [plainD] at pd
            | dict ds => simp [plainD] at pd
          obtain ⟨z2, rfl⟩ := this
          cases hx
          refine ⟨_, rfl, _, rfl, rfl, ?_⟩
          refine q _ _ (Same.refl _) ?_
          rw [decide_eq_true_iff]
          exact ⟨fun z => congrArg PyData.str (V.str.inj z), fun z => congrArg V.str (PyData.str.inj z)⟩
        · refine q false _ (Same.refl _) ⟨fun z => (Bool.false_ne_true z).elim, fun z => ?_⟩
          subst z
          exact absurd (decide_eq_true (show "str" = "str" by rfl)) c4
      · have : ∃ i, e = .int i := by
          rcases no_tuple pe nt with rfl | ⟨i, rfl⟩ | ⟨z, rfl⟩
          · cases hy; exact absurd rfl e1
          · exact ⟨i, rfl⟩
          · exact absurd (decide_eq_true (show "str" = "str" by rfl)) c3
        obtain ⟨i, rfl⟩ := this
        cases hy
        refine ⟨_, rfl, _, _, _, _, _, rfl, .ty _, hx.ty, kt_of d pd "int" (.inr (.inr rfl)), _, rfl, ite2 (fun c4 => ?_) (fun c4 => ?_)⟩
        · have : ∃ j, d = .int j := by
            have c5 := of_decide_eq_true c4
            cases d with
            | int j => exact ⟨j, rfl⟩
            | none => exact absurd c5 (show ¬ "NoneType" = "int" by decide)
            | str i => exact absurd c5 (show ¬ "str" = "int" by decide)
            | tuple ds => exact absurd c5 (show ¬ "tuple" = "int" by decide)
            | bool b => simp [plainD] at pd
            | list ds => simp [plainD] at pd
            | dict ds => simp [plainD] at pd
          obtain ⟨j, rfl⟩ := this
          cases hx
          refine ⟨_, rfl, _, _, _, _, _, rfl, .ty _, (Is.int (K := K) (H := H) j).ty, ktB j, _, rfl, _, rfl, iteT ?_⟩
          refine ⟨_, rfl, _, rfl, rfl, ?_⟩
          refine q _ _ (Same.refl _) ?_
          rw [decide_eq_true_iff]
          exact ⟨fun z => congrArg PyData.int (V.int.inj z), fun z => congrArg V.int (PyData.int.inj z)⟩
        · refine q false _ (Same.refl _) ⟨fun z => (Bool.false_ne_true z).elim, fun z => ?_⟩
          subst z
          exact absurd (decide_eq_true (show "int" = "int" by rfl)) c4
theorem ok_law_same (B : BI mg) (F : At K mg "_law_same" s_law_same ["actual", "due"]) : ∀ n : Nat, Ok P w K mg base n "_law_same" ["actual", "due"] [] (spSame K n)
  | 0 => by
    obtain ⟨f, fd, F, m, b⟩ := F.ex
    have no : ∀ vs H Q E, ¬ spSame K 0 vs H Q E := fun vs H Q E h => by
      obtain ⟨x, y, d, e, _, _, _, _, _, h, _⟩ := h
      omega
    exact ⟨f, fd, [], ⟨fun vs H Q E h => absurd h (no vs H Q E), fun A outer s H args us vs Q E _ _ _ _ h => absurd h (no vs H Q E)⟩, m, F.kp, b, .nil⟩
  | n + 1 => ok_law_same_step B F (ok_law_same B F n)

theorem ok_plus (B : BI mg) (F : At K mg "plus" splus ["a", "b"]) (C_ratio : Ok P w K mg base 1 "ratio" ["top", "bottom"] [] (spRat K)) : Ok P w K mg base 2 "plus" ["a", "b"] [] (spBin K (fun p q => p + q)) := by
  refine F.ok scplus (fun vs H Q E h => ?_) (fun f cdv A outer s H vs Q E hr h => ?_)
  · obtain ⟨x, y, p, q, rfl, _⟩ := h
    rfl
  obtain ⟨x, y, p, q, rfl, hx, hy, zp, zq, k⟩ := h
  refine ⟨_, (pss_one (ps_ret (pe_ok C_ratio (hr.mono (by first | decide | exact Nat.le_refl _)) rfl (pa_cons (pe_op op_add (pe_op op_mulX (pe_ix ix_tup (pv 0) pe_int (fun _ _ => rfl)) (pe_ix ix_tup (pv 1) pe_int (fun _ _ => rfl))) (pe_op op_mulX (pe_ix ix_tup (pv 1) pe_int (fun _ _ => rfl)) (pe_ix ix_tup (pv 0) pe_int (fun _ _ => rfl)))) (pa_cons (pe_op op_mulX (pe_ix ix_tup (pv 0) pe_int (fun _ _ => rfl)) (pe_ix ix_tup (pv 1) pe_int (fun _ _ => rfl))) pa_nil))))), ?_⟩
  obtain ⟨xa, _, _, rfl, sx, hx0, hx1⟩ := hx.two'
  obtain ⟨ya, _, _, rfl, sy, hy0, hy1⟩ := hy.two'
  cases hx0; cases hx1; cases hy0; cases hy1
  refine ⟨_, rfl, xa, _, 0, _, rfl, rfl, sx, rfl, _, rfl, ya, _, 1, _, rfl, rfl, sy, rfl, _, _, rfl, rfl, mulB (zp.bn) (zq.bd), ?_⟩
  refine ⟨_, rfl, ya, _, 0, _, rfl, rfl, sy, rfl, _, rfl, xa, _, 1, _, rfl, rfl, sx, rfl, _, _, rfl, rfl, mulB (zq.bn) (zp.bd), _, _, rfl, rfl, ?_⟩
  refine ⟨_, rfl, xa, _, 1, _, rfl, rfl, sx, rfl, _, rfl, ya, _, 1, _, rfl, rfl, sy, rfl, _, _, rfl, rfl, mulB (zp.bd) (zq.bd), ?_⟩
  refine ⟨_, _, rfl, den_mul p q, sz_big (by decide) (zp.x5 zq), sz_big (by decide) (zp.x3 zq), fun v H1 s1 i1 => ?_⟩
  rw [r_add] at i1
  exact k v H1 s1 i1

theorem ok_minus (B : BI mg) (F : At K mg "minus" sminus ["a", "b"]) (C_ratio : Ok P w K mg base 1 "ratio" ["top", "bottom"] [] (spRat K)) : Ok P w K mg base 2 "minus" ["a", "b"] [] (spBin K (fun p q => p - q)) := by
  refine F.ok scminus (fun vs H Q E h => ?_) (fun f cdv A outer s H vs Q E hr h => ?_)
  · obtain ⟨x, y, p, q, rfl, _⟩ := h
    rfl
  obtain ⟨x, y, p, q, rfl, hx, hy, zp, zq, k⟩ := h
  refine ⟨_, (pss_one (ps_ret (pe_ok C_ratio (hr.mono (by first | decide | exact Nat.le_refl _)) rfl (pa_cons (pe_op op_sub (pe_op op_mulX (pe_ix ix_tup (pv 0) pe_int (fun _ _ => rfl)) (pe_ix ix_tup (pv 1) pe_int (fun _ _ => rfl))) (pe_op op_mulX (pe_ix ix_tup (pv 1) pe_int (fun _ _ => rfl)) (pe_ix ix_tup (pv 0) pe_int (fun _ _ => rfl)))) (pa_cons (pe_op op_mulX (pe_ix ix_tup (pv 0) pe_int (fun _ _ => rfl)) (pe_ix ix_tup (pv 1) pe_int (fun _ _ => rfl))) pa_nil))))), ?_⟩
  obtain ⟨xa, _, _, rfl, sx, hx0, hx1⟩ := hx.two'
  obtain ⟨ya, _, _, rfl, sy, hy0, hy1⟩ := hy.two'
  cases hx0; cases hx1; cases hy0; cases hy1
  refine ⟨_, rfl, xa, _, 0, _, rfl, rfl, sx, rfl, _, rfl, ya, _, 1, _, rfl, rfl, sy, rfl, _, _, rfl, rfl, mulB (zp.bn) (zq.bd), ?_⟩
  refine ⟨_, rfl, ya, _, 0, _, rfl, rfl, sy, rfl, _, rfl, xa, _, 1, _, rfl, rfl, sx, rfl, _, _, rfl, rfl, mulB (zq.bn) (zp.bd), _, _, rfl, rfl, ?_⟩
  refine ⟨_, rfl, xa, _, 1, _, rfl, rfl, sx, rfl, _, rfl, ya, _, 1, _, rfl, rfl, sy, rfl, _, _, rfl, rfl, mulB (zp.bd) (zq.bd), ?_⟩
  refine ⟨_, _, rfl, den_mul p q, sz_big (by decide) (zp.x6 zq), sz_big (by decide) (zp.x3 zq), fun v H1 s1 i1 => ?_⟩
  rw [r_sub] at i1
  exact k v H1 s1 i1

theorem ok_times (B : BI mg) (F : At K mg "times" stimes ["a", "b"]) (C_ratio : Ok P w K mg base 1 "ratio" ["top", "bottom"] [] (spRat K)) : Ok P w K mg base 2 "times" ["a", "b"] [] (spBin K (fun p q => p * q)) := by
  refine F.ok sctimes (fun vs H Q E h => ?_) (fun f cdv A outer s H vs Q E hr h => ?_)
  · obtain ⟨x, y, p, q, rfl, _⟩ := h
    rfl
  obtain ⟨x, y, p, q, rfl, hx, hy, zp, zq, k⟩ := h
  refine ⟨_, (pss_one (ps_ret (pe_ok C_ratio (hr.mono (by first | decide | exact Nat.le_refl _)) rfl (pa_cons (pe_op op_mulX (pe_ix ix_tup (pv 0) pe_int (fun _ _ => rfl)) (pe_ix ix_tup (pv 1) pe_int (fun _ _ => rfl))) (pa_cons (pe_op op_mulX (pe_ix ix_tup (pv 0) pe_int (fun _ _ => rfl)) (pe_ix ix_tup (pv 1) pe_int (fun _ _ => rfl))) pa_nil))))), ?_⟩
  obtain ⟨xa, _, _, rfl, sx, hx0, hx1⟩ := hx.two'
  obtain ⟨ya, _, _, rfl, sy, hy0, hy1⟩ := hy.two'
  cases hx0; cases hx1; cases hy0; cases hy1
  refine ⟨_, rfl, xa, _, 0, _, rfl, rfl, sx, rfl, _, rfl, ya, _, 0, _, rfl, rfl, sy, rfl, _, _, rfl, rfl, mulB (zp.bn) (zq.bn), ?_⟩
  refine ⟨_, rfl, xa, _, 1, _, rfl, rfl, sx, rfl, _, rfl, ya, _, 1, _, rfl, rfl, sy, rfl, _, _, rfl, rfl, mulB (zp.bd) (zq.bd), ?_⟩
  refine ⟨_, _, rfl, den_mul p q, sz_big (by decide) (zp.x2 zq), sz_big (by decide) (zp.x3 zq), fun v H1 s1 i1 => ?_⟩
  rw [r_mul] at i1
  exact k v H1 s1 i1

theorem ok_over (B : BI mg) (F : At K mg "over" sover ["a", "b"]) (C_ratio : Ok P w K mg base 1 "ratio" ["top", "bottom"] [] (spRat K)) : Ok P w K mg base 2 "over" ["a", "b"] [] (spBinQ K) := by
  refine F.ok scover (fun vs H Q E h => ?_) (fun f cdv A outer s H vs Q E hr h => ?_)
  · obtain ⟨x, y, p, q, rfl, _⟩ := h
    rfl
  obtain ⟨x, y, p, q, rfl, hx, hy, zp, zq, hq, k⟩ := h
  refine ⟨_, (pss_one (ps_ret (pe_ok C_ratio (hr.mono (by first | decide | exact Nat.le_refl _)) rfl (pa_cons (pe_op op_mulX (pe_ix ix_tup (pv 0) pe_int (fun _ _ => rfl)) (pe_ix ix_tup (pv 1) pe_int (fun _ _ => rfl))) (pa_cons (pe_op op_mulX (pe_ix ix_tup (pv 0) pe_int (fun _ _ => rfl)) (pe_ix ix_tup (pv 1) pe_int (fun _ _ => rfl))) pa_nil))))), ?_⟩
  obtain ⟨xa, _, _, rfl, sx, hx0, hx1⟩ := hx.two'
  obtain ⟨ya, _, _, rfl, sy, hy0, hy1⟩ := hy.two'
  cases hx0; cases hx1; cases hy0; cases hy1
  refine ⟨_, rfl, xa, _, 0, _, rfl, rfl, sx, rfl, _, rfl, ya, _, 1, _, rfl, rfl, sy, rfl, _, _, rfl, rfl, mulB (zp.bn) (zq.bd), ?_⟩
  refine ⟨_, rfl, xa, _, 1, _, rfl, rfl, sx, rfl, _, rfl, ya, _, 0, _, rfl, rfl, sy, rfl, _, _, rfl, rfl, mulB (zp.bd) (zq.bn), ?_⟩
  refine ⟨_, _, rfl, Int.mul_ne_zero (denz p) (num0 hq), sz_big (by decide) (zp.x1 zq), sz_big (by decide) (zp.x4 zq), fun v H1 s1 i1 => ?_⟩
  rw [r_div] at i1
  exact k v H1 s1 i1

theorem ok_less (B : BI mg) (F : At K mg "less" sless ["a", "b"]) : Ok P w K mg base 1 "less" ["a", "b"] [] (spLess K) := by
  refine F.ok scless (fun vs H Q E h => ?_) (fun f cdv A outer s H vs Q E hr h => ?_)
  · obtain ⟨x, y, p, q, rfl, _⟩ := h
    rfl
  obtain ⟨x, y, p, q, rfl, hx, hy, zp, zq, k⟩ := h
  refine ⟨_, (pss_one (ps_ret (pe_cmpR op_lt (pe_op op_mulX (pe_ix ix_tup (pv 0) pe_int (fun _ _ => rfl)) (pe_ix ix_tup (pv 1) pe_int (fun _ _ => rfl))) (pe_op op_mulX (pe_ix ix_tup (pv 1) pe_int (fun _ _ => rfl)) (pe_ix ix_tup (pv 0) pe_int (fun _ _ => rfl))) (nomark _)))), ?_⟩
  obtain ⟨xa, _, _, rfl, sx, hx0, hx1⟩ := hx.two'
  obtain ⟨ya, _, _, rfl, sy, hy0, hy1⟩ := hy.two'
  cases hx0; cases hx1; cases hy0; cases hy1
  refine ⟨_, rfl, xa, _, 0, _, rfl, rfl, sx, rfl, _, rfl, ya, _, 1, _, rfl, rfl, sy, rfl, _, _, rfl, rfl, mulB zp.bn zq.bd, ?_⟩
  refine ⟨_, rfl, ya, _, 0, _, rfl, rfl, sy, rfl, _, rfl, xa, _, 1, _, rfl, rfl, sx, rfl, _, _, rfl, rfl, mulB zq.bn zp.bd, ?_⟩
  refine ⟨_, _, rfl, rfl, ?_⟩
  have e : decide (p.num * (q.den : Int) < q.num * (p.den : Int)) = decide (p < q) := decide_eq_decide.mpr (r_less p q)
  show Q (.bl (decide (p.num * (q.den : Int) < q.num * (p.den : Int)))) H
  rw [e]
  exact k

theorem ok_law_plus (B : BI mg) (F : At K mg "_law_plus" s_law_plus ["a", "b"]) (C_law_ratio : Ok P w K mg base 2 "_law_ratio" ["top", "bottom"] [] (spRat K)) : Ok P w K mg base 3 "_law_plus" ["a", "b"] [] (spBin K (fun p q => p + q)) := by
  refine F.ok sc_law_plus (fun vs H Q E h => ?_) (fun f cdv A outer s H vs Q E hr h => ?_)
  · obtain ⟨x, y, p, q, rfl, _⟩ := h
    rfl
  obtain ⟨x, y, p, q, rfl, hx, hy, zp, zq, k⟩ := h
  refine ⟨_, (pss_one (ps_ret (pe_ok C_law_ratio (hr.mono (by first | decide | exact Nat.le_refl _)) rfl (pa_cons (pe_op op_add (pe_op op_mulX (pe_ix ix_tup (pv 0) pe_int (fun _ _ => rfl)) (pe_ix ix_tup (pv 1) pe_int (fun _ _ => rfl))) (pe_op op_mulX (pe_ix ix_tup (pv 1) pe_int (fun _ _ => rfl)) (pe_ix ix_tup (pv 0) pe_int (fun _ _ => rfl)))) (pa_cons (pe_op op_mulX (pe_ix ix_tup (pv 0) pe_int (fun _ _ => rfl)) (pe_ix ix_tup (pv 1) pe_int (fun _ _ => rfl))) pa_nil))))), ?_⟩
  obtain ⟨xa, _, _, rfl, sx, hx0, hx1⟩ := hx.two'
  obtain ⟨ya, _, _, rfl, sy, hy0, hy1⟩ := hy.two'
  cases hx0; cases hx1; cases hy0; cases hy1
  refine ⟨_, rfl, xa, _, 0, _, rfl, rfl, sx, rfl, _, rfl, ya, _, 1, _, rfl, rfl, sy, rfl, _, _, rfl, rfl, mulB (zp.bn) (zq.bd), ?_⟩
  refine ⟨_, rfl, ya, _, 0, _, rfl, rfl, sy, rfl, _, rfl, xa, _, 1, _, rfl, rfl, sx, rfl, _, _, rfl, rfl, mulB (zq.bn) (zp.bd), _, _, rfl, rfl, ?_⟩
  refine ⟨_, rfl, xa, _, 1, _, rfl, rfl, sx, rfl, _, rfl, ya, _, 1, _, rfl, rfl, sy, rfl, _, _, rfl, rfl, mulB (zp.bd) (zq.bd), ?_⟩
  refine ⟨_, _, rfl, den_mul p q, sz_big (by decide) (zp.x5 zq), sz_big (by decide) (zp.x3 zq), fun v H1 s1 i1 => ?_⟩
  rw [r_add] at i1
  exact k v H1 s1 i1

theorem ok_law_minus (B : BI mg) (F : At K mg "_law_minus" s_law_minus ["a", "b"]) (C_law_ratio : Ok P w K mg base 2 "_law_ratio" ["top", "bottom"] [] (spRat K)) : Ok P w K mg base 3 "_law_minus" ["a", "b"] [] (spBin K (fun p q => p - q)) := by
  refine F.ok sc_law_minus (fun vs H Q E h => ?_) (fun f cdv A outer s H vs Q E hr h => ?_)
  · obtain ⟨x, y, p, q, rfl, _⟩ := h
    rfl
  obtain ⟨x, y, p, q, rfl, hx, hy, zp, zq, k⟩ := h
  refine ⟨_, (pss_one (ps_ret (pe_ok C_law_ratio (hr.mono (by first | decide | exact Nat.le_refl _)) rfl (pa_cons (pe_op op_sub (pe_op op_mulX (pe_ix ix_tup (pv 0) pe_int (fun _ _ => rfl)) (pe_ix ix_tup (pv 1) pe_int (fun _ _ => rfl))) (pe_op op_mulX (pe_ix ix_tup (pv 1) pe_int (fun _ _ => rfl)) (pe_ix ix_tup (pv 0) pe_int (fun _ _ => rfl)))) (pa_cons (pe_op op_mulX (pe_ix ix_tup (pv 0) pe_int (fun _ _ => rfl)) (pe_ix ix_tup (pv 1) pe_int (fun _ _ => rfl))) pa_nil))))), ?_⟩
  obtain ⟨xa, _, _, rfl, sx, hx0, hx1⟩ := hx.two'
  obtain ⟨ya, _, _, rfl, sy, hy0, hy1⟩ := hy.two'
  cases hx0; cases hx1; cases hy0; cases hy1
  refine ⟨_, rfl, xa, _, 0, _, rfl, rfl, sx, rfl, _, rfl, ya, _, 1, _, rfl, rfl, sy, rfl, _, _, rfl, rfl, mulB (zp.bn) (zq.bd), ?_⟩
  refine ⟨_, rfl, ya, _, 0, _, rfl, rfl, sy, rfl, _, rfl, xa, _, 1, _, rfl, rfl, sx, rfl, _, _, rfl, rfl, mulB (zq.bn) (zp.bd), _, _, rfl, rfl, ?_⟩
  refine ⟨_, rfl, xa, _, 1, _, rfl, rfl, sx, rfl, _, rfl, ya, _, 1, _, rfl, rfl, sy, rfl, _, _, rfl, rfl, mulB (zp.bd) (zq.bd), ?_⟩
  refine ⟨_, _, rfl, den_mul p q, sz_big (by decide) (zp.x6 zq), sz_big (by decide) (zp.x3 zq), fun v H1 s1 i1 => ?_⟩
  rw [r_sub] at i1
  exact k v H1 s1 i1

theorem ok_law_times (B : BI mg) (F : At K mg "_law_times" s_law_times ["a", "b"]) (C_law_ratio : Ok P w K mg base 2 "_law_ratio" ["top", "bottom"] [] (spRat K)) : Ok P w K mg base 3 "_law_times" ["a", "b"] [] (spBin K (fun p q => p * q)) := by
  refine F.ok sc_law_times (fun vs H Q E h => ?_) (fun f cdv A outer s H vs Q E hr h => ?_)
  · obtain ⟨x, y, p, q, rfl, _⟩ := h
    rfl
  obtain ⟨x, y, p, q, rfl, hx, hy, zp, zq, k⟩ := h
  refine ⟨_, (pss_one (ps_ret (pe_ok C_law_ratio (hr.mono (by first | decide | exact Nat.le_refl _)) rfl (pa_cons (pe_op op_mulX (pe_ix ix_tup (pv 0) pe_int (fun _ _ => rfl)) (pe_ix ix_tup (pv 1) pe_int (fun _ _ => rfl))) (pa_cons (pe_op op_mulX (pe_ix ix_tup (pv 0) pe_int (fun _ _ => rfl)) (pe_ix ix_tup (pv 1) pe_int (fun _ _ => rfl))) pa_nil))))), ?_⟩
  obtain ⟨xa, _, _, rfl, sx, hx0, hx1⟩ := hx.two'
  obtain ⟨ya, _, _, rfl, sy, hy0, hy1⟩ := hy.two'
  cases hx0; cases hx1; cases hy0; cases hy1
  refine ⟨_, rfl, xa, _, 0, _, rfl, rfl, sx, rfl, _, rfl, ya, _, 0, _, rfl, rfl, sy, rfl, _, _, rfl, rfl, mulB (zp.bn) (zq.bn), ?_⟩
  refine ⟨_, rfl, xa, _, 1, _, rfl, rfl, sx, rfl, _, rfl, ya, _, 1, _, rfl, rfl, sy, rfl, _, _, rfl, rfl, mulB (zp.bd) (zq.bd), ?_⟩
  refine ⟨_, _, rfl, den_mul p q, sz_big (by decide) (zp.x2 zq), sz_big (by decide) (zp.x3 zq), fun v H1 s1 i1 => ?_⟩
  rw [r_mul] at i1
  exact k v H1 s1 i1

theorem ok_law_over (B : BI mg) (F : At K mg "_law_over" s_law_over ["a", "b"]) (C_law_ratio : Ok P w K mg base 2 "_law_ratio" ["top", "bottom"] [] (spRat K)) : Ok P w K mg base 3 "_law_over" ["a", "b"] [] (spBinQ K) := by
  refine F.ok sc_law_over (fun vs H Q E h => ?_) (fun f cdv A outer s H vs Q E hr h => ?_)
  · obtain ⟨x, y, p, q, rfl, _⟩ := h
    rfl
  obtain ⟨x, y, p, q, rfl, hx, hy, zp, zq, hq, k⟩ := h
  refine ⟨_, (pss_one (ps_ret (pe_ok C_law_ratio (hr.mono (by first | decide | exact Nat.le_refl _)) rfl (pa_cons (pe_op op_mulX (pe_ix ix_tup (pv 0) pe_int (fun _ _ => rfl)) (pe_ix ix_tup (pv 1) pe_int (fun _ _ => rfl))) (pa_cons (pe_op op_mulX (pe_ix ix_tup (pv 0) pe_int (fun _ _ => rfl)) (pe_ix ix_tup (pv 1) pe_int (fun _ _ => rfl))) pa_nil))))), ?_⟩
  obtain ⟨xa, _, _, rfl, sx, hx0, hx1⟩ := hx.two'
  obtain ⟨ya, _, _, rfl, sy, hy0, hy1⟩ := hy.two'
  cases hx0; cases hx1; cases hy0; cases hy1
  refine ⟨_, rfl, xa, _, 0, _, rfl, rfl, sx, rfl, _, rfl, ya, _, 1, _, rfl, rfl, sy, rfl, _, _, rfl, rfl, mulB (zp.bn) (zq.bd), ?_⟩
  refine ⟨_, rfl, xa, _, 1, _, rfl, rfl, sx, rfl, _, rfl, ya, _, 0, _, rfl, rfl, sy, rfl, _, _, rfl, rfl, mulB (zp.bd) (zq.bn), ?_⟩
  refine ⟨_, _, rfl, Int.mul_ne_zero (denz p) (num0 hq), sz_big (by decide) (zp.x1 zq), sz_big (by decide) (zp.x4 zq), fun v H1 s1 i1 => ?_⟩
  rw [r_div] at i1
  exact k v H1 s1 i1

theorem ok_law_less (B : BI mg) (F : At K mg "_law_less" s_law_less ["a", "b"]) : Ok P w K mg base 1 "_law_less" ["a", "b"] [] (spLess K) := by
  refine F.ok sc_law_less (fun vs H Q E h => ?_) (fun f cdv A outer s H vs Q E hr h => ?_)
  · obtain ⟨x, y, p, q, rfl, _⟩ := h
    rfl
  obtain ⟨x, y, p, q, rfl, hx, hy, zp, zq, k⟩ := h
  refine ⟨_, (pss_one (ps_ret (pe_cmpR op_lt (pe_op op_mulX (pe_ix ix_tup (pv 0) pe_int (fun _ _ => rfl)) (pe_ix ix_tup (pv 1) pe_int (fun _ _ => rfl))) (pe_op op_mulX (pe_ix ix_tup (pv 1) pe_int (fun _ _ => rfl)) (pe_ix ix_tup (pv 0) pe_int (fun _ _ => rfl))) (nomark _)))), ?_⟩
  obtain ⟨xa, _, _, rfl, sx, hx0, hx1⟩ := hx.two'
  obtain ⟨ya, _, _, rfl, sy, hy0, hy1⟩ := hy.two'
  cases hx0; cases hx1; cases hy0; cases hy1
  refine ⟨_, rfl, xa, _, 0, _, rfl, rfl, sx, rfl, _, rfl, ya, _, 1, _, rfl, rfl, sy, rfl, _, _, rfl, rfl, mulB zp.bn zq.bd, ?_⟩
  refine ⟨_, rfl, ya, _, 0, _, rfl, rfl, sy, rfl, _, rfl, xa, _, 1, _, rfl, rfl, sx, rfl, _, _, rfl, rfl, mulB zq.bn zp.bd, ?_⟩
  refine ⟨_, _, rfl, rfl, ?_⟩
  have e : decide (p.num * (q.den : Int) < q.num * (p.den : Int)) = decide (p < q) := decide_eq_decide.mpr (r_less p q)
  show Q (.bl (decide (p.num * (q.den : Int) < q.num * (p.den : Int)))) H
  rw [e]
  exact k

theorem ok_totalL (B : BI mg) (Z : GZ K mg) (F : At K mg "total" stotal ["ratios"]) (C_plus : Ok P w K mg base 2 "plus" ["a", "b"] [] (spBin K (fun p q => p + q))) : Ok P w K mg base 3 "total" ["ratios"] [] (spSumL K) := by
  refine F.ok sctotal (fun vs H Q E h => ?_) (fun f cdv A outer s H vs Q E hr h => ?_)
  · obtain ⟨a, xs, qs, n, rfl, _⟩ := h
    rfl
  obtain ⟨a, xs, qs, n, rfl, hS, hI, hz, hn, hl, k⟩ := h
  obtain ⟨zA, hZERO, sZ⟩ := Z
  refine ⟨_, (pss_cons (ps_set (i := 1) sctotal.nd rfl (Or.inl rfl) (pe_glob (v := .ref zA) rfl hZERO rfl))
      (pss_cons (ps_for PassesOwn.never rfl (pi_list (pv 0)) (pg_name (i := 2) sctotal.nd rfl (Or.inl rfl))
        (pss_one (ps_set (i := 1) sctotal.nd rfl (Or.inl rfl) (pe_ok C_plus (hr.mono (by first | decide | exact Nat.le_refl _)) rfl (pa_cons (pv 1) (pa_cons (pv 2) pa_nil))))))
      (pss_one (ps_ret (pv 1))))), ?_⟩
  have lx : xs.length = qs.length := by rw [hI.len, List.length_map]
  refine ⟨_, rfl, a, rfl, ⟨_, hS⟩, for_list (xs := xs) (fun i σ' H' => Same H H' ∧ ∃ (v : V) (y : Option V), σ' = [some (.ref a), some v, y] ∧ Is K H' v (rat2 (sumL 0 (qs.take i)))) ?_ ?_ ?_ ?_⟩
  · exact ⟨Same.refl _, _, none, rfl, is_zero (sZ _)⟩
  · rintro i σ' H' hi ⟨sm, _⟩
    exact sm.seq hS
  · rintro i x σ' H' hx ⟨sm, v, y, rfl, iv⟩
    obtain ⟨d, hd, ix⟩ := hI.at hx
    obtain ⟨q, hq, rfl⟩ := getR hd
    refine ⟨_, rfl, _, rfl, v, x, _, q, rfl, iv, ix.to (Same.tm sm), sumL_mid hz hl, (hz q (List.mem_of_getElem? hq)).mono hn, fun u H2 s2 iu => ?_⟩
    refine ⟨sm.trans s2, u, _, rfl, ?_⟩
    rw [sumL_take hq]
    exact iu
  · rintro σ' H' ⟨sm, v, y, rfl, iv⟩
    refine ⟨_, rfl, k v H' sm ?_⟩
    rw [lx, List.take_length] at iv
    exact iv
theorem ok_totalT (B : BI mg) (Z : GZ K mg) (F : At K mg "total" stotal ["ratios"]) (C_plus : Ok P w K mg base 2 "plus" ["a", "b"] [] (spBin K (fun p q => p + q))) : Ok P w K mg base 3 "total" ["ratios"] [] (spSumT K) := by
  refine F.ok sctotal (fun vs H Q E h => ?_) (fun f cdv A outer s H vs Q E hr h => ?_)
  · obtain ⟨a, xs, qs, n, rfl, _⟩ := h
    rfl
  obtain ⟨a, xs, qs, n, rfl, hS, hI, hz, hn, hl, k⟩ := h
  obtain ⟨zA, hZERO, sZ⟩ := Z
  refine ⟨_, (pss_cons (ps_set (i := 1) sctotal.nd rfl (Or.inl rfl) (pe_glob (v := .ref zA) rfl hZERO rfl))
      (pss_cons (ps_for PassesOwn.never rfl (pi_tup (pv 0)) (pg_name (i := 2) sctotal.nd rfl (Or.inl rfl))
        (pss_one (ps_set (i := 1) sctotal.nd rfl (Or.inl rfl) (pe_ok C_plus (hr.mono (by first | decide | exact Nat.le_refl _)) rfl (pa_cons (pv 1) (pa_cons (pv 2) pa_nil))))))
      (pss_one (ps_ret (pv 1))))), ?_⟩
  have lx : xs.length = qs.length := by rw [hI.len, List.length_map]
  refine ⟨_, rfl, a, rfl, ⟨_, hS⟩, for_tup (xs := xs) (fun i σ' H' => Same H H' ∧ ∃ (v : V) (y : Option V), σ' = [some (.ref a), some v, y] ∧ Is K H' v (rat2 (sumL 0 (qs.take i)))) ?_ ?_ ?_ ?_⟩
  · exact ⟨Same.refl _, _, none, rfl, is_zero (sZ _)⟩
  · rintro i σ' H' hi ⟨sm, _⟩
    exact (Same.tm sm).sq hS
  · rintro i x σ' H' hx ⟨sm, v, y, rfl, iv⟩
    obtain ⟨d, hd, ix⟩ := hI.at hx
    obtain ⟨q, hq, rfl⟩ := getR hd
    refine ⟨_, rfl, _, rfl, v, x, _, q, rfl, iv, ix.to (Same.tm sm), sumL_mid hz hl, (hz q (List.mem_of_getElem? hq)).mono hn, fun u H2 s2 iu => ?_⟩
    refine ⟨sm.trans s2, u, _, rfl, ?_⟩
    rw [sumL_take hq]
    exact iu
  · rintro σ' H' ⟨sm, v, y, rfl, iv⟩
    refine ⟨_, rfl, k v H' sm ?_⟩
    rw [lx, List.take_length] at iv
    exact iv

theorem ok_law_sum (B : BI mg) (F : At K mg "_law_sum" s_law_sum ["rows"]) (C_law_plus : Ok P w K mg base 3 "_law_plus" ["a", "b"] [] (spBin K (fun p q => p + q))) : Ok P w K mg base 4 "_law_sum" ["rows"] [] (spSumL K) := by
  refine F.ok sc_law_sum (fun vs H Q E h => ?_) (fun f cdv A outer s H vs Q E hr h => ?_)
  · obtain ⟨a, xs, qs, n, rfl, _⟩ := h
    rfl
  obtain ⟨a, xs, qs, n, rfl, hS, hI, hz, hn, hl, k⟩ := h
  refine ⟨_, (pss_cons (ps_set (i := 1) sc_law_sum.nd rfl (Or.inl rfl) (pe_tup (pa_cons pe_int (pa_cons pe_int pa_nil))))
      (pss_cons (ps_for PassesOwn.never rfl (pi_list (pv 0)) (pg_name (i := 2) sc_law_sum.nd rfl (Or.inl rfl))
        (pss_one (ps_set (i := 1) sc_law_sum.nd rfl (Or.inl rfl) (pe_ok C_law_plus (hr.mono (by first | decide | exact Nat.le_refl _)) rfl (pa_cons (pv 1) (pa_cons (pv 2) pa_nil))))))
      (pss_one (ps_ret (pv 1))))), ?_⟩
  refine ⟨(by show 2 ≤ sizeLine; decide), fun z0 n0 => ?_⟩
  have lx : xs.length = qs.length := by rw [hI.len, List.length_map]
  refine ⟨_, rfl, a, rfl, ⟨_, (same_upd n0).seq hS⟩, for_list (xs := xs) (fun i σ' H' => Same H H' ∧ ∃ (v : V) (y : Option V), σ' = [some (.ref a), some v, y] ∧ Is K H' v (rat2 (sumL 0 (qs.take i)))) ?_ ?_ ?_ ?_⟩
  · exact ⟨same_upd n0, _, none, rfl, is_zero (SqT.of upd_same)⟩
  · rintro i σ' H' hi ⟨sm, _⟩
    exact sm.seq hS
  · rintro i x σ' H' hx ⟨sm, v, y, rfl, iv⟩
    obtain ⟨d, hd, ix⟩ := hI.at hx
    obtain ⟨q, hq, rfl⟩ := getR hd
    refine ⟨_, rfl, _, rfl, v, x, _, q, rfl, iv, ix.to (Same.tm sm), sumL_mid hz hl, (hz q (List.mem_of_getElem? hq)).mono hn, fun u H2 s2 iu => ?_⟩
    refine ⟨sm.trans s2, u, _, rfl, ?_⟩
    rw [sumL_take hq]
    exact iu
  · rintro σ' H' ⟨sm, v, y, rfl, iv⟩
    refine ⟨_, rfl, k v H' sm ?_⟩
    rw [lx, List.take_length] at iv
    exact iv

/-- a drawn ratio -/
def spDrawn (K : PySem.W.Frag) : Sp := fun vs H Q _ => ∃ p pa, vs = [.ref p] ∧ Pl p pa H ∧ ∀ v q H', Sz 140 q → Kp p H H' → Pl p pa H' → Is K H' v (rat2 q) → Q v H'
theorem ok_law_drawn (F : At K mg "_law_drawn" s_law_drawn ["pool"]) (C_law_draw : Ok P w K mg base 1 "_law_draw" ["pool", "many"] [] spDraw) (C_law_ratio : Ok P w K mg base 2 "_law_ratio" ["top", "bottom"] [] (spRat K)) :
    Ok P w K mg base 3 "_law_drawn" ["pool"] [] (spDrawn K) := by
  refine F.ok sc_law_drawn (fun vs H Q E h => ?_) (fun f cdv A outer s H vs Q E hr h => ?_)
  · obtain ⟨p, pa, rfl, _⟩ := h
    rfl
  obtain ⟨p, pa, rfl, hP, q⟩ := h
  refine ⟨_, (pss_cons (ps_if (pt_cmpR op_eq (pe_ok C_law_draw (hr.mono (by first | decide | exact Nat.le_refl _)) rfl (pa_cons (pv 0) (pa_cons pe_int pa_nil))) pe_int (nomark _))
        (pss_one (ps_ret (pe_ok C_law_ratio (hr.mono (by first | decide | exact Nat.le_refl _)) rfl (pa_cons (pe_op op_sub (pe_ok C_law_draw (hr.mono (by first | decide | exact Nat.le_refl _)) rfl (pa_cons (pv 0) (pa_cons (pe_op op_pow pe_int pe_int) pa_nil))) (pe_op op_mulX pe_int (pe_op op_pow pe_int pe_int))) (pa_cons (pe_op op_add pe_int (pe_ok C_law_draw (hr.mono (by first | decide | exact Nat.le_refl _)) rfl (pa_cons (pv 0) (pa_cons (pe_op op_pow pe_int pe_int) pa_nil)))) pa_nil)))))
        pss_nil)
      (pss_one (ps_ret (pe_ok C_law_ratio (hr.mono (by first | decide | exact Nat.le_refl _)) rfl (pa_cons (pe_op op_sub (pe_ok C_law_draw (hr.mono (by first | decide | exact Nat.le_refl _)) rfl (pa_cons (pv 0) (pa_cons pe_int pa_nil))) pe_int) (pa_cons (pe_op op_add pe_int (pe_ok C_law_draw (hr.mono (by first | decide | exact Nat.le_refl _)) rfl (pa_cons (pv 0) (pa_cons pe_int pa_nil)))) pa_nil)))))), ?_⟩
  have e39 : (10 : Int) ^ (39 : Int).toNat = 1000000000000000000000000000000000000000 := by decide +kernel
  have e30 : (10 : Int) ^ (30 : Int).toNat = 1000000000000000000000000000000 := by decide +kernel
  have b140 : (100000000000000000000000000000000000000000 : Nat) < 2 ^ 140 := by decide +kernel
  refine ⟨_, rfl, p, pa, 4, rfl, hP, by decide, by decide, fun r1 H1 r10 r11 k1 P1 => ?_⟩
  refine ⟨rfl, _, rfl, ite2 (fun e => ?_) (fun e => ?_)⟩
  · refine ⟨_, rfl, _, _, rfl, rfl, ⟨by decide, by decide, by decide⟩, p, pa, _, rfl, P1, by rw [tenK]; decide, by rw [tenK]; decide, fun r2 H2 r20 r21 k2 P2 => ?_⟩
    refine ⟨_, _, rfl, rfl, ⟨by decide, by decide, by decide⟩, _, _, rfl, rfl, mulL ⟨by decide, by decide⟩, _, _, rfl, rfl, ?_⟩
    rw [tenK] at r21
    rw [e39]
    refine ⟨_, rfl, _, _, rfl, rfl, ⟨by decide, by decide, by decide⟩, p, pa, _, rfl, P2, by rw [e30]; decide, by rw [e30]; decide, fun r3 H3 r30 r31 k3 P3 => ?_⟩
    rw [e30] at r31
    refine ⟨_, _, rfl, rfl, _, _, rfl, by omega, bigK (by omega), bigK (by omega), fun v H4 s4 i4 => ?_⟩
    exact q v _ H4 (Sz.divInt (by omega) (by omega) (by omega)) (k1.trans (k2.trans (k3.trans (.of s4)))) (P3.same s4) i4
  · refine ⟨_, rfl, p, pa, _, rfl, P1, by decide, by decide, fun r2 H2 r20 r21 k2 P2 => ?_⟩
    refine ⟨_, _, rfl, rfl, _, rfl, p, pa, _, rfl, P2, by decide, by decide, fun r3 H3 r30 r31 k3 P3 => ?_⟩
    refine ⟨_, _, rfl, rfl, _, _, rfl, by omega, bigK (by omega), bigK (by omega), fun v H4 s4 i4 => ?_⟩
    exact q v _ H4 (Sz.divInt (by omega) (by omega) (by omega)) (k1.trans (k2.trans (k3.trans (.of s4)))) (P3.same s4) i4
theorem oklaw {f : Addr} {fd : FuncData} (B : BI mg) (F : Fun K "law" "law" slaw f fd) (C_law_pool : Ok P w K mg base 1 "_law_pool" ["script"] [] (spPool K)) (C_law_draw : Ok P w K mg base 1 "_law_draw" ["pool", "many"] [] spDraw)
    (C_law_drawn : Ok P w K mg base 3 "_law_drawn" ["pool"] [] (spDrawn K)) (C_law_same : Ok P w K mg base 2 "_law_same" ["actual", "due"] [] (spSame K 2))
    (C_plus : Ok P w K mg base 2 "plus" ["a", "b"] [] (spBin K (fun p q => p + q))) (C_law_plus : Ok P w K mg base 3 "_law_plus" ["a", "b"] [] (spBin K (fun p q => p + q)))
    (C_minus : Ok P w K mg base 2 "minus" ["a", "b"] [] (spBin K (fun p q => p - q))) (C_law_minus : Ok P w K mg base 3 "_law_minus" ["a", "b"] [] (spBin K (fun p q => p - q)))
    (C_times : Ok P w K mg base 2 "times" ["a", "b"] [] (spBin K (fun p q => p * q))) (C_law_times : Ok P w K mg base 3 "_law_times" ["a", "b"] [] (spBin K (fun p q => p * q)))
    (C_over : Ok P w K mg base 2 "over" ["a", "b"] [] (spBinQ K)) (C_law_over : Ok P w K mg base 3 "_law_over" ["a", "b"] [] (spBinQ K))
    (C_less : Ok P w K mg base 1 "less" ["a", "b"] [] (spLess K)) (C_law_less : Ok P w K mg base 1 "_law_less" ["a", "b"] [] (spLess K))
    (C_totalL : Ok P w K mg base 3 "total" ["ratios"] [] (spSumL K)) (C_totalT : Ok P w K mg base 3 "total" ["ratios"] [] (spSumT K)) (C_law_sum : Ok P w K mg base 4 "_law_sum" ["rows"] [] (spSumL K)) : FnOk P w K mg base CX0 5 f fd ["script"] (spLaw K) := by
  refine F.ok sclaw (fun vs H Q E h => ?_) (fun cdv A outer s H vs Q E hr h => ?_)
  · obtain ⟨a, ns, rfl, _⟩ := h
    rfl
  obtain ⟨a, ns, rfl, hS, hl, q⟩ := h
  refine ⟨_, (pss_cons (ps_set (i := 1) sclaw.nd rfl (Or.inr rfl) (pe_ok C_law_pool (hr.mono (by first | decide | exact Nat.le_refl _)) rfl (pa_cons (pv 0) pa_nil)))
      (pss_cons (ps_setLc (i := 2) (own := [("k", 6)]) (g := gName 6) (tt := tYes) rfl sclaw.nd rfl rfl (sw_true rfl rfl rfl (by decide +kernel)) (pi_range1 rfl B.range (pa_cons (pe_op op_add pe_int (pe_ok C_law_draw (hr.mono (by first | decide | exact Nat.le_refl _)) rfl (pa_cons (pv 1) (pa_cons pe_int pa_nil)))) pa_nil)) (blkOk_by (own := [("k", 6)]) (N := ["script", "pool", "rows", "a", "b", "found", "k"]) (sc := defScope slaw) (by decide +kernel)) (fun _ _ _ _ _ => (pg_name (i := 6) sclaw.nd rfl (Or.inl rfl))) (fun _ _ _ _ _ => pts_nil) (fun _ _ _ _ _ => (pe_ok C_law_drawn (hr.mono (by first | decide | exact Nat.le_refl _)) rfl (pa_cons (pv 1) pa_nil))))
      (pss_cons (ps_for PassesOwn.never rfl (pi_list (pv 2)) (pg_name (i := 3) sclaw.nd rfl (Or.inl rfl))
        (pss_one (ps_for PassesOwn.never rfl (pi_list (pv 2)) (pg_name (i := 4) sclaw.nd rfl (Or.inl rfl))
          (pss_cons (ps_if (PW.pt (pw_or (pt_not (pt_val (pe_ok C_law_same (hr.mono (by first | decide | exact Nat.le_refl _)) rfl (pa_cons (pe_ok C_plus (hr.mono (by first | decide | exact Nat.le_refl _)) rfl (pa_cons (pv 3) (pa_cons (pv 4) pa_nil))) (pa_cons (pe_ok C_law_plus (hr.mono (by first | decide | exact Nat.le_refl _)) rfl (pa_cons (pv 3) (pa_cons (pv 4) pa_nil))) pa_nil))))) (pw_or1 (pt_not (pt_val (pe_ok C_law_same (hr.mono (by first | decide | exact Nat.le_refl _)) rfl (pa_cons (pe_ok C_minus (hr.mono (by first | decide | exact Nat.le_refl _)) rfl (pa_cons (pv 3) (pa_cons (pv 4) pa_nil))) (pa_cons (pe_ok C_law_minus (hr.mono (by first | decide | exact Nat.le_refl _)) rfl (pa_cons (pv 3) (pa_cons (pv 4) pa_nil))) pa_nil))))))))
            (pss_one (ps_ret pe_bl))
            pss_nil)
          (pss_cons (ps_if (pt_not (pt_val (pe_ok C_law_same (hr.mono (by first | decide | exact Nat.le_refl _)) rfl (pa_cons (pe_ok C_times (hr.mono (by first | decide | exact Nat.le_refl _)) rfl (pa_cons (pv 3) (pa_cons (pv 4) pa_nil))) (pa_cons (pe_ok C_law_times (hr.mono (by first | decide | exact Nat.le_refl _)) rfl (pa_cons (pv 3) (pa_cons (pv 4) pa_nil))) pa_nil)))))
            (pss_one (ps_ret pe_bl))
            pss_nil)
          (Evl.pss_cut (ps_if (PW.pt (pw_and (pt_cmpR op_ne (pe_ix ix_tup (pv 4) pe_int (fun _ _ => rfl)) pe_int (nomark _)) (pw_and1 (pt_not (pt_val (pe_ok C_law_same (hr.mono (by first | decide | exact Nat.le_refl _)) rfl (pa_cons (pe_ok C_over (hr.mono (by first | decide | exact Nat.le_refl _)) rfl (pa_cons (pv 3) (pa_cons (pv 4) pa_nil))) (pa_cons (pe_ok C_law_over (hr.mono (by first | decide | exact Nat.le_refl _)) rfl (pa_cons (pv 3) (pa_cons (pv 4) pa_nil))) pa_nil))))))))
            (pss_one (ps_ret pe_bl))
            pss_nil)
          (pss_cons (ps_set (i := 5) sclaw.nd rfl (Or.inl rfl) (pe_ok C_less (hr.mono (by first | decide | exact Nat.le_refl _)) rfl (pa_cons (pv 3) (pa_cons (pv 4) pa_nil))))
          (pss_one (ps_if (PW.pt (pw_or (pt_not (pt_val (pe_callB call_isi rfl B.isinstance (by decide +kernel) (pa_cons (pv 5) (pa_cons (pe_bltn (v := .ty "bool") (by rfl) B.bool (by decide +kernel) rfl) pa_nil))))) (pw_or1 (pt_cmpR op_ne (pv 5) (pe_ok C_law_less (hr.mono (by first | decide | exact Nat.le_refl _)) rfl (pa_cons (pv 3) (pa_cons (pv 4) pa_nil))) (nomark _)))))
            (pss_one (ps_ret pe_bl))
            pss_nil)))))))))
      (pss_cons (ps_if (pt_not (pt_val (pe_ok C_law_same (hr.mono (by first | decide | exact Nat.le_refl _)) rfl (pa_cons (pe_ok C_totalL (hr.mono (by first | decide | exact Nat.le_refl _)) rfl (pa_cons (pe_callTy call_list_of rfl B.list (by decide +kernel) (pa_cons (pv 2) pa_nil)) pa_nil)) (pa_cons (pe_ok C_law_sum (hr.mono (by first | decide | exact Nat.le_refl _)) rfl (pa_cons (pv 2) pa_nil)) pa_nil)))))
        (pss_one (ps_ret pe_bl))
        pss_nil)
      (pss_one (ps_ret (pe_and (pe_ok C_law_same (hr.mono (by first | decide | exact Nat.le_refl _)) rfl (pa_cons (pe_ok C_totalT (hr.mono (by first | decide | exact Nat.le_refl _)) rfl (pa_cons (pe_callTy call_tuple_of rfl B.tuple (by decide +kernel) (pa_cons (pv 2) pa_nil)) pa_nil)) (pa_cons (pe_ok C_law_sum (hr.mono (by first | decide | exact Nat.le_refl _)) rfl (pa_cons (pv 2) pa_nil)) pa_nil))) (pe_one (pe_ok C_law_same (hr.mono (by first | decide | exact Nat.le_refl _)) rfl (pa_cons (pe_ok C_totalL (hr.mono (by first | decide | exact Nat.le_refl _)) rfl (pa_cons (pe_lst pa_nil) pa_nil)) (pa_cons (pe_tup (pa_cons pe_int (pa_cons pe_int pa_nil))) pa_nil))))))))))), ?_⟩
  refine ⟨_, rfl, a, ns, rfl, hS, hl, fun p pa H1 np s1 P1 => ?_⟩
  -- rows
  refine ⟨_, rfl, p, pa, 8, rfl, P1, by decide, by decide, fun r H2 r0 r1 k2 P2 => ?_⟩
  refine ⟨_, _, rfl, rfl, _, rfl, by omega, by omega, fun D hD => ?_⟩
  have nD := P2.ne hD
  refine lc_range (lo := 0) (fun i H' => Pl p pa H' ∧ ∃ acc qs, H' D = some (.lst acc) ∧ IsA K H' acc (qs.map rat2) ∧ (∀ q ∈ qs, Sz 140 q) ∧ qs.length ≤ i) ⟨P2.same (same_upd hD), [], [], upd_same, .nil, fun _ h => (nomatch h), Nat.le_refl _⟩ ?_ ?_
  · rintro i H' hi ⟨P3, acc, qs, hacc, hI, hz, hlq⟩
    refine ⟨rfl, _, rfl, p, pa, rfl, P3, fun v q4 H4 z4 k4 P4 i4 => ?_⟩
    have a4 : H4 D = some (.lst acc) := k4 _ _ nD.1 hacc
    have la : acc.length = qs.length := by rw [hI.len, List.length_map]
    have t5 : Tm H4 (upd H4 D (.lst (acc ++ [v]))) := Tm.lst a4
    refine ⟨acc, a4, small5' (by omega), P4.mut nD.1 nD.2, acc ++ [v], qs ++ [q4], upd_same, ?_, ?_, ?_⟩
    · rw [List.map_append]
      exact ((hI.to (P3.tm k4)).append (.cons i4 .nil)).to t5
    · intro x hx
      rcases List.mem_append.mp hx with h | h
      · exact hz x h
      · rw [List.mem_singleton.mp h]
        exact z4
    · rw [List.length_append]
      exact Nat.succ_le_succ hlq
  rintro H5 ⟨P5, xs, qs, h5, hI, hz, hlq⟩
  have hlq8 : qs.length ≤ 8 := by omega
  have lx : xs.length = qs.length := by rw [hI.len, List.length_map]
  have z2 : ∀ q ∈ qs, Sz 2000 q := fun q hq => (hz q hq).mono (by decide)
  refine ⟨_, rfl, D, rfl, ⟨_, SqL.of h5⟩, for_list (xs := xs) (fun i σ' H' => Same H5 H' ∧ ∃ y3 y4 y5 y6, σ' = [some (.ref a), some (.ref p), some (.ref D), y3, y4, y5, y6]) ⟨Same.refl _, none, none, none, none, rfl⟩ (fun i σ' H' hi h => h.1.seq (SqL.of h5)) ?_ ?_⟩
  · rintro i va σ6 H6 hva ⟨s6, y3, y4, y5, y6, rfl⟩
    obtain ⟨d, hd, ia5⟩ := hI.at hva
    obtain ⟨qa, hqa, rfl⟩ := getR hd
    have za := z2 qa (List.mem_of_getElem? hqa)
    refine ⟨_, rfl, D, rfl, ⟨_, s6.seq (SqL.of h5)⟩, for_list (xs := xs) (fun i σ' H' => Same H5 H' ∧ ∃ y4 y5 y6, σ' = [some (.ref a), some (.ref p), some (.ref D), some va, y4, y5, y6]) ⟨s6, y4, y5, y6, rfl⟩ (fun i σ' H' hi h => h.1.seq (SqL.of h5)) ?_ ?_⟩
    · rintro j vb σ7 H7 hvb ⟨s7, y4, y5, y6, rfl⟩
      obtain ⟨d, hd, ib5⟩ := hI.at hvb
      obtain ⟨qb, hqb, rfl⟩ := getR hd
      have zb := z2 qb (List.mem_of_getElem? hqb)
      have ia : ∀ H', Same H5 H' → Is K H' va (rat2 qa) := fun H' s => ia5.to (Same.tm s)
      have ib : ∀ H', Same H5 H' → Is K H' vb (rat2 qb) := fun H' s => ib5.to (Same.tm s)
      refine rd_same2 rfl rfl (ia _ s7) (ib _ s7) za zb fun H8 s8 => ⟨_, rfl, iteF ?_⟩
      have t8 := s7.trans s8
      refine rd_same2 rfl rfl (ia _ t8) (ib _ t8) za zb fun H9 s9 => ⟨_, rfl, iteF ?_⟩
      have t9 := t8.trans s9
      refine rd_same2 rfl rfl (ia _ t9) (ib _ t9) za zb fun H10 s10 => ⟨_, rfl, iteF ?_⟩
      have t10 := t9.trans s10
      refine ⟨fun σ' H' => Same H5 H' ∧ σ' = [some (.ref a), some (.ref p), some (.ref D), some va, some vb, y5, y6], ?_, ?_⟩
      · obtain ⟨yb, _, _, rfl, sb, hb0, hb1⟩ := (ib _ t10).two'
        cases hb0
        refine ⟨_, rfl, yb, _, 0, _, rfl, rfl, sb, rfl, rfl, _, rfl, ite2 (fun e => ?_) (fun e => iteF ⟨t10, rfl⟩)⟩
        have e1 : qb ≠ 0 := fun z => by
          rw [z] at e
          exact absurd e (by decide)
        refine rd_same2Q rfl rfl (ia _ t10) (ib _ t10) za zb e1 fun H11 s11 => ⟨_, rfl, iteF ⟨t10.trans s11, rfl⟩⟩
      rintro σ11 H11 ⟨t11, rfl⟩
      refine ⟨va, rfl, vb, rfl, va, vb, qa, qb, rfl, ia _ t11, ib _ t11, za, zb, ?_⟩
      refine ⟨_, rfl, _, _, _, _, _, rfl, .ty _, .base (.bl _), kt (show kitB "bool" "bool" = some true by decide +kernel), _, rfl, iteF ?_⟩
      refine ⟨_, rfl, va, rfl, vb, rfl, va, vb, qa, qb, rfl, ia _ t11, ib _ t11, za, zb, rfl, _, rfl, ?_⟩
      rw [decide_eq_true rfl]
      exact iteF ⟨t11, _, _, _, rfl⟩
    · rintro σ7 H7 ⟨s7, y4, y5, y6, rfl⟩
      exact ⟨s7, some va, y4, y5, y6, rfl⟩
  · rintro σ6 H6 ⟨s6, y3, y4, y5, y6, rfl⟩
    have hD6 : SqL K H6 D xs := s6.seq (SqL.of h5)
    have hI6 : IsA K H6 xs (qs.map rat2) := hI.to (Same.tm s6)
    have hsz : qs.length * (140 + 1) ≤ 1900 := by omega
    -- total(list(rows)), _law_sum(rows)
    refine ⟨_, rfl, D, xs, rfl, .inl hD6, fun l nl => ?_⟩
    have s7 := same_upd (o := .lst xs) nl
    refine ⟨l, xs, qs, 140, rfl, SqL.of upd_same, hI6.to (Same.tm s7), hz, by decide, hsz, fun v8 H8 s8 i8 => ?_⟩
    have t8 := s7.trans s8
    refine ⟨_, rfl, D, xs, qs, 140, rfl, t8.seq hD6, hI6.to (Same.tm t8), hz, by decide, hsz, fun v9 H9 s9 i9 => ?_⟩
    refine ⟨v8, v9, _, _, rfl, i8.to (Same.tm s9), i9, plain_rat2 _, plain_rat2 _, by rw [dep_rat2]; decide, fun c H10 s10 hc => ?_⟩
    obtain rfl : c = true := hc.mpr rfl
    refine ⟨_, rfl, iteF ?_⟩
    have t10 := t8.trans (s9.trans s10)
    -- total(tuple(rows))
    refine ⟨_, rfl, D, xs, rfl, .inl ⟨t10.seq hD6, fun l2 nl2 => ?_⟩⟩
    have s11 := same_upd (o := .tup xs) nl2
    have t11 := t10.trans s11
    refine ⟨l2, xs, qs, 140, rfl, SqT.of upd_same, hI6.to (Same.tm t11), hz, by decide, hsz, fun v12 H12 s12 i12 => ?_⟩
    have t12 := t11.trans s12
    refine ⟨_, rfl, D, xs, qs, 140, rfl, t12.seq hD6, hI6.to (Same.tm t12), hz, by decide, hsz, fun v13 H13 s13 i13 => ?_⟩
    refine ⟨v12, v13, _, _, rfl, i12.to (Same.tm s13), i13, plain_rat2 _, plain_rat2 _, by rw [dep_rat2]; decide, fun c H14 s14 hc => ?_⟩
    obtain rfl : c = true := hc.mpr rfl
    refine ⟨_, rfl, iteT ?_⟩
    -- total([])
    refine ⟨(by show 0 ≤ sizeLine; decide), fun l3 nl3 => ?_⟩
    refine ⟨l3, [], [], 140, rfl, SqL.of upd_same, .nil, fun _ h => (nomatch h), by decide, by decide, fun v15 H15 s15 i15 => ?_⟩
    refine ⟨(by show 2 ≤ sizeLine; decide), fun l4 nl4 => ?_⟩
    refine ⟨v15, _, rat2 0, rat2 0, rfl, i15.to (Tm.new nl4), Is.newT nl4 (.two (.int 0) (.int 1)), plain_rat2 _, plain_rat2 _, by rw [dep_rat2]; decide, fun c H16 s16 hc => ?_⟩
    obtain rfl : c = true := hc.mpr rfl
    exact q _

theorem all {flaw : Addr} {fdlaw : FuncData} (B : BI mg) (mGcd : mg "gcd" = some (.builtin "math.gcd")) (Z : GZ K mg) (Fratio : AtD K mg "ratio" sratio ["top", "bottom"] [.int 1]) (Fplus : At K mg "plus" splus ["a", "b"]) (Fminus : At K mg "minus" sminus ["a", "b"]) (Ftimes : At K mg "times" stimes ["a", "b"]) (Fover : At K mg "over" sover ["a", "b"]) (Fless : At K mg "less" sless ["a", "b"]) (Ftotal : At K mg "total" stotal ["ratios"]) (F_law_pool : At K mg "_law_pool" s_law_pool ["script"]) (F_law_draw : At K mg "_law_draw" s_law_draw ["pool", "many"]) (F_law_gcd : At K mg "_law_gcd" s_law_gcd ["a", "b"]) (F_law_ratio : At K mg "_law_ratio" s_law_ratio ["top", "bottom"]) (F_law_plus : At K mg "_law_plus" s_law_plus ["a", "b"]) (F_law_minus : At K mg "_law_minus" s_law_minus ["a", "b"]) (F_law_times : At K mg "_law_times" s_law_times ["a", "b"]) (F_law_over : At K mg "_law_over" s_law_over ["a", "b"]) (F_law_less : At K mg "_law_less" s_law_less ["a", "b"]) (F_law_sum : At K mg "_law_sum" s_law_sum ["rows"]) (F_law_same : At K mg "_law_same" s_law_same ["actual", "due"]) (F_law_drawn : At K mg "_law_drawn" s_law_drawn ["pool"]) (Flaw : Fun K "law" "law" slaw flaw fdlaw) : FnOk P w K mg base CX0 5 flaw fdlaw ["script"] (spLaw K) := by
  have C_draw := ok_law_draw (P := P) (w := w) (base := base) B F_law_draw
  have C_ratio := (ok_ratio (P := P) (w := w) (base := base) B Fratio mGcd).1
  have D_ratio := ok_law_ratio (P := P) (w := w) (base := base) B F_law_ratio (ok_law_gcd B F_law_gcd)
  have C_plus := ok_plus B Fplus C_ratio
  have D_plus := ok_law_plus B F_law_plus D_ratio
  exact oklaw B Flaw (ok_law_pool B F_law_pool) C_draw (ok_law_drawn F_law_drawn C_draw D_ratio) (ok_law_same B F_law_same 2) C_plus D_plus (ok_minus B Fminus C_ratio) (ok_law_minus B F_law_minus D_ratio)
    (ok_times B Ftimes C_ratio) (ok_law_times B F_law_times D_ratio) (ok_over B Fover C_ratio) (ok_law_over B F_law_over D_ratio) (ok_less B Fless) (ok_law_less B F_law_less) (ok_totalL B Z Ftotal C_plus) (ok_totalT B Z Ftotal C_plus) (ok_law_sum B F_law_sum D_plus)
end
theorem all_mk {l : PySem.W.OpenLaw} {w : World} {K : PySem.W.Frag} {h : Heap} {mg : Str → Option Value} {fa f1 f2 f3 f4 f5 f6 f7 f8 f9 f10 f11 f12 f13 f14 f15 f16 f17 f18 f19 f20 : Addr} (X : K.In h) (G : h.Ns mainGlobals mg) (hfa : mg "law" = some (.ref fa))
    {od1 an1 od2 an2 od3 an3 od4 an4 od5 an5 od6 an6 od7 an7 od8 an8 od9 an9 od10 an10 od11 an11 od12 an12 od13 an13 od14 an14 od15 an15 od16 an16 od17 an17 od18 an18 od19 an19 od20 an20 : Option Addr} {sl1 sl2 sl3 sl4 sl5 sl6 sl7 sl8 sl9 sl10 sl11 sl12 sl13 sl14 sl15 sl16 sl17 sl18 sl19 sl20 : Array (Option Value)} {oc1 kV1 dc1 pm1 cd1 ct1 oc2 kV2 dc2 pm2 cd2 ct2 oc3 kV3 dc3 pm3 cd3 ct3 oc4 kV4 dc4 pm4 cd4 ct4 oc5 kV5 dc5 pm5 cd5 ct5 oc6 kV6 dc6 pm6 cd6 ct6 oc7 kV7 dc7 pm7 cd7 ct7 oc8 kV8 dc8 pm8 cd8 ct8 oc9 kV9 dc9 pm9 cd9 ct9 oc10 kV10 dc10 pm10 cd10 ct10 oc11 kV11 dc11 pm11 cd11 ct11 oc12 kV12 dc12 pm12 cd12 ct12 oc13 kV13 dc13 pm13 cd13 ct13 oc14 kV14 dc14 pm14 cd14 ct14 oc15 kV15 dc15 pm15 cd15 ct15 oc16 kV16 dc16 pm16 cd16 ct16 oc17 kV17 dc17 pm17 cd17 ct17 oc18 kV18 dc18 pm18 cd18 ct18 oc19 kV19 dc19 pm19 cd19 ct19 oc20 kV20 dc20 pm20 cd20 ct20 : Value}
    {T1 : Addr} {ocT1 : Value} {odT1 : Option Addr} {nT1 : Nat} {slT1 : Array (Option Value)} {tk1 : Tok} (lT1 : K.lookup T1 = some ⟨ocT1, odT1, .seq #[.int 1 tk1] nT1, slT1⟩)
    (a1 : PySem.W.nsIn K mainGlobals "ratio" = some (some (.ref f1))) (l1 : K.lookup f1 = some ⟨oc1, od1, .func (PySem.W.fnOf "ratio" "ratio" (defArgs sratio) (defBody sratio) (defScope sratio) (.ref T1) kV1 dc1 pm1 an1 cd1 ct1), sl1⟩) (c1 : PySem.W.codeIn K cd1 "ratio" = true) (k1 : PySem.W.keepIn K (.ref f1) = true)
    (a2 : PySem.W.nsIn K mainGlobals "plus" = some (some (.ref f2))) (l2 : K.lookup f2 = some ⟨oc2, od2, .func (PySem.W.fnOf "plus" "plus" (defArgs splus) (defBody splus) (defScope splus) .none kV2 dc2 pm2 an2 cd2 ct2), sl2⟩) (c2 : PySem.W.codeIn K cd2 "plus" = true) (k2 : PySem.W.keepIn K (.ref f2) = true)
    (a3 : PySem.W.nsIn K mainGlobals "minus" = some (some (.ref f3))) (l3 : K.lookup f3 = some ⟨oc3, od3, .func (PySem.W.fnOf "minus" "minus" (defArgs sminus) (defBody sminus) (defScope sminus) .none kV3 dc3 pm3 an3 cd3 ct3), sl3⟩) (c3 : PySem.W.codeIn K cd3 "minus" = true) (k3 : PySem.W.keepIn K (.ref f3) = true)
    (a4 : PySem.W.nsIn K mainGlobals "times" = some (some (.ref f4))) (l4 : K.lookup f4 = some ⟨oc4, od4, .func (PySem.W.fnOf "times" "times" (defArgs stimes) (defBody stimes) (defScope stimes) .none kV4 dc4 pm4 an4 cd4 ct4), sl4⟩) (c4 : PySem.W.codeIn K cd4 "times" = true) (k4 : PySem.W.keepIn K (.ref f4) = true)
    (a5 : PySem.W.nsIn K mainGlobals "over" = some (some (.ref f5))) (l5 : K.lookup f5 = some ⟨oc5, od5, .func (PySem.W.fnOf "over" "over" (defArgs sover) (defBody sover) (defScope sover) .none kV5 dc5 pm5 an5 cd5 ct5), sl5⟩) (c5 : PySem.W.codeIn K cd5 "over" = true) (k5 : PySem.W.keepIn K (.ref f5) = true)
    (a6 : PySem.W.nsIn K mainGlobals "less" = some (some (.ref f6))) (l6 : K.lookup f6 = some ⟨oc6, od6, .func (PySem.W.fnOf "less" "less" (defArgs sless) (defBody sless) (defScope sless) .none kV6 dc6 pm6 an6 cd6 ct6), sl6⟩) (c6 : PySem.W.codeIn K cd6 "less" = true) (k6 : PySem.W.keepIn K (.ref f6) = true)
    (a7 : PySem.W.nsIn K mainGlobals "total" = some (some (.ref f7))) (l7 : K.lookup f7 = some ⟨oc7, od7, .func (PySem.W.fnOf "total" "total" (defArgs stotal) (defBody stotal) (defScope stotal) .none kV7 dc7 pm7 an7 cd7 ct7), sl7⟩) (c7 : PySem.W.codeIn K cd7 "total" = true) (k7 : PySem.W.keepIn K (.ref f7) = true)
    (a8 : PySem.W.nsIn K mainGlobals "_law_pool" = some (some (.ref f8))) (l8 : K.lookup f8 = some ⟨oc8, od8, .func (PySem.W.fnOf "_law_pool" "_law_pool" (defArgs s_law_pool) (defBody s_law_pool) (defScope s_law_pool) .none kV8 dc8 pm8 an8 cd8 ct8), sl8⟩) (c8 : PySem.W.codeIn K cd8 "_law_pool" = true) (k8 : PySem.W.keepIn K (.ref f8) = true)
    (a9 : PySem.W.nsIn K mainGlobals "_law_draw" = some (some (.ref f9))) (l9 : K.lookup f9 = some ⟨oc9, od9, .func (PySem.W.fnOf "_law_draw" "_law_draw" (defArgs s_law_draw) (defBody s_law_draw) (defScope s_law_draw) .none kV9 dc9 pm9 an9 cd9 ct9), sl9⟩) (c9 : PySem.W.codeIn K cd9 "_law_draw" = true) (k9 : PySem.W.keepIn K (.ref f9) = true)
    (a10 : PySem.W.nsIn K mainGlobals "_law_gcd" = some (some (.ref f10))) (l10 : K.lookup f10 = some ⟨oc10, od10, .func (PySem.W.fnOf "_law_gcd" "_law_gcd" (defArgs s_law_gcd) (defBody s_law_gcd) (defScope s_law_gcd) .none kV10 dc10 pm10 an10 cd10 ct10), sl10⟩) (c10 : PySem.W.codeIn K cd10 "_law_gcd" = true) (k10 : PySem.W.keepIn K (.ref f10) = true)
    (a11 : PySem.W.nsIn K mainGlobals "_law_ratio" = some (some (.ref f11))) (l11 : K.lookup f11 = some ⟨oc11, od11, .func (PySem.W.fnOf "_law_ratio" "_law_ratio" (defArgs s_law_ratio) (defBody s_law_ratio) (defScope s_law_ratio) .none kV11 dc11 pm11 an11 cd11 ct11), sl11⟩) (c11 : PySem.W.codeIn K cd11 "_law_ratio" = true) (k11 : PySem.W.keepIn K (.ref f11) = true)
    (a12 : PySem.W.nsIn K mainGlobals "_law_plus" = some (some (.ref f12))) (l12 : K.lookup f12 = some ⟨oc12, od12, .func (PySem.W.fnOf "_law_plus" "_law_plus" (defArgs s_law_plus) (defBody s_law_plus) (defScope s_law_plus) .none kV12 dc12 pm12 an12 cd12 ct12), sl12⟩) (c12 : PySem.W.codeIn K cd12 "_law_plus" = true) (k12 : PySem.W.keepIn K (.ref f12) = true)
    (a13 : PySem.W.nsIn K mainGlobals "_law_minus" = some (some (.ref f13))) (l13 : K.lookup f13 = some ⟨oc13, od13, .func (PySem.W.fnOf "_law_minus" "_law_minus" (defArgs s_law_minus) (defBody s_law_minus) (defScope s_law_minus) .none kV13 dc13 pm13 an13 cd13 ct13), sl13⟩) (c13 : PySem.W.codeIn K cd13 "_law_minus" = true) (k13 : PySem.W.keepIn K (.ref f13) = true)
    (a14 : PySem.W.nsIn K mainGlobals "_law_times" = some (some (.ref f14))) (l14 : K.lookup f14 = some ⟨oc14, od14, .func (PySem.W.fnOf "_law_times" "_law_times" (defArgs s_law_times) (defBody s_law_times) (defScope s_law_times) .none kV14 dc14 pm14 an14 cd14 ct14), sl14⟩) (c14 : PySem.W.codeIn K cd14 "_law_times" = true) (k14 : PySem.W.keepIn K (.ref f14) = true)
    (a15 : PySem.W.nsIn K mainGlobals "_law_over" = some (some (.ref f15))) (l15 : K.lookup f15 = some ⟨oc15, od15, .func (PySem.W.fnOf "_law_over" "_law_over" (defArgs s_law_over) (defBody s_law_over) (defScope s_law_over) .none kV15 dc15 pm15 an15 cd15 ct15), sl15⟩) (c15 : PySem.W.codeIn K cd15 "_law_over" = true) (k15 : PySem.W.keepIn K (.ref f15) = true)
    (a16 : PySem.W.nsIn K mainGlobals "_law_less" = some (some (.ref f16))) (l16 : K.lookup f16 = some ⟨oc16, od16, .func (PySem.W.fnOf "_law_less" "_law_less" (defArgs s_law_less) (defBody s_law_less) (defScope s_law_less) .none kV16 dc16 pm16 an16 cd16 ct16), sl16⟩) (c16 : PySem.W.codeIn K cd16 "_law_less" = true) (k16 : PySem.W.keepIn K (.ref f16) = true)
    (a17 : PySem.W.nsIn K mainGlobals "_law_sum" = some (some (.ref f17))) (l17 : K.lookup f17 = some ⟨oc17, od17, .func (PySem.W.fnOf "_law_sum" "_law_sum" (defArgs s_law_sum) (defBody s_law_sum) (defScope s_law_sum) .none kV17 dc17 pm17 an17 cd17 ct17), sl17⟩) (c17 : PySem.W.codeIn K cd17 "_law_sum" = true) (k17 : PySem.W.keepIn K (.ref f17) = true)
    (a18 : PySem.W.nsIn K mainGlobals "_law_same" = some (some (.ref f18))) (l18 : K.lookup f18 = some ⟨oc18, od18, .func (PySem.W.fnOf "_law_same" "_law_same" (defArgs s_law_same) (defBody s_law_same) (defScope s_law_same) .none kV18 dc18 pm18 an18 cd18 ct18), sl18⟩) (c18 : PySem.W.codeIn K cd18 "_law_same" = true) (k18 : PySem.W.keepIn K (.ref f18) = true)
    (a19 : PySem.W.nsIn K mainGlobals "_law_drawn" = some (some (.ref f19))) (l19 : K.lookup f19 = some ⟨oc19, od19, .func (PySem.W.fnOf "_law_drawn" "_law_drawn" (defArgs s_law_drawn) (defBody s_law_drawn) (defScope s_law_drawn) .none kV19 dc19 pm19 an19 cd19 ct19), sl19⟩) (c19 : PySem.W.codeIn K cd19 "_law_drawn" = true) (k19 : PySem.W.keepIn K (.ref f19) = true)
    (a20 : PySem.W.nsIn K mainGlobals "law" = some (some (.ref f20))) (l20 : K.lookup f20 = some ⟨oc20, od20, .func (PySem.W.fnOf "law" "law" (defArgs slaw) (defBody slaw) (defScope slaw) .none kV20 dc20 pm20 an20 cd20 ct20), sl20⟩) (c20 : PySem.W.codeIn K cd20 "law" = true) (k20 : PySem.W.keepIn K (.ref f20) = true)
    (z_len : PySem.W.nsIn K mainGlobals "len" = some none)
    (z_int : PySem.W.nsIn K mainGlobals "int" = some none)
    (z_abs : PySem.W.nsIn K mainGlobals "abs" = some none)
    (z_list : PySem.W.nsIn K mainGlobals "list" = some none)
    (z_tuple : PySem.W.nsIn K mainGlobals "tuple" = some none)
    (z_range : PySem.W.nsIn K mainGlobals "range" = some none)
    (z_isinstance : PySem.W.nsIn K mainGlobals "isinstance" = some none)
    (z_str : PySem.W.nsIn K mainGlobals "str" = some none)
    (z_bool : PySem.W.nsIn K mainGlobals "bool" = some none)
    (z_sum : PySem.W.nsIn K mainGlobals "sum" = some none)
    (z_sorted : PySem.W.nsIn K mainGlobals "sorted" = some none)
    (z_enumerate : PySem.W.nsIn K mainGlobals "enumerate" = some none)
    (zgcd : PySem.W.nsIn K mainGlobals "gcd" = some (some (.builtin "math.gcd")))
    {zAZERO : Addr} {zdZERO : Option Addr} {znZERO : Nat} {zsZERO : Array (Option Value)} {ztZERO zuZERO : Tok} (zgZERO : PySem.W.nsIn K mainGlobals "ZERO" = some (some (.ref zAZERO))) (zlZERO : K.lookup zAZERO = some ⟨.type "tuple", zdZERO, .seq #[.int 0 ztZERO, .int 1 zuZERO] znZERO, zsZERO⟩)
    : ∃ fd : FuncData, (∀ (s : Shared) (v : Value), BindsTo s fd ⟨[v], []⟩ [("script", v)]) ∧ ∀ base : Heap, K.In base → base.Ns mainGlobals mg → FnOk l.prog w K mg base CX0 5 fa fd ["script"] (spLaw K) := by
  have e := hfa.symm.trans (PySem.W.mg_of X G a20)
  cases e
  have B : BI mg := ⟨PySem.W.mg_none_of X G z_len, PySem.W.mg_none_of X G z_int, PySem.W.mg_none_of X G z_abs, PySem.W.mg_none_of X G z_list, PySem.W.mg_none_of X G z_tuple, PySem.W.mg_none_of X G z_range, PySem.W.mg_none_of X G z_isinstance, PySem.W.mg_none_of X G z_str, PySem.W.mg_none_of X G z_bool, PySem.W.mg_none_of X G z_sum, PySem.W.mg_none_of X G z_sorted, PySem.W.mg_none_of X G z_enumerate⟩
  have Uratio : FunD K "ratio" "ratio" (defArgs sratio) (defBody sratio) (defScope sratio) [.int 1] [] f1 _ := ⟨⟨_, _, _, _, _, _, _, _, _, _, rfl, l1, c1, .inr ⟨by simp, T1, _, [.int 1 tk1], nT1, rfl, lT1, rfl, .cons ⟨_, rfl⟩ .nil⟩, .inl rfl⟩, k1⟩
  have Fratio : AtD K mg "ratio" sratio ["top", "bottom"] [.int 1] := by
    obtain ⟨e1, v1, b1⟩ := Uratio.binds1 (ps := ["top", "bottom"]) 2 1 (by simp) rfl fun _ _ _ _ _ _ _ us its hl hl2 => match us, hl, its, hl2 with | [_, _], _, [_], _ => ⟨_, rfl, rfl⟩
    obtain ⟨e2, v2, b2⟩ := Uratio.binds1 (ps := ["top", "bottom"]) 1 0 (by simp) rfl fun _ _ _ _ _ _ _ us its hl hl2 => match us, hl, its, hl2 with | [_], _, [_], _ => ⟨_, rfl, rfl⟩
    have z1 : e1 = [] := by
      have q := v1.length
      exact List.eq_nil_of_length_eq_zero q.symm
    subst z1
    exact ⟨_, _, e2, Uratio, PySem.W.mg_of X G a1, b1, b2, v2⟩
  have Fplus : At K mg "plus" splus ["a", "b"] := ⟨_, _, fun_mk (st := splus) l2 c2 k2, PySem.W.mg_of X G a2, (fun_mk (st := splus) l2 c2 k2).binds (ps := ["a", "b"]) fun _ _ _ _ _ _ us hl => match us, hl with | [_, _], _ => rfl⟩
  have Fminus : At K mg "minus" sminus ["a", "b"] := ⟨_, _, fun_mk (st := sminus) l3 c3 k3, PySem.W.mg_of X G a3, (fun_mk (st := sminus) l3 c3 k3).binds (ps := ["a", "b"]) fun _ _ _ _ _ _ us hl => match us, hl with | [_, _], _ => rfl⟩
  have Ftimes : At K mg "times" stimes ["a", "b"] := ⟨_, _, fun_mk (st := stimes) l4 c4 k4, PySem.W.mg_of X G a4, (fun_mk (st := stimes) l4 c4 k4).binds (ps := ["a", "b"]) fun _ _ _ _ _ _ us hl => match us, hl with | [_, _], _ => rfl⟩
  have Fover : At K mg "over" sover ["a", "b"] := ⟨_, _, fun_mk (st := sover) l5 c5 k5, PySem.W.mg_of X G a5, (fun_mk (st := sover) l5 c5 k5).binds (ps := ["a", "b"]) fun _ _ _ _ _ _ us hl => match us, hl with | [_, _], _ => rfl⟩
  have Fless : At K mg "less" sless ["a", "b"] := ⟨_, _, fun_mk (st := sless) l6 c6 k6, PySem.W.mg_of X G a6, (fun_mk (st := sless) l6 c6 k6).binds (ps := ["a", "b"]) fun _ _ _ _ _ _ us hl => match us, hl with | [_, _], _ => rfl⟩
  have Ftotal : At K mg "total" stotal ["ratios"] := ⟨_, _, fun_mk (st := stotal) l7 c7 k7, PySem.W.mg_of X G a7, (fun_mk (st := stotal) l7 c7 k7).binds (ps := ["ratios"]) fun _ _ _ _ _ _ us hl => match us, hl with | [_], _ => rfl⟩
  have F_law_pool : At K mg "_law_pool" s_law_pool ["script"] := ⟨_, _, fun_mk (st := s_law_pool) l8 c8 k8, PySem.W.mg_of X G a8, (fun_mk (st := s_law_pool) l8 c8 k8).binds (ps := ["script"]) fun _ _ _ _ _ _ us hl => match us, hl with | [_], _ => rfl⟩
  have F_law_draw : At K mg "_law_draw" s_law_draw ["pool", "many"] := ⟨_, _, fun_mk (st := s_law_draw) l9 c9 k9, PySem.W.mg_of X G a9, (fun_mk (st := s_law_draw) l9 c9 k9).binds (ps := ["pool", "many"]) fun _ _ _ _ _ _ us hl => match us, hl with | [_, _], _ => rfl⟩
  have F_law_gcd : At K mg "_law_gcd" s_law_gcd ["a", "b"] := ⟨_, _, fun_mk (st := s_law_gcd) l10 c10 k10, PySem.W.mg_of X G a10, (fun_mk (st := s_law_gcd) l10 c10 k10).binds (ps := ["a", "b"]) fun _ _ _ _ _ _ us hl => match us, hl with | [_, _], _ => rfl⟩
  have F_law_ratio : At K mg "_law_ratio" s_law_ratio ["top", "bottom"] := ⟨_, _, fun_mk (st := s_law_ratio) l11 c11 k11, PySem.W.mg_of X G a11, (fun_mk (st := s_law_ratio) l11 c11 k11).binds (ps := ["top", "bottom"]) fun _ _ _ _ _ _ us hl => match us, hl with | [_, _], _ => rfl⟩
  have F_law_plus : At K mg "_law_plus" s_law_plus ["a", "b"] := ⟨_, _, fun_mk (st := s_law_plus) l12 c12 k12, PySem.W.mg_of X G a12, (fun_mk (st := s_law_plus) l12 c12 k12).binds (ps := ["a", "b"]) fun _ _ _ _ _ _ us hl => match us, hl with | [_, _], _ => rfl⟩
  have F_law_minus : At K mg "_law_minus" s_law_minus ["a", "b"] := ⟨_, _, fun_mk (st := s_law_minus) l13 c13 k13, PySem.W.mg_of X G a13, (fun_mk (st := s_law_minus) l13 c13 k13).binds (ps := ["a", "b"]) fun _ _ _ _ _ _ us hl => match us, hl with | [_, _], _ => rfl⟩
  have F_law_times : At K mg "_law_times" s_law_times ["a", "b"] := ⟨_, _, fun_mk (st := s_law_times) l14 c14 k14, PySem.W.mg_of X G a14, (fun_mk (st := s_law_times) l14 c14 k14).binds (ps := ["a", "b"]) fun _ _ _ _ _ _ us hl => match us, hl with | [_, _], _ => rfl⟩
  have F_law_over : At K mg "_law_over" s_law_over ["a", "b"] := ⟨_, _, fun_mk (st := s_law_over) l15 c15 k15, PySem.W.mg_of X G a15, (fun_mk (st := s_law_over) l15 c15 k15).binds (ps := ["a", "b"]) fun _ _ _ _ _ _ us hl => match us, hl with | [_, _], _ => rfl⟩
  have F_law_less : At K mg "_law_less" s_law_less ["a", "b"] := ⟨_, _, fun_mk (st := s_law_less) l16 c16 k16, PySem.W.mg_of X G a16, (fun_mk (st := s_law_less) l16 c16 k16).binds (ps := ["a", "b"]) fun _ _ _ _ _ _ us hl => match us, hl with | [_, _], _ => rfl⟩
  have F_law_sum : At K mg "_law_sum" s_law_sum ["rows"] := ⟨_, _, fun_mk (st := s_law_sum) l17 c17 k17, PySem.W.mg_of X G a17, (fun_mk (st := s_law_sum) l17 c17 k17).binds (ps := ["rows"]) fun _ _ _ _ _ _ us hl => match us, hl with | [_], _ => rfl⟩
  have F_law_same : At K mg "_law_same" s_law_same ["actual", "due"] := ⟨_, _, fun_mk (st := s_law_same) l18 c18 k18, PySem.W.mg_of X G a18, (fun_mk (st := s_law_same) l18 c18 k18).binds (ps := ["actual", "due"]) fun _ _ _ _ _ _ us hl => match us, hl with | [_, _], _ => rfl⟩
  have F_law_drawn : At K mg "_law_drawn" s_law_drawn ["pool"] := ⟨_, _, fun_mk (st := s_law_drawn) l19 c19 k19, PySem.W.mg_of X G a19, (fun_mk (st := s_law_drawn) l19 c19 k19).binds (ps := ["pool"]) fun _ _ _ _ _ _ us hl => match us, hl with | [_], _ => rfl⟩
  have Flaw := fun_mk (st := slaw) l20 c20 k20
  refine ⟨PySem.W.fnOf "law" "law" (defArgs slaw) (defBody slaw) (defScope slaw) .none kV20 dc20 pm20 an20 cd20 ct20, fun s v => .of_eq rfl, fun base _ _ => ?_⟩
  exact all (P := l.prog) (w := w) (base := base) B (PySem.W.mg_of X G zgcd) ⟨zAZERO, PySem.W.mg_of X G zgZERO, fun _ => .inr ⟨_, _, _, zlZERO, rfl, rfl, by show 2 ≤ sizeLine; decide, .cons ⟨_, rfl⟩ (.cons ⟨_, rfl⟩ .nil)⟩⟩ Fratio Fplus Fminus Ftimes Fover Fless Ftotal F_law_pool F_law_draw F_law_gcd F_law_ratio F_law_plus F_law_minus F_law_times F_law_over F_law_less F_law_sum F_law_same F_law_drawn Flaw
end Z
open PySem PySem.W PyProof.Rows
set_option maxRecDepth 100000 in
set_option maxHeartbeats 0 in
theorem PySem.Challenge.cw_sparewatts_k01_arithmetic_of_ratios_holds : PySem.Challenge.rw_sparewatts_k01_arithmetic_of_ratios.Holds := by
  w_on; o_law; k_head; (case hw => w_witness2)
  k_fill
  refine L2.walk_of (l := PySem.Challenge.rw_sparewatts_k01_arithmetic_of_ratios) (n := 63) (k := 5) (x := "script") (CX := fun _ => L2.CX0) (sp := fun w => Z.spLaw _) rfl (by decide) rfl ⟨rfl, by decide, by decide⟩ (fun w h Y => PySem.W.kIn_of Y) ?F (fun _ _ a ns hl _ hS => ⟨a, ns, rfl, hS, hl, fun _ => rfl⟩) (fun _ _ _ _ _ h => h)
  case F =>
    intro w mg fa h KX G hmg
    refine' Z.all_mk KX G hmg ?lT1 ?a1 ?l1 ?c1 ?k1 ?a2 ?l2 ?c2 ?k2 ?a3 ?l3 ?c3 ?k3 ?a4 ?l4 ?c4 ?k4 ?a5 ?l5 ?c5 ?k5 ?a6 ?l6 ?c6 ?k6 ?a7 ?l7 ?c7 ?k7 ?a8 ?l8 ?c8 ?k8 ?a9 ?l9 ?c9 ?k9 ?a10 ?l10 ?c10 ?k10 ?a11 ?l11 ?c11 ?k11 ?a12 ?l12 ?c12 ?k12 ?a13 ?l13 ?c13 ?k13 ?a14 ?l14 ?c14 ?k14 ?a15 ?l15 ?c15 ?k15 ?a16 ?l16 ?c16 ?k16 ?a17 ?l17 ?c17 ?k17 ?a18 ?l18 ?c18 ?k18 ?a19 ?l19 ?c19 ?k19 ?a20 ?l20 ?c20 ?k20 ?z_len ?z_int ?z_abs ?z_list ?z_tuple ?z_range ?z_isinstance ?z_str ?z_bool ?z_sum ?z_sorted ?z_enumerate ?zgcd ?zgZERO ?zlZERO
    (case a1 => k_is)
    (case l1 => k_is)
    (case lT1 => k_is)
    (case c1 => k_is)
    (case k1 => k_is)
    (case a2 => k_is)
    (case l2 => k_is)
    (case c2 => k_is)
    (case k2 => k_is)
    (case a3 => k_is)
    (case l3 => k_is)
    (case c3 => k_is)
    (case k3 => k_is)
    (case a4 => k_is)
    (case l4 => k_is)
    (case c4 => k_is)
    (case k4 => k_is)
    (case a5 => k_is)
    (case l5 => k_is)
    (case c5 => k_is)
    (case k5 => k_is)
    (case a6 => k_is)
    (case l6 => k_is)
    (case c6 => k_is)
    (case k6 => k_is)
    (case a7 => k_is)
    (case l7 => k_is)
    (case c7 => k_is)
    (case k7 => k_is)
    (case a8 => k_is)
    (case l8 => k_is)
    (case c8 => k_is)
    (case k8 => k_is)
    (case a9 => k_is)
    (case l9 => k_is)
    (case c9 => k_is)
    (case k9 => k_is)
    (case a10 => k_is)
    (case l10 => k_is)
    (case c10 => k_is)
    (case k10 => k_is)
    (case a11 => k_is)
    (case l11 => k_is)
    (case c11 => k_is)
    (case k11 => k_is)
    (case a12 => k_is)
    (case l12 => k_is)
    (case c12 => k_is)
    (case k12 => k_is)
    (case a13 => k_is)
    (case l13 => k_is)
    (case c13 => k_is)
    (case k13 => k_is)
    (case a14 => k_is)
    (case l14 => k_is)
    (case c14 => k_is)
    (case k14 => k_is)
    (case a15 => k_is)
    (case l15 => k_is)
    (case c15 => k_is)
    (case k15 => k_is)
    (case a16 => k_is)
    (case l16 => k_is)
    (case c16 => k_is)
    (case k16 => k_is)
    (case a17 => k_is)
    (case l17 => k_is)
    (case c17 => k_is)
    (case k17 => k_is)
    (case a18 => k_is)
    (case l18 => k_is)
    (case c18 => k_is)
    (case k18 => k_is)
    (case a19 => k_is)
    (case l19 => k_is)
    (case c19 => k_is)
    (case k19 => k_is)
    (case a20 => k_is)
    (case l20 => k_is)
    (case c20 => k_is)
    (case k20 => k_is)
    (case z_len => k_is)
    (case z_int => k_is)
    (case z_abs => k_is)
    (case z_list => k_is)
    (case z_tuple => k_is)
    (case z_range => k_is)
    (case z_isinstance => k_is)
    (case z_str => k_is)
    (case z_bool => k_is)
    (case z_sum => k_is)
    (case z_sorted => k_is)
    (case z_enumerate => k_is)
    (case zgcd => k_is)
    (case zgZERO => k_is)
    (case zlZERO => k_is)
