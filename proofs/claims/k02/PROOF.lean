import PyProof.Rows.All
import Wide.All
import OpenK.AllK
import Wide.FinOn
import HandS.ForMost
import HandS.Wide
import HandS.Gcd
import HandS.IsInst
import HandS.Defaults
import HandS.Evl
import HandS.TupAny
import HandS.FStr
import HandS.Text
import KE.KIntText
import PyProof.Rows.Chain
import PySem.Challenge.RW_sparewatts_k02_job_texts
set_option Elab.async false
set_option linter.all false
set_option maxRecDepth 100000
set_option maxHeartbeats 4000000
/-! Own mathematics: lowest terms, greatest common divisors. -/
namespace Z
theorem sgn_mul (b : Int) (hb : b ≠ 0) : b.sign * b = (b.natAbs : Int) := by
  rw [Int.mul_comm]
  exact Int.mul_sign_self b
/-- what both texts reckon: the two parts divided by the greatest common divisor with the sign of the second one -/
theorem nrm_eq (t b : Int) (hb : b ≠ 0) (s : Int) (hs : s = if b < 0 then -((Nat.gcd t.natAbs b.natAbs : Nat) : Int) else ((Nat.gcd t.natAbs b.natAbs : Nat) : Int)) :
    s ≠ 0 ∧ s.natAbs ≤ b.natAbs ∧ t.fdiv s = (Rat.divInt t b).num ∧ b.fdiv s = ((Rat.divInt t b).den : Int) := by
  have g0 : 0 < Nat.gcd t.natAbs b.natAbs := Nat.gcd_pos_of_pos_right _ (by omega)
  have gl : Nat.gcd t.natAbs b.natAbs ≤ b.natAbs := Nat.gcd_le_right _ (by omega)
  have ht : ((Nat.gcd t.natAbs b.natAbs : Nat) : Int) ∣ t := Int.ofNat_dvd_left.mpr (Nat.gcd_dvd_left _ _)
  have hbd : ((Nat.gcd t.natAbs b.natAbs : Nat) : Int) ∣ b := Int.ofNat_dvd_left.mpr (Nat.gcd_dvd_right _ _)
  have hn := Rat.num_divInt t b
  have hd := Rat.den_divInt t b
  have hg : b.gcd t = Nat.gcd t.natAbs b.natAbs := by rw [Int.gcd_comm]; rfl
  rw [hg] at hn hd
  rw [if_neg hb] at hd
  generalize hG : Nat.gcd t.natAbs b.natAbs = g at *
  have g1 : (g : Int) ≠ 0 := by omega
  obtain ⟨t', rfl⟩ := ht
  obtain ⟨b', rfl⟩ := hbd
  have b0 : b' ≠ 0 := by rintro rfl; simp at hb
  have hna : ((g : Int) * b').natAbs = g * b'.natAbs := by rw [Int.natAbs_mul]; rfl
  have dd : (Rat.divInt (↑g * t') (↑g * b')).den = b'.natAbs := by
    rw [hd, hna]
    exact Nat.mul_div_cancel_left _ g0
  have nn : (Rat.divInt (↑g * t') (↑g * b')).num = b'.sign * t' := by
    rw [hn, Int.sign_mul, Int.sign_eq_one_of_pos (show (0 : Int) < g by omega), Int.one_mul, Int.mul_left_comm]
    exact Int.mul_ediv_cancel_left _ g1
  by_cases hneg : (g : Int) * b' < 0
  · rw [if_pos hneg] at hs
    have hb' : b' < 0 := by
      rcases Int.lt_trichotomy b' 0 with h | h | h
      · exact h
      · exact absurd h b0
      · have := Int.mul_pos (show (0 : Int) < g by omega) h
        omega
    refine ⟨by omega, by omega, ?_, ?_⟩
    · rw [nn, hs, Int.sign_eq_neg_one_of_neg hb', show (g : Int) * t' = (-1 * t') * (-(g : Int)) by rw [Int.neg_mul, Int.one_mul, Int.neg_mul_neg, Int.mul_comm]]
      exact Int.mul_fdiv_cancel _ (by omega)
    · rw [dd, hs, show (g : Int) * b' = (-b') * (-(g : Int)) by rw [Int.neg_mul_neg, Int.mul_comm], Int.mul_fdiv_cancel _ (by omega)]
      omega
  · rw [if_neg hneg] at hs
    have hb' : 0 < b' := by
      rcases Int.lt_trichotomy b' 0 with h | h | h
      · have := Int.mul_neg_of_pos_of_neg (show (0 : Int) < g by omega) h
        omega
      · exact absurd h b0
      · exact h
    refine ⟨by omega, by omega, ?_, ?_⟩
    · rw [nn, hs, Int.sign_eq_one_of_pos hb', show (g : Int) * t' = (1 * t') * (g : Int) by rw [Int.one_mul, Int.mul_comm]]
      exact Int.mul_fdiv_cancel _ (by omega)
    · rw [dd, hs, Int.mul_comm, Int.mul_fdiv_cancel _ (by omega)]
      omega
theorem num_le (t b : Int) (hb : b ≠ 0) : (Rat.divInt t b).num.natAbs ≤ t.natAbs := by
  rw [Rat.num_divInt]
  refine Nat.le_trans (Int.natAbs_ediv_le_natAbs _ _) ?_
  rw [Int.natAbs_mul, Int.natAbs_sign_of_ne_zero hb, Nat.one_mul]
  exact Nat.le_refl _
theorem den_le (t b : Int) (hb : b ≠ 0) : (Rat.divInt t b).den ≤ b.natAbs := by
  rw [Rat.den_divInt, if_neg hb]
  exact Nat.div_le_self _ _
/-- the last word of a loop of greatest common divisors: after i turns the two numbers are small -/
def GStep (C i x y : Nat) : Prop := (1 ≤ i → y < x ∧ x * y * 2 ^ (i - 1) ≤ C) ∧ (2 ≤ i → x * 2 ^ (i - 2) ≤ C)
theorem GStep.zero {C x y : Nat} : GStep C 0 x y := ⟨by omega, by omega⟩
theorem GStep.next {i x y a b : Nat} (h : GStep (a * b) i x y) (h0 : i = 0 → x = a ∧ y = b) (hy : y ≠ 0) : GStep (a * b) (i + 1) y (x % y) := by
  have m1 : x % y < y := Nat.mod_lt _ (by omega)
  refine ⟨fun _ => ⟨m1, ?_⟩, fun h2 => ?_⟩
  · by_cases hi : i = 0
    · obtain ⟨rfl, rfl⟩ := h0 hi
      subst hi
      show y * (x % y) * 2 ^ 0 ≤ x * y
      rw [Nat.pow_zero, Nat.mul_one, Nat.mul_comm x y]
      exact Nat.mul_le_mul_left _ (Nat.mod_le _ _)
    · obtain ⟨h1, h2⟩ := h.1 (by omega)
      refine Nat.le_trans ?_ h2
      have e : i + 1 - 1 = (i - 1) + 1 := by omega
      rw [e, Nat.pow_succ]
      have k : 2 * (x % y) ≤ x := by
        have := Nat.div_add_mod x y
        have d : 1 ≤ x / y := Nat.div_pos (by omega) (by omega)
        have : y * 1 ≤ y * (x / y) := Nat.mul_le_mul_left _ d
        omega
      calc y * (x % y) * (2 ^ (i - 1) * 2) = y * (2 * (x % y)) * 2 ^ (i - 1) := by
            rw [Nat.mul_comm (2 ^ (i - 1)) 2, ← Nat.mul_assoc, Nat.mul_assoc y (x % y) 2, Nat.mul_comm (x % y) 2]
        _ ≤ y * x * 2 ^ (i - 1) := Nat.mul_le_mul_right _ (Nat.mul_le_mul_left _ k)
        _ = x * y * 2 ^ (i - 1) := by rw [Nat.mul_comm y x]
  · obtain ⟨h1, h3⟩ := h.1 (by omega)
    refine Nat.le_trans ?_ h3
    have e : i + 1 - 2 = i - 1 := by omega
    rw [e]
    refine Nat.mul_le_mul_right _ ?_
    have : 1 * y ≤ x * y := Nat.mul_le_mul_right _ (by omega)
    omega
theorem GStep.end {C n x y : Nat} (h : GStep C n x y) (hn : 2 ≤ n) (hC : C < 2 ^ (n - 2)) : False := by
  obtain ⟨h1, _⟩ := h.1 (by omega)
  have h2 := h.2 hn
  have : 1 * 2 ^ (n - 2) ≤ x * 2 ^ (n - 2) := Nat.mul_le_mul_right _ (by omega)
  omega
theorem gcd_turn (x y : Nat) : Nat.gcd y (x % y) = Nat.gcd x y := by
  rw [Nat.gcd_comm y, ← Nat.gcd_rec, Nat.gcd_comm]
theorem abs_nat (i : Int) : (if i < 0 then -i else i) = (i.natAbs : Int) := by split <;> omega
end Z

/-! Own mathematics: ratios as rational numbers, and how large they are. -/
namespace Z
def Sz (n : Nat) (q : Rat) : Prop := q.num.natAbs < 2 ^ n ∧ q.den < 2 ^ n
theorem Sz.mono {n m : Nat} {q : Rat} (h : Sz n q) (l : n ≤ m) : Sz m q :=
  ⟨Nat.lt_of_lt_of_le h.1 (Nat.pow_le_pow_right (by decide) l), Nat.lt_of_lt_of_le h.2 (Nat.pow_le_pow_right (by decide) l)⟩
theorem Sz.divInt {n : Nat} {t b : Int} (hb : b ≠ 0) (h : t.natAbs < 2 ^ n) (h' : b.natAbs < 2 ^ n) : Sz n (Rat.divInt t b) :=
  ⟨Nat.lt_of_le_of_lt (num_le t b hb) h, Nat.lt_of_le_of_lt (den_le t b hb) h'⟩
theorem lt_pow_mul {x y a b : Nat} (hx : x < 2 ^ a) (hy : y < 2 ^ b) : x * y < 2 ^ (a + b) := by
  rw [Nat.pow_add]
  exact Nat.mul_lt_mul'' hx hy
theorem denz (q : Rat) : (q.den : Int) ≠ 0 := by
  have := q.den_nz
  omega
theorem den_mul (p q : Rat) : (p.den : Int) * (q.den : Int) ≠ 0 := Int.mul_ne_zero (denz p) (denz q)
theorem r_add (p q : Rat) : Rat.divInt (p.num * (q.den : Int) + q.num * (p.den : Int)) ((p.den : Int) * (q.den : Int)) = p + q := by
  conv => rhs; rw [← Rat.num_divInt_den p, ← Rat.num_divInt_den q]
  rw [Rat.divInt_add_divInt _ _ (denz p) (denz q)]
theorem r_sub (p q : Rat) : Rat.divInt (p.num * (q.den : Int) - q.num * (p.den : Int)) ((p.den : Int) * (q.den : Int)) = p - q := by
  conv => rhs; rw [← Rat.num_divInt_den p, ← Rat.num_divInt_den q]
  rw [Rat.divInt_sub_divInt _ _ (denz p) (denz q)]
theorem r_mul (p q : Rat) : Rat.divInt (p.num * q.num) ((p.den : Int) * (q.den : Int)) = p * q := by
  conv => rhs; rw [← Rat.num_divInt_den p, ← Rat.num_divInt_den q]
  rw [Rat.divInt_mul_divInt _ _]
theorem r_div (p q : Rat) : Rat.divInt (p.num * (q.den : Int)) ((p.den : Int) * q.num) = p / q := by
  rw [Rat.div_def, Rat.inv_def]
  conv => rhs; rw [← Rat.num_divInt_den p]
  rw [Rat.divInt_mul_divInt _ _]
theorem r_less (p q : Rat) : (p.num * (q.den : Int) < q.num * (p.den : Int)) ↔ p < q := (Rat.lt_iff p q).symm
theorem num0 {q : Rat} (h : q ≠ 0) : q.num ≠ 0 := fun z => h (Rat.num_eq_zero.mp z)
section
variable {p q : Rat} {a b : Nat}
theorem Sz.x1 (h : Sz a p) (k : Sz b q) : (p.num * (q.den : Int)).natAbs < 2 ^ (a + b) := by
  rw [Int.natAbs_mul]
  exact lt_pow_mul h.1 k.2
theorem Sz.x2 (h : Sz a p) (k : Sz b q) : (p.num * q.num).natAbs < 2 ^ (a + b) := by
  rw [Int.natAbs_mul]
  exact lt_pow_mul h.1 k.1
theorem Sz.x3 (h : Sz a p) (k : Sz b q) : ((p.den : Int) * (q.den : Int)).natAbs < 2 ^ (a + b) := by
  rw [Int.natAbs_mul]
  exact lt_pow_mul h.2 k.2
theorem Sz.x4 (h : Sz a p) (k : Sz b q) : ((p.den : Int) * q.num).natAbs < 2 ^ (a + b) := by
  rw [Int.natAbs_mul]
  exact lt_pow_mul h.2 k.1
theorem Sz.x5 (h : Sz a p) (k : Sz b q) : (p.num * (q.den : Int) + q.num * (p.den : Int)).natAbs < 2 ^ (a + b + 1) := by
  have h1 := h.x1 k
  have h2 := k.x1 h
  rw [Nat.add_comm b a] at h2
  rw [Nat.pow_succ]
  omega
theorem Sz.x6 (h : Sz a p) (k : Sz b q) : (p.num * (q.den : Int) - q.num * (p.den : Int)).natAbs < 2 ^ (a + b + 1) := by
  have h1 := h.x1 k
  have h2 := k.x1 h
  rw [Nat.add_comm b a] at h2
  rw [Nat.pow_succ]
  omega
theorem up1 {x n : Nat} (h : x < 2 ^ n) : x < 2 ^ (n + 1) := Nat.lt_of_lt_of_le h (Nat.pow_le_pow_right (by decide) (by omega))
theorem Sz.add (h : Sz a p) (k : Sz b q) : Sz (a + b + 1) (p + q) := by
  rw [← r_add]
  exact Sz.divInt (den_mul p q) (h.x5 k) (up1 (h.x3 k))
theorem Sz.sub (h : Sz a p) (k : Sz b q) : Sz (a + b + 1) (p - q) := by
  rw [← r_sub]
  exact Sz.divInt (den_mul p q) (h.x6 k) (up1 (h.x3 k))
theorem Sz.mul (h : Sz a p) (k : Sz b q) : Sz (a + b) (p * q) := by
  rw [← r_mul]
  exact Sz.divInt (den_mul p q) (h.x2 k) (h.x3 k)
theorem Sz.div (h : Sz a p) (k : Sz b q) (hq : q ≠ 0) : Sz (a + b) (p / q) := by
  rw [← r_div]
  exact Sz.divInt (Int.mul_ne_zero (denz p) (num0 hq)) (h.x1 k) (h.x4 k)
end
theorem Sz.zero : Sz 1 0 := ⟨by decide, by decide⟩
end Z

/-! Own base: a def's promise with its place, draws, data that is made of tuples. -/
namespace Z
open PySem PySem.Spec PyProof.Rows L2

/-! ### heaps -/
/-- all stays but what stands at p -/
def Kp (p : Addr) (H H' : Hp) : Prop := ∀ a o, a ≠ p → H a = some o → H' a = some o
theorem Kp.refl (p : Addr) (H : Hp) : Kp p H H := fun _ _ _ h => h
theorem Kp.trans {p : Addr} {H H1 H2 : Hp} (a : Kp p H H1) (b : Kp p H1 H2) : Kp p H H2 := fun x o n h => b x o n (a x o n h)
theorem Kp.of {p : Addr} {H H' : Hp} (e : Same H H') : Kp p H H' := fun a o _ h => e a o h
theorem Kp.sto {p : Addr} {H : Hp} {o : HO} : Kp p H (upd H p o) := fun a u n h => by rw [upd_ne n]; exact h
theorem same_upd {H : Hp} {p : Addr} {o : HO} (h : H p = none) : Same H (upd H p o) := fun b x e => by
  rw [upd_ne (ne_of_none e h)]
  exact e
theorem Kp.new {p q : Addr} {H : Hp} {o : HO} (h : H q = none) : Kp p H (upd H q o) := .of (same_upd h)
/-- a place that H does not know may change -/
theorem Kp.mut {p q : Addr} {H H' : Hp} {o : HO} (e : Kp p H H') (h : H q = none) : Kp p H (upd H' q o) := fun a u n ha => by
  rw [upd_ne (ne_of_none ha h)]
  exact e a u n ha
theorem Same.mut {q : Addr} {H H' : Hp} {o : HO} (e : Same H H') (h : H q = none) : Same H (upd H' q o) := fun a u ha => by
  rw [upd_ne (ne_of_none ha h)]
  exact e a u ha
/-- what may be read as a tuple stays so -/
def Tm (H H' : Hp) : Prop := ∀ a xs, Rd H a (.tup xs) → Rd H' a (.tup xs)
theorem Same.tm {H H' : Hp} (e : Same H H') : Tm H H' := fun a xs h => by
  rcases h with h | ⟨o, h⟩
  · exact .inl (e _ _ h)
  · exact .inr ⟨o, e _ _ h⟩
theorem Kp.tm {p : Addr} {H H' : Hp} {xs : List V} (e : Kp p H H') (hp : H p = some (.lst xs)) : Tm H H' := fun a ys h => by
  rcases h with h | ⟨o, h⟩
  · exact .inl (e _ _ (by rintro rfl; rw [hp] at h; cases h) h)
  · exact .inr ⟨o, e _ _ (by rintro rfl; rw [hp] at h; cases h) h⟩
theorem Tm.refl (H : Hp) : Tm H H := fun _ _ h => h
theorem Tm.trans {H H1 H2 : Hp} (a : Tm H H1) (b : Tm H1 H2) : Tm H H2 := fun x o h => b x o (a x o h)
/-- a list is stored -/
theorem Tm.lst {p : Addr} {H : Hp} {xs ys : List V} (hp : H p = some (.lst xs)) : Tm H (upd H p (.lst ys)) := Kp.tm (Kp.sto (p := p)) hp
theorem Tm.new {p : Addr} {H : Hp} {o : HO} (hp : H p = none) : Tm H (upd H p o) := Same.tm (same_upd hp)
theorem Tm.sq {K : PySem.W.Frag} {H H' : Hp} {a : Addr} {xs : List V} (e : Tm H H') (h : SqT K H a xs) : SqT K H' a xs := by
  rcases h with h | h
  · exact .inl (e _ _ h)
  · exact .inr h

/-! ### data of tuples -/
mutual
inductive Is (K : PySem.W.Frag) (H : Hp) : V → PyData → Prop
  | non : Is K H .non .none
  | bl (b : Bool) : Is K H (.bl b) (.bool b)
  | int (i : Int) : Is K H (.int i) (.int i)
  | str (x : Str) : Is K H (.str x) (.str x)
  | tup {a : Addr} {xs : List V} {ds : List PyData} : SqT K H a xs → IsA K H xs ds → Is K H (.ref a) (.tuple ds)
inductive IsA (K : PySem.W.Frag) (H : Hp) : List V → List PyData → Prop
  | nil : IsA K H [] []
  | cons {v : V} {vs : List V} {d : PyData} {ds : List PyData} : Is K H v d → IsA K H vs ds → IsA K H (v :: vs) (d :: ds)
end
section
variable {K : PySem.W.Frag} {H H' : Hp}
mutual
theorem Is.mono (e : Tm H H') : ∀ (d : PyData) {v : V}, Is K H v d → Is K H' v d
  | _, _, .non => .non
  | _, _, .bl b => .bl b
  | _, _, .int i => .int i
  | _, _, .str x => .str x
  | .tuple ds, _, .tup s a => .tup (e.sq s) (IsA.mono e ds a)
theorem IsA.mono (e : Tm H H') : ∀ (ds : List PyData) {vs : List V}, IsA K H vs ds → IsA K H' vs ds
  | _, _, .nil => .nil
  | d :: ds, _, .cons h t => .cons (Is.mono e d h) (IsA.mono e ds t)
end
mutual
theorem Is.dp : ∀ (d : PyData) {v : V}, Is K H v d → Dp K H v d
  | _, _, .non => .non
  | _, _, .bl b => .bl b
  | _, _, .int i => .int i
  | _, _, .str x => .str x
  | .tuple ds, _, .tup s a => .tup s (IsA.dp ds a)
theorem IsA.dp : ∀ (ds : List PyData) {vs : List V}, IsA K H vs ds → DpAll K H vs ds
  | _, _, .nil => .nil
  | d :: ds, _, .cons h t => .cons (Is.dp d h) (IsA.dp ds t)
end
theorem Is.to {d : PyData} {v : V} (h : Is K H v d) (e : Tm H H') : Is K H' v d := Is.mono e d h
theorem IsA.to {ds : List PyData} {vs : List V} (h : IsA K H vs ds) (e : Tm H H') : IsA K H' vs ds := IsA.mono e ds h
theorem Is.int' {v : V} {i : Int} (h : Is K H v (.int i)) : v = .int i := by cases h; rfl
theorem Is.str' {v : V} {i : Str} (h : Is K H v (.str i)) : v = .str i := by cases h; rfl
theorem Is.tup' {v : V} {ds : List PyData} (h : Is K H v (.tuple ds)) : ∃ a xs, v = .ref a ∧ SqT K H a xs ∧ IsA K H xs ds := by
  cases h with
  | tup s a => exact ⟨_, _, rfl, s, a⟩
theorem IsA.len : ∀ {vs : List V} {ds : List PyData}, IsA K H vs ds → vs.length = ds.length
  | _, _, .nil => rfl
  | _, _, .cons _ t => congrArg Nat.succ (IsA.len t)
theorem IsA.get : ∀ {vs : List V} {ds : List PyData} {i : Nat} {d : PyData}, IsA K H vs ds → ds[i]? = some d → ∃ v, vs[i]? = some v ∧ Is K H v d
  | _, _, _, _, .nil, e => by simp at e
  | _, _, 0, _, .cons h _, e => by simp at e; subst e; exact ⟨_, rfl, h⟩
  | _, _, i + 1, d, .cons _ t, e => by
    obtain ⟨v, h1, h2⟩ := IsA.get (i := i) (d := d) t (by simpa using e)
    exact ⟨v, by simpa using h1, h2⟩
theorem IsA.append : ∀ {vs us : List V} {ds es : List PyData}, IsA K H vs ds → IsA K H us es → IsA K H (vs ++ us) (ds ++ es)
  | _, _, _, _, .nil, s => s
  | _, _, _, _, .cons h t, s => .cons h (IsA.append t s)
theorem IsA.take : ∀ {vs : List V} {ds : List PyData} (n : Nat), IsA K H vs ds → IsA K H (vs.take n) (ds.take n)
  | _, _, 0, _ => .nil
  | _, _, _ + 1, .nil => .nil
  | _, _, n + 1, .cons h t => .cons h (IsA.take n t)
theorem IsA.drop : ∀ {vs : List V} {ds : List PyData} (n : Nat), IsA K H vs ds → IsA K H (vs.drop n) (ds.drop n)
  | _, _, 0, h => h
  | _, _, _ + 1, .nil => .nil
  | _, _, n + 1, .cons _ t => IsA.drop n t
theorem IsA.set {v : V} {d : PyData} (h : Is K H v d) : ∀ {vs : List V} {ds : List PyData} (i : Nat), IsA K H vs ds → IsA K H (vs.set i v) (ds.set i d)
  | _, _, _, .nil => .nil
  | _, _, 0, .cons _ t => .cons h t
  | _, _, i + 1, .cons q t => .cons q (IsA.set h i t)
theorem IsA.two {a b : V} {d e : PyData} (h : Is K H a d) (h' : Is K H b e) : IsA K H [a, b] [d, e] := .cons h (.cons h' .nil)
theorem Is.two' {v : V} {d e : PyData} (h : Is K H v (.tuple [d, e])) : ∃ p a b, v = .ref p ∧ SqT K H p [a, b] ∧ Is K H a d ∧ Is K H b e := by
  obtain ⟨p, xs, rfl, s, q⟩ := h.tup'
  cases q with
  | cons h1 q => cases q with
    | cons h2 q => cases q; exact ⟨p, _, _, rfl, s, h1, h2⟩
/-- a new tuple -/
theorem Is.newT {p : Addr} {xs : List V} {ds : List PyData} (hp : H p = none) (h : IsA K H xs ds) : Is K (upd H p (.tup xs)) (.ref p) (.tuple ds) := .tup (.inl (.inl upd_same)) (h.to (Tm.new hp))
/-- its type -/
def tyD : PyData → String
  | .none => "NoneType" | .bool _ => "bool" | .int _ => "int" | .str _ => "str" | _ => "tuple"
theorem Is.ty {v : V} {d : PyData} (h : Is K H v d) : TyX K H v (.type (tyD d)) := by
  cases h with
  | non => exact .base .non
  | bl b => exact .base (.bl b)
  | int i => exact .base (.int i)
  | str x => exact .base (.str x)
  | tup s a =>
    rcases s with (s | ⟨o, s⟩) | ⟨o, its, n, hk, hc, _⟩
    · exact .base (.tup s)
    · exact .fTuple s
    · exact .kTuple hk hc
end

/-! ### a def of the text, and what it promises -/
structure At (K : PySem.W.Frag) (mg : Str → Option Value) (x : Str) (st : Stmt) (ps : List Str) : Prop where
  ex : ∃ (f : Addr) (fd : FuncData), Fun K x x st f fd ∧ mg x = some (.ref f) ∧ Binds K fd ps []
structure Ok (P : Program) (w : World) (K : PySem.W.Frag) (mg : Str → Option Value) (base : Heap) (lvl : Nat) (x : Str) (ps : List Str) (dvs : List V) (sp : Sp) : Prop where
  ex : ∃ (f : Addr) (fd : FuncData) (ds : List Value), FnOk P w K mg base CX0 lvl f fd ps sp ∧ mg x = some (.ref f) ∧ PySem.W.keepIn K (.ref f) = true ∧ Binds K fd ps ds ∧ Vals dvs ds
section
variable {P : Program} {w : World} {K : PySem.W.Frag} {mg : Str → Option Value} {base : Heap} {x : Str} {st : Stmt} {ps N : List Str} {k : Nat} {sp : Sp}
theorem At.ok (F : At K mg x st ps) (S : FnScope N ps (defScope st)) (len : ∀ vs H Q E, sp vs H Q E → vs.length = ps.length)
    (hbody : ∀ (f : Addr) (cdv : Value) (A : Around) (outer : List Env) (s : Shared) (H : Hp) (vs : List V) (Q : VK) (E : XK), Room k (A.deeper (envOfC x (defScope st) s.heap.objs.size f cdv)) → sp vs H Q E →
      ∃ t, PSs (cxOf CX0 P w K mg base N x (defScope st) f cdv A outer s H E).nox (defBody st) t ∧ t { nx := fun _ H' => Q .non H', rt := Q } (start N vs) H) : Ok P w K mg base (k + 1) x ps [] sp := by
  obtain ⟨f, fd, F, m, b⟩ := F.ex
  exact ⟨f, fd, [], F.ok S len (fun cdv A outer s H vs Q E hr h => hbody f cdv A outer s H vs Q E hr h), m, F.kp, b, .nil⟩
theorem Ok.imp {dvs : List V} {sp' : Sp} (F : Ok P w K mg base k x ps dvs sp) (h : ∀ vs H Q E, sp' vs H Q E → sp vs H Q E) : Ok P w K mg base k x ps dvs sp' := by
  obtain ⟨f, fd, ds, F, m, kp, b, d⟩ := F.ex
  exact ⟨f, fd, ds, F.imp h, m, kp, b, d⟩
theorem Ok.up {dvs : List V} {j : Nat} (F : Ok P w K mg base k x ps dvs sp) (h : k ≤ j) : Ok P w K mg base j x ps dvs sp := by
  obtain ⟨f, fd, ds, F, m, kp, b, d⟩ := F.ex
  exact ⟨f, fd, ds, F.mono h, m, kp, b, d⟩
end
section
variable {X : Cx} {x : Str} {p pos : Pos} {e : Expr} {es : List Expr} {k : Nat} {ps : List Str} {dvs : List V} {sp : Sp} {t : TA}
theorem pe_ok (C : Ok X.prog X.w X.K X.mg X.base k x ps dvs sp) (hr : Room k X.A) (hg : Gl X x) (ha : PA X (e :: es) t) (hdb : (x == ("__debug__" : Str)) = false := by decide)
    (he : starEach (e :: es) X.env = (false, eval e X.env) :: starEach es X.env := by rfl) (hpl : (backTo pos (starEach es X.env)).any (·.1) = false := by rfl) :
    PE X (.Call (.Name x p) (e :: es) [] pos) (tCall sp dvs E0 t) := by
  obtain ⟨f, fd, ds, F, m, kp, b, d⟩ := C.ex
  exact pe_call F hr hg m kp b d pass0 ha hdb he hpl
/-- // by any divisor but 0 below 2 ^ 9000 -/
def CDivX (_ j : Int) : Prop := j ≠ 0 ∧ j.natAbs.log2 < 9000
theorem op_fdivX : OpR X (binaryOp .FloorDiv) (rI CDivX fun i j => .int (i.fdiv j)) := opI fun i j _ _ _ _ _ hc q => floordiv_int hc.1 q (.inl (PyProof.noPylong_of_log2 hc.2))
end
section
variable {X : Cx}
/-- a product: one side small, or both of moderate size -/
def CMulX (i j : Int) : Prop := CMul i j ∨ CMulW i j
theorem op_mulX : OpR X (binaryOp .Mult) (rI CMulX fun i j => .int (i * j)) := opI fun _ _ _ _ _ _ _ hc q => mul_int q (hc.elim (fun h => h.ok) (fun h => h.ok))
end
theorem mulL {i j : Int} (h : -(2 ^ 64) < i ∧ i < 2 ^ 64) : CMulX i j := .inl (.inl h)
theorem mulR {i j : Int} (h : -(2 ^ 64) < j ∧ j < 2 ^ 64) : CMulX i j := .inl (.inr h)
/-! the same rules, the written part named (within a comprehension) -/
section
variable {X : Cx} {K : PySem.W.Frag}
theorem ix_tupK (h : X.K = K) : IxR X (rIxT K) := h ▸ ix_tup
theorem ix_listK (h : X.K = K) : IxR X (rIxL K) := h ▸ ix_list
theorem call_lenK (h : X.K = K) : CallR X (.builtin "len") (fun xs H Q => ∃ p ys, xs = [.ref p] ∧ (SqL K H p ys ∨ SqT K H p ys) ∧ Q (.int ys.length) H) := h ▸ call_len_seq
theorem op_inK (h : X.K = K) : OpR X (compareOp .In) (rIn K false) := h ▸ op_in_seq
theorem op_notInK (h : X.K = K) : OpR X (compareOp .NotIn) (rIn K true) := h ▸ op_notIn_seq
theorem op_eqK (h : X.K = K) (hu : X.A.units + 64 < cLine) : OpR X (compareOp .Eq) (rEqD K) := h ▸ op_eqD hu
theorem op_neK (h : X.K = K) (hu : X.A.units + 64 < cLine) : OpR X (compareOp .NotEq) (rNeD K) := h ▸ op_neD hu
theorem sl_listK (h : X.K = K) : SlR X (rSlL K) := h ▸ sl_list
theorem sl_tupK (h : X.K = K) : SlR X (rSlT K) := h ▸ sl_tup
end
/-- what the program leaves alone -/
structure BI (mg : Str → Option Value) : Prop where
  len : mg "len" = none
  int : mg "int" = none
  abs : mg "abs" = none
  list : mg "list" = none
  tuple : mg "tuple" = none
  range : mg "range" = none
  isinstance : mg "isinstance" = none
  str : mg "str" = none
  bool : mg "bool" = none
  sum : mg "sum" = none
  sorted : mg "sorted" = none
  enumerate : mg "enumerate" = none

/-! ### draws -/
/-- a pool of draws stands at p, its cells at a -/
def Pl (p a : Addr) (H : Hp) : Prop := ∃ (ns : List Int) (i rest last cnt : Int), a ≠ p ∧ H p = some (.lst [.ref a, .int i, .int rest, .int last, .int cnt]) ∧ H a = some (.lst (ns.map V.int)) ∧ ns.length ≤ 63 ∧
  0 ≤ i ∧ 0 ≤ rest ∧ 0 ≤ last ∧ last < 1000000000000000000 ∧ 0 ≤ cnt
theorem Pl.lst {p a : Addr} {H : Hp} (h : Pl p a H) : ∃ xs, H p = some (.lst xs) := by
  obtain ⟨ns, i, rest, last, cnt, _, h, _⟩ := h
  exact ⟨_, h⟩
theorem Pl.tm {p a : Addr} {H H' : Hp} (h : Pl p a H) (e : Kp p H H') : Tm H H' := by
  obtain ⟨xs, h⟩ := h.lst
  exact e.tm h
theorem Pl.same {p a : Addr} {H H' : Hp} (h : Pl p a H) (e : Same H H') : Pl p a H' := by
  obtain ⟨ns, i, rest, last, cnt, n, h, h1, h2⟩ := h
  exact ⟨ns, i, rest, last, cnt, n, e _ _ h, e _ _ h1, h2⟩
/-- another place is stored -/
theorem Pl.mut {p a q : Addr} {H : Hp} {o : HO} (h : Pl p a H) (n : q ≠ p) (na : q ≠ a) : Pl p a (upd H q o) := by
  obtain ⟨ns, i, rest, last, cnt, nn, h, h1, h3⟩ := h
  exact ⟨ns, i, rest, last, cnt, nn, by rw [upd_ne n.symm]; exact h, by rw [upd_ne na.symm]; exact h1, h3⟩
theorem Pl.ne {p a q : Addr} {H : Hp} (h : Pl p a H) (hq : H q = none) : q ≠ p ∧ q ≠ a := by
  obtain ⟨ns, i, rest, last, cnt, nn, h, h1, h3⟩ := h
  exact ⟨fun e => (by rw [e, h] at hq; cases hq), fun e => (by rw [e, h1] at hq; cases hq)⟩
def spPool (K : PySem.W.Frag) : Sp := fun vs H Q _ => ∃ (s : Addr) (ns : List Int), vs = [.ref s] ∧ SqL K H s (ns.map V.int) ∧ ns.length ≤ 63 ∧ ∀ p a H', H p = none → Same H H' → Pl p a H' → Q (.ref p) H'
def spDraw : Sp := fun vs H Q _ => ∃ (p a : Addr) (m : Int), vs = [.ref p, .int m] ∧ Pl p a H ∧ 0 < m ∧ m ≤ 10000000000000000000000000000000000000000 ∧
  ∀ r H', 0 ≤ r → r < m → Kp p H H' → Pl p a H' → Q (.int r) H'
theorem tenK : (10 : Int) ^ (40 : Int).toNat = 10000000000000000000000000000000000000000 := by decide +kernel
theorem divX {i m : Int} (h0 : 0 < m) (h1 : m ≤ 10000000000000000000000000000000000000000) : CDivX i m := by
  refine ⟨by omega, ?_⟩
  have h : m.natAbs < 2 ^ 200 := by
    have : (10000000000000000000000000000000000000000 : Nat) < 2 ^ 200 := by decide +kernel
    omega
  exact Nat.lt_of_lt_of_le (PySem.Flt.log2_lt_of (by decide) h) (by decide)
theorem fm0 {i m : Int} (h0 : 0 < m) : 0 ≤ i.fmod m := Int.fmod_nonneg_of_pos i h0
theorem fm1 {i m : Int} (h0 : 0 < m) : i.fmod m < m := Int.fmod_lt_of_pos i h0
theorem mulF {i j : Int} : CMulX (i.fmod 2147483647) j := mulL ⟨by have := fm0 (i := i) (m := 2147483647) (by decide); omega, by have := fm1 (i := i) (m := 2147483647) (by decide); omega⟩
theorem fd0 {i m : Int} (h0 : 0 < m) (hi : 0 ≤ i) : 0 ≤ i.fdiv m := by
  rw [Int.fdiv_eq_ediv_of_nonneg i (by omega)]
  exact Int.ediv_nonneg hi (by omega)
theorem small5 {n : Nat} (h : n ≤ 100000) : n ≤ sizeLine := Nat.le_trans h (by decide)
theorem small5' {n : Nat} (h : n < 100000) : n < sizeLine := Nat.lt_of_lt_of_le h (by decide)
/-- a product with one small side -/
theorem mulS {i j : Int} (hi : i.natAbs < 2 ^ 400000) (hj : j.natAbs < 2 ^ 400000) : CMulW i j := wide_mul hi hj (by decide) (by decide) (by decide)
end Z

namespace Z
open PySem PySem.Spec PyProof.Rows L2
/-! ### numbers and ratios -/
def BIG : Nat := 2 ^ 8000
theorem big_lt {n : Nat} (h : n < BIG) : n < 2 ^ 8000 := h
theorem divB {i s : Int} {b : Nat} (h0 : s ≠ 0) (h1 : s.natAbs ≤ b) (h2 : b < BIG) : CDivX i s :=
  ⟨h0, Nat.lt_of_lt_of_le (PySem.Flt.log2_lt_of (by decide) (big_lt (Nat.lt_of_le_of_lt h1 h2))) (by decide)⟩
theorem big_sq {a b : Nat} (ha : a < BIG) (hb : b < BIG) : a * b < 2 ^ (100000 - 2) := by
  have h : a * b < BIG * BIG := Nat.mul_lt_mul'' ha hb
  refine Nat.lt_of_lt_of_le h ?_
  unfold BIG
  rw [← Nat.pow_add]
  exact Nat.pow_le_pow_right (by decide) (by decide)
theorem mulB {i j : Int} (hi : i.natAbs < BIG) (hj : j.natAbs < BIG) : CMulX i j := .inr (wide_mul (big_lt hi) (big_lt hj) (by decide) (by decide) (by decide))
/-- a ratio as the program writes it -/
def rat2 (q : Rat) : PyData := .tuple [.int q.num, .int (q.den : Int)]
def spGcd : Sp := fun vs H Q _ => ∃ a b : Nat, vs = [.int (a : Int), .int (b : Int)] ∧ a < BIG ∧ b < BIG ∧ Q (.int ((Nat.gcd a b : Nat) : Int)) H
/-- the ratio of two numbers -/
def spRat (K : PySem.W.Frag) : Sp := fun vs H Q _ => ∃ t b : Int, vs = [.int t, .int b] ∧ b ≠ 0 ∧ t.natAbs < BIG ∧ b.natAbs < BIG ∧ ∀ v H', Same H H' → Is K H' v (rat2 (Rat.divInt t b)) → Q v H'
theorem rat2_new {K : PySem.W.Frag} {H : Hp} {p : Addr} {x y : Int} {q : Rat} (hp : H p = none) (hx : x = q.num) (hy : y = (q.den : Int)) : Is K (upd H p (.tup [.int x, .int y])) (.ref p) (rat2 q) := by
  subst hx hy
  exact Is.newT hp (.two (.int _) (.int _))
/-! ### two data are the same -/
mutual
def plainD : PyData → Bool
  | .none | .int _ | .str _ => true
  | .tuple ds => decide (ds.length ≤ 1000) && plainDs ds
  | _ => false
def plainDs : List PyData → Bool
  | [] => true
  | d :: ds => plainD d && plainDs ds
end
theorem plain_get : ∀ {ds : List PyData} {i : Nat} {d : PyData}, plainDs ds = true → ds[i]? = some d → plainD d = true
  | [], _, _, _, e => by simp at e
  | x :: xs, 0, d, h, e => by
    simp at e
    subst e
    exact (Bool.and_eq_true_iff.mp (by simpa [plainDs] using h)).1
  | x :: xs, i + 1, d, h, e => plain_get (ds := xs) (i := i) (Bool.and_eq_true_iff.mp (by simpa [plainDs] using h)).2 (by simpa using e)
mutual
def depD : PyData → Nat
  | .tuple ds => depDs ds + 1
  | _ => 0
def depDs : List PyData → Nat
  | [] => 0
  | d :: ds => max (depD d) (depDs ds)
end
theorem dep_get : ∀ {ds : List PyData} {i : Nat} {d : PyData}, ds[i]? = some d → depD d ≤ depDs ds
  | [], _, _, e => by simp at e
  | x :: xs, 0, d, e => by
    simp at e
    subst e
    show depD x ≤ max (depD x) (depDs xs)
    omega
  | x :: xs, i + 1, d, e => by
    have := dep_get (ds := xs) (i := i) (d := d) (by simpa using e)
    show depD d ≤ max (depD x) (depDs xs)
    omega
/-- n calls, one in another, are allowed -/
def spSame (K : PySem.W.Frag) (n : Nat) : Sp := fun vs H Q _ => ∃ (x y : V) (d e : PyData), vs = [x, y] ∧ Is K H x d ∧ Is K H y e ∧ plainD d = true ∧ plainD e = true ∧ depD e < n ∧ ∀ (b : Bool) H', Same H H' → (b = true ↔ d = e) → Q (.bl b) H'
theorem kt {K : PySem.W.Frag} {a b : String} {r : Bool} (h : kitB a b = some r) : PySem.W.kitOne K (.type a) (.type b) = some r := kit_ty h
/-- which built-in type a datum has -/
theorem kt_of {K : PySem.W.Frag} (d : PyData) (hd : plainD d = true) (T : String) (hT : T = "tuple" ∨ T = "str" ∨ T = "int") : PySem.W.kitOne K (.type (tyD d)) (.type T) = some (decide (tyD d = T)) := by
  cases d with
  | none =>
            rcases hT with rfl | rfl | rfl
            · exact kt (show kitB "NoneType" "tuple" = some (decide ("NoneType" = "tuple")) by decide +kernel)
            · exact kt (show kitB "NoneType" "str" = some (decide ("NoneType" = "str")) by decide +kernel)
            · exact kt (show kitB "NoneType" "int" = some (decide ("NoneType" = "int")) by decide +kernel)
  | int i =>
            rcases hT with rfl | rfl | rfl
            · exact kt (show kitB "int" "tuple" = some (decide ("int" = "tuple")) by decide +kernel)
            · exact kt (show kitB "int" "str" = some (decide ("int" = "str")) by decide +kernel)
            · exact kt (show kitB "int" "int" = some (decide ("int" = "int")) by decide +kernel)
  | str s =>
            rcases hT with rfl | rfl | rfl
            · exact kt (show kitB "str" "tuple" = some (decide ("str" = "tuple")) by decide +kernel)
            · exact kt (show kitB "str" "str" = some (decide ("str" = "str")) by decide +kernel)
            · exact kt (show kitB "str" "int" = some (decide ("str" = "int")) by decide +kernel)
  | tuple ds =>
            rcases hT with rfl | rfl | rfl
            · exact kt (show kitB "tuple" "tuple" = some (decide ("tuple" = "tuple")) by decide +kernel)
            · exact kt (show kitB "tuple" "str" = some (decide ("tuple" = "str")) by decide +kernel)
            · exact kt (show kitB "tuple" "int" = some (decide ("tuple" = "int")) by decide +kernel)
  | bool b => simp [plainD] at hd
  | list ds => simp [plainD] at hd
  | dict ds => simp [plainD] at hd
theorem ktB {K : PySem.W.Frag} (i : Int) : PySem.W.kitOne K (.type (tyD (.int i))) (.type "bool") = some false := kt (show kitB "int" "bool" = some false by decide +kernel)
end Z
namespace Z
open PySem PySem.Spec PyProof.Rows L2
theorem ty_tuple {d : PyData} (hd : plainD d = true) (h : tyD d = "tuple") : ∃ ds, d = .tuple ds ∧ ds.length ≤ 1000 ∧ plainDs ds = true := by
  cases d with
  | none => exact absurd h (show ¬ "NoneType" = "tuple" by decide)
  | int i => exact absurd h (show ¬ "int" = "tuple" by decide)
  | str s => exact absurd h (show ¬ "str" = "tuple" by decide)
  | tuple ds =>
    have h2 : (decide (ds.length ≤ 1000) && plainDs ds) = true := by simpa [plainD] using hd
    exact ⟨ds, rfl, of_decide_eq_true (Bool.and_eq_true_iff.mp h2).1, (Bool.and_eq_true_iff.mp h2).2⟩
  | bool b => simp [plainD] at hd
  | list ds => simp [plainD] at hd
  | dict ds => simp [plainD] at hd
theorem no_tuple {d : PyData} (hd : plainD d = true) (h : ¬ tyD d = "tuple") : d = .none ∨ (∃ i, d = .int i) ∨ ∃ s, d = .str s := by
  cases d with
  | none => exact .inl rfl
  | int i => exact .inr (.inl ⟨i, rfl⟩)
  | str s => exact .inr (.inr ⟨s, rfl⟩)
  | tuple ds => exact absurd rfl h
  | bool b => simp [plainD] at hd
  | list ds => simp [plainD] at hd
  | dict ds => simp [plainD] at hd
theorem ext_of {α : Type} {xs ys : List α} (hl : xs.length = ys.length) (h : ∀ j < ys.length, xs[j]? = ys[j]?) : xs = ys := by
  apply List.ext_getElem? 
  intro j
  by_cases hj : j < ys.length
  · exact h j hj
  · rw [List.getElem?_eq_none (by omega), List.getElem?_eq_none (by omega)]
/-- a def with defaults dvs, the last of which may be left out -/
structure AtD (K : PySem.W.Frag) (mg : Str → Option Value) (x : Str) (st : Stmt) (ps : List Str) (dvs : List V) : Prop where
  ex : ∃ (f : Addr) (fd : FuncData) (ds : List Value), FunD K x x (defArgs st) (defBody st) (defScope st) dvs [] f fd ∧ mg x = some (.ref f) ∧ Binds K fd ps [] ∧ Binds K fd ps ds ∧ Vals dvs ds
section
variable {P : Program} {w : World} {K : PySem.W.Frag} {mg : Str → Option Value} {base : Heap} {x : Str} {st : Stmt} {ps N : List Str} {k : Nat} {sp : Sp} {dvs : List V}
theorem AtD.ok (F : AtD K mg x st ps dvs) (S : FnScope N ps (defScope st)) (len : ∀ vs H Q E, sp vs H Q E → vs.length = ps.length)
    (hbody : ∀ (f : Addr) (cdv : Value) (A : Around) (outer : List Env) (s : Shared) (H : Hp) (vs : List V) (Q : VK) (E : XK), Room k (A.deeper (envOfC x (defScope st) s.heap.objs.size f cdv)) → sp vs H Q E →
      ∃ t, PSs (cxOf CX0 P w K mg base N x (defScope st) f cdv A outer s H E).nox (defBody st) t ∧ t { nx := fun _ H' => Q .non H', rt := Q } (start N vs) H) :
    Ok P w K mg base (k + 1) x ps [] sp ∧ Ok P w K mg base (k + 1) x ps dvs sp := by
  obtain ⟨f, fd, ds, F, m, b, b2, d⟩ := F.ex
  have G : FnOk P w K mg base CX0 (k + 1) f fd ps sp := F.ok S len (fun cdv A outer s H vs Q E hr h => by
    obtain ⟨t, h1, h2⟩ := hbody f cdv A outer s H vs Q E hr h
    exact ⟨t, h1.nox, h2⟩)
  exact ⟨⟨f, fd, [], G, m, F.kp, b, .nil⟩, ⟨f, fd, ds, G, m, F.kp, b2, d⟩⟩
end
end Z
namespace Z
open PySem PySem.Spec PyProof.Rows L2
theorem plain_rat2 (q : Rat) : plainD (rat2 q) = true := by
  unfold rat2
  rw [plainD, plainDs, plainDs, plainDs, plainD, plainD]
  rfl
theorem dep_rat2 (q : Rat) : depD (rat2 q) = 1 := by
  simp [rat2, depD, depDs]
theorem rat2_inj {q r : Rat} (h : rat2 q = rat2 r) : q = r := by
  have h1 := PyData.tuple.inj h
  have h2 : PyData.int q.num = PyData.int r.num ∧ _ := List.cons.inj h1
  have h3 := List.cons.inj h2.2
  have h4 := PyData.int.inj h2.1
  have h5 := PyData.int.inj h3.1
  exact Rat.ext h4 (by omega)
/-- what law(script) promises -/
def spLaw (K : PySem.W.Frag) : Sp := fun vs H Q _ => ∃ (a : Addr) (ns : List Int), vs = [.ref a] ∧ SqL K H a (ns.map V.int) ∧ ns.length ≤ 63 ∧ ∀ H', Q (.bl true) H'
theorem t41 : (100000000000000000000000000000000000000000 : Nat) < BIG := Nat.lt_of_lt_of_le (show 100000000000000000000000000000000000000000 < 2 ^ 200 by decide +kernel) (Nat.pow_le_pow_right (by decide) (by decide))
theorem bigK {n : Nat} (h : n ≤ 100000000000000000000000000000000000000000000000000) : n < BIG :=
  Nat.lt_of_le_of_lt h (Nat.lt_of_lt_of_le (show 100000000000000000000000000000000000000000000000000 < 2 ^ 200 by decide +kernel) (Nat.pow_le_pow_right (by decide) (by decide)))
end Z

namespace Z
open PySem PySem.Spec PyProof.Rows L2
/-! ### the promises of the ratios' operations -/
theorem sz_big {x n : Nat} (h : n ≤ 8000) (hx : x < 2 ^ n) : x < BIG := Nat.lt_of_lt_of_le hx (Nat.pow_le_pow_right (by decide) h)
theorem Sz.bn {q : Rat} (h : Sz 3900 q) : q.num.natAbs < BIG := sz_big (by decide) h.1
theorem Sz.bd {q : Rat} (h : Sz 3900 q) : ((q.den : Int)).natAbs < BIG := sz_big (n := 3900) (by decide) (by rw [Int.natAbs_natCast]; exact h.2)
def spBin (K : PySem.W.Frag) (g : Rat → Rat → Rat) : Sp := fun vs H Q _ => ∃ (x y : V) (p q : Rat), vs = [x, y] ∧ Is K H x (rat2 p) ∧ Is K H y (rat2 q) ∧ Sz 3900 p ∧ Sz 3900 q ∧ ∀ v H', Same H H' → Is K H' v (rat2 (g p q)) → Q v H'
def spBinQ (K : PySem.W.Frag) : Sp := fun vs H Q _ => ∃ (x y : V) (p q : Rat), vs = [x, y] ∧ Is K H x (rat2 p) ∧ Is K H y (rat2 q) ∧ Sz 3900 p ∧ Sz 3900 q ∧ q ≠ 0 ∧ ∀ v H', Same H H' → Is K H' v (rat2 (p / q)) → Q v H'
def spLess (K : PySem.W.Frag) : Sp := fun vs H Q _ => ∃ (x y : V) (p q : Rat), vs = [x, y] ∧ Is K H x (rat2 p) ∧ Is K H y (rat2 q) ∧ Sz 3900 p ∧ Sz 3900 q ∧ Q (.bl (decide (p < q))) H
/-- the program's own zero -/
def GZ (K : PySem.W.Frag) (mg : Str → Option Value) : Prop := ∃ zA : Addr, mg "ZERO" = some (.ref zA) ∧ ∀ H : Hp, SqT K H zA [.int 0, .int 1]
theorem is_zero {K : PySem.W.Frag} {H : Hp} {a : Addr} (h : SqT K H a [.int 0, .int 1]) : Is K H (.ref a) (rat2 0) := .tup h (.two (.int 0) (.int 1))
/-! ### sums -/
def sumR : List Rat → Rat
  | [] => 0
  | q :: r => q + sumR r
def sumL (z : Rat) (qs : List Rat) : Rat := qs.foldl (· + ·) z
theorem sumL_take {qs : List Rat} {i : Nat} {q : Rat} (h : qs[i]? = some q) (z : Rat) : sumL z (qs.take (i + 1)) = sumL z (qs.take i) + q := by
  unfold sumL
  rw [List.take_add_one, h, List.foldl_append]
  rfl
theorem sumL_sz {n : Nat} : ∀ {qs : List Rat} {m : Nat} {z : Rat}, (∀ q ∈ qs, Sz n q) → Sz m z → Sz (m + qs.length * (n + 1)) (sumL z qs)
  | [], m, z, _, hz => hz.mono (by omega)
  | q :: r, m, z, h, hz => by
    have h1 := hz.add (h q (List.mem_cons_self ..))
    have h2 := sumL_sz (qs := r) (fun x hx => h x (List.mem_cons_of_mem _ hx)) h1
    refine h2.mono ?_
    rw [List.length_cons, Nat.add_mul]
    omega
/-- the sum of ratios that stand in a list at a; n bounds their size -/
def spSumL (K : PySem.W.Frag) : Sp := fun vs H Q _ => ∃ (a : Addr) (xs : List V) (qs : List Rat) (n : Nat), vs = [.ref a] ∧ SqL K H a xs ∧ IsA K H xs (qs.map rat2) ∧ (∀ q ∈ qs, Sz n q) ∧ n ≤ 2000 ∧ qs.length * (n + 1) ≤ 1900 ∧
  ∀ v H', Same H H' → Is K H' v (rat2 (sumL 0 qs)) → Q v H'
def spSumT (K : PySem.W.Frag) : Sp := fun vs H Q _ => ∃ (a : Addr) (xs : List V) (qs : List Rat) (n : Nat), vs = [.ref a] ∧ SqT K H a xs ∧ IsA K H xs (qs.map rat2) ∧ (∀ q ∈ qs, Sz n q) ∧ n ≤ 2000 ∧ qs.length * (n + 1) ≤ 1900 ∧
  ∀ v H', Same H H' → Is K H' v (rat2 (sumL 0 qs)) → Q v H'
/-- the same, every sum on the way small -/
def spSumLP (K : PySem.W.Frag) : Sp := fun vs H Q _ => ∃ (a : Addr) (xs : List V) (qs : List Rat), vs = [.ref a] ∧ SqL K H a xs ∧ IsA K H xs (qs.map rat2) ∧ (∀ q ∈ qs, Sz 3900 q) ∧ (∀ i, Sz 3900 (sumL 0 (qs.take i))) ∧ ∀ v H', Same H H' → Is K H' v (rat2 (sumL 0 qs)) → Q v H'
def spSumTP (K : PySem.W.Frag) : Sp := fun vs H Q _ => ∃ (a : Addr) (xs : List V) (qs : List Rat), vs = [.ref a] ∧ SqT K H a xs ∧ IsA K H xs (qs.map rat2) ∧ (∀ q ∈ qs, Sz 3900 q) ∧ (∀ i, Sz 3900 (sumL 0 (qs.take i))) ∧ ∀ v H', Same H H' → Is K H' v (rat2 (sumL 0 qs)) → Q v H'
theorem sumL_mid {qs : List Rat} {n i : Nat} (h : ∀ q ∈ qs, Sz n q) (hl : qs.length * (n + 1) ≤ 1900) : Sz 3900 (sumL 0 (qs.take i)) := by
  refine (sumL_sz (fun q hq => h q (List.mem_of_mem_take hq)) Sz.zero).mono ?_
  have : (qs.take i).length ≤ qs.length := by rw [List.length_take]; omega
  have := Nat.mul_le_mul_right (n + 1) this
  omega
theorem getR {qs : List Rat} {i : Nat} {d : PyData} (h : (qs.map rat2)[i]? = some d) : ∃ q, qs[i]? = some q ∧ d = rat2 q := by
  rw [List.getElem?_map] at h
  cases hq : qs[i]? with
  | none => rw [hq] at h; cases h
  | some q => rw [hq] at h; exact ⟨q, rfl, (Option.some.inj h).symm⟩
theorem seq_same {K : PySem.W.Frag} {H H' : Hp} {a : Addr} {xs : List V} (e : Same H H') (h : SqL K H a xs) : SqL K H' a xs := e.seq h
/-- an item of a list of data -/
theorem IsA.at {K : PySem.W.Frag} {H : Hp} : ∀ {vs : List V} {ds : List PyData} {i : Nat} {v : V}, IsA K H vs ds → vs[i]? = some v → ∃ d, ds[i]? = some d ∧ Is K H v d
  | _, _, _, _, .nil, e => by simp at e
  | _, _, 0, _, .cons h _, e => by simp at e; subst e; exact ⟨_, rfl, h⟩
  | _, _, i + 1, v, .cons _ t, e => by
    obtain ⟨d, h1, h2⟩ := IsA.at (i := i) (v := v) t (by simpa using e)
    exact ⟨d, by simpa using h1, h2⟩
section
variable {K : PySem.W.Frag} {σ : L2.St} {H : Hp} {Q : VK} {i j : Nat} {va vb : V} {p q : Rat} {g : Rat → Rat → Rat}
/-- two answers of ratios, the same -/
theorem rd_same2 (h1 : σ[i]? = some (some va)) (h2 : σ[j]? = some (some vb)) (ia : Is K H va (rat2 p)) (ib : Is K H vb (rat2 q)) (zp : Sz 3900 p) (zq : Sz 3900 q) (k : ∀ H', Same H H' → Q (.bl true) H') :
    tCall (spSame K 2) [] E0 (tCons (tCall (spBin K g) [] E0 (tCons (tVar i) (tCons (tVar j) tNil))) (tCons (tCall (spBin K g) [] E0 (tCons (tVar i) (tCons (tVar j) tNil))) tNil)) σ H Q := by
  refine ⟨va, h1, vb, h2, va, vb, p, q, rfl, ia, ib, zp, zq, fun v1 H1 s1 i1 => ?_⟩
  refine ⟨va, h1, vb, h2, va, vb, p, q, rfl, ia.to (Same.tm s1), ib.to (Same.tm s1), zp, zq, fun v2 H2 s2 i2 => ?_⟩
  refine ⟨v1, v2, _, _, rfl, i1.to (Same.tm s2), i2, plain_rat2 _, plain_rat2 _, by rw [dep_rat2]; decide, fun c H3 s3 hc => ?_⟩
  obtain rfl : c = true := hc.mpr rfl
  exact k H3 (s1.trans (s2.trans s3))
theorem rd_same2Q (h1 : σ[i]? = some (some va)) (h2 : σ[j]? = some (some vb)) (ia : Is K H va (rat2 p)) (ib : Is K H vb (rat2 q)) (zp : Sz 3900 p) (zq : Sz 3900 q) (hq : q ≠ 0) (k : ∀ H', Same H H' → Q (.bl true) H') :
    tCall (spSame K 2) [] E0 (tCons (tCall (spBinQ K) [] E0 (tCons (tVar i) (tCons (tVar j) tNil))) (tCons (tCall (spBinQ K) [] E0 (tCons (tVar i) (tCons (tVar j) tNil))) tNil)) σ H Q := by
  refine ⟨va, h1, vb, h2, va, vb, p, q, rfl, ia, ib, zp, zq, hq, fun v1 H1 s1 i1 => ?_⟩
  refine ⟨va, h1, vb, h2, va, vb, p, q, rfl, ia.to (Same.tm s1), ib.to (Same.tm s1), zp, zq, hq, fun v2 H2 s2 i2 => ?_⟩
  refine ⟨v1, v2, _, _, rfl, i1.to (Same.tm s2), i2, plain_rat2 _, plain_rat2 _, by rw [dep_rat2]; decide, fun c H3 s3 hc => ?_⟩
  obtain rfl : c = true := hc.mpr rfl
  exact k H3 (s1.trans (s2.trans s3))
end
theorem sumL_imp {K : PySem.W.Frag} : ∀ vs H Q E, spSumL K vs H Q E → spSumLP K vs H Q E := by
  rintro vs H Q E ⟨a, xs, qs, n, rfl, hS, hI, hz, hn, hl, k⟩
  exact ⟨a, xs, qs, rfl, hS, hI, fun q hq => (hz q hq).mono (by omega), fun i => sumL_mid hz hl, k⟩
theorem sumT_imp {K : PySem.W.Frag} : ∀ vs H Q E, spSumT K vs H Q E → spSumTP K vs H Q E := by
  rintro vs H Q E ⟨a, xs, qs, n, rfl, hS, hI, hz, hn, hl, k⟩
  exact ⟨a, xs, qs, rfl, hS, hI, fun q hq => (hz q hq).mono (by omega), fun i => sumL_mid hz hl, k⟩
end Z

namespace Z
open PySem PySem.Spec PyProof.Rows L2
/-! ### jobs -/
structure Job where
  n : Str
  c : Int
  d : Int
  w : Int
def dJob (j : Job) : PyData := .tuple [.str j.n, .int j.c, .int j.d, .int j.w]
/-- the name of the k-th job: one letter of a .. t, the k-th of them -/
structure NmOk (k : Nat) (x : Str) : Prop where
  mid : x.cps.toList.find? (fun c => decide (c < 117)) = some (97 + k)
  len : x.cps.toList.length ≤ 6
  low : ∀ c ∈ x.cps.toList, 97 ≤ c ∧ c ≤ 122
  ne : x.cps.toList ≠ []
theorem NmOk.inj {k l : Nat} {x : Str} (h : NmOk k x) (h' : NmOk l x) : k = l := by
  have e := h.mid.symm.trans h'.mid
  have := Option.some.inj e
  omega
structure JobOk (j : Job) : Prop where
  c0 : 0 ≤ j.c
  cd : j.c < j.d
  d1 : j.d ≤ 10000
  w0 : 1 ≤ j.w
  w1 : j.w ≤ 10000
/-- a job list as it is drawn -/
structure JobsOk (js : List Job) : Prop where
  ok : ∀ j ∈ js, JobOk j
  nm : ∀ i j, js[i]? = some j → NmOk i j.n
theorem str_app (x y : Str) : (x ++ y).cps.toList = x.cps.toList ++ y.cps.toList := Array.toList_append ..
theorem str_len (x : Str) : x.length = x.cps.toList.length := rfl
/-- a drawn name -/
def spName : Sp := fun vs H Q _ => ∃ (p pa : Addr) (k : Nat), vs = [.ref p, .int (k : Int)] ∧ Pl p pa H ∧ k < 20 ∧ ∀ x H', NmOk k x → Kp p H H' → Pl p pa H' → Q (.str x) H'
/-- a drawn window -/
def spWin (K : PySem.W.Frag) : Sp := fun vs H Q _ => ∃ (p pa : Addr) (b : Bool), vs = [.ref p, .bl b] ∧ Pl p pa H ∧ ∀ t c d H', 0 ≤ c → c < d → d ≤ 10000 → Kp p H H' → Pl p pa H' → H t = none → H' t = some (.tup [.int c, .int d]) → Q (.ref t) H'
/-- a drawn job list of at most n jobs -/
def spJobs (K : PySem.W.Frag) : Sp := fun vs H Q _ => ∃ (p pa : Addr) (n : Nat), vs = [.ref p, .int (n : Int)] ∧ Pl p pa H ∧ n ≤ 19 ∧ ∀ t xs js H', JobsOk js → js.length ≤ n → Kp p H H' → Pl p pa H' → H t = none → H' t = some (.tup xs) → IsA K H' xs (js.map dJob) → Q (.ref t) H'
theorem fresh_kp {p a : Addr} {H H' : Hp} (e : Kp p H H') (n : a ≠ p) (h : H' a = none) : H a = none := by
  cases q : H a with
  | none => rfl
  | some o =>
    rw [e a o n q] at h
    cases h
theorem Pl.at_ne {p pa q : Addr} {H : Hp} {xs : List V} (h : Pl p pa H) (hq : H q = some (.tup xs)) : q ≠ p := by
  obtain ⟨ns, i, rest, last, cnt, nn, h, _⟩ := h
  rintro rfl
  rw [h] at hq
  cases hq
/-- what is new behind a change at p is new before it -/
theorem Pl.free {p pa q : Addr} {H H' : Hp} (h : Pl p pa H') (e : Kp p H H') (hq : H' q = none) : H q = none := fresh_kp e (h.ne hq).1 hq
/-! ### the parts of a name -/
def HeadOk (x : Str) : Prop := x.cps.toList.length ≤ 3 ∧ ∀ c ∈ x.cps.toList, 117 ≤ c ∧ c ≤ 122
def TailOk (x : Str) : Prop := x.cps.toList.length ≤ 2 ∧ ∀ c ∈ x.cps.toList, 97 ≤ c ∧ c ≤ 122
theorem nm_of {k : Nat} {h t : Str} (hk : k < 20) (hh : HeadOk h) (ht : TailOk t) : NmOk k (h ++ ⟨#[97 + k]⟩ ++ t) := by
  have e : (h ++ (⟨#[97 + k]⟩ : Str) ++ t).cps.toList = h.cps.toList ++ (97 + k) :: t.cps.toList := by
    rw [str_app, str_app, List.append_assoc]
    rfl
  refine ⟨?_, ?_, ?_, ?_⟩
  · rw [e]
    have : ∀ l : List Nat, (∀ c ∈ l, 117 ≤ c ∧ c ≤ 122) → (l ++ (97 + k) :: t.cps.toList).find? (fun c => decide (c < 117)) = some (97 + k) := by
      intro l
      induction l with
      | nil =>
        intro _
        show ((97 + k) :: t.cps.toList).find? _ = _
        rw [List.find?_cons_of_pos]
        exact decide_eq_true (by omega)
      | cons c r ih =>
        intro hc
        show (c :: (r ++ (97 + k) :: t.cps.toList)).find? _ = _
        rw [List.find?_cons_of_neg]
        · exact ih fun x hx => hc x (List.mem_cons_of_mem _ hx)
        · have := hc c (List.mem_cons_self ..)
          rw [decide_eq_false (by omega)]
          decide
    exact this _ hh.2
  · rw [e, List.length_append, List.length_cons]
    have := hh.1
    have := ht.1
    omega
  · rw [e]
    intro c hc
    rcases List.mem_append.mp hc with h | h
    · have := hh.2 c h
      omega
    · rcases List.mem_cons.mp h with h | h
      · omega
      · exact ht.2 c h
  · rw [e]
    simp
theorem letters_at : ∀ k < 20, ((("abcdefghijklmnopqrst" : Str)).cps.toList)[k]? = some (97 + k) := by decide +kernel
theorem headOk0 : HeadOk (("" : Str)) := ⟨by decide +kernel, by decide +kernel⟩
theorem headOk1 : HeadOk (("u" : Str)) := ⟨by decide +kernel, by decide +kernel⟩
theorem headOk2 : HeadOk (("vw" : Str)) := ⟨by decide +kernel, by decide +kernel⟩
theorem headOk3 : HeadOk (("xyz" : Str)) := ⟨by decide +kernel, by decide +kernel⟩
theorem tailOk0 : TailOk (("" : Str)) := ⟨by decide +kernel, by decide +kernel⟩
theorem tailOk1 : TailOk (("z" : Str)) := ⟨by decide +kernel, by decide +kernel⟩
theorem tailOk2 : TailOk (("yy" : Str)) := ⟨by decide +kernel, by decide +kernel⟩
theorem head_at {r : Int} (h0 : 0 ≤ r) (h1 : r < 4) : ∃ x, atI [V.str (("" : Str)), V.str (("u" : Str)), V.str (("vw" : Str)), V.str (("xyz" : Str))] r = some (.str x) ∧ HeadOk x := by
  have : r = 0 ∨ r = 1 ∨ r = 2 ∨ r = 3 := by omega
  rcases this with rfl | rfl | rfl | rfl
  · exact ⟨_, rfl, headOk0⟩
  · exact ⟨_, rfl, headOk1⟩
  · exact ⟨_, rfl, headOk2⟩
  · exact ⟨_, rfl, headOk3⟩
theorem tail_at {r : Int} (h0 : 0 ≤ r) (h1 : r < 3) : ∃ x, atI [V.str (("" : Str)), V.str (("z" : Str)), V.str (("yy" : Str))] r = some (.str x) ∧ TailOk x := by
  have : r = 0 ∨ r = 1 ∨ r = 2 := by omega
  rcases this with rfl | rfl | rfl
  · exact ⟨_, rfl, tailOk0⟩
  · exact ⟨_, rfl, tailOk1⟩
  · exact ⟨_, rfl, tailOk2⟩
theorem IsA.push {K : PySem.W.Frag} {H : Hp} {xs : List V} {ds : List PyData} {v : V} {d : PyData} (h : IsA K H xs ds) (i : Is K H v d) : IsA K H (xs ++ [v]) (ds ++ [d]) := h.append (.cons i .nil)
theorem is_job {K : PySem.W.Frag} {H : Hp} {t : Addr} {j : Job} (h : SqT K H t [.str j.n, .int j.c, .int j.d, .int j.w]) : Is K H (.ref t) (dJob j) := .tup h (.cons (.str _) (.cons (.int _) (.cons (.int _) (.cons (.int _) .nil))))
theorem job_at {K : PySem.W.Frag} {H : Hp} {v : V} {j : Job} (h : Is K H v (dJob j)) : ∃ t, v = .ref t ∧ SqT K H t [.str j.n, .int j.c, .int j.d, .int j.w] := by
  obtain ⟨t, xs, rfl, s, a⟩ := h.tup'
  cases a with
  | cons h1 a => cases a with
    | cons h2 a => cases a with
      | cons h3 a => cases a with
        | cons h4 a =>
          cases a; cases h1; cases h2; cases h3; cases h4
          exact ⟨t, rfl, s⟩
theorem getJ {α : Type} {f : α → PyData} {qs : List α} {i : Nat} {d : PyData} (h : (qs.map f)[i]? = some d) : ∃ q, qs[i]? = some q ∧ d = f q := by
  rw [List.getElem?_map] at h
  cases hq : qs[i]? with
  | none => rw [hq] at h; cases h
  | some q => rw [hq] at h; exact ⟨q, rfl, (Option.some.inj h).symm⟩
theorem JobsOk.push {js : List Job} {j : Job} (h : JobsOk js) (hj : JobOk j) (hn : NmOk js.length j.n) : JobsOk (js ++ [j]) := by
  refine ⟨fun x hx => ?_, fun i x hx => ?_⟩
  · rcases List.mem_append.mp hx with z | z
    · exact h.ok x z
    · rw [List.mem_singleton.mp z]
      exact hj
  · by_cases hi : i < js.length
    · rw [List.getElem?_append_left hi] at hx
      exact h.nm i x hx
    · rw [List.getElem?_append_right (by omega)] at hx
      have : i - js.length = 0 := by
        cases z : i - js.length with
        | zero => rfl
        | succ n => rw [z] at hx; simp at hx
      rw [this] at hx
      have e : j = x := Option.some.inj hx
      subst e
      have : i = js.length := by omega
      rw [this]
      exact hn
theorem JobsOk.nil : JobsOk [] := ⟨fun _ h => (nomatch h), fun _ _ h => by simp at h⟩
/-- a pool and a list of data at L, all else as in H0 -/
structure LM (K : PySem.W.Frag) (p pa L : Addr) (H0 : Hp) (ds : List PyData) (H' : Hp) : Prop where
  P : Pl p pa H'
  k : Kp p H0 H'
  l : ∃ xs, H' L = some (.lst xs) ∧ IsA K H' xs ds
theorem LM.step {K : PySem.W.Frag} {p pa L : Addr} {H0 H1 H2 : Hp} {ds : List PyData} (h : LM K p pa L H0 ds H1) (n : L ≠ p) (e : Kp p H1 H2) (P2 : Pl p pa H2) : LM K p pa L H0 ds H2 := by
  obtain ⟨P, k, xs, hl, hi⟩ := h
  exact ⟨P2, k.trans e, xs, e _ _ n hl, hi.to (P.tm e)⟩
theorem LM.same {K : PySem.W.Frag} {p pa L : Addr} {H0 H1 H2 : Hp} {ds : List PyData} (h : LM K p pa L H0 ds H1) (e : Same H1 H2) : LM K p pa L H0 ds H2 := by
  obtain ⟨P, k, xs, hl, hi⟩ := h
  exact ⟨P.same e, k.trans (.of e), xs, e _ _ hl, hi.to (Same.tm e)⟩
/-- the list is stored anew -/
theorem LM.put {K : PySem.W.Frag} {p pa L : Addr} {H0 H1 : Hp} {ds es : List PyData} {ys : List V} (h : LM K p pa L H0 ds H1) (n : L ≠ p) (na : L ≠ pa) (f : H0 L = none) (hi : IsA K H1 ys es) : LM K p pa L H0 es (upd H1 L (.lst ys)) := by
  obtain ⟨P, k, xs, hl, _⟩ := h
  exact ⟨P.mut n na, k.mut f, ys, upd_same, hi.to (Tm.lst hl)⟩
theorem LM.new {K : PySem.W.Frag} {p pa L : Addr} {H0 H1 : Hp} (P : Pl p pa H1) (k : Kp p H0 H1) (f : H1 L = none) : LM K p pa L H0 [] (upd H1 L (.lst [])) :=
  ⟨P.same (same_upd f), k.trans (.new f), [], upd_same, .nil⟩
end Z

namespace Z
open PySem PySem.Spec PyProof.Rows L2
/-! ### a op b op c op d -/
def tChain3 (r r' r'' : R2) (ta tb tc td : TE) : TE := fun σ H Q => ta σ H fun x H1 => tb σ H1 fun y H2 => r x y H2 fun z H3 => ∃ k, z = .bl k ∧
  (if k = true then tc σ H3 fun u H4 => r' y u H4 fun z2 H5 => ∃ k2, z2 = .bl k2 ∧ (if k2 = true then td σ H5 fun w' H6 => r'' u w' H6 Q else Q (.bl false) H5) else Q (.bl false) H3)
theorem pe_chain3 {X : Cx} {a b c d : Expr} {op op' op'' : CmpOp} {r r' r'' : R2} {ta tb tc td : TE} {pos : Pos} (ho : OpR X (compareOp op) r) (ho' : OpR X (compareOp op') r') (ho'' : OpR X (compareOp op'') r'') (ha : PE X a ta) (hb : PE X b tb) (hc : PE X c tc) (hd : PE X d td)
    (hm : lastMarks [op, op', op''] [b, c, d] = false := by with_unfolding_all rfl) : PE X (.Compare a [op, op', op''] [b, c, d] pos) (tChain3 r r' r'' ta tb tc td) := by
  refine ⟨fun pins s σ H Q I h => ?_⟩
  refine Compare_chain (thn (ha.run pins s σ H _ I h) fun v s1 ⟨x, H1, I1, r1, q1⟩ => chain_link (thn (hb.run pins s1 σ H1 _ I1 q1) fun u s2 ⟨y, H2, I2, r2, q2⟩ =>
    thn (ho pins s2 σ H2 x y v u _ I2 r1 r2 q2) fun d s3 ⟨z, H3, I3, r3, k, e, q3⟩ => ?_)) hm
  subst e
  cases r3
  refine wpAny_truthy_bool ?_
  cases k with
  | false => exact ite_ff ⟨.bl false, H3, I3, rfl, q3⟩
  | true =>
    refine ite_tt (chain_link (thn (hc.run pins s3 σ H3 _ I3 q3) fun w' s4 ⟨z', H4, I4, r4, q4⟩ => thn (ho' pins s4 σ H4 y z' u w' _ I4 r2 r4 q4) fun d' s5 ⟨z5, H5, I5, r5, k2, e2, q5⟩ => ?_))
    subst e2
    cases r5
    refine wpAny_truthy_bool ?_
    cases k2 with
    | false => exact ite_ff ⟨.bl false, H5, I5, rfl, q5⟩
    | true => exact ite_tt (chain_last (thn (hd.run pins s5 σ H5 _ I5 q5) fun w2 s6 ⟨z6, H6, I6, r6, q6⟩ => ho'' pins s6 σ H6 z' z6 w' w2 Q I6 r4 r6 q6))
/-! ### loops over a text, over enumerate of a list -/
theorem for_str {x : Str} {g : TG} {tb : TS} {D : Ends} {σ : L2.St} {H : Hp} (Pv : Nat → L2.St → Hp → Prop) (h0 : Pv 0 σ H)
    (hs : ∀ i c σ H, x.cps.toList[i]? = some c → Pv i σ H → g (.str ⟨#[c]⟩) σ H fun σ2 H2 => tb { D with nx := Pv (i + 1), ct := Pv (i + 1), bk := D.nx } σ2 H2) (hd : ∀ σ H, Pv x.cps.toList.length σ H → D.nx σ H) :
    ∃ W : Nat → Nat → L2.St → Hp → Prop, (∃ m, W 0 m σ H) ∧ ∀ i m σ H, W i m σ H →
      ((Its x).stop i H ∧ D.nx σ H) ∨ ((Its x).go i H ∧ ∃ N : L2.St → Hp → Prop, (∀ σ' H', N σ' H' → ∃ m', m' < m ∧ W (i + 1) m' σ' H') ∧ ∀ v H', (Its x).yld i H v H' → g v σ H' fun σ2 H2 => tb { D with nx := N, ct := N, bk := D.nx } σ2 H2) := by
  refine ⟨fun i m σ H => m = x.cps.size - i ∧ i ≤ x.cps.size ∧ Pv i σ H, ⟨x.cps.size, (Nat.sub_zero _).symm, Nat.zero_le _, h0⟩, ?_⟩
  rintro i m σ H ⟨rfl, hi, p⟩
  by_cases c : i < x.cps.size
  · refine .inr ⟨c, Pv (i + 1), fun σ' H' p' => ⟨x.cps.size - (i + 1), by omega, rfl, c, p'⟩, ?_⟩
    rintro v H' ⟨rfl, k, hk, rfl⟩
    exact hs i k σ _ (by rw [Array.getElem?_toList]; exact hk) p
  · have e : i = x.cps.size := by omega
    subst e
    exact .inl ⟨Nat.le_refl _, hd σ H (by rw [Array.length_toList]; exact p)⟩
theorem for_enumL {K : PySem.W.Frag} {a : Addr} {xs : List V} {g : TG} {tb : TS} {D : Ends} {σ : L2.St} {H : Hp} (Pv : Nat → L2.St → Hp → Prop) (h0 : Pv 0 σ H) (hl : ∀ i σ H, i ≤ xs.length → Pv i σ H → SqL K H a xs)
    (hs : ∀ i x T σ H, xs[i]? = some x → Pv i σ H → H T = none → g (.ref T) σ (upd H T (.tup [.int (i : Nat), x])) fun σ2 H2 => tb { D with nx := Pv (i + 1), ct := Pv (i + 1), bk := D.nx } σ2 H2) (hd : ∀ σ H, Pv xs.length σ H → D.nx σ H) :
    ∃ W : Nat → Nat → L2.St → Hp → Prop, (∃ m, W 0 m σ H) ∧ ∀ i m σ H, W i m σ H →
      ((Ite K a).stop i H ∧ D.nx σ H) ∨ ((Ite K a).go i H ∧ ∃ N : L2.St → Hp → Prop, (∀ σ' H', N σ' H' → ∃ m', m' < m ∧ W (i + 1) m' σ' H') ∧ ∀ x H', (Ite K a).yld i H x H' → g x σ H' fun σ2 H2 => tb { D with nx := N, ct := N, bk := D.nx } σ2 H2) := by
  refine ⟨fun i m σ H => m = xs.length - i ∧ i ≤ xs.length ∧ Pv i σ H, ⟨xs.length, (Nat.sub_zero _).symm, Nat.zero_le _, h0⟩, ?_⟩
  rintro i m σ H ⟨rfl, hi, p⟩
  have q := hl i σ H hi p
  by_cases c : i < xs.length
  · have gx : xs[i]? = some xs[i] := List.getElem?_eq_getElem c
    refine .inr ⟨⟨xs, xs[i], q, gx⟩, Pv (i + 1), fun σ' H' p' => ⟨xs.length - (i + 1), by omega, rfl, c, p'⟩, ?_⟩
    rintro v H' ⟨T, x, rfl, nT, rfl, fx⟩
    exact hs i x T σ H (fx xs q) p nT
  · have e : i = xs.length := by omega
    subst e
    exact .inl ⟨⟨xs, q, Nat.le_refl _⟩, hd σ H p⟩
/-! ### texts of jobs -/
abbrev LET : Str := ("abcdefghijklmnopqrstuvwxyz" : Str)
abbrev DIG : Str := ("0123456789" : Str)
abbrev nt (i : Int) : Str := Str.ofString (toString i)
def lineB (j : Job) : Str := j.n ++ (" " : Str) ++ nt j.c ++ (" " : Str) ++ nt j.d ++ (" " : Str) ++ nt j.w
def lineT (j : Job) : Str := lineB j ++ ("\n" : Str)
def textOf (js : List Job) : Str := Txt.join ("" : Str) (js.map lineT)
def consB (w cs : Str) : Bool := w.cps.toList.all (fun c => decide (c ∈ cs.cps.toList)) && !decide (V.str w = V.str ("" : Str))
def nameB (w : Str) : Bool := decide ((w.length : Int) ≤ 8) && consB w LET
def wholeO (w : Str) (m : Int) : Option Int :=
  if (decide (m < (w.length : Int)) || !consB w DIG) = true then none
  else if (decide (w.cps.toList.head? = some 48) && !decide (w = ("0" : Str))) = true then none
  else some ((NumText.digitsVal w.cps.toList : Nat) : Int)
def oV : Option Int → V
  | none => .non
  | some i => .int i
def jobB (n : Str) (c d w : Int) : Bool := nameB n && (decide (0 ≤ c) && decide (c < d) && decide (d ≤ 10000) && (decide (1 ≤ w) && decide (w ≤ 10000)))
def readJobO (line : Str) : Option Job :=
  match Txt.split line (" " : Str) with
  | [a, b, c, d] => match wholeO b 5, wholeO c 5, wholeO d 5 with
    | some x, some y, some z => if jobB a x y z = true then some ⟨a, x, y, z⟩ else none
    | _, _, _ => none
  | _ => none
theorem tl_sp : TL.tl (" " : Str) = [32] := by decide +kernel
theorem tl_nl : TL.tl ("\n" : Str) = [10] := by decide +kernel
theorem tl_e : TL.tl ("" : Str) = [] := by decide +kernel
theorem tl_let : LET.cps.toList = (List.range 26).map (97 + ·) := by decide +kernel
theorem tl_dig : DIG.cps.toList = (List.range 10).map (48 + ·) := by decide +kernel
theorem in_let {c : Nat} (h : 97 ≤ c ∧ c ≤ 122) : c ∈ LET.cps.toList := by
  rw [tl_let, List.mem_map]
  exact ⟨c - 97, List.mem_range.mpr (by omega), by omega⟩
theorem in_dig {c : Nat} : c ∈ DIG.cps.toList ↔ 48 ≤ c ∧ c ≤ 57 := by
  rw [tl_dig, List.mem_map]
  constructor
  · rintro ⟨k, hk, rfl⟩
    have := List.mem_range.mp hk
    omega
  · intro h
    exact ⟨c - 48, List.mem_range.mpr (by omega), by omega⟩
theorem join_nl : ∀ ps : List (List Nat), TL.joinL [] (ps.map (· ++ [10])) = TL.joinL [10] (ps ++ [[]])
  | [] => rfl
  | [p] => rfl
  | p :: q :: r => by
    have ih := join_nl (q :: r)
    show (p ++ [10]) ++ ([] ++ TL.joinL [] ((q :: r).map (· ++ [10]))) = p ++ ([10] ++ TL.joinL [10] ((q :: r) ++ [[]]))
    rw [ih, List.nil_append, List.append_assoc]
theorem nt_free {s : Nat} {i : Int} (h0 : 0 ≤ i) (h : s < 48 ∨ 57 < s) : s ∉ TL.tl (nt i) := by
  obtain ⟨n, rfl⟩ := Int.eq_ofNat_of_zero_le h0
  rw [TL.tl_num]
  exact TL.numL_free h
/-- all signs of a line are neither a newline .. -/
structure LineOk (j : Job) : Prop where
  n10 : 10 ∉ TL.tl j.n
  n32 : 32 ∉ TL.tl j.n
  c0 : 0 ≤ j.c
  d0 : 0 ≤ j.d
  w0 : 0 ≤ j.w
theorem tl_lineB (j : Job) : TL.tl (lineB j) = TL.tl j.n ++ (32 :: (TL.tl (nt j.c) ++ (32 :: (TL.tl (nt j.d) ++ (32 :: TL.tl (nt j.w)))))) := by
  unfold lineB
  rw [TL.tl_append, TL.tl_append, TL.tl_append, TL.tl_append, TL.tl_append, TL.tl_append, tl_sp]
  simp [List.append_assoc]
theorem LineOk.n10' {j : Job} (h : LineOk j) : 10 ∉ TL.tl (lineB j) := by
  rw [tl_lineB]
  have a := h.n10
  have b := nt_free (s := 10) h.c0 (by omega)
  have c := nt_free (s := 10) h.d0 (by omega)
  have d := nt_free (s := 10) h.w0 (by omega)
  simp only [List.mem_append, List.mem_cons, not_or]
  exact ⟨a, by decide, b, by decide, c, by decide, d⟩
theorem split_text {js : List Job} (h : ∀ j ∈ js, LineOk j) : Txt.split (textOf js) ("\n" : Str) = js.map lineB ++ [("" : Str)] := by
  have e : textOf js = Txt.join ("\n" : Str) (js.map lineB ++ [("" : Str)]) := by
    unfold textOf
    apply TL.ext_tl
    rw [TL.join_eq, TL.join_eq, TL.tl_join, TL.tl_join, tl_e, tl_nl, List.map_append, List.map_map, List.map_map]
    have z := join_nl (js.map fun j => TL.tl (lineB j))
    rw [List.map_map] at z
    have f : (fun j => TL.tl (lineT j)) = (fun j => TL.tl (lineB j) ++ [10]) := by
      funext j
      unfold lineT
      rw [TL.tl_append, tl_nl]
    show TL.joinL [] (js.map fun j => TL.tl (lineT j)) = TL.joinL [10] (js.map (fun j => TL.tl (lineB j)) ++ [TL.tl ("" : Str)])
    rw [f, tl_e]
    exact z
  rw [e]
  refine TL.split_join tl_nl (by decide +kernel) (by simp) ?_
  intro p hp
  rcases List.mem_append.mp hp with hp | hp
  · obtain ⟨j, hj, rfl⟩ := List.mem_map.mp hp
    exact (h j hj).n10'
  · rw [List.mem_singleton.mp hp, tl_e]
    simp
theorem split_line {j : Job} (h : LineOk j) : Txt.split (lineB j) (" " : Str) = [j.n, nt j.c, nt j.d, nt j.w] := by
  have e : lineB j = Txt.join (" " : Str) [j.n, nt j.c, nt j.d, nt j.w] := by
    apply TL.ext_tl
    rw [tl_lineB, TL.join_eq, TL.tl_join, tl_sp]
    simp [TL.joinL]
  rw [e]
  refine TL.split_join tl_sp (by decide +kernel) (by simp) ?_
  intro p hp
  simp only [List.mem_cons, List.not_mem_nil, or_false] at hp
  rcases hp with rfl | rfl | rfl | rfl
  · exact h.n32
  · exact nt_free h.c0 (by omega)
  · exact nt_free h.d0 (by omega)
  · exact nt_free h.w0 (by omega)
theorem num_head : ∀ n : Nat, n ≠ 0 → (TL.numL n).head? ≠ some 48 := by
  intro n
  induction n using Nat.strongRecOn with
  | _ n ih =>
    intro h
    by_cases c : n < 10
    · rw [TL.numL_lt c]
      simp
      omega
    · have i := ih (n / 10) (by omega) (by omega)
      rw [TL.numL_step (by omega)]
      obtain ⟨a, r, e⟩ := List.exists_cons_of_ne_nil (TL.numL_ne (n / 10))
      rw [e] at i ⊢
      exact i
theorem nt_len {i : Int} (h0 : 0 ≤ i) (h1 : i ≤ 10000) : (nt i).cps.toList.length ≤ 5 := by
  obtain ⟨n, rfl⟩ := Int.eq_ofNat_of_zero_le h0
  rw [show (nt ((n : Nat) : Int)).cps.toList = TL.numL n from TL.tl_num n]
  exact TL.numL_len (by decide) (by omega)
theorem consB_of {w cs : Str} (h : ∀ c ∈ w.cps.toList, c ∈ cs.cps.toList) (n : w.cps.toList ≠ []) : consB w cs = true := by
  unfold consB
  rw [Bool.and_eq_true]
  refine ⟨List.all_eq_true.mpr fun c hc => decide_eq_true (h c hc), ?_⟩
  rw [decide_eq_false]
  · rfl
  · intro e
    have e2 := V.str.inj e
    rw [e2] at n
    exact n (by decide +kernel)
theorem whole_nt {i : Int} (h0 : 0 ≤ i) (h1 : i ≤ 10000) : wholeO (nt i) 5 = some i := by
  have hl := nt_len h0 h1
  obtain ⟨n, rfl⟩ := Int.eq_ofNat_of_zero_le h0
  have e : (nt ((n : Nat) : Int)).cps.toList = TL.numL n := TL.tl_num n
  unfold wholeO
  have hc : consB (nt ((n : Nat) : Int)) DIG = true := consB_of (by rw [e]; exact fun c hc => in_dig.mpr (TL.numL_digits n c hc)) (by rw [e]; exact TL.numL_ne n)
  rw [if_neg, if_neg, e, TL.numL_val]
  · intro z
    rw [Bool.and_eq_true, e] at z
    have z1 := of_decide_eq_true z.1
    by_cases c : n = 0
    · subst c
      have z2 := z.2
      rw [decide_eq_true (show nt ((0 : Nat) : Int) = ("0" : Str) by decide +kernel)] at z2
      cases z2
    · exact num_head n c z1
  · rw [hc, decide_eq_false (by rw [str_len]; omega)]
    decide
theorem NmOk.line {k : Nat} {x : Str} (h : NmOk k x) : nameB x = true := by
  unfold nameB
  have := h.len
  rw [Bool.and_eq_true]
  exact ⟨decide_eq_true (by rw [str_len]; omega), consB_of (fun c hc => in_let (h.low c hc)) h.ne⟩
theorem line_ok {k : Nat} {j : Job} (h : JobOk j) (hn : NmOk k j.n) : LineOk j := by
  have := h.c0
  have := h.cd
  have := h.w0
  exact ⟨fun z => by have := hn.low 10 z; omega, fun z => by have := hn.low 32 z; omega, by omega, by omega, by omega⟩
theorem read_line {k : Nat} {j : Job} (h : JobOk j) (hn : NmOk k j.n) : readJobO (lineB j) = some j := by
  have := h.c0
  have := h.cd
  have := h.d1
  have := h.w0
  have := h.w1
  unfold readJobO
  rw [split_line (line_ok h hn)]
  show (match wholeO (nt j.c) 5, wholeO (nt j.d) 5, wholeO (nt j.w) 5 with
    | some x, some y, some z => if jobB j.n x y z = true then some ⟨j.n, x, y, z⟩ else none
    | _, _, _ => none) = some j
  rw [whole_nt (by omega) (by omega), whole_nt (by omega) (by omega), whole_nt (by omega) (by omega)]
  show (if jobB j.n j.c j.d j.w = true then some (⟨j.n, j.c, j.d, j.w⟩ : Job) else none) = some j
  rw [if_pos]
  unfold jobB
  rw [hn.line, decide_eq_true h.c0, decide_eq_true h.cd, decide_eq_true h.d1, decide_eq_true h.w0, decide_eq_true h.w1]
  rfl
theorem line_len {k : Nat} {j : Job} (h : JobOk j) (hn : NmOk k j.n) : (lineB j).length ≤ 24 := by
  have := h.c0
  have := h.cd
  have := h.d1
  have := h.w0
  have := h.w1
  have a := nt_len (i := j.c) (by omega) (by omega)
  have b := nt_len (i := j.d) (by omega) (by omega)
  have c := nt_len (i := j.w) (by omega) (by omega)
  have d := hn.len
  rw [str_len, show (lineB j).cps.toList = _ from tl_lineB j]
  simp only [List.length_append, List.length_cons]
  show j.n.cps.toList.length + ((nt j.c).cps.toList.length + ((nt j.d).cps.toList.length + ((nt j.w).cps.toList.length + 1) + 1) + 1) ≤ 24
  omega
end Z

namespace Z
open PySem PySem.Spec PyProof.Rows L2
def topS (i : Nat) : Stmt := PySem.Challenge.pw_sparewatts_k02_job_texts.main.body.getD i (.Pass ⟨0, 0, 0, 0⟩)
abbrev sconsists_of : Stmt := topS 7
abbrev sis_name : Stmt := topS 8
abbrev swhole : Stmt := topS 9
abbrev sis_job : Stmt := topS 15
abbrev swrite_jobs : Stmt := topS 16
abbrev sread_job : Stmt := topS 17
abbrev sread_jobs : Stmt := topS 18
abbrev s_law_pool : Stmt := topS 20
abbrev s_law_draw : Stmt := topS 21
abbrev s_law_same : Stmt := topS 22
abbrev s_law_name : Stmt := topS 23
abbrev s_law_window : Stmt := topS 24
abbrev s_law_jobs : Stmt := topS 25
abbrev slaw : Stmt := topS 26
theorem scconsists_of : FnScope ["word", "characters", "character"] ["word", "characters"] (defScope sconsists_of) := ⟨rfl, rfl, rfl, by decide +kernel, rfl, by decide +kernel, by decide +kernel⟩
theorem scis_name : FnScope ["word"] ["word"] (defScope sis_name) := ⟨rfl, rfl, rfl, by decide +kernel, rfl, by decide +kernel, by decide +kernel⟩
theorem scwhole : FnScope ["word", "most"] ["word", "most"] (defScope swhole) := ⟨rfl, rfl, rfl, by decide +kernel, rfl, by decide +kernel, by decide +kernel⟩
theorem scis_job : FnScope ["name", "comes", "due", "work"] ["name", "comes", "due", "work"] (defScope sis_job) := ⟨rfl, rfl, rfl, by decide +kernel, rfl, by decide +kernel, by decide +kernel⟩
theorem scwrite_jobs : FnScope ["jobs", "name", "comes", "due", "work"] ["jobs"] (defScope swrite_jobs) := ⟨rfl, rfl, rfl, by decide +kernel, rfl, by decide +kernel, by decide +kernel⟩
theorem scread_job : FnScope ["line", "words", "comes", "due", "work"] ["line"] (defScope sread_job) := ⟨rfl, rfl, rfl, by decide +kernel, rfl, by decide +kernel, by decide +kernel⟩
theorem scread_jobs : FnScope ["text", "lines", "ended", "jobs", "names", "index", "line", "job"] ["text"] (defScope sread_jobs) := ⟨rfl, rfl, rfl, by decide +kernel, rfl, by decide +kernel, by decide +kernel⟩
theorem sc_law_pool : FnScope ["script"] ["script"] (defScope s_law_pool) := ⟨rfl, rfl, rfl, by decide +kernel, rfl, by decide +kernel, by decide +kernel⟩
theorem sc_law_draw : FnScope ["pool", "many", "found", "cell", "mixed"] ["pool", "many"] (defScope s_law_draw) := ⟨rfl, rfl, rfl, by decide +kernel, rfl, by decide +kernel, by decide +kernel⟩
theorem sc_law_same : FnScope ["actual", "due", "k"] ["actual", "due"] (defScope s_law_same) := ⟨rfl, rfl, rfl, by decide +kernel, rfl, by decide +kernel, by decide +kernel⟩
theorem sc_law_name : FnScope ["pool", "index", "letter", "head"] ["pool", "index"] (defScope s_law_name) := ⟨rfl, rfl, rfl, by decide +kernel, rfl, by decide +kernel, by decide +kernel⟩
theorem sc_law_window : FnScope ["pool", "wide", "comes"] ["pool", "wide"] (defScope s_law_window) := ⟨rfl, rfl, rfl, by decide +kernel, rfl, by decide +kernel, by decide +kernel⟩
theorem sc_law_jobs : FnScope ["pool", "most", "wide", "jobs", "k", "comes", "due", "work", "other"] ["pool", "most"] (defScope s_law_jobs) := ⟨rfl, rfl, rfl, by decide +kernel, rfl, by decide +kernel, by decide +kernel⟩
theorem sclaw : FnScope ["script", "pool", "jobs", "text", "job"] ["script"] (defScope slaw) := ⟨rfl, rfl, rfl, by decide +kernel, rfl, by decide +kernel, by decide +kernel⟩
section
variable {P : Program} {w : World} {K : PySem.W.Frag} {mg : Str → Option Value} {base : Heap}
def spCons : Sp := fun vs H Q _ => ∃ w cs : Str, vs = [.str w, .str cs] ∧ Q (.bl (consB w cs)) H
theorem ok_consists_of (F : At K mg "consists_of" sconsists_of ["word", "characters"]) : Ok P w K mg base 1 "consists_of" ["word", "characters"] [] spCons := by
  refine F.ok scconsists_of (fun vs H Q E h => ?_) (fun f cdv A outer s H vs Q E hr h => ?_)
  · obtain ⟨x, cs, rfl, _⟩ := h
    rfl
  obtain ⟨x, cs, rfl, k⟩ := h
  refine ⟨_, (pss_cons (ps_for PassesOwn.never rfl (pi_str (pv 0)) (pg_name (i := 2) scconsists_of.nd rfl (Or.inl rfl))
        (pss_one (ps_if (pt_cmpR op_notIn_sign (pv 2) (pv 1) rfl)
          (pss_one (ps_ret pe_bl))
          pss_nil)))
      (pss_one (ps_ret (pe_cmpR op_ne (pv 0) pe_str (nomark _))))), ?_⟩
  refine ⟨_, rfl, x, rfl, for_str (fun i σ' H' => ∃ y, σ' = [some (.str x), some (.str cs), y] ∧ H' = H ∧ ∀ (m c : Nat), m < i → x.cps.toList[m]? = some c → c ∈ cs.cps.toList) ?_ ?_ ?_⟩
  · exact ⟨none, rfl, rfl, fun m c h => absurd h (Nat.not_lt_zero m)⟩
  · rintro i c σ' H' hc ⟨y, rfl, e, hm⟩
    subst e
    refine ⟨_, rfl, _, rfl, c, cs, rfl, rfl, _, rfl, ?_⟩
    by_cases z : c ∈ cs.cps.toList
    · rw [decide_eq_true z]
      refine iteF ⟨_, rfl, rfl, fun m d h1 h2 => ?_⟩
      by_cases h3 : m < i
      · exact hm m d h3 h2
      · have : m = i := by omega
        subst this
        rw [hc] at h2
        cases h2
        exact z
    · rw [decide_eq_false z]
      refine iteT ?_
      have e : consB x cs = false := by
        unfold consB
        rw [List.all_eq_false.mpr ⟨c, List.mem_of_getElem? hc, by rw [decide_eq_false z]; exact Bool.false_ne_true⟩]
        rfl
      rw [e] at k
      exact k
  · rintro σ' H' ⟨y, rfl, e, hm⟩
    subst e
    refine ⟨_, rfl, rfl, ?_⟩
    have e : consB x cs = !decide (V.str x = V.str ("" : Str)) := by
      unfold consB
      rw [List.all_eq_true.mpr fun c hc => ?_, Bool.true_and]
      obtain ⟨m, hm2⟩ := List.getElem?_of_mem hc
      exact decide_eq_true (hm m c (List.getElem?_eq_some_iff.mp hm2).1 hm2)
    rw [e] at k
    exact k

/-- the names of the text's modules -/
structure GS (mg : Str → Option Value) : Prop where
  LETTERS : ∃ t, mg "LETTERS" = some (.str LET t)
  DIGITS : ∃ t, mg "DIGITS" = some (.str DIG t)
  LONGEST_NAME : ∃ t, mg "LONGEST_NAME" = some (.int 8 t)
  MOST_JOBS : ∃ t, mg "MOST_JOBS" = some (.int 12 t)
  LATEST : ∃ t, mg "LATEST" = some (.int 10000 t)
  MOST_WORK : ∃ t, mg "MOST_WORK" = some (.int 10000 t)
  MOST_DIGITS : ∃ t, mg "MOST_DIGITS" = some (.int 5 t)
def spName1 : Sp := fun vs H Q _ => ∃ x : Str, vs = [.str x] ∧ x.length ≤ sizeLine ∧ Q (.bl (nameB x)) H
theorem ok_is_name (B : BI mg) (G : GS mg) (F : At K mg "is_name" sis_name ["word"]) (C_consists_of : Ok P w K mg base 1 "consists_of" ["word", "characters"] [] spCons) : Ok P w K mg base 2 "is_name" ["word"] [] spName1 := by
  refine F.ok scis_name (fun vs H Q E h => ?_) (fun f cdv A outer s H vs Q E hr h => ?_)
  · obtain ⟨x, rfl, _⟩ := h
    rfl
  obtain ⟨x, rfl, hx, k⟩ := h
  obtain ⟨t1, hLETTERS⟩ := G.LETTERS
  obtain ⟨t2, hLONGEST_NAME⟩ := G.LONGEST_NAME
  refine ⟨_, (pss_one (ps_ret (pe_and (pe_cmpR op_le (pe_callB call_len_str rfl B.len PySem.boot_len (pa_cons (pv 0) pa_nil)) (pe_glob (v := .int 8) rfl hLONGEST_NAME ⟨_, rfl⟩) (nomark _)) (pe_one (pe_ok C_consists_of (hr.mono (by first | decide | exact Nat.le_refl _)) rfl (pa_cons (pv 0) (pa_cons (pe_glob (v := .str LET) rfl hLETTERS ⟨_, rfl⟩) pa_nil))))))), ?_⟩
  unfold nameB at k
  refine ⟨_, rfl, x, rfl, hx, _, _, rfl, rfl, _, rfl, ?_⟩
  cases e : decide ((x.length : Int) ≤ 8) with
  | false =>
    refine iteF ?_
    rw [e] at k
    exact k
  | true =>
    refine iteT ⟨_, rfl, x, LET, rfl, ?_⟩
    rw [e, Bool.true_and] at k
    exact k

def spWhole : Sp := fun vs H Q _ => ∃ (x : Str) (m : Int), vs = [.str x, .int m] ∧ x.length ≤ sizeLine ∧ m ≤ 640 ∧ Q (oV (wholeO x m)) H
theorem ok_whole (B : BI mg) (G : GS mg) (F : At K mg "whole" swhole ["word", "most"]) (C_consists_of : Ok P w K mg base 1 "consists_of" ["word", "characters"] [] spCons) : Ok P w K mg base 2 "whole" ["word", "most"] [] spWhole := by
  refine F.ok scwhole (fun vs H Q E h => ?_) (fun f cdv A outer s H vs Q E hr h => ?_)
  · obtain ⟨x, m, rfl, _⟩ := h
    rfl
  obtain ⟨x, m, rfl, hx, hm, k⟩ := h
  obtain ⟨t1, hDIGITS⟩ := G.DIGITS
  refine ⟨_, (pss_cons (ps_if (PW.pt (pw_or (pt_cmpR op_gt (pe_callB call_len_str rfl B.len PySem.boot_len (pa_cons (pv 0) pa_nil)) (pv 1) (nomark _)) (pw_or1 (pt_not (pt_val (pe_ok C_consists_of (hr.mono (by first | decide | exact Nat.le_refl _)) rfl (pa_cons (pv 0) (pa_cons (pe_glob (v := .str DIG) rfl hDIGITS ⟨_, rfl⟩) pa_nil))))))))
        (pss_one (ps_ret pe_non))
        pss_nil)
      (pss_cons (ps_if (PW.pt (pw_and (pt_cmpR op_eq (pe_ix ix_str (pv 0) pe_int (fun _ _ => rfl)) pe_str (nomark _)) (pw_and1 (pt_cmpR op_ne (pv 0) pe_str (nomark _)))))
        (pss_one (ps_ret pe_non))
        pss_nil)
      (pss_one (ps_ret (pe_callTy call_int_str rfl B.int (by decide +kernel) (pa_cons (pv 0) pa_nil)))))), ?_⟩
  unfold wholeO at k
  have fin : ∀ {b : Bool}, b = true → (b = true) := fun h => h
  refine ⟨_, rfl, x, rfl, hx, _, rfl, _, _, rfl, rfl, _, rfl, ?_⟩
  cases e : decide (m < (x.length : Int)) with
  | true =>
    refine iteT (iteT ?_)
    rw [e, if_pos (by rfl)] at k
    exact k
  | false =>
    refine iteF ⟨_, rfl, x, DIG, rfl, _, rfl, ?_⟩
    rw [e] at k
    cases e2 : consB x DIG with
    | false =>
      refine iteT ?_
      rw [e2, if_pos (by rfl)] at k
      exact k
    | true =>
      refine iteF ?_
      rw [e2, if_neg (by decide)] at k
      have e3 := e2
      unfold consB at e3
      rw [Bool.and_eq_true] at e3
      have hne : x.cps.toList ≠ [] := fun z => by
        have : x = ("" : Str) := TL.ext_tl (by show x.cps.toList = _; rw [z]; decide +kernel)
        rw [this] at e3
        exact absurd e3.2 (by decide)
      have hall : NumText.AllDigits x.cps.toList := fun c hc => in_dig.mp (of_decide_eq_true (List.all_eq_true.mp e3.1 c hc))
      obtain ⟨c, r, ec⟩ := List.exists_cons_of_ne_nil hne
      have lx : x.length ≤ 640 := by
        have := of_decide_eq_false e
        omega
      refine ⟨_, rfl, x, 0, c, rfl, rfl, hx, by rw [ec]; exact atI_nat (j := 0) rfl, rfl, _, rfl, ?_⟩
      have h1 : (decide (x.cps.toList.head? = some 48)) = decide (V.str ⟨#[c]⟩ = V.str ("0" : Str)) := by
        rw [ec]
        refine decide_eq_decide.mpr ⟨fun z => ?_, fun z => ?_⟩
        · have : c = 48 := Option.some.inj z
          subst this
          exact congrArg V.str (TL.ext_tl (by decide +kernel))
        · have z2 := congrArg TL.tl (V.str.inj z)
          rw [show TL.tl ("0" : Str) = [48] by decide +kernel] at z2
          have z3 : [c] = [48] := z2
          rw [(List.cons.inj z3).1]
          rfl
      have h2 : (decide (x = ("0" : Str))) = decide (V.str x = V.str ("0" : Str)) := decide_eq_decide.mpr ⟨fun z => by rw [z], fun z => V.str.inj z⟩
      rw [h1, h2] at k
      have done : Q (.int ((NumText.digitsVal x.cps.toList : Nat) : Int)) H → ∃ a n, [V.str x] = [V.str a] ∧ PySem.intText? a = some n ∧ a.length ≤ 640 ∧ Q (.int n) H := fun q => ⟨x, _, rfl, intText_digits hall hne (by omega), lx, q⟩
      cases e4 : decide (V.str ⟨#[c]⟩ = V.str ("0" : Str)) with
      | false =>
        refine iteF (iteF ?_)
        rw [e4, if_neg (by rw [Bool.false_and]; decide)] at k
        exact ⟨_, rfl, done k⟩
      | true =>
        rw [e4] at k
        refine iteT ⟨_, rfl, rfl, _, rfl, ?_⟩
        cases e5 : decide (V.str x = V.str ("0" : Str)) with
        | true =>
          refine iteF ?_
          rw [e5, if_neg (by decide)] at k
          exact ⟨_, rfl, done k⟩
        | false =>
          refine iteT ?_
          rw [e5, if_pos (by rfl)] at k
          exact k

def spIsJob : Sp := fun vs H Q _ => ∃ (n : Str) (c d v : Int), vs = [.str n, .int c, .int d, .int v] ∧ n.length ≤ sizeLine ∧ Q (.bl (jobB n c d v)) H
theorem ok_is_job (B : BI mg) (G : GS mg) (F : At K mg "is_job" sis_job ["name", "comes", "due", "work"]) (C_is_name : Ok P w K mg base 2 "is_name" ["word"] [] spName1) : Ok P w K mg base 3 "is_job" ["name", "comes", "due", "work"] [] spIsJob := by
  refine F.ok scis_job (fun vs H Q E h => ?_) (fun f cdv A outer s H vs Q E hr h => ?_)
  · obtain ⟨n, c, d, v, rfl, _⟩ := h
    rfl
  obtain ⟨n, c, d, v, rfl, hn, k⟩ := h
  obtain ⟨t1, hLATEST⟩ := G.LATEST
  obtain ⟨t2, hMOST_WORK⟩ := G.MOST_WORK
  refine ⟨_, (pss_cons (ps_if (pt_not (pt_val (pe_ok C_is_name (hr.mono (by first | decide | exact Nat.le_refl _)) rfl (pa_cons (pv 0) pa_nil))))
        (pss_one (ps_ret pe_bl))
        pss_nil)
      (pss_one (ps_ret (pe_and (pe_chain3 op_le op_lt op_le pe_int (pv 1) (pv 2) (pe_glob (v := .int 10000) rfl hLATEST ⟨_, rfl⟩)) (pe_one (pe_chain op_le op_le pe_int (pv 3) (pe_glob (v := .int 10000) rfl hMOST_WORK ⟨_, rfl⟩))))))), ?_⟩
  unfold jobB at k
  refine ⟨_, rfl, n, rfl, hn, _, rfl, ?_⟩
  cases e : nameB n with
  | false =>
    refine iteT ?_
    rw [e] at k
    exact k
  | true =>
    refine iteF ?_
    rw [e, Bool.true_and] at k
    refine ⟨_, rfl, _, _, rfl, rfl, _, rfl, ?_⟩
    cases e1 : decide (0 ≤ c) with
    | false =>
      refine iteF ⟨_, rfl, iteF ?_⟩
      rw [e1] at k
      exact k
    | true =>
      rw [e1] at k
      refine iteT ⟨_, rfl, _, _, rfl, rfl, _, rfl, ?_⟩
      cases e2 : decide (c < d) with
      | false =>
        refine iteF ⟨_, rfl, iteF ?_⟩
        rw [e2] at k
        exact k
      | true =>
        rw [e2] at k
        refine iteT ⟨_, _, rfl, rfl, _, rfl, ?_⟩
        cases e3 : decide (d ≤ 10000) with
        | false =>
          refine iteF ?_
          rw [e3] at k
          exact k
        | true =>
          rw [e3] at k
          refine iteT ⟨_, rfl, _, _, rfl, rfl, _, rfl, ?_⟩
          cases e4 : decide (1 ≤ v) with
          | false =>
            refine iteF ?_
            rw [e4] at k
            exact k
          | true =>
            rw [e4] at k
            exact iteT ⟨_, _, rfl, rfl, k⟩

theorem e_app (x : Str) : Str.empty ++ x = x := TL.ext_tl (by rw [TL.tl_append]; rfl)
theorem len_app (x y : Str) : (x ++ y).length = x.length + y.length := by rw [str_len, str_len, str_len, str_app, List.length_append]
theorem log_ok {i : Int} (h0 : 0 ≤ i) (h1 : i ≤ 10000) : i.natAbs.log2 < 1920 :=
  Nat.lt_of_lt_of_le (PySem.Flt.log2_lt_of (k := 14) (by decide) (by show i.natAbs < 2 ^ 14; omega)) (by decide)
theorem sum_le {k : Nat} : ∀ {ys : List Str}, (∀ y ∈ ys, y.length ≤ k) → (ys.map (·.length)).sum ≤ k * ys.length
  | [], _ => Nat.zero_le _
  | y :: ys, h => by
    have a := h y (List.mem_cons_self ..)
    have b := sum_le (ys := ys) fun z hz => h z (List.mem_cons_of_mem _ hz)
    rw [List.map_cons, List.sum_cons, List.length_cons, Nat.mul_add]
    omega
theorem take_one {α : Type} {l : List α} {i : Nat} {x : α} (h : l[i]? = some x) : l.take (i + 1) = l.take i ++ [x] := by
  rw [List.take_add_one, h]
  rfl
/-- the parts of a line are short -/
structure Sh (j : Job) : Prop where
  n : j.n.length ≤ 6
  c : (nt j.c).length ≤ 5
  d : (nt j.d).length ≤ 5
  v : (nt j.w).length ≤ 5
  lc : j.c.natAbs.log2 < 1920
  ld : j.d.natAbs.log2 < 1920
  lv : j.w.natAbs.log2 < 1920
theorem JobsOk.sh {js : List Job} {j : Job} (h : JobsOk js) (hj : j ∈ js) : Sh j := by
  have o := h.ok j hj
  obtain ⟨i, hi⟩ := List.getElem?_of_mem hj
  have n := h.nm i j hi
  have := o.c0
  have := o.cd
  have := o.d1
  have := o.w0
  have := o.w1
  exact ⟨n.len, nt_len (by omega) (by omega), nt_len (by omega) (by omega), nt_len (by omega) (by omega), log_ok (by omega) (by omega), log_ok (by omega) (by omega), log_ok (by omega) (by omega)⟩
theorem Sh.line {j : Job} (h : Sh j) : (lineT j).length ≤ 25 := by
  have := h.n
  have := h.c
  have := h.d
  have := h.v
  have e1 : (" " : Str).length = 1 := by decide +kernel
  have e2 : ("\n" : Str).length = 1 := by decide +kernel
  unfold lineT lineB
  simp only [len_app, e1, e2]
  omega
theorem text_sum {js : List Job} (h : JobsOk js) (hl : js.length ≤ 12) : ((js.map lineT).map (·.length)).sum + (js.map lineT).length * ("" : Str).length ≤ 16777216 := by
  have := sum_le (k := 25) (ys := js.map lineT) fun y hy => by
    obtain ⟨j, hj, rfl⟩ := List.mem_map.mp hy
    exact (h.sh hj).line
  have e1 : ("" : Str).length = 0 := by decide +kernel
  rw [e1, List.length_map] at *
  omega
def spWrite (K : PySem.W.Frag) : Sp := fun vs H Q _ => ∃ (J : Addr) (xs : List V) (js : List Job), vs = [.ref J] ∧ SqT K H J xs ∧ IsA K H xs (js.map dJob) ∧ JobsOk js ∧ js.length ≤ 12 ∧ ∀ H', Same H H' → Q (.str (textOf js)) H'
theorem ok_write_jobs (B : BI mg) (F : At K mg "write_jobs" swrite_jobs ["jobs"]) : Ok P w K mg base 1 "write_jobs" ["jobs"] [] (spWrite K) := by
  refine F.ok scwrite_jobs (fun vs H Q E h => ?_) (fun f cdv A outer s H vs Q E hr h => ?_)
  · obtain ⟨J, xs, js, rfl, _⟩ := h
    rfl
  obtain ⟨J, xs, js, rfl, hS, hI, hj, hl, k⟩ := h
  refine ⟨_, (pss_one (ps_ret (pe_join pe_str (pe_lc (own := [("name", 1), ("comes", 2), ("due", 3), ("work", 4)]) (g := gTup K 4 (gCons (gName 1) (gCons (gName 2) (gCons (gName 3) (gCons (gName 4) (gNil)))))) (tt := tYes) rfl scwrite_jobs.nd (pi_tup (pv 0)) (blkOk_by (own := [("name", 1), ("comes", 2), ("due", 3), ("work", 4)]) (N := ["jobs", "name", "comes", "due", "work"]) (sc := defScope swrite_jobs) (by decide +kernel)) (fun _ _ _ _ _ => (pg_tup rfl (pgs_cons (pg_name (i := 1) scwrite_jobs.nd rfl (Or.inl rfl)) (pgs_cons (pg_name (i := 2) scwrite_jobs.nd rfl (Or.inl rfl)) (pgs_cons (pg_name (i := 3) scwrite_jobs.nd rfl (Or.inl rfl)) (pgs_cons (pg_name (i := 4) scwrite_jobs.nd rfl (Or.inl rfl)) pgs_nil)))))) (fun _ _ _ _ _ => pts_nil) (fun _ _ _ _ _ => (pe_joined (PJ.cons (pe_fmt (pv 1)) (PJ.cons pe_str (PJ.cons (pe_fmt (pv 2)) (PJ.cons pe_str (PJ.cons (pe_fmt (pv 3)) (PJ.cons pe_str (PJ.cons (pe_fmt (pv 4)) (PJ.cons pe_str PJ.nil)))))))))))))), ?_⟩
  have lx : xs.length = js.length := by rw [hI.len, List.length_map]
  refine ⟨⟨_, rfl⟩, _, rfl, J, rfl, ⟨_, hS⟩, fun D hD => ?_⟩
  have e1 : (" " : Str).length = 1 := by decide +kernel
  have e2 : ("\n" : Str).length = 1 := by decide +kernel
  have e0 : Str.empty.length = 0 := by decide +kernel
  refine lc_tup (xs := xs) (g := gTup K 4 (gCons (gName 1) (gCons (gName 2) (gCons (gName 3) (gCons (gName 4) gNil))))) (tt := tYes) (vs := [1, 2, 3, 4]) (te := fun σ H Q => tJs [tFmt (tVar 1), tC (V.str (" " : Str)), tFmt (tVar 2), tC (V.str (" " : Str)), tFmt (tVar 3), tC (V.str (" " : Str)), tFmt (tVar 4), tC (V.str ("\n" : Str))] Str.empty σ H fun out H1 => Q (V.str out) H1) (fun i H1 => Same H H1 ∧ H1 D = some (.lst (((js.take i).map lineT).map V.str))) ⟨same_upd hD, upd_same⟩ (fun i H1 _ h => Tm.sq (Same.tm h.1) hS) ?_ ?_
  · rintro i v H1 hv ⟨s1, h1⟩
    obtain ⟨d, hd0, iv⟩ := hI.at hv
    obtain ⟨j, hjj, rfl⟩ := getJ hd0
    have sh := hj.sh (List.mem_of_getElem? hjj)
    have n1 := sh.n
    have n2 := sh.c
    have n3 := sh.d
    have n4 := sh.v
    obtain ⟨tj, rfl, sj⟩ := job_at (iv.to (Same.tm s1))
    refine ⟨tj, _, rfl, sj, rfl, .str j.n, _, rfl, .int j.c, _, rfl, .int j.d, _, rfl, .int j.w, _, rfl, rfl, rfl, ?_⟩
    refine ⟨_, rfl, .inl ⟨j.n, rfl, small5 (by omega), j.n, rfl, small5 (by simp only [len_app, e0, e1, e2]; omega), ?_⟩⟩
    refine ⟨_, rfl, small5 (by simp only [len_app, e0, e1, e2]; omega), _, rfl, .inr ⟨j.c, rfl, sh.lc, nt j.c, rfl, small5 (by simp only [len_app, e0, e1, e2]; omega), ?_⟩⟩
    refine ⟨_, rfl, small5 (by simp only [len_app, e0, e1, e2]; omega), _, rfl, .inr ⟨j.d, rfl, sh.ld, nt j.d, rfl, small5 (by simp only [len_app, e0, e1, e2]; omega), ?_⟩⟩
    refine ⟨_, rfl, small5 (by simp only [len_app, e0, e1, e2]; omega), _, rfl, .inr ⟨j.w, rfl, sh.lv, nt j.w, rfl, small5 (by simp only [len_app, e0, e1, e2]; omega), ?_⟩⟩
    refine ⟨_, rfl, small5 (by simp only [len_app, e0, e1, e2]; omega), ?_⟩
    refine ⟨_, h1, small5' (by rw [List.length_map, List.length_map, List.length_take]; omega), Z.Same.mut s1 hD, ?_⟩
    rw [take_one hjj, List.map_append, List.map_append, e_app]
    exact upd_same
  · rintro H1 ⟨s1, h1⟩
    rw [lx, List.take_length] at h1
    exact ⟨_, D, js.map lineT, rfl, rfl, .inl (SqL.of h1), text_sum hj hl, k _ s1⟩

def spReadJob (K : PySem.W.Frag) : Sp := fun vs H Q _ => ∃ x : Str, vs = [.str x] ∧ x.length + 2 ≤ sizeLine ∧ (∀ y ∈ Txt.split x (" " : Str), y.length ≤ sizeLine) ∧ (readJobO x = none → ∀ H', Same H H' → Q .non H') ∧
  ∀ j, readJobO x = some j → ∀ v H', Same H H' → Is K H' v (dJob j) → Q v H'
theorem ok_read_job (B : BI mg) (G : GS mg) (F : At K mg "read_job" sread_job ["line"]) (C_whole : Ok P w K mg base 2 "whole" ["word", "most"] [] spWhole) (C_is_job : Ok P w K mg base 3 "is_job" ["name", "comes", "due", "work"] [] spIsJob) : Ok P w K mg base 4 "read_job" ["line"] [] (spReadJob K) := by
  refine F.ok scread_job (fun vs H Q E h => ?_) (fun f cdv A outer s H vs Q E hr h => ?_)
  · obtain ⟨x, rfl, _⟩ := h
    rfl
  obtain ⟨x, rfl, hx, hy, k0, k1⟩ := h
  obtain ⟨t1, hMOST_DIGITS⟩ := G.MOST_DIGITS
  refine ⟨_, (pss_cons (ps_set (i := 1) scread_job.nd rfl (Or.inl rfl) (pe_split (pv 0) pe_str))
      (pss_cons (ps_if (pt_cmpR op_ne (pe_callB call_len_seq rfl B.len PySem.boot_len (pa_cons (pv 1) pa_nil)) pe_int (nomark _))
        (pss_one (ps_ret pe_non))
        pss_nil)
      (pss_cons (ps_set (i := 2) scread_job.nd rfl (Or.inl rfl) (pe_ok C_whole (hr.mono (by first | decide | exact Nat.le_refl _)) rfl (pa_cons (pe_ix ix_list (pv 1) pe_int (fun _ _ => rfl)) (pa_cons (pe_glob (v := .int 5) rfl hMOST_DIGITS ⟨_, rfl⟩) pa_nil))))
      (pss_cons (ps_set (i := 3) scread_job.nd rfl (Or.inl rfl) (pe_ok C_whole (hr.mono (by first | decide | exact Nat.le_refl _)) rfl (pa_cons (pe_ix ix_list (pv 1) pe_int (fun _ _ => rfl)) (pa_cons (pe_glob (v := .int 5) rfl hMOST_DIGITS ⟨_, rfl⟩) pa_nil))))
      (pss_cons (ps_set (i := 4) scread_job.nd rfl (Or.inl rfl) (pe_ok C_whole (hr.mono (by first | decide | exact Nat.le_refl _)) rfl (pa_cons (pe_ix ix_list (pv 1) pe_int (fun _ _ => rfl)) (pa_cons (pe_glob (v := .int 5) rfl hMOST_DIGITS ⟨_, rfl⟩) pa_nil))))
      (pss_cons (ps_if (PW.pt (pw_or (pt_cmpR op_isN (pv 2) pe_non (nomark _)) (pw_or (pt_cmpR op_isN (pv 3) pe_non (nomark _)) (pw_or1 (pt_cmpR op_isN (pv 4) pe_non (nomark _))))))
        (pss_one (ps_ret pe_non))
        pss_nil)
      (pss_cons (ps_if (pt_not (pt_val (pe_ok C_is_job (hr.mono (by first | decide | exact Nat.le_refl _)) rfl (pa_cons (pe_ix ix_list (pv 1) pe_int (fun _ _ => rfl)) (pa_cons (pv 2) (pa_cons (pv 3) (pa_cons (pv 4) pa_nil)))))))
        (pss_one (ps_ret pe_non))
        pss_nil)
      (pss_one (ps_ret (pe_tup (pa_cons (pe_ix ix_list (pv 1) pe_int (fun _ _ => rfl)) (pa_cons (pv 2) (pa_cons (pv 3) (pa_cons (pv 4) pa_nil)))))))))))))), ?_⟩
  refine ⟨_, rfl, ⟨_, rfl⟩, x, (" " : Str), rfl, rfl, by decide +kernel, hx, fun L nL => ?_⟩
  have sL := same_upd (o := .lst ((Txt.split x (" " : Str)).map V.str)) nL
  have qL : (upd H L (.lst ((Txt.split x (" " : Str)).map V.str))) L = some (.lst ((Txt.split x (" " : Str)).map V.str)) := upd_same
  unfold readJobO at k0 k1
  revert sL qL hy k0 k1
  generalize Txt.split x (" " : Str) = ws
  intro hy k0 k1 sL qL
  refine ⟨_, rfl, L, _, rfl, .inl (SqL.of qL), rfl, _, rfl, ?_⟩
  by_cases h4 : ws.length = 4
  · obtain ⟨a, b, c, d, rfl⟩ : ∃ a b c d, ws = [a, b, c, d] := by
      match ws, h4 with
      | [a, b, c, d], _ => exact ⟨a, b, c, d, rfl⟩
    have ha := hy a (by simp)
    have hb := hy b (by simp)
    have hc := hy c (by simp)
    have hd := hy d (by simp)
    refine iteF ?_
    refine ⟨_, rfl, L, _, 1, _, rfl, rfl, SqL.of qL, rfl, b, 5, rfl, hb, by decide, ?_⟩
    refine ⟨_, rfl, L, _, 2, _, rfl, rfl, SqL.of qL, rfl, c, 5, rfl, hc, by decide, ?_⟩
    refine ⟨_, rfl, L, _, 3, _, rfl, rfl, SqL.of qL, rfl, d, 5, rfl, hd, by decide, ?_⟩
    dsimp only at k0 k1
    cases e1 : wholeO b 5 with
    | none =>
      rw [e1] at k0
      exact ⟨_, rfl, rfl, _, rfl, ite2 (fun _ => iteT (k0 rfl _ sL)) (fun c => absurd (decide_eq_true rfl) c)⟩
    | some vb =>
      refine ⟨_, rfl, rfl, _, rfl, ite2 (fun c => absurd (of_decide_eq_true c) (fun z => nomatch z)) (fun _ => ?_)⟩
      rw [e1] at k0 k1
      cases e2 : wholeO c 5 with
      | none =>
        rw [e2] at k0
        exact ⟨_, rfl, rfl, _, rfl, ite2 (fun _ => iteT (k0 rfl _ sL)) (fun c => absurd (decide_eq_true rfl) c)⟩
      | some vc =>
        refine ⟨_, rfl, rfl, _, rfl, ite2 (fun c => absurd (of_decide_eq_true c) (fun z => nomatch z)) (fun _ => ?_)⟩
        rw [e2] at k0 k1
        cases e3 : wholeO d 5 with
        | none =>
          rw [e3] at k0
          exact ⟨_, rfl, rfl, _, rfl, ite2 (fun _ => (k0 rfl _ sL)) (fun c => absurd (decide_eq_true rfl) c)⟩
        | some vd =>
          refine ⟨_, rfl, rfl, _, rfl, ite2 (fun c => absurd (of_decide_eq_true c) (fun z => nomatch z)) (fun _ => ?_)⟩
          rw [e3] at k0 k1
          dsimp only at k0 k1
          refine ⟨_, rfl, L, _, 0, _, rfl, rfl, SqL.of qL, rfl, _, rfl, _, rfl, _, rfl, a, vb, vc, vd, rfl, ha, _, rfl, ?_⟩
          cases e4 : jobB a vb vc vd with
          | false =>
            rw [e4] at k0
            exact iteT (k0 rfl _ sL)
          | true =>
            rw [e4] at k1
            refine iteF ?_
            refine ⟨_, rfl, L, _, 0, _, rfl, rfl, SqL.of qL, rfl, _, rfl, _, rfl, _, rfl, (by show 4 ≤ sizeLine; decide), fun t nt => ?_⟩
            exact k1 ⟨a, vb, vc, vd⟩ rfl _ _ (sL.trans (same_upd nt)) (is_job (j := ⟨a, vb, vc, vd⟩) (SqT.of upd_same))
  · have hn : (match ws with
      | [a, b, c, d] => match wholeO b 5, wholeO c 5, wholeO d 5 with
        | some x, some y, some z => if jobB a x y z = true then some (⟨a, x, y, z⟩ : Job) else none
        | _, _, _ => none
      | _ => none) = none := by
      match ws, h4 with
      | [], _ => rfl
      | [_], _ => rfl
      | [_, _], _ => rfl
      | [_, _, _], _ => rfl
      | [_, _, _, _], h => exact absurd rfl h
      | _ :: _ :: _ :: _ :: _ :: _, _ => rfl
    refine ite2 (fun _ => k0 hn _ sL) (fun c => ?_)
    refine absurd ?_ c
    rw [decide_eq_false]
    · rfl
    · intro z
      have := V.int.inj z
      rw [List.length_map] at this
      omega

theorem ok_law_pool (B : BI mg) (F : At K mg "_law_pool" s_law_pool ["script"]) : Ok P w K mg base 1 "_law_pool" ["script"] [] (spPool K) := by
  refine F.ok sc_law_pool (fun vs H Q E h => ?_) (fun f cdv A outer s H vs Q E hr h => ?_)
  · obtain ⟨a, ns, rfl, _⟩ := h
    rfl
  obtain ⟨a, ns, rfl, hS, hl, q⟩ := h
  refine ⟨_, (pss_one (ps_ret (pe_lst (pa_cons (pe_callTy call_list_of rfl B.list (by decide +kernel) (pa_cons (pv 0) pa_nil)) (pa_cons pe_int (pa_cons pe_int (pa_cons pe_int (pa_cons pe_int pa_nil)))))))), ?_⟩
  refine ⟨_, rfl, a, _, rfl, .inl hS, fun l hl' => ⟨(by show 5 ≤ sizeLine; decide), fun p hp => ?_⟩⟩
  have n : p ≠ l := fun e => by rw [e, upd_same] at hp; cases hp
  refine q p l _ ?_ (fun b o e => ?_) ⟨ns, 0, 0, 0, 0, n.symm, upd_same, by rw [upd_ne n.symm, upd_same], hl, by omega, by omega, by omega, by omega, by omega⟩
  · rw [upd_ne n] at hp
    exact hp
  · rw [upd_ne (fun z => by rw [z] at e; rw [upd_ne n] at hp; rw [hp] at e; cases e), upd_ne (ne_of_none e hl')]
    exact e

theorem ok_law_draw (B : BI mg) (F : At K mg "_law_draw" s_law_draw ["pool", "many"]) : Ok P w K mg base 1 "_law_draw" ["pool", "many"] [] spDraw := by
  refine F.ok sc_law_draw (fun vs H Q E h => ?_) (fun f cdv A outer s H vs Q E hr h => ?_)
  · obtain ⟨p, a, m, rfl, _⟩ := h
    rfl
  obtain ⟨p, a, m, rfl, hP, m0, m1, q⟩ := h
  refine ⟨_, (pss_cons (ps_if (pt_cmpR op_gt (pe_ix ix_list (pv 0) pe_int (fun _ _ => rfl)) pe_int (nomark _))
        (pss_cons (ps_set (i := 2) sc_law_draw.nd rfl (Or.inl rfl) (pe_op op_modN (pe_callTy call_int1 rfl B.int (by decide +kernel) (pa_cons (pe_ix ix_list (pv 0) pe_int (fun _ _ => rfl)) pa_nil)) (pv 1)))
        (pss_cons (ps_asg (pe_op op_fdivX (pe_ix ix_list (pv 0) pe_int (fun _ _ => rfl)) (pv 1)) (pg_sub (pv 0) pe_int set_list))
        (pss_one (ps_ret (pv 2)))))
        pss_nil)
      (Evl.pss_cut (ps_if (PW.pt (pw_and (pt_cmpR op_eq (pe_op op_modN (pe_callTy call_int1 rfl B.int (by decide +kernel) (pa_cons (pe_ix ix_list (pv 0) pe_int (fun _ _ => rfl)) pa_nil)) pe_int) pe_int (nomark _)) (pw_and1 (pt_cmpR op_lt (pe_ix ix_list (pv 0) pe_int (fun _ _ => rfl)) (pe_callB call_len_seq rfl B.len PySem.boot_len (pa_cons (pe_ix ix_list (pv 0) pe_int (fun _ _ => rfl)) pa_nil)) (nomark _)))))
        (pss_cons (ps_set (i := 3) sc_law_draw.nd rfl (Or.inl rfl) (pe_callB call_abs rfl B.abs (by decide +kernel) (pa_cons (pe_ix ix_list (pe_ix ix_list (pv 0) pe_int (fun _ _ => rfl)) (pe_ix ix_list (pv 0) pe_int (fun _ _ => rfl)) (fun _ _ => rfl)) pa_nil)))
        (pss_cons (ps_asg (pe_op op_add (pe_ix ix_list (pv 0) pe_int (fun _ _ => rfl)) pe_int) (pg_sub (pv 0) pe_int set_list))
        (pss_cons (ps_if (pt_cmpR op_ge (pv 3) (pe_op op_pow pe_int pe_int) (nomark _))
          (pss_cons (ps_asg (pe_op op_fdivX (pv 3) (pv 1)) (pg_sub (pv 0) pe_int set_list))
          (pss_one (ps_ret (pe_op op_modN (pe_callTy call_int1 rfl B.int (by decide +kernel) (pa_cons (pv 3) pa_nil)) (pv 1)))))
          pss_nil)
        (pss_one (ps_asg (pv 3) (pg_sub (pv 0) pe_int set_list))))))
        pss_nil)
      (pss_cons (ps_asg (pe_op op_add (pe_ix ix_list (pv 0) pe_int (fun _ _ => rfl)) pe_int) (pg_sub (pv 0) pe_int set_list))
      (pss_cons (ps_set (i := 4) sc_law_draw.nd rfl (Or.inl rfl) (pe_op op_modN (pe_callTy call_int1 rfl B.int (by decide +kernel) (pa_cons (pe_op op_add (pe_op op_add (pe_op op_mulX (pe_ix ix_list (pv 0) pe_int (fun _ _ => rfl)) pe_int) (pe_op op_mulX (pe_ix ix_list (pv 0) pe_int (fun _ _ => rfl)) pe_int)) pe_int) pa_nil)) pe_int))
      (pss_cons (ps_set (i := 4) sc_law_draw.nd rfl (Or.inl rfl) (pe_op op_modN (pe_callTy call_int1 rfl B.int (by decide +kernel) (pa_cons (pe_op op_add (pe_op op_mulX (pv 4) (pv 4)) (pe_op op_mulX (pe_ix ix_list (pv 0) pe_int (fun _ _ => rfl)) pe_int)) pa_nil)) pe_int))
      (pss_one (ps_ret (pe_op op_modN (pe_callTy call_int1 rfl B.int (by decide +kernel) (pa_cons (pv 4) pa_nil)) (pv 1))))))))), ?_⟩
  obtain ⟨ns, i, rest, last, cnt, na, hp, ha, hn, i0, r0, l0, l1, c0⟩ := hP
  have mne : m ≠ 0 := by omega
  -- what is stored at p keeps the pool
  have keep : ∀ (H' : Hp) (i' rest' last' cnt' : Int), H' p = some (.lst [.ref a, .int i', .int rest', .int last', .int cnt']) → H' a = H a → 0 ≤ i' → 0 ≤ rest' → 0 ≤ last' → last' < 1000000000000000000 → 0 ≤ cnt' → Pl p a H' :=
    fun H' i' rest' last' cnt' h1 h2 h3 h4 h5 h6 h7 => ⟨ns, i', rest', last', cnt', na, h1, by rw [h2]; exact ha, hn, h3, h4, h5, h6, h7⟩
  -- if pool[2] > 0
  refine ⟨_, rfl, p, _, 2, _, rfl, rfl, SqL.of hp, rfl, _, _, rfl, rfl, _, rfl, ite2 (fun e => ?_) (fun e => ?_)⟩
  · have e1 : 0 < rest := of_decide_eq_true e
    refine ⟨_, rfl, p, _, 2, _, rfl, rfl, SqL.of hp, rfl, .inl ⟨_, rfl, _, rfl, _, _, rfl, rfl, mne, ?_⟩⟩
    refine ⟨_, rfl, p, _, 2, _, rfl, rfl, SqL.of hp, rfl, _, rfl, _, _, rfl, rfl, divX m0 m1, ?_⟩
    refine ⟨_, rfl, p, _, 2, _, rfl, rfl, hp, rfl, ?_⟩
    exact ⟨_, rfl, q _ _ (fm0 m0) (fm1 m0) .sto (keep _ _ _ _ _ upd_same (by rw [upd_ne na]) i0 (fd0 m0 r0) l0 l1 c0)⟩
  -- behind the second if: the count is as it was
  refine ⟨fun σ' H' => ∃ (i' last' : Int) (y2 y3 y4 : Option V), σ' = [some (.ref p), some (.int m), y2, y3, y4] ∧ Kp p H H' ∧ H' p = some (.lst [.ref a, .int i', .int rest, .int last', .int cnt]) ∧ H' a = H a ∧ 0 ≤ i' ∧ 0 ≤ last' ∧ last' < 1000000000000000000, ?_, ?_⟩
  · -- the second if
    refine ⟨_, rfl, p, _, 4, _, rfl, rfl, SqL.of hp, rfl, .inl ⟨_, rfl, _, _, rfl, rfl, (show (8 : Int) ≠ 0 by decide), rfl, _, rfl, ite2 (fun e2 => ?_) (fun e2 => iteF ?_)⟩⟩
    · refine ⟨_, rfl, p, _, 1, _, rfl, rfl, SqL.of hp, rfl, _, rfl, p, _, 0, _, rfl, rfl, SqL.of hp, rfl, a, _, rfl, .inl (SqL.of ha), _, _, rfl, rfl, _, rfl, ite2 (fun e3 => ?_) (fun e3 => ?_)⟩
      · have e4 : i < ((ns.map V.int).length : Int) := of_decide_eq_true e3
        rw [List.length_map] at e4
        have hi : i.toNat < ns.length := by omega
        have g0 : (ns.map V.int)[i.toNat]? = some (.int ns[i.toNat]) := by
          rw [List.getElem?_map, List.getElem?_eq_getElem hi]
          rfl
        have g : atI (ns.map V.int) i = some (.int ns[i.toNat]) := at_of (by omega) g0
        -- cell = abs(..)
        refine ⟨_, rfl, p, _, 0, _, rfl, rfl, SqL.of hp, rfl, _, rfl, p, _, 1, _, rfl, rfl, SqL.of hp, rfl, a, _, i, _, rfl, rfl, SqL.of ha, g, _, rfl, ?_⟩
        generalize hc : (if ns[i.toNat] < 0 then -ns[i.toNat] else ns[i.toNat]) = cell
        have cell0 : 0 ≤ cell := by rw [← hc]; split <;> omega
        -- pool[1] = pool[1] + 1
        refine ⟨_, rfl, p, _, 1, _, rfl, rfl, SqL.of hp, rfl, _, _, rfl, rfl, _, rfl, p, _, 1, _, rfl, rfl, hp, rfl, ?_⟩
        have h7 : (upd H p (.lst [.ref a, .int (i + 1), .int rest, .int last, .int cnt])) p = some (.lst [.ref a, .int (i + 1), .int rest, .int last, .int cnt]) := upd_same
        -- if cell >= 10 ** 18
        refine ⟨_, rfl, _, _, rfl, rfl, ⟨by decide, by decide, by decide⟩, _, _, rfl, rfl, _, rfl, ite2 (fun e5 => ?_) (fun e5 => ?_)⟩
        · refine ⟨_, rfl, _, rfl, _, _, rfl, rfl, divX m0 m1, _, rfl, p, _, 2, _, rfl, rfl, h7, rfl, ?_⟩
          refine ⟨_, rfl, .inl ⟨_, rfl, _, rfl, _, _, rfl, rfl, mne, ?_⟩⟩
          exact q _ _ (fm0 m0) (fm1 m0) (Kp.sto.trans .sto) (keep _ _ _ _ _ upd_same (by rw [upd_ne na, upd_ne na]) (by omega) (fd0 m0 cell0) l0 l1 c0)
        · have e6 : cell < 1000000000000000000 := by
            have z : ¬ ((10 : Int) ^ (18 : Int).toNat ≤ cell) := of_decide_eq_false (Bool.eq_false_iff.mpr e5)
            have y : (10 : Int) ^ (18 : Int).toNat = 1000000000000000000 := by decide +kernel
            omega
          refine ⟨_, rfl, _, rfl, p, _, 3, _, rfl, rfl, h7, rfl, ?_⟩
          exact ⟨i + 1, cell, none, some (.int cell), none, rfl, Kp.sto.trans .sto, upd_same, by rw [upd_ne na, upd_ne na], by omega, cell0, e6⟩
      · exact ⟨i, last, none, none, none, rfl, .refl _ _, hp, rfl, i0, l0, l1⟩
    · exact ⟨i, last, none, none, none, rfl, .refl _ _, hp, rfl, i0, l0, l1⟩
  · rintro σ' H' ⟨i', last', y2, y3, y4, rfl, k, h1, h2, h3, h5, h6⟩
    refine ⟨_, rfl, p, _, 4, _, rfl, rfl, SqL.of h1, rfl, _, _, rfl, rfl, _, rfl, p, _, 4, _, rfl, rfl, h1, rfl, ?_⟩
    have h7 : (upd H' p (.lst [.ref a, .int i', .int rest, .int last', .int (cnt + 1)])) p = some (.lst [.ref a, .int i', .int rest, .int last', .int (cnt + 1)]) := upd_same
    refine ⟨_, rfl, p, _, 3, _, rfl, rfl, SqL.of h7, rfl, _, _, rfl, rfl, mulR ⟨by decide, by decide⟩, ?_⟩
    refine ⟨_, rfl, p, _, 4, _, rfl, rfl, SqL.of h7, rfl, _, _, rfl, rfl, mulR ⟨by decide, by decide⟩, ?_⟩
    refine ⟨_, _, rfl, rfl, _, _, rfl, rfl, .inl ⟨_, rfl, _, _, rfl, rfl, (show (2147483647 : Int) ≠ 0 by decide), ?_⟩⟩
    refine ⟨_, rfl, _, rfl, _, _, rfl, rfl, mulF, ?_⟩
    refine ⟨_, rfl, p, _, 4, _, rfl, rfl, SqL.of h7, rfl, _, _, rfl, rfl, mulR ⟨by decide, by decide⟩, ?_⟩
    refine ⟨_, _, rfl, rfl, .inl ⟨_, rfl, _, _, rfl, rfl, (show (2147483399 : Int) ≠ 0 by decide), ?_⟩⟩
    refine ⟨_, rfl, .inl ⟨_, rfl, ?_⟩⟩
    refine ⟨_, rfl, _, _, rfl, rfl, mne, ?_⟩
    exact q _ _ (fm0 m0) (fm1 m0) (k.trans .sto) (keep _ _ _ _ _ h7 (by rw [upd_ne na]; exact h2) h3 r0 h5 h6 (by omega))

theorem ok_law_same_step (B : BI mg) (F : At K mg "_law_same" s_law_same ["actual", "due"]) {n : Nat} (C_law_same : Ok P w K mg base n "_law_same" ["actual", "due"] [] (spSame K n)) :
    Ok P w K mg base (n + 1) "_law_same" ["actual", "due"] [] (spSame K (n + 1)) := by
  refine F.ok sc_law_same (fun vs H Q E h => ?_) (fun f cdv A outer s H vs Q E hr h => ?_)
  · obtain ⟨x, y, d, e, rfl, _⟩ := h
    rfl
  obtain ⟨x, y, d, e, rfl, hx, hy, pd, pe, dp, q⟩ := h
  refine ⟨_, (pss_cons (ps_if (pt_val (pe_callB call_isi rfl B.isinstance (by decide +kernel) (pa_cons (pv 1) (pa_cons (pe_bltn (v := .ty "tuple") (by rfl) B.tuple (by decide +kernel) rfl) pa_nil))))
        (pss_cons (ps_if (PW.pt (pw_or (pt_not (pt_val (pe_callB call_isi rfl B.isinstance (by decide +kernel) (pa_cons (pv 0) (pa_cons (pe_bltn (v := .ty "tuple") (by rfl) B.tuple (by decide +kernel) rfl) pa_nil))))) (pw_or1 (pt_cmpR op_ne (pe_callB call_len_seq rfl B.len PySem.boot_len (pa_cons (pv 0) pa_nil)) (pe_callB call_len_seq rfl B.len PySem.boot_len (pa_cons (pv 1) pa_nil)) (nomark _)))))
          (pss_one (ps_ret pe_bl))
          pss_nil)
        (pss_one (ps_ret (pe_cmpR op_eq (pe_callB call_len_seq rfl B.len PySem.boot_len (pa_cons (pe_lc (own := [("k", 2)]) (g := gName 2) (tt := _) rfl sc_law_same.nd (pi_range1 rfl B.range (pa_cons (pe_callB call_len_seq rfl B.len PySem.boot_len (pa_cons (pv 1) pa_nil)) pa_nil)) (blkOk_by (own := [("k", 2)]) (N := ["actual", "due", "k"]) (sc := defScope s_law_same) (by decide +kernel)) (fun _ _ _ _ _ => (pg_name (i := 2) sc_law_same.nd rfl (Or.inl rfl))) (fun _ _ _ _ _ => (pts_one (pt_not (pt_val (pe_ok C_law_same (hr.mono (by first | decide | exact Nat.le_refl _)) rfl (pa_cons (pe_ix (ix_tupK (K := K) rfl) (pv 0) (pv 2) (fun _ _ => rfl)) (pa_cons (pe_ix (ix_tupK (K := K) rfl) (pv 1) (pv 2) (fun _ _ => rfl)) pa_nil))))))) (fun _ _ _ _ _ => (pv 2))) pa_nil)) pe_int (nomark _)))))
        pss_nil)
      (pss_cons (ps_if (pt_cmpR op_isN (pv 1) pe_non (nomark _))
        (pss_one (ps_ret (pe_cmpR op_isN (pv 0) pe_non (nomark _))))
        pss_nil)
      (pss_cons (ps_if (pt_val (pe_callB call_isi rfl B.isinstance (by decide +kernel) (pa_cons (pv 1) (pa_cons (pe_bltn (v := .ty "str") (by rfl) B.str (by decide +kernel) rfl) pa_nil))))
        (pss_one (ps_ret (pe_and (pe_callB call_isi rfl B.isinstance (by decide +kernel) (pa_cons (pv 0) (pa_cons (pe_bltn (v := .ty "str") (by rfl) B.str (by decide +kernel) rfl) pa_nil))) (pe_one (pe_cmpR op_eq (pv 0) (pv 1) (nomark _))))))
        pss_nil)
      (pss_one (ps_ret (pe_and (pe_callB call_isi rfl B.isinstance (by decide +kernel) (pa_cons (pv 0) (pa_cons (pe_bltn (v := .ty "int") (by rfl) B.int (by decide +kernel) rfl) pa_nil))) (pe_and (pe_not (pe_callB call_isi rfl B.isinstance (by decide +kernel) (pa_cons (pv 0) (pa_cons (pe_bltn (v := .ty "bool") (by rfl) B.bool (by decide +kernel) rfl) pa_nil)))) (pe_one (pe_cmpR op_eq (pv 0) (pv 1) (nomark _)))))))))), ?_⟩
  refine ⟨_, rfl, _, _, _, _, _, rfl, .ty _, hy.ty, kt_of e pe "tuple" (.inl rfl), _, rfl, ite2 (fun c => ?_) (fun c => ?_)⟩
  · obtain ⟨es, rfl, le, pes⟩ := ty_tuple pe (of_decide_eq_true c)
    obtain ⟨ya, ys, rfl, sy, ay⟩ := hy.tup'
    refine ⟨_, rfl, _, _, _, _, _, rfl, .ty _, hx.ty, kt_of d pd "tuple" (.inl rfl), _, rfl, ite2 (fun c2 => iteT ?_) (fun c2 => ?_)⟩
    · have c3 : ¬ tyD d = "tuple" := fun z => by rw [decide_eq_true z] at c2; cases c2
      exact q false _ (Same.refl _) ⟨fun z => (Bool.false_ne_true z).elim, fun z => by subst z; exact absurd rfl c3⟩
    · have c3 : tyD d = "tuple" := by
        by_cases z : tyD d = "tuple"
        · exact z
        · rw [decide_eq_false z] at c2
          exact absurd rfl c2
      obtain ⟨ds, rfl, _, pds⟩ := ty_tuple pd c3
      obtain ⟨xa, xs, rfl, sx, ax⟩ := hx.tup'
      refine ⟨_, rfl, xa, _, rfl, .inr sx, _, rfl, ya, _, rfl, .inr sy, rfl, _, rfl, ite2 (fun c4 => ?_) (fun c4 => ?_)⟩
      · have c5 : ¬ xs.length = ys.length := fun z => by
          rw [z, decide_eq_true rfl] at c4
          cases c4
        rw [ax.len, ay.len] at c5
        exact q false _ (Same.refl _) ⟨fun z => (Bool.false_ne_true z).elim, fun z => by rw [PyData.tuple.inj z] at c5; exact absurd rfl c5⟩
      · have c5 : xs.length = ys.length := by
          by_cases z : (xs.length : Int) = (ys.length : Int)
          · omega
          · rw [decide_eq_false (fun y => z (V.int.inj y))] at c4
            exact absurd rfl c4
        have ly : ys.length ≤ 1000 := by rw [ay.len]; exact le
        have ly2 : (ys.length : Int) < 2 ^ 62 := by omega
        have hl : ds.length = es.length := by rw [← ax.len, ← ay.len]; exact c5
        refine ⟨_, rfl, ya, _, rfl, .inr sy, _, rfl, by omega, ly2, fun D hD => ?_⟩
        refine lc_range (lo := 0) (fun i H' => Same H H' ∧ ∃ acc, H' D = some (.lst acc) ∧ acc.length ≤ i ∧ (acc = [] ↔ ∀ j < i, ds[j]? = es[j]?))
          ⟨same_upd hD, [], upd_same, Nat.le_refl _, ⟨fun _ j hj => absurd hj (Nat.not_lt_zero j), fun _ => rfl⟩⟩ ?_ ?_
        · rintro i H' hi ⟨sm, acc, hacc, lacc, hiff⟩
          have hi2 : i < es.length := by rw [← ay.len]; exact (by simpa using hi)
          have ge : es[i]? = some es[i] := List.getElem?_eq_getElem hi2
          have gd : ds[i]? = some (ds[i]'(by omega)) := List.getElem?_eq_getElem (by omega)
          obtain ⟨v, gv, iv⟩ := ax.get gd
          obtain ⟨u, gu, iu⟩ := ay.get ge
          have tm := Same.tm sm
          refine ⟨rfl, _, rfl, _, rfl, xa, _, _, v, rfl, rfl, tm.sq sx, ?_, _, rfl, _, rfl, ya, _, _, u, rfl, rfl, tm.sq sy, ?_, ?_⟩
          · show atI xs (0 + (i : Int)) = some v
            rw [Int.zero_add]
            exact atI_nat gv
          · show atI ys (0 + (i : Int)) = some u
            rw [Int.zero_add]
            exact atI_nat gu
          · have de := dep_get ge
            refine ⟨v, u, _, _, rfl, iv.to tm, iu.to tm, plain_get pds gd, plain_get pes ge, ?_, fun b H2 s2 hb => ?_⟩
            · have : depDs es + 1 < n + 1 := dp
              omega
            · refine ⟨b, rfl, ?_⟩
              cases b with
              | true =>
                refine iteF ⟨sm.trans s2, acc, s2 _ _ hacc, by omega, hiff.trans ⟨fun z j hj => ?_, fun z j hj => z j (by omega)⟩⟩
                by_cases hj2 : j < i
                · exact z j hj2
                · have : j = i := by omega
                  subst this
                  rw [gd, ge, hb.mp rfl]
              | false =>
                refine iteT ⟨_, rfl, acc, s2 _ _ hacc, ?_, ?_⟩
                · exact small5' (by omega)
                · refine ⟨Z.Same.mut (sm.trans s2) hD, _, upd_same, ?_, ?_⟩
                  · rw [List.length_append]
                    exact Nat.succ_le_succ lacc
                  · refine ⟨fun z => absurd z (by simp), fun z => ?_⟩
                    have := z i (by omega)
                    rw [gd, ge] at this
                    exact absurd (hb.mpr (Option.some.inj this)) (by decide)
        · rintro H' ⟨sm, acc, hacc, lacc, hiff⟩
          refine ⟨D, acc, rfl, .inl (SqL.of hacc), rfl, ?_⟩
          refine q _ _ sm ?_
          have key : (∀ j < ys.length, ds[j]? = es[j]?) ↔ PyData.tuple ds = PyData.tuple es := by
            rw [ay.len]
            exact ⟨fun z => congrArg _ (ext_of hl z), fun z => by rw [PyData.tuple.inj z]; intro j _; rfl⟩
          rw [← key]
          refine Iff.trans ?_ (by simpa using hiff)
          rw [decide_eq_true_iff]
          refine ⟨fun z => ?_, fun z => by rw [z]; rfl⟩
          have z2 := V.int.inj z
          exact List.eq_nil_of_length_eq_zero (by omega)
  · have nt : ¬ tyD e = "tuple" := fun z => c (decide_eq_true z)
    refine ⟨_, rfl, rfl, _, rfl, ite2 (fun c2 => ?_) (fun c2 => ?_)⟩
    · have e1 : y = .non := of_decide_eq_true c2
      subst e1
      cases hy
      refine ⟨_, rfl, rfl, ?_⟩
      refine q _ _ (Same.refl _) ?_
      rw [decide_eq_true_iff]
      exact ⟨fun z => by subst z; cases hx; rfl, fun z => by subst z; cases hx; rfl⟩
    · have e1 : ¬ y = .non := fun z => c2 (decide_eq_true z)
      refine ⟨_, rfl, _, _, _, _, _, rfl, .ty _, hy.ty, kt_of e pe "str" (.inr (.inl rfl)), _, rfl, ite2 (fun c3 => ?_) (fun c3 => ?_)⟩
      · rcases no_tuple pe nt with rfl | ⟨i, rfl⟩ | ⟨z, rfl⟩
        · cases hy; exact absurd rfl e1
        · exact absurd (of_decide_eq_true c3) (show ¬ "int" = "str" by decide)
        cases hy
        refine ⟨_, rfl, _, _, _, _, _, rfl, .ty _, hx.ty, kt_of d pd "str" (.inr (.inl rfl)), _, rfl, ite2 (fun c4 => ?_) (fun c4 => ?_)⟩
        · have : ∃ z2, d = .str z2 := by
            have c5 := of_decide_eq_true c4
            cases d with
            | str z2 => exact ⟨z2, rfl⟩
            | none => exact absurd c5 (show ¬ "NoneType" = "str" by decide)
            | int i => exact absurd c5 (show ¬ "int" = "str" by decide)
            | tuple ds => exact absurd c5 (show ¬ "tuple" = "str" by decide)
            | bool b => simp [plainD] at pd
            | list ds => simp [plainD] at pd
            | dict ds => simp [plainD] at pd
          obtain ⟨z2, rfl⟩ := this
          cases hx
          refine ⟨_, rfl, _, rfl, rfl, ?_⟩
          refine q _ _ (Same.refl _) ?_
          rw [decide_eq_true_iff]
          exact ⟨fun z => congrArg PyData.str (V.str.inj z), fun z => congrArg V.str (PyData.str.inj z)⟩
        · refine q false _ (Same.refl _) ⟨fun z => (Bool.false_ne_true z).elim, fun z => ?_⟩
          subst z
          exact absurd (decide_eq_true (show "str" = "str" by rfl)) c4
      · have : ∃ i, e = .int i := by
          rcases no_tuple pe nt with rfl | ⟨i, rfl⟩ | ⟨z, rfl⟩
          · cases hy; exact absurd rfl e1
          · exact ⟨i, rfl⟩
          · exact absurd (decide_eq_true (show "str" = "str" by rfl)) c3
        obtain ⟨i, rfl⟩ := this
        cases hy
        refine ⟨_, rfl, _, _, _, _, _, rfl, .ty _, hx.ty, kt_of d pd "int" (.inr (.inr rfl)), _, rfl, ite2 (fun c4 => ?_) (fun c4 => ?_)⟩
        · have : ∃ j, d = .int j := by
            have c5 := of_decide_eq_true c4
            cases d with
            | int j => exact ⟨j, rfl⟩
            | none => exact absurd c5 (show ¬ "NoneType" = "int" by decide)
            | str i => exact absurd c5 (show ¬ "str" = "int" by decide)
            | tuple ds => exact absurd c5 (show ¬ "tuple" = "int" by decide)
            | bool b => simp [plainD] at pd
            | list ds => simp [plainD] at pd
            | dict ds => simp [plainD] at pd
          obtain ⟨j, rfl⟩ := this
          cases hx
          refine ⟨_, rfl, _, _, _, _, _, rfl, .ty _, (Is.int (K := K) (H := H) j).ty, ktB j, _, rfl, _, rfl, iteT ?_⟩
          refine ⟨_, rfl, _, rfl, rfl, ?_⟩
          refine q _ _ (Same.refl _) ?_
          rw [decide_eq_true_iff]
          exact ⟨fun z => congrArg PyData.int (V.int.inj z), fun z => congrArg V.int (PyData.int.inj z)⟩
        · refine q false _ (Same.refl _) ⟨fun z => (Bool.false_ne_true z).elim, fun z => ?_⟩
          subst z
          exact absurd (decide_eq_true (show "int" = "int" by rfl)) c4
theorem ok_law_same (B : BI mg) (F : At K mg "_law_same" s_law_same ["actual", "due"]) : ∀ n : Nat, Ok P w K mg base n "_law_same" ["actual", "due"] [] (spSame K n)
  | 0 => by
    obtain ⟨f, fd, F, m, b⟩ := F.ex
    have no : ∀ vs H Q E, ¬ spSame K 0 vs H Q E := fun vs H Q E h => by
      obtain ⟨x, y, d, e, _, _, _, _, _, h, _⟩ := h
      omega
    exact ⟨f, fd, [], ⟨fun vs H Q E h => absurd h (no vs H Q E), fun A outer s H args us vs Q E _ _ _ _ h => absurd h (no vs H Q E)⟩, m, F.kp, b, .nil⟩
  | n + 1 => ok_law_same_step B F (ok_law_same B F n)

theorem ok_law_name (B : BI mg) (F : At K mg "_law_name" s_law_name ["pool", "index"]) (C_law_draw : Ok P w K mg base 1 "_law_draw" ["pool", "many"] [] spDraw) : Ok P w K mg base 2 "_law_name" ["pool", "index"] [] spName := by
  refine F.ok sc_law_name (fun vs H Q E h => ?_) (fun f cdv A outer s H vs Q E hr h => ?_)
  · obtain ⟨p, pa, k, rfl, _⟩ := h
    rfl
  obtain ⟨p, pa, k, rfl, hP, hk, q⟩ := h
  refine ⟨_, (pss_cons (ps_set (i := 2) sc_law_name.nd rfl (Or.inl rfl) (pe_ix ix_str pe_str (pv 1) (fun _ _ => rfl)))
      (pss_cons (ps_set (i := 3) sc_law_name.nd rfl (Or.inl rfl) (pe_ix ix_list (pe_lst (pa_cons pe_str (pa_cons pe_str (pa_cons pe_str (pa_cons pe_str pa_nil))))) (pe_ok C_law_draw (hr.mono (by first | decide | exact Nat.le_refl _)) rfl (pa_cons (pv 0) (pa_cons pe_int pa_nil))) (fun _ _ => rfl)))
      (pss_one (ps_ret (pe_op op_add_str (pe_op op_add_str (pv 3) (pv 2)) (pe_ix ix_list (pe_lst (pa_cons pe_str (pa_cons pe_str (pa_cons pe_str pa_nil)))) (pe_ok C_law_draw (hr.mono (by first | decide | exact Nat.le_refl _)) rfl (pa_cons (pv 0) (pa_cons pe_int pa_nil))) (fun _ _ => rfl))))))), ?_⟩
  refine ⟨_, rfl, _, (k : Int), _, rfl, rfl, (by show 20 ≤ sizeLine; decide), atI_nat (letters_at k hk), ?_⟩
  refine ⟨(by show 4 ≤ sizeLine; decide), fun l1 n1 => ?_⟩
  have m1 := hP.ne n1
  have P1 := hP.mut (o := .lst [V.str (("" : Str)), V.str (("u" : Str)), V.str (("vw" : Str)), V.str (("xyz" : Str))]) m1.1 m1.2
  refine ⟨_, rfl, p, pa, 4, rfl, P1, by decide, by decide, fun r2 H2 r20 r21 k2 P2 => ?_⟩
  obtain ⟨x, hx, ox⟩ := head_at r20 r21
  refine ⟨l1, _, r2, _, rfl, rfl, SqL.of (k2 _ _ m1.1 upd_same), hx, ?_⟩
  refine ⟨_, rfl, _, rfl, x, ⟨#[97 + k]⟩, rfl, rfl, small5 (by have := ox.1; rw [str_len, str_len]; show x.cps.toList.length + 1 ≤ 100000; omega), ?_⟩
  refine ⟨(by show 3 ≤ sizeLine; decide), fun l3 n3 => ?_⟩
  have m3 := P2.ne n3
  have P3 := P2.mut (o := .lst [V.str (("" : Str)), V.str (("z" : Str)), V.str (("yy" : Str))]) m3.1 m3.2
  refine ⟨_, rfl, p, pa, 3, rfl, P3, by decide, by decide, fun r4 H4 r40 r41 k4 P4 => ?_⟩
  obtain ⟨y, hy, oy⟩ := tail_at r40 r41
  refine ⟨l3, _, r4, _, rfl, rfl, SqL.of (k4 _ _ m3.1 upd_same), hy, ?_⟩
  refine ⟨x ++ ⟨#[97 + k]⟩, y, rfl, rfl, small5 (by have := ox.1; have := oy.1; rw [str_len, str_len, str_app, List.length_append]; show x.cps.toList.length + 1 + y.cps.toList.length ≤ 100000; omega), ?_⟩
  exact q _ _ (nm_of hk ox oy) ((Kp.new n1).trans (k2.trans ((Kp.new n3).trans k4))) P4

theorem ok_law_window (B : BI mg) (F : At K mg "_law_window" s_law_window ["pool", "wide"]) (C_law_draw : Ok P w K mg base 1 "_law_draw" ["pool", "many"] [] spDraw) : Ok P w K mg base 2 "_law_window" ["pool", "wide"] [] (spWin K) := by
  refine F.ok sc_law_window (fun vs H Q E h => ?_) (fun f cdv A outer s H vs Q E hr h => ?_)
  · obtain ⟨p, pa, b, rfl, _⟩ := h
    rfl
  obtain ⟨p, pa, b, rfl, hP, q⟩ := h
  refine ⟨_, (pss_cons (ps_if (pt_val (pv 1))
        (pss_cons (ps_set (i := 2) sc_law_window.nd rfl (Or.inl rfl) (pe_ok C_law_draw (hr.mono (by first | decide | exact Nat.le_refl _)) rfl (pa_cons (pv 0) (pa_cons pe_int pa_nil))))
        (pss_one (ps_ret (pe_tup (pa_cons (pv 2) (pa_cons (pe_op op_add (pe_op op_add (pv 2) pe_int) (pe_ok C_law_draw (hr.mono (by first | decide | exact Nat.le_refl _)) rfl (pa_cons (pv 0) (pa_cons (pe_op op_sub pe_int (pv 2)) pa_nil)))) pa_nil))))))
        pss_nil)
      (pss_cons (ps_set (i := 2) sc_law_window.nd rfl (Or.inl rfl) (pe_ok C_law_draw (hr.mono (by first | decide | exact Nat.le_refl _)) rfl (pa_cons (pv 0) (pa_cons pe_int pa_nil))))
      (pss_one (ps_ret (pe_tup (pa_cons (pv 2) (pa_cons (pe_op op_add (pe_op op_add (pv 2) pe_int) (pe_ok C_law_draw (hr.mono (by first | decide | exact Nat.le_refl _)) rfl (pa_cons (pv 0) (pa_cons pe_int pa_nil)))) pa_nil))))))), ?_⟩
  refine ⟨_, rfl, b, rfl, ite2 (fun e => ?_) (fun e => ?_)⟩
  · refine ⟨_, rfl, p, pa, 10000, rfl, hP, by decide, by decide, fun c H1 c0 c1 k1 P1 => ?_⟩
    refine ⟨_, rfl, _, rfl, _, _, rfl, rfl, ?_⟩
    refine ⟨_, rfl, _, rfl, _, _, rfl, rfl, p, pa, 10000 - c, rfl, P1, by omega, by omega, fun r H2 r0 r1 k2 P2 => ?_⟩
    refine ⟨_, _, rfl, rfl, (by show 2 ≤ sizeLine; decide), fun t nt => ?_⟩
    have nt2 := P2.ne nt
    exact q t c _ _ c0 (by omega) (by omega) ((k1.trans k2).trans (.new nt)) (P2.mut nt2.1 nt2.2) (P2.free (k1.trans k2) nt) upd_same
  · refine ⟨_, rfl, p, pa, 20, rfl, hP, by decide, by decide, fun c H1 c0 c1 k1 P1 => ?_⟩
    refine ⟨_, rfl, _, rfl, _, _, rfl, rfl, ?_⟩
    refine ⟨_, rfl, p, pa, 12, rfl, P1, by omega, by omega, fun r H2 r0 r1 k2 P2 => ?_⟩
    refine ⟨_, _, rfl, rfl, (by show 2 ≤ sizeLine; decide), fun t nt => ?_⟩
    have nt2 := P2.ne nt
    exact q t c _ _ c0 (by omega) (by omega) ((k1.trans k2).trans (.new nt)) (P2.mut nt2.1 nt2.2) (P2.free (k1.trans k2) nt) upd_same

theorem ok_law_jobs (B : BI mg) (F : At K mg "_law_jobs" s_law_jobs ["pool", "most"]) (C_law_draw : Ok P w K mg base 1 "_law_draw" ["pool", "many"] [] spDraw) (C_law_window : Ok P w K mg base 2 "_law_window" ["pool", "wide"] [] (spWin K))
    (C_law_name : Ok P w K mg base 2 "_law_name" ["pool", "index"] [] spName) : Ok P w K mg base 3 "_law_jobs" ["pool", "most"] [] (spJobs K) := by
  refine F.ok sc_law_jobs (fun vs H Q E h => ?_) (fun f cdv A outer s H vs Q E hr h => ?_)
  · obtain ⟨p, pa, n, rfl, _⟩ := h
    rfl
  obtain ⟨p, pa, n, rfl, hP, hn, q⟩ := h
  refine ⟨_, (pss_cons (ps_set (i := 2) sc_law_jobs.nd rfl (Or.inl rfl) (pe_cmpR op_eq (pe_ok C_law_draw (hr.mono (by first | decide | exact Nat.le_refl _)) rfl (pa_cons (pv 0) (pa_cons pe_int pa_nil))) pe_int (nomark _)))
      (pss_cons (ps_set (i := 3) sc_law_jobs.nd rfl (Or.inl rfl) (pe_lst pa_nil))
      (pss_cons (ps_for PassesOwn.never rfl (pi_range1 rfl B.range (pa_cons (pe_ok C_law_draw (hr.mono (by first | decide | exact Nat.le_refl _)) rfl (pa_cons (pv 0) (pa_cons (pe_op op_add (pv 1) pe_int) pa_nil))) pa_nil)) (pg_name (i := 4) sc_law_jobs.nd rfl (Or.inl rfl))
        (pss_cons (ps_asg (pe_ok C_law_window (hr.mono (by first | decide | exact Nat.le_refl _)) rfl (pa_cons (pv 0) (pa_cons (pv 2) pa_nil))) (pg_tup rfl (pgs_cons (pg_name (i := 5) sc_law_jobs.nd rfl (Or.inl rfl)) (pgs_cons (pg_name (i := 6) sc_law_jobs.nd rfl (Or.inl rfl)) pgs_nil))))
        (pss_cons (ps_set (i := 7) sc_law_jobs.nd rfl (Or.inl rfl) (pe_op op_add pe_int (pe_ok C_law_draw (hr.mono (by first | decide | exact Nat.le_refl _)) rfl (pa_cons (pv 0) (pa_cons pe_int pa_nil)))))
        (Evl.pss_cut (ps_if (pt_cmpR op_eq (pe_ok C_law_draw (hr.mono (by first | decide | exact Nat.le_refl _)) rfl (pa_cons (pv 0) (pa_cons pe_int pa_nil))) pe_int (nomark _))
          (pss_one (ps_set (i := 7) sc_law_jobs.nd rfl (Or.inl rfl) (pe_op op_add pe_int (pe_ok C_law_draw (hr.mono (by first | decide | exact Nat.le_refl _)) rfl (pa_cons (pv 0) (pa_cons pe_int pa_nil))))))
          pss_nil)
        (Evl.pss_cut (ps_if (PW.pt (pw_and (pt_cmpR op_gt (pv 4) pe_int (nomark _)) (pw_and1 (pt_cmpR op_eq (pe_ok C_law_draw (hr.mono (by first | decide | exact Nat.le_refl _)) rfl (pa_cons (pv 0) (pa_cons pe_int pa_nil))) pe_int (nomark _)))))
          (pss_cons (ps_set (i := 8) sc_law_jobs.nd rfl (Or.inl rfl) (pe_ix ix_list (pv 3) (pe_ok C_law_draw (hr.mono (by first | decide | exact Nat.le_refl _)) rfl (pa_cons (pv 0) (pa_cons (pv 4) pa_nil))) (fun _ _ => rfl)))
          (pss_one (ps_par (i := 5) (j := 6) (by rfl) sc_law_jobs.nd rfl rfl (by decide) rfl rfl (pa_cons (pe_ix ix_tup (pv 8) pe_int (fun _ _ => rfl)) (pa_cons (pe_ix ix_tup (pv 8) pe_int (fun _ _ => rfl)) pa_nil)) (by rfl))))
          pss_nil)
        (Evl.pss_cut (ps_if (PW.pt (pw_and (pt_cmpR op_gt (pv 4) pe_int (nomark _)) (pw_and1 (pt_cmpR op_eq (pe_ok C_law_draw (hr.mono (by first | decide | exact Nat.le_refl _)) rfl (pa_cons (pv 0) (pa_cons pe_int pa_nil))) pe_int (nomark _)))))
          (pss_cons (ps_set (i := 8) sc_law_jobs.nd rfl (Or.inl rfl) (pe_ix ix_list (pv 3) (pe_ok C_law_draw (hr.mono (by first | decide | exact Nat.le_refl _)) rfl (pa_cons (pv 0) (pa_cons (pv 4) pa_nil))) (fun _ _ => rfl)))
          (pss_one (ps_if (pt_cmpR op_lt (pe_ix ix_tup (pv 8) pe_int (fun _ _ => rfl)) pe_int (nomark _))
            (pss_one (ps_par (i := 5) (j := 6) (by rfl) sc_law_jobs.nd rfl rfl (by decide) rfl rfl (pa_cons (pe_ix ix_tup (pv 8) pe_int (fun _ _ => rfl)) (pa_cons (pe_op op_add (pe_op op_add (pe_ix ix_tup (pv 8) pe_int (fun _ _ => rfl)) pe_int) (pe_ok C_law_draw (hr.mono (by first | decide | exact Nat.le_refl _)) rfl (pa_cons (pv 0) (pa_cons pe_int pa_nil)))) pa_nil)) (by rfl)))
            pss_nil)))
          pss_nil)
        (pss_one (ps_expr (pe_bm PySem.F.plainAttrs_list PySem.F.slot_list_append PySem.F.type_list_append mt_append (pv 3) (pa_cons (pe_tup (pa_cons (pe_ok C_law_name (hr.mono (by first | decide | exact Nat.le_refl _)) rfl (pa_cons (pv 0) (pa_cons (pv 4) pa_nil))) (pa_cons (pv 5) (pa_cons (pv 6) (pa_cons (pv 7) pa_nil))))) pa_nil))))))))))
      (pss_one (ps_ret (pe_callTy call_tuple_of rfl B.tuple (by decide +kernel) (pa_cons (pv 3) pa_nil))))))), ?_⟩
  refine ⟨_, rfl, p, pa, 6, rfl, hP, by decide, by decide, fun r1 H1 r10 r11 k1 P1 => ?_⟩
  refine ⟨rfl, (by show 0 ≤ sizeLine; decide), fun L nL => ?_⟩
  obtain ⟨nLp, nLa⟩ := P1.ne nL
  have fL : H L = none := P1.free k1 nL
  have M2 : LM K p pa L H [] (upd H1 L (.lst [])) := LM.new P1 k1 nL
  refine ⟨_, rfl, _, rfl, _, _, rfl, rfl, p, pa, (n : Int) + 1, rfl, M2.P, by omega, by omega, fun r3 H3 r30 r31 k3 P3 => ?_⟩
  have M3 := M2.step nLp k3 P3
  refine ⟨r3, rfl, by omega, by omega, for_range (lo := 0) (n := r3.toNat) (fun i σ' H' => ∃ js y4 y5 y6 y7 y8, σ' = [some (.ref p), some (.int (n : Int)), some (.bl (decide (r1 = 0))), some (.ref L), y4, y5, y6, y7, y8] ∧ LM K p pa L H (js.map dJob) H' ∧ JobsOk js ∧ js.length = i) ?_ ?_ ?_⟩
  · exact ⟨[], none, none, none, none, none, by rw [show decide (r1 = 0) = decide (V.int r1 = V.int 0) from decide_eq_decide.mpr ⟨fun z => by rw [z], fun z => V.int.inj z⟩]; rfl, M3, JobsOk.nil, rfl⟩
  · rintro i σ' H' hi ⟨js, y4, y5, y6, y7, y8, rfl, M, hj, hjl⟩
    have hi19 : i < 19 := by omega
    -- comes, due = _law_window(pool, wide)
    refine ⟨_, rfl, _, rfl, p, pa, _, rfl, M.P, fun t c d H5 c0 cd d1 k5 P5 nt ht => ?_⟩
    have M5 := M.step nLp k5 P5
    refine ⟨t, _, rfl, SqT.of ht, rfl, .int c, _, rfl, .int d, _, rfl, rfl, ?_⟩
    -- work
    refine ⟨_, rfl, p, pa, 24, rfl, P5, by decide, by decide, fun r6 H6 r60 r61 k6 P6 => ?_⟩
    have M6 := M5.step nLp k6 P6
    refine ⟨_, _, rfl, rfl, ?_⟩
    refine ⟨fun σ7 H7 => ∃ w y8, σ7 = [some (.ref p), some (.int (n : Int)), some (.bl (decide (r1 = 0))), some (.ref L), some (.int (0 + (i : Int))), some (.int c), some (.int d), some (.int w), y8] ∧ 1 ≤ w ∧ w ≤ 10000 ∧ LM K p pa L H (js.map dJob) H7, ?_, ?_⟩
    · refine ⟨_, rfl, p, pa, 5, rfl, P6, by decide, by decide, fun r7 H7 r70 r71 k7 P7 => ?_⟩
      have M7 := M6.step nLp k7 P7
      refine ⟨rfl, _, rfl, ite2 (fun e => ?_) (fun e => ?_)⟩
      · refine ⟨_, rfl, p, pa, 10000, rfl, P7, by decide, by decide, fun r8 H8 r80 r81 k8 P8 => ?_⟩
        exact ⟨_, _, rfl, rfl, _, y8, rfl, by omega, by omega, M7.step nLp k8 P8⟩
      · exact ⟨_, y8, rfl, by omega, by omega, M7⟩
    rintro σ7 H7 ⟨w, y8, rfl, w0, w1, M7⟩
    -- the job of another's window
    refine ⟨fun σ9 H9 => ∃ c d y8, σ9 = [some (.ref p), some (.int (n : Int)), some (.bl (decide (r1 = 0))), some (.ref L), some (.int (0 + (i : Int))), some (.int c), some (.int d), some (.int w), y8] ∧ 0 ≤ c ∧ c < d ∧ d ≤ 10000 ∧ LM K p pa L H (js.map dJob) H9, ?_, ?_⟩
    · refine ⟨_, rfl, _, _, rfl, rfl, _, rfl, ite2 (fun e => ?_) (fun e => iteF ⟨c, d, y8, rfl, c0, cd, d1, M7⟩)⟩
      have e0 : 0 < (0 : Int) + (i : Int) := of_decide_eq_true e
      refine ⟨_, rfl, p, pa, 4, rfl, M7.P, by decide, by decide, fun r8 H8 r80 r81 k8 P8 => ?_⟩
      have M8 := M7.step nLp k8 P8
      refine ⟨rfl, _, rfl, ite2 (fun e => ?_) (fun e => ⟨c, d, y8, rfl, c0, cd, d1, M8⟩)⟩
      refine ⟨_, rfl, _, rfl, _, rfl, p, pa, _, rfl, P8, e0, by omega, fun r9 H9 r90 r91 k9 P9 => ?_⟩
      have M9 := M8.step nLp k9 P9
      obtain ⟨xs, hx, hI⟩ := M9.l
      have hr9 : r9.toNat < js.length := by omega
      obtain ⟨v, gv, iv⟩ := hI.get (i := r9.toNat) (d := dJob js[r9.toNat]) (by rw [List.getElem?_map, List.getElem?_eq_getElem hr9]; rfl)
      have oj := hj.ok _ (List.getElem_mem hr9)
      obtain ⟨t, rfl, st⟩ := job_at iv
      refine ⟨L, _, r9, _, rfl, rfl, SqL.of hx, at_of (by omega) gv, ?_⟩
      refine ⟨_, rfl, t, _, 1, _, rfl, rfl, st, rfl, _, rfl, t, _, 2, _, rfl, rfl, st, rfl, _, _, rfl, ?_⟩
      exact ⟨_, _, _, rfl, oj.c0, oj.cd, oj.d1, M9⟩
    rintro σ9 H9 ⟨c, d, y8, rfl, c0, cd, d1, M9⟩
    -- the job behind another's window
    refine ⟨fun σ9 H9 => ∃ c d y8, σ9 = [some (.ref p), some (.int (n : Int)), some (.bl (decide (r1 = 0))), some (.ref L), some (.int (0 + (i : Int))), some (.int c), some (.int d), some (.int w), y8] ∧ 0 ≤ c ∧ c < d ∧ d ≤ 10000 ∧ LM K p pa L H (js.map dJob) H9, ?_, ?_⟩
    · refine ⟨_, rfl, _, _, rfl, rfl, _, rfl, ite2 (fun e => ?_) (fun e => iteF ⟨c, d, y8, rfl, c0, cd, d1, M9⟩)⟩
      have e0 : 0 < (0 : Int) + (i : Int) := of_decide_eq_true e
      refine ⟨_, rfl, p, pa, 6, rfl, M9.P, by decide, by decide, fun r8 H8 r80 r81 k8 P8 => ?_⟩
      have M8 := M9.step nLp k8 P8
      refine ⟨rfl, _, rfl, ite2 (fun e => ?_) (fun e => ⟨c, d, y8, rfl, c0, cd, d1, M8⟩)⟩
      refine ⟨_, rfl, _, rfl, _, rfl, p, pa, _, rfl, P8, e0, by omega, fun r9 H10 r90 r91 k9 P9 => ?_⟩
      have M10 := M8.step nLp k9 P9
      obtain ⟨xs, hx, hI⟩ := M10.l
      have hr9 : r9.toNat < js.length := by omega
      obtain ⟨v, gv, iv⟩ := hI.get (i := r9.toNat) (d := dJob js[r9.toNat]) (by rw [List.getElem?_map, List.getElem?_eq_getElem hr9]; rfl)
      have oj := hj.ok _ (List.getElem_mem hr9)
      obtain ⟨t, rfl, st⟩ := job_at iv
      refine ⟨L, _, r9, _, rfl, rfl, SqL.of hx, at_of (by omega) gv, ?_⟩
      refine ⟨_, rfl, t, _, 2, _, rfl, rfl, st, rfl, _, _, rfl, rfl, _, rfl, ite2 (fun e2 => ?_) (fun e2 => ⟨c, d, _, rfl, c0, cd, d1, M10⟩)⟩
      have e3 : js[r9.toNat].d < 9990 := of_decide_eq_true e2
      refine ⟨_, rfl, t, _, 2, _, rfl, rfl, st, rfl, _, rfl, t, _, 2, _, rfl, rfl, st, rfl, _, _, rfl, rfl, ?_⟩
      refine ⟨_, rfl, p, pa, 9, rfl, P9, by decide, by decide, fun r11 H11 r110 r111 k11 P11 => ?_⟩
      refine ⟨_, _, rfl, rfl, _, _, rfl, ?_⟩
      have := oj.c0
      have := oj.cd
      exact ⟨_, _, _, rfl, by omega, by omega, by omega, M10.step nLp k11 P11⟩
    rintro σ10 H10 ⟨c, d, y8, rfl, c0, cd, d1, M10⟩
    -- jobs.append(..)
    obtain ⟨xs0, hx0, hI0⟩ := M10.l
    refine ⟨_, rfl, .inl ⟨rfl, _, SqL.of hx0⟩, _, rfl, _, rfl, p, pa, i, (by show [V.ref p, V.int (0 + (i : Int))] = _; rw [Int.zero_add]), M10.P, by omega, fun nm H11 hnm k11 P11 => ?_⟩
    have M11 := M10.step nLp k11 P11
    obtain ⟨xs, hx, hI⟩ := M11.l
    refine ⟨_, rfl, _, rfl, _, rfl, (by show 4 ≤ sizeLine; decide), fun t nt => ?_⟩
    have M12 := M11.same (same_upd (o := .tup [.str nm, .int c, .int d, .int w]) nt)
    have hx12 : (upd H11 t (.tup [.str nm, .int c, .int d, .int w])) L = some (.lst xs) := same_upd nt _ _ hx
    have lxs : xs.length = js.length := by rw [hI.len, List.length_map]
    refine ⟨L, xs, .ref t, rfl, rfl, hx12, small5' (by omega), ?_⟩
    refine ⟨js ++ [⟨nm, c, d, w⟩], _, _, _, _, _, rfl, ?_, hj.push ⟨c0, cd, d1, w0, w1⟩ (by rw [hjl]; exact hnm), by rw [List.length_append, hjl]; rfl⟩
    rw [List.map_append]
    refine M12.put nLp nLa fL ?_
    exact (hI.to (Tm.new nt)).push (is_job (j := ⟨nm, c, d, w⟩) (SqT.of upd_same))
  · rintro σ' H' ⟨js, y4, y5, y6, y7, y8, rfl, M, hj, hjl⟩
    obtain ⟨xs, hx, hI⟩ := M.l
    refine ⟨_, rfl, L, xs, rfl, .inl ⟨SqL.of hx, fun t nt => ?_⟩⟩
    have nt2 := M.P.ne nt
    exact q t xs js _ hj (by omega) (M.k.trans (.new nt)) (M.P.mut nt2.1 nt2.2) (M.P.free M.k nt) upd_same (hI.to (Tm.new nt))

end
end Z

namespace Z
open PySem PySem.Spec PyProof.Rows L2
section
variable {P : Program} {w : World} {K : PySem.W.Frag} {mg : Str → Option Value} {base : Heap}
theorem atI_last {α : Type} {xs : List α} {v : α} : atI (xs ++ [v]) (-1) = some v := by
  unfold atI ixN
  rw [if_neg (by omega), if_pos (by rw [List.length_append, List.length_singleton]; omega)]
  show (xs ++ [v])[(-1 + ((xs ++ [v]).length : Int)).toNat]? = some v
  rw [List.length_append, List.length_singleton, show (-1 + ((xs.length + 1 : Nat) : Int)).toNat = xs.length by omega]
  simp
theorem cut_last {xs : List V} {v : V} : cutV (xs ++ [v]) none (some (-1)) = xs := by
  unfold cutV
  show ((xs ++ [v]).drop 0).take ((if (-1 : Int) < 0 then (-1 + ((xs ++ [v]).length : Int)).toNat else min (-1 : Int).toNat (xs ++ [v]).length) - 0) = xs
  rw [if_pos (by omega), List.length_append, List.length_singleton, show (-1 + ((xs.length + 1 : Nat) : Int)).toNat - 0 = xs.length by omega, List.drop_zero, List.take_left]
theorem joinL_len : ∀ {l : List (List Nat)} {k : Nat}, (∀ p ∈ l, p.length ≤ k) → (TL.joinL [] l).length ≤ k * l.length
  | [], _, _ => Nat.zero_le _
  | [p], k, h => by
    have := h p (List.mem_cons_self ..)
    show p.length ≤ k * 1
    omega
  | p :: q :: r, k, h => by
    have a := h p (List.mem_cons_self ..)
    have b := joinL_len (l := q :: r) (k := k) fun z hz => h z (List.mem_cons_of_mem _ hz)
    show (p ++ ([] ++ TL.joinL [] (q :: r))).length ≤ k * ((q :: r).length + 1)
    rw [List.nil_append, List.length_append, Nat.mul_add]
    omega
theorem text_len {js : List Job} (h : JobsOk js) : (textOf js).length ≤ 25 * js.length := by
  unfold textOf
  rw [str_len, show (Txt.join ("" : Str) (js.map lineT)).cps.toList = TL.joinL [] ((js.map lineT).map TL.tl) by rw [TL.join_eq]; exact (TL.tl_join _ _).trans (by rw [tl_e])]
  refine Nat.le_trans (joinL_len (k := 25) fun p hp => ?_) (by simp)
  obtain ⟨x, hx, rfl⟩ := List.mem_map.mp hp
  obtain ⟨j, hj, rfl⟩ := List.mem_map.mp hx
  exact (h.sh hj).line
theorem JobsOk.line {js : List Job} (h : JobsOk js) {j : Job} (hj : j ∈ js) : LineOk j := by
  obtain ⟨i, hi⟩ := List.getElem?_of_mem hj
  exact line_ok (h.ok j hj) (h.nm i j hi)
theorem new_name {js : List Job} (h : JobsOk js) {i : Nat} {j : Job} (hj : js[i]? = some j) : inV (.str j.n) ((js.take i).map fun j => V.str j.n) = false := by
  unfold inV
  rw [List.any_eq_false]
  intro v hv
  obtain ⟨j', hj', rfl⟩ := List.mem_map.mp hv
  obtain ⟨m, hm⟩ := List.getElem?_of_mem hj'
  have ml : m < i := by
    have := (List.getElem?_eq_some_iff.mp hm).1
    rw [List.length_take] at this
    omega
  rw [List.getElem?_take_of_lt ml] at hm
  show ¬ (j'.n == j.n) = true
  intro e
  have e2 : j'.n = j.n := eq_of_beq e
  have a := h.nm m j' hm
  rw [e2] at a
  have := a.inj (h.nm i j hj)
  omega
def spRead (K : PySem.W.Frag) : Sp := fun vs H Q _ => ∃ js : List Job, vs = [.str (textOf js)] ∧ JobsOk js ∧ js.length ≤ 12 ∧ ∀ t xs H', Same H H' → SqT K H' t xs → IsA K H' xs (js.map dJob) → Q (.ref t) H'
theorem ok_read_jobs (B : BI mg) (G : GS mg) (F : At K mg "read_jobs" sread_jobs ["text"]) (C_read_job : Ok P w K mg base 4 "read_job" ["line"] [] (spReadJob K)) : Ok P w K mg base 5 "read_jobs" ["text"] [] (spRead K) := by
  refine F.ok scread_jobs (fun vs H Q E h => ?_) (fun f cdv A outer s H vs Q E hr h => ?_)
  · obtain ⟨js, rfl, _⟩ := h
    rfl
  obtain ⟨js, rfl, hj, hl, k⟩ := h
  obtain ⟨t1, hMOST_JOBS⟩ := G.MOST_JOBS
  refine ⟨_, (pss_cons (ps_set (i := 1) scread_jobs.nd rfl (Or.inl rfl) (pe_split (pv 0) pe_str))
      (pss_cons (ps_set (i := 2) scread_jobs.nd rfl (Or.inl rfl) (pe_cmpR op_eq (pe_ix ix_list (pv 1) (pe_un un_neg pe_int) (fun _ _ => rfl)) pe_str (nomark _)))
      (pss_cons (ps_if (pt_val (pv 2))
        (pss_one (ps_set (i := 1) scread_jobs.nd rfl (Or.inl rfl) (pe_slice sl_list (pv 1) po_none (po_some (pe_un un_neg pe_int)))))
        pss_nil)
      (pss_cons (ps_set (i := 3) scread_jobs.nd rfl (Or.inl rfl) (pe_lst pa_nil))
      (pss_cons (ps_set (i := 4) scread_jobs.nd rfl (Or.inl rfl) (pe_lst pa_nil))
      (pss_cons (ps_for PassesOwn.never rfl (pi_enum rfl B.enumerate (pa_cons (pv 1) pa_nil)) (pg_tup rfl (pgs_cons (pg_name (i := 5) scread_jobs.nd rfl (Or.inl rfl)) (pgs_cons (pg_name (i := 6) scread_jobs.nd rfl (Or.inl rfl)) pgs_nil)))
        (pss_cons (ps_set (i := 7) scread_jobs.nd rfl (Or.inl rfl) (pe_ok C_read_job (hr.mono (by first | decide | exact Nat.le_refl _)) rfl (pa_cons (pv 6) pa_nil)))
        (pss_cons (ps_if (PW.pt (pw_or (pt_cmpR op_isN (pv 7) pe_non (nomark _)) (pw_or (pt_cmpR op_in_seq (pe_ix ix_tup (pv 7) pe_int (fun _ _ => rfl)) (pv 4) rfl) (pw_or1 (pt_cmpR op_ge (pv 5) (pe_glob (v := .int 12) rfl hMOST_JOBS ⟨_, rfl⟩) (nomark _))))))
          (pss_one ps_never)
          pss_nil)
        (pss_cons (ps_expr (pe_bm PySem.F.plainAttrs_list PySem.F.slot_list_append PySem.F.type_list_append mt_append (pv 3) (pa_cons (pv 7) pa_nil)))
        (pss_one (ps_expr (pe_bm PySem.F.plainAttrs_list PySem.F.slot_list_append PySem.F.type_list_append mt_append (pv 4) (pa_cons (pe_ix ix_tup (pv 7) pe_int (fun _ _ => rfl)) pa_nil))))))))
      (pss_cons (ps_if (pt_not (pt_val (pv 2)))
        (pss_one ps_never)
        pss_nil)
      (pss_one (ps_ret (pe_callTy call_tuple_of rfl B.tuple (by decide +kernel) (pa_cons (pv 3) pa_nil))))))))))), ?_⟩
  have tz := text_len hj
  refine ⟨_, rfl, ⟨_, rfl⟩, textOf js, ("\n" : Str), rfl, rfl, by decide +kernel, small5 (by omega), ?_⟩
  rw [split_text (fun j h => hj.line h)]
  unfold rNewStrs
  rw [List.map_append]
  intro L nL
  have s1 := same_upd (o := .lst ((js.map lineB).map V.str ++ [("" : Str)].map V.str)) nL
  refine ⟨_, rfl, _, rfl, L, _, -1, .str ("" : Str), rfl, rfl, SqL.of upd_same, atI_last, rfl, ?_⟩
  refine ⟨_, rfl, _, rfl, ite2 (fun _ => ?_) (fun c => absurd (decide_eq_true rfl) c)⟩
  refine ⟨_, rfl, _, rfl, _, rfl, L, _, rfl, SqL.of upd_same, fun L2 nL2 => ?_⟩
  rw [show cutV ((js.map lineB).map V.str ++ [("" : Str)].map V.str) none (some (-1)) = (js.map lineB).map V.str from cut_last]
  have s2 := s1.trans (same_upd (o := .lst ((js.map lineB).map V.str)) nL2)
  have q2 : (upd (upd H L (.lst ((js.map lineB).map V.str ++ [("" : Str)].map V.str))) L2 (.lst ((js.map lineB).map V.str))) L2 = some (.lst ((js.map lineB).map V.str)) := upd_same
  revert s2 q2
  generalize (upd (upd H L (.lst ((js.map lineB).map V.str ++ [("" : Str)].map V.str))) L2 (.lst ((js.map lineB).map V.str))) = H2
  intro s2 q2
  refine ⟨(by show 0 ≤ sizeLine; decide), fun J nJ => ?_⟩
  refine ⟨(by show 0 ≤ sizeLine; decide), fun N nN => ?_⟩
  have sJ := same_upd (o := .lst []) nJ
  have nN2 : H2 N = none := by
    cases e : H2 N with
    | none => rfl
    | some o =>
      rw [sJ N o e] at nN
      cases nN
  have neJ : N ≠ J := fun z => by
    rw [z, upd_same] at nN
    cases nN
  have ll : ((js.map lineB).map V.str).length = js.length := by rw [List.length_map, List.length_map]
  have sN := sJ.trans (same_upd (o := .lst []) nN)
  refine ⟨_, rfl, L2, _, rfl, SqL.of (sN _ _ q2), for_enumL (xs := (js.map lineB).map V.str) (fun i σ' H' => ∃ y5 y6 y7 xs, σ' = [some (.str (textOf js)), some (.ref L2), some (.bl (decide (V.str ("" : Str) = V.str ("" : Str)))), some (.ref J), some (.ref N), y5, y6, y7] ∧ Same H2 H' ∧
    H' J = some (.lst xs) ∧ IsA K H' xs ((js.take i).map dJob) ∧ H' N = some (.lst ((js.take i).map fun j => V.str j.n))) ?_ ?_ ?_ ?_⟩
  · exact ⟨none, none, none, [], rfl, sN, same_upd nN _ _ upd_same, .nil, upd_same⟩
  · rintro i σ' H' hi ⟨y5, y6, y7, xs, rfl, sm, _⟩
    exact SqL.of (sm _ _ q2)
  · rintro i v T σ' H' hv ⟨y5, y6, y7, xs, rfl, sm, hJ, hI, hN⟩ nT
    obtain ⟨j, hjj, rfl⟩ : ∃ j, js[i]? = some j ∧ v = .str (lineB j) := by
      rw [List.getElem?_map, List.getElem?_map] at hv
      cases e : js[i]? with
      | none => rw [e] at hv; cases hv
      | some j =>
        rw [e] at hv
        exact ⟨j, rfl, (Option.some.inj hv).symm⟩
    have hm := List.mem_of_getElem? hjj
    have sh := hj.sh hm
    have il : i < js.length := (List.getElem?_eq_some_iff.mp hjj).1
    have sT := same_upd (o := .tup [.int (i : Nat), .str (lineB j)]) nT
    have rd := read_line (hj.ok j hm) (hj.nm i j hjj)
    have n1 := sh.n
    have n2 := sh.c
    have n3 := sh.d
    have n4 := sh.v
    have e1 : (" " : Str).length = 1 := by decide +kernel
    refine ⟨T, _, rfl, SqT.of upd_same, rfl, .int (i : Nat), _, rfl, .str (lineB j), _, rfl, rfl, ?_⟩
    refine ⟨_, rfl, lineB j, rfl, small5 (by unfold lineB; simp only [len_app, e1]; omega), fun y hy => ?_, fun e => absurd (rd.symm.trans e) (fun z => nomatch z), fun j' ej v H5 s5 iv => ?_⟩
    · rw [split_line (hj.line hm)] at hy
      simp only [List.mem_cons, List.not_mem_nil, or_false] at hy
      rcases hy with rfl | rfl | rfl | rfl
      · exact small5 (by omega)
      · exact small5 (by omega)
      · exact small5 (by omega)
      · exact small5 (by omega)
    have ej2 : j = j' := Option.some.inj (rd.symm.trans ej)
    subst ej2
    have sm5 := sm.trans (sT.trans s5)
    have hJ5 := (sT.trans s5) _ _ hJ
    have hN5 := (sT.trans s5) _ _ hN
    have hI5 := hI.to (Same.tm (sT.trans s5))
    obtain ⟨tj, rfl, sj⟩ := job_at iv
    refine ⟨_, rfl, rfl, _, rfl, ite2 (fun c => absurd (of_decide_eq_true c) (fun z => nomatch z)) (fun _ => ?_)⟩
    refine ⟨_, rfl, tj, _, 0, _, rfl, rfl, sj, rfl, _, rfl, N, _, rfl, .inl (SqL.of hN5), rfl, List.all_eq_true.mpr (fun z hz => ?_), _, rfl, ?_⟩
    · obtain ⟨j', _, rfl⟩ := List.mem_map.mp hz
      rfl
    show ite (inV (V.str j.n) ((js.take i).map fun j => V.str j.n) = true) _ _
    rw [new_name hj hjj]
    refine iteF ?_
    refine ⟨_, rfl, _, _, rfl, rfl, _, rfl, ite2 (fun c => absurd (of_decide_eq_true c) (by omega)) (fun _ => ?_)⟩
    have lxs : xs.length ≤ i := by
      rw [hI.len, List.length_map, List.length_take]
      omega
    refine ⟨_, rfl, .inl ⟨rfl, _, SqL.of hJ5⟩, _, rfl, J, xs, _, rfl, rfl, hJ5, small5' (by omega), ?_⟩
    have tJ : Tm H5 (upd H5 J (.lst (xs ++ [.ref tj]))) := Tm.lst hJ5
    have hN6 : (upd H5 J (.lst (xs ++ [.ref tj]))) N = some (.lst ((js.take i).map fun j => V.str j.n)) := by rw [upd_ne neJ]; exact hN5
    refine ⟨_, rfl, .inl ⟨rfl, _, SqL.of hN6⟩, _, rfl, tj, _, 0, _, rfl, rfl, tJ.sq sj, rfl, N, _, _, rfl, rfl, hN6, small5' (by rw [List.length_map, List.length_take]; omega), ?_⟩
    have tN : Tm (upd H5 J (.lst (xs ++ [.ref tj]))) (upd (upd H5 J (.lst (xs ++ [.ref tj]))) N (.lst ((js.take i).map (fun j => V.str j.n) ++ [V.str j.n]))) := Tm.lst hN6
    refine ⟨_, _, _, xs ++ [.ref tj], rfl, Z.Same.mut (Z.Same.mut sm5 nJ) nN2, ?_, ?_, ?_⟩
    · rw [upd_ne neJ.symm]
      exact upd_same
    · rw [take_one hjj, List.map_append]
      exact (hI5.to (tJ.trans tN)).push (iv.to (tJ.trans tN))
    · rw [take_one hjj, List.map_append]
      exact upd_same
  · rintro σ' H' ⟨y5, y6, y7, xs, rfl, sm, hJ, hI, hN⟩
    refine ⟨_, rfl, _, rfl, ?_⟩
    rw [show decide (V.str ("" : Str) = V.str ("" : Str)) = true from decide_eq_true rfl]
    refine iteF ?_
    rw [ll, List.take_length] at hI
    exact ⟨_, rfl, J, xs, rfl, .inl ⟨SqL.of hJ, fun t nt => k t xs _ (s2.trans (sm.trans (same_upd nt))) (SqT.of upd_same) (hI.to (Tm.new nt))⟩⟩

theorem plain_dJob (j : Job) : plainD (dJob j) = true := by
  simp [dJob, plainD, plainDs]
theorem plain_dJobs : ∀ js : List Job, plainDs (js.map dJob) = true
  | [] => by simp [plainDs]
  | j :: js => by
    rw [List.map_cons, plainDs, plain_dJob, plain_dJobs js]
    rfl
theorem plain_jobs {js : List Job} (h : js.length ≤ 1000) : plainD (.tuple (js.map dJob)) = true := by
  rw [plainD, plain_dJobs, List.length_map, decide_eq_true h]
  rfl
theorem dep_jobs (js : List Job) : depD (.tuple (js.map dJob)) < 3 := by
  have : ∀ js : List Job, depDs (js.map dJob) ≤ 1 := by
    intro js
    induction js with
    | nil => simp [depDs]
    | cons j js ih =>
      rw [List.map_cons, depDs]
      have : depD (dJob j) = 1 := by simp [dJob, depD, depDs]
      omega
  have := this js
  rw [depD]
  omega
theorem oklaw {f : Addr} {fd : FuncData} (B : BI mg) (F : Fun K "law" "law" slaw f fd) (C_law_pool : Ok P w K mg base 1 "_law_pool" ["script"] [] (spPool K)) (C_law_jobs : Ok P w K mg base 3 "_law_jobs" ["pool", "most"] [] (spJobs K))
    (C_write_jobs : Ok P w K mg base 1 "write_jobs" ["jobs"] [] (spWrite K)) (C_read_jobs : Ok P w K mg base 5 "read_jobs" ["text"] [] (spRead K)) (C_law_same : Ok P w K mg base 3 "_law_same" ["actual", "due"] [] (spSame K 3)) : FnOk P w K mg base CX0 6 f fd ["script"] (spLaw K) := by
  refine F.ok sclaw (fun vs H Q E h => ?_) (fun cdv A outer s H vs Q E hr h => ?_)
  · obtain ⟨a, ns, rfl, _⟩ := h
    rfl
  obtain ⟨a, ns, rfl, hS, hl, q⟩ := h
  refine ⟨_, (pss_cons (ps_set (i := 1) sclaw.nd rfl (Or.inl rfl) (pe_ok C_law_pool (hr.mono (by first | decide | exact Nat.le_refl _)) rfl (pa_cons (pv 0) pa_nil)))
      (pss_cons (ps_set (i := 2) sclaw.nd rfl (Or.inl rfl) (pe_ok C_law_jobs (hr.mono (by first | decide | exact Nat.le_refl _)) rfl (pa_cons (pv 1) (pa_cons pe_int pa_nil))))
      (pss_cons (ps_set (i := 3) sclaw.nd rfl (Or.inl rfl) (pe_join pe_str (pe_lc (own := [("job", 4)]) (g := gName 4) (tt := tYes) rfl sclaw.nd (pi_tup (pv 2)) (blkOk_by (own := [("job", 4)]) (N := ["script", "pool", "jobs", "text", "job"]) (sc := defScope slaw) (by decide +kernel)) (fun _ _ _ _ _ => (pg_name (i := 4) sclaw.nd rfl (Or.inl rfl))) (fun _ _ _ _ _ => pts_nil) (fun _ _ _ _ _ => (pe_op op_add_str (pe_op op_add_str (pe_op op_add_str (pe_op op_add_str (pe_op op_add_str (pe_op op_add_str (pe_op op_add_str (pe_ix (ix_tupK (K := K) rfl) (pv 4) pe_int (fun _ _ => rfl)) pe_str) (pe_callTy call_str_int rfl B.str (by decide +kernel) (pa_cons (pe_ix (ix_tupK (K := K) rfl) (pv 4) pe_int (fun _ _ => rfl)) pa_nil))) pe_str) (pe_callTy call_str_int rfl B.str (by decide +kernel) (pa_cons (pe_ix (ix_tupK (K := K) rfl) (pv 4) pe_int (fun _ _ => rfl)) pa_nil))) pe_str) (pe_callTy call_str_int rfl B.str (by decide +kernel) (pa_cons (pe_ix (ix_tupK (K := K) rfl) (pv 4) pe_int (fun _ _ => rfl)) pa_nil))) pe_str)))))
      (pss_one (ps_ret (pe_and (pe_ok C_law_same (hr.mono (by first | decide | exact Nat.le_refl _)) rfl (pa_cons (pe_ok C_write_jobs (hr.mono (by first | decide | exact Nat.le_refl _)) rfl (pa_cons (pv 2) pa_nil)) (pa_cons (pv 3) pa_nil))) (pe_one (pe_ok C_law_same (hr.mono (by first | decide | exact Nat.le_refl _)) rfl (pa_cons (pe_ok C_read_jobs (hr.mono (by first | decide | exact Nat.le_refl _)) rfl (pa_cons (pv 3) pa_nil)) (pa_cons (pv 2) pa_nil)))))))))), ?_⟩
  refine ⟨_, rfl, a, ns, rfl, hS, hl, fun p pa H1 np s1 P1 => ?_⟩
  refine ⟨_, rfl, p, pa, 12, rfl, P1, by decide, fun J jx js H2 hj hjl k2 P2 nJ hJ hI => ?_⟩
  have lx : jx.length = js.length := by rw [hI.len, List.length_map]
  have sJ : SqT K H2 J jx := SqT.of hJ
  refine ⟨⟨_, rfl⟩, _, rfl, J, rfl, ⟨_, sJ⟩, fun D hD => ?_⟩
  have e1 : (" " : Str).length = 1 := by decide +kernel
  have e2 : ("\n" : Str).length = 1 := by decide +kernel
  refine lc_tup (xs := jx) (fun i H' => Same H2 H' ∧ H' D = some (.lst (((js.take i).map lineT).map V.str))) ⟨same_upd hD, upd_same⟩ (fun i H' _ h => Tm.sq (Same.tm h.1) sJ) ?_ ?_
  · rintro i v H' hv ⟨s3, h3⟩
    obtain ⟨d, hd0, iv⟩ := hI.at hv
    obtain ⟨j, hjj, rfl⟩ := getJ hd0
    have sh := hj.sh (List.mem_of_getElem? hjj)
    have n1 := sh.n
    have n2 := sh.c
    have n3 := sh.d
    have n4 := sh.v
    obtain ⟨tj, rfl, sj⟩ := job_at (iv.to (Same.tm s3))
    refine ⟨rfl, _, rfl, tj, _, 0, _, rfl, rfl, sj, rfl, _, _, rfl, rfl, small5 (by simp only [len_app, e1, e2]; omega), ?_⟩
    refine ⟨_, rfl, tj, _, 1, _, rfl, rfl, sj, rfl, j.c, rfl, sh.lc, _, nt j.c, rfl, rfl, small5 (by simp only [len_app, e1, e2]; omega), _, _, rfl, rfl, small5 (by simp only [len_app, e1, e2]; omega), ?_⟩
    refine ⟨_, rfl, tj, _, 2, _, rfl, rfl, sj, rfl, j.d, rfl, sh.ld, _, nt j.d, rfl, rfl, small5 (by simp only [len_app, e1, e2]; omega), _, _, rfl, rfl, small5 (by simp only [len_app, e1, e2]; omega), ?_⟩
    refine ⟨_, rfl, tj, _, 3, _, rfl, rfl, sj, rfl, j.w, rfl, sh.lv, _, nt j.w, rfl, rfl, small5 (by simp only [len_app, e1, e2]; omega), _, _, rfl, rfl, small5 (by simp only [len_app, e1, e2]; omega), ?_⟩
    refine ⟨_, h3, small5' (by rw [List.length_map, List.length_map, List.length_take]; omega), Z.Same.mut s3 hD, ?_⟩
    rw [take_one hjj, List.map_append, List.map_append]
    exact upd_same
  rintro H3 ⟨s3, h3⟩
  rw [lx, List.take_length] at h3
  refine ⟨_, D, js.map lineT, rfl, rfl, .inl (SqL.of h3), text_sum hj hjl, ?_⟩
  refine ⟨_, rfl, J, jx, js, rfl, Tm.sq (Same.tm s3) sJ, hI.to (Same.tm s3), hj, hjl, fun H4 s4 => ?_⟩
  have s34 := s3.trans s4
  refine ⟨_, rfl, _, _, .str (textOf js), .str (textOf js), rfl, .str _, .str _, by simp [plainD], by simp [plainD], by simp [depD], fun c H5 s5 hc => ?_⟩
  obtain rfl : c = true := hc.mpr rfl
  refine ⟨_, rfl, iteT ?_⟩
  have s35 := s34.trans s5
  refine ⟨_, rfl, js, rfl, hj, hjl, fun t xs H6 s6 ht hI6 => ?_⟩
  have s36 := s35.trans s6
  refine ⟨_, rfl, _, _, .tuple (js.map dJob), .tuple (js.map dJob), rfl, .tup ht hI6, .tup (Tm.sq (Same.tm s36) sJ) (hI.to (Same.tm s36)), plain_jobs (by omega), plain_jobs (by omega), dep_jobs js, fun c H7 s7 hc => ?_⟩
  obtain rfl : c = true := hc.mpr rfl
  exact q _

theorem all {flaw : Addr} {fdlaw : FuncData} (B : BI mg) (G : GS mg) (Fconsists_of : At K mg "consists_of" sconsists_of ["word", "characters"]) (Fis_name : At K mg "is_name" sis_name ["word"]) (Fwhole : At K mg "whole" swhole ["word", "most"]) (Fis_job : At K mg "is_job" sis_job ["name", "comes", "due", "work"]) (Fwrite_jobs : At K mg "write_jobs" swrite_jobs ["jobs"]) (Fread_job : At K mg "read_job" sread_job ["line"]) (Fread_jobs : At K mg "read_jobs" sread_jobs ["text"]) (F_law_pool : At K mg "_law_pool" s_law_pool ["script"]) (F_law_draw : At K mg "_law_draw" s_law_draw ["pool", "many"]) (F_law_same : At K mg "_law_same" s_law_same ["actual", "due"]) (F_law_name : At K mg "_law_name" s_law_name ["pool", "index"]) (F_law_window : At K mg "_law_window" s_law_window ["pool", "wide"]) (F_law_jobs : At K mg "_law_jobs" s_law_jobs ["pool", "most"]) (Flaw : Fun K "law" "law" slaw flaw fdlaw) : FnOk P w K mg base CX0 6 flaw fdlaw ["script"] (spLaw K) := by
  have C_draw := ok_law_draw (P := P) (w := w) (base := base) B F_law_draw
  have C_cons := ok_consists_of (P := P) (w := w) (base := base) Fconsists_of
  exact oklaw B Flaw (ok_law_pool B F_law_pool) (ok_law_jobs B F_law_jobs C_draw (ok_law_window B F_law_window C_draw) (ok_law_name B F_law_name C_draw))
    (ok_write_jobs B Fwrite_jobs) (ok_read_jobs B G Fread_jobs (ok_read_job B G Fread_job (ok_whole B G Fwhole C_cons) (ok_is_job B G Fis_job (ok_is_name B G Fis_name C_cons)))) (ok_law_same B F_law_same 3)
end
theorem all_mk {l : PySem.W.OpenLaw} {w : World} {K : PySem.W.Frag} {h : Heap} {mg : Str → Option Value} {fa f1 f2 f3 f4 f5 f6 f7 f8 f9 f10 f11 f12 f13 f14 : Addr} (X : K.In h) (G : h.Ns mainGlobals mg) (hfa : mg "law" = some (.ref fa))
    {od1 an1 od2 an2 od3 an3 od4 an4 od5 an5 od6 an6 od7 an7 od8 an8 od9 an9 od10 an10 od11 an11 od12 an12 od13 an13 od14 an14 : Option Addr} {sl1 sl2 sl3 sl4 sl5 sl6 sl7 sl8 sl9 sl10 sl11 sl12 sl13 sl14 : Array (Option Value)} {oc1 kV1 dc1 pm1 cd1 ct1 oc2 kV2 dc2 pm2 cd2 ct2 oc3 kV3 dc3 pm3 cd3 ct3 oc4 kV4 dc4 pm4 cd4 ct4 oc5 kV5 dc5 pm5 cd5 ct5 oc6 kV6 dc6 pm6 cd6 ct6 oc7 kV7 dc7 pm7 cd7 ct7 oc8 kV8 dc8 pm8 cd8 ct8 oc9 kV9 dc9 pm9 cd9 ct9 oc10 kV10 dc10 pm10 cd10 ct10 oc11 kV11 dc11 pm11 cd11 ct11 oc12 kV12 dc12 pm12 cd12 ct12 oc13 kV13 dc13 pm13 cd13 ct13 oc14 kV14 dc14 pm14 cd14 ct14 : Value}
    (a1 : PySem.W.nsIn K mainGlobals "consists_of" = some (some (.ref f1))) (l1 : K.lookup f1 = some ⟨oc1, od1, .func (PySem.W.fnOf "consists_of" "consists_of" (defArgs sconsists_of) (defBody sconsists_of) (defScope sconsists_of) .none kV1 dc1 pm1 an1 cd1 ct1), sl1⟩) (c1 : PySem.W.codeIn K cd1 "consists_of" = true) (k1 : PySem.W.keepIn K (.ref f1) = true)
    (a2 : PySem.W.nsIn K mainGlobals "is_name" = some (some (.ref f2))) (l2 : K.lookup f2 = some ⟨oc2, od2, .func (PySem.W.fnOf "is_name" "is_name" (defArgs sis_name) (defBody sis_name) (defScope sis_name) .none kV2 dc2 pm2 an2 cd2 ct2), sl2⟩) (c2 : PySem.W.codeIn K cd2 "is_name" = true) (k2 : PySem.W.keepIn K (.ref f2) = true)
    (a3 : PySem.W.nsIn K mainGlobals "whole" = some (some (.ref f3))) (l3 : K.lookup f3 = some ⟨oc3, od3, .func (PySem.W.fnOf "whole" "whole" (defArgs swhole) (defBody swhole) (defScope swhole) .none kV3 dc3 pm3 an3 cd3 ct3), sl3⟩) (c3 : PySem.W.codeIn K cd3 "whole" = true) (k3 : PySem.W.keepIn K (.ref f3) = true)
    (a4 : PySem.W.nsIn K mainGlobals "is_job" = some (some (.ref f4))) (l4 : K.lookup f4 = some ⟨oc4, od4, .func (PySem.W.fnOf "is_job" "is_job" (defArgs sis_job) (defBody sis_job) (defScope sis_job) .none kV4 dc4 pm4 an4 cd4 ct4), sl4⟩) (c4 : PySem.W.codeIn K cd4 "is_job" = true) (k4 : PySem.W.keepIn K (.ref f4) = true)
    (a5 : PySem.W.nsIn K mainGlobals "write_jobs" = some (some (.ref f5))) (l5 : K.lookup f5 = some ⟨oc5, od5, .func (PySem.W.fnOf "write_jobs" "write_jobs" (defArgs swrite_jobs) (defBody swrite_jobs) (defScope swrite_jobs) .none kV5 dc5 pm5 an5 cd5 ct5), sl5⟩) (c5 : PySem.W.codeIn K cd5 "write_jobs" = true) (k5 : PySem.W.keepIn K (.ref f5) = true)
    (a6 : PySem.W.nsIn K mainGlobals "read_job" = some (some (.ref f6))) (l6 : K.lookup f6 = some ⟨oc6, od6, .func (PySem.W.fnOf "read_job" "read_job" (defArgs sread_job) (defBody sread_job) (defScope sread_job) .none kV6 dc6 pm6 an6 cd6 ct6), sl6⟩) (c6 : PySem.W.codeIn K cd6 "read_job" = true) (k6 : PySem.W.keepIn K (.ref f6) = true)
    (a7 : PySem.W.nsIn K mainGlobals "read_jobs" = some (some (.ref f7))) (l7 : K.lookup f7 = some ⟨oc7, od7, .func (PySem.W.fnOf "read_jobs" "read_jobs" (defArgs sread_jobs) (defBody sread_jobs) (defScope sread_jobs) .none kV7 dc7 pm7 an7 cd7 ct7), sl7⟩) (c7 : PySem.W.codeIn K cd7 "read_jobs" = true) (k7 : PySem.W.keepIn K (.ref f7) = true)
    (a8 : PySem.W.nsIn K mainGlobals "_law_pool" = some (some (.ref f8))) (l8 : K.lookup f8 = some ⟨oc8, od8, .func (PySem.W.fnOf "_law_pool" "_law_pool" (defArgs s_law_pool) (defBody s_law_pool) (defScope s_law_pool) .none kV8 dc8 pm8 an8 cd8 ct8), sl8⟩) (c8 : PySem.W.codeIn K cd8 "_law_pool" = true) (k8 : PySem.W.keepIn K (.ref f8) = true)
    (a9 : PySem.W.nsIn K mainGlobals "_law_draw" = some (some (.ref f9))) (l9 : K.lookup f9 = some ⟨oc9, od9, .func (PySem.W.fnOf "_law_draw" "_law_draw" (defArgs s_law_draw) (defBody s_law_draw) (defScope s_law_draw) .none kV9 dc9 pm9 an9 cd9 ct9), sl9⟩) (c9 : PySem.W.codeIn K cd9 "_law_draw" = true) (k9 : PySem.W.keepIn K (.ref f9) = true)
    (a10 : PySem.W.nsIn K mainGlobals "_law_same" = some (some (.ref f10))) (l10 : K.lookup f10 = some ⟨oc10, od10, .func (PySem.W.fnOf "_law_same" "_law_same" (defArgs s_law_same) (defBody s_law_same) (defScope s_law_same) .none kV10 dc10 pm10 an10 cd10 ct10), sl10⟩) (c10 : PySem.W.codeIn K cd10 "_law_same" = true) (k10 : PySem.W.keepIn K (.ref f10) = true)
    (a11 : PySem.W.nsIn K mainGlobals "_law_name" = some (some (.ref f11))) (l11 : K.lookup f11 = some ⟨oc11, od11, .func (PySem.W.fnOf "_law_name" "_law_name" (defArgs s_law_name) (defBody s_law_name) (defScope s_law_name) .none kV11 dc11 pm11 an11 cd11 ct11), sl11⟩) (c11 : PySem.W.codeIn K cd11 "_law_name" = true) (k11 : PySem.W.keepIn K (.ref f11) = true)
    (a12 : PySem.W.nsIn K mainGlobals "_law_window" = some (some (.ref f12))) (l12 : K.lookup f12 = some ⟨oc12, od12, .func (PySem.W.fnOf "_law_window" "_law_window" (defArgs s_law_window) (defBody s_law_window) (defScope s_law_window) .none kV12 dc12 pm12 an12 cd12 ct12), sl12⟩) (c12 : PySem.W.codeIn K cd12 "_law_window" = true) (k12 : PySem.W.keepIn K (.ref f12) = true)
    (a13 : PySem.W.nsIn K mainGlobals "_law_jobs" = some (some (.ref f13))) (l13 : K.lookup f13 = some ⟨oc13, od13, .func (PySem.W.fnOf "_law_jobs" "_law_jobs" (defArgs s_law_jobs) (defBody s_law_jobs) (defScope s_law_jobs) .none kV13 dc13 pm13 an13 cd13 ct13), sl13⟩) (c13 : PySem.W.codeIn K cd13 "_law_jobs" = true) (k13 : PySem.W.keepIn K (.ref f13) = true)
    (a14 : PySem.W.nsIn K mainGlobals "law" = some (some (.ref f14))) (l14 : K.lookup f14 = some ⟨oc14, od14, .func (PySem.W.fnOf "law" "law" (defArgs slaw) (defBody slaw) (defScope slaw) .none kV14 dc14 pm14 an14 cd14 ct14), sl14⟩) (c14 : PySem.W.codeIn K cd14 "law" = true) (k14 : PySem.W.keepIn K (.ref f14) = true)
    (z_len : PySem.W.nsIn K mainGlobals "len" = some none)
    (z_int : PySem.W.nsIn K mainGlobals "int" = some none)
    (z_abs : PySem.W.nsIn K mainGlobals "abs" = some none)
    (z_list : PySem.W.nsIn K mainGlobals "list" = some none)
    (z_tuple : PySem.W.nsIn K mainGlobals "tuple" = some none)
    (z_range : PySem.W.nsIn K mainGlobals "range" = some none)
    (z_isinstance : PySem.W.nsIn K mainGlobals "isinstance" = some none)
    (z_str : PySem.W.nsIn K mainGlobals "str" = some none)
    (z_bool : PySem.W.nsIn K mainGlobals "bool" = some none)
    (z_sum : PySem.W.nsIn K mainGlobals "sum" = some none)
    (z_sorted : PySem.W.nsIn K mainGlobals "sorted" = some none)
    (z_enumerate : PySem.W.nsIn K mainGlobals "enumerate" = some none)
    {ztLETTERS : Tok} (zgLETTERS : PySem.W.nsIn K mainGlobals "LETTERS" = some (some (.str LET ztLETTERS)))
    {ztDIGITS : Tok} (zgDIGITS : PySem.W.nsIn K mainGlobals "DIGITS" = some (some (.str DIG ztDIGITS)))
    {ztLONGEST_NAME : Tok} (zgLONGEST_NAME : PySem.W.nsIn K mainGlobals "LONGEST_NAME" = some (some (.int 8 ztLONGEST_NAME)))
    {ztMOST_JOBS : Tok} (zgMOST_JOBS : PySem.W.nsIn K mainGlobals "MOST_JOBS" = some (some (.int 12 ztMOST_JOBS)))
    {ztLATEST : Tok} (zgLATEST : PySem.W.nsIn K mainGlobals "LATEST" = some (some (.int 10000 ztLATEST)))
    {ztMOST_WORK : Tok} (zgMOST_WORK : PySem.W.nsIn K mainGlobals "MOST_WORK" = some (some (.int 10000 ztMOST_WORK)))
    {ztMOST_DIGITS : Tok} (zgMOST_DIGITS : PySem.W.nsIn K mainGlobals "MOST_DIGITS" = some (some (.int 5 ztMOST_DIGITS)))
    : ∃ fd : FuncData, (∀ (s : Shared) (v : Value), BindsTo s fd ⟨[v], []⟩ [("script", v)]) ∧ ∀ base : Heap, K.In base → base.Ns mainGlobals mg → FnOk l.prog w K mg base CX0 6 fa fd ["script"] (spLaw K) := by
  have e := hfa.symm.trans (PySem.W.mg_of X G a14)
  cases e
  have B : BI mg := ⟨PySem.W.mg_none_of X G z_len, PySem.W.mg_none_of X G z_int, PySem.W.mg_none_of X G z_abs, PySem.W.mg_none_of X G z_list, PySem.W.mg_none_of X G z_tuple, PySem.W.mg_none_of X G z_range, PySem.W.mg_none_of X G z_isinstance, PySem.W.mg_none_of X G z_str, PySem.W.mg_none_of X G z_bool, PySem.W.mg_none_of X G z_sum, PySem.W.mg_none_of X G z_sorted, PySem.W.mg_none_of X G z_enumerate⟩
  have Fconsists_of : At K mg "consists_of" sconsists_of ["word", "characters"] := ⟨_, _, fun_mk (st := sconsists_of) l1 c1 k1, PySem.W.mg_of X G a1, (fun_mk (st := sconsists_of) l1 c1 k1).binds (ps := ["word", "characters"]) fun _ _ _ _ _ _ us hl => match us, hl with | [_, _], _ => rfl⟩
  have Fis_name : At K mg "is_name" sis_name ["word"] := ⟨_, _, fun_mk (st := sis_name) l2 c2 k2, PySem.W.mg_of X G a2, (fun_mk (st := sis_name) l2 c2 k2).binds (ps := ["word"]) fun _ _ _ _ _ _ us hl => match us, hl with | [_], _ => rfl⟩
  have Fwhole : At K mg "whole" swhole ["word", "most"] := ⟨_, _, fun_mk (st := swhole) l3 c3 k3, PySem.W.mg_of X G a3, (fun_mk (st := swhole) l3 c3 k3).binds (ps := ["word", "most"]) fun _ _ _ _ _ _ us hl => match us, hl with | [_, _], _ => rfl⟩
  have Fis_job : At K mg "is_job" sis_job ["name", "comes", "due", "work"] := ⟨_, _, fun_mk (st := sis_job) l4 c4 k4, PySem.W.mg_of X G a4, (fun_mk (st := sis_job) l4 c4 k4).binds (ps := ["name", "comes", "due", "work"]) fun _ _ _ _ _ _ us hl => match us, hl with | [_, _, _, _], _ => rfl⟩
  have Fwrite_jobs : At K mg "write_jobs" swrite_jobs ["jobs"] := ⟨_, _, fun_mk (st := swrite_jobs) l5 c5 k5, PySem.W.mg_of X G a5, (fun_mk (st := swrite_jobs) l5 c5 k5).binds (ps := ["jobs"]) fun _ _ _ _ _ _ us hl => match us, hl with | [_], _ => rfl⟩
  have Fread_job : At K mg "read_job" sread_job ["line"] := ⟨_, _, fun_mk (st := sread_job) l6 c6 k6, PySem.W.mg_of X G a6, (fun_mk (st := sread_job) l6 c6 k6).binds (ps := ["line"]) fun _ _ _ _ _ _ us hl => match us, hl with | [_], _ => rfl⟩
  have Fread_jobs : At K mg "read_jobs" sread_jobs ["text"] := ⟨_, _, fun_mk (st := sread_jobs) l7 c7 k7, PySem.W.mg_of X G a7, (fun_mk (st := sread_jobs) l7 c7 k7).binds (ps := ["text"]) fun _ _ _ _ _ _ us hl => match us, hl with | [_], _ => rfl⟩
  have F_law_pool : At K mg "_law_pool" s_law_pool ["script"] := ⟨_, _, fun_mk (st := s_law_pool) l8 c8 k8, PySem.W.mg_of X G a8, (fun_mk (st := s_law_pool) l8 c8 k8).binds (ps := ["script"]) fun _ _ _ _ _ _ us hl => match us, hl with | [_], _ => rfl⟩
  have F_law_draw : At K mg "_law_draw" s_law_draw ["pool", "many"] := ⟨_, _, fun_mk (st := s_law_draw) l9 c9 k9, PySem.W.mg_of X G a9, (fun_mk (st := s_law_draw) l9 c9 k9).binds (ps := ["pool", "many"]) fun _ _ _ _ _ _ us hl => match us, hl with | [_, _], _ => rfl⟩
  have F_law_same : At K mg "_law_same" s_law_same ["actual", "due"] := ⟨_, _, fun_mk (st := s_law_same) l10 c10 k10, PySem.W.mg_of X G a10, (fun_mk (st := s_law_same) l10 c10 k10).binds (ps := ["actual", "due"]) fun _ _ _ _ _ _ us hl => match us, hl with | [_, _], _ => rfl⟩
  have F_law_name : At K mg "_law_name" s_law_name ["pool", "index"] := ⟨_, _, fun_mk (st := s_law_name) l11 c11 k11, PySem.W.mg_of X G a11, (fun_mk (st := s_law_name) l11 c11 k11).binds (ps := ["pool", "index"]) fun _ _ _ _ _ _ us hl => match us, hl with | [_, _], _ => rfl⟩
  have F_law_window : At K mg "_law_window" s_law_window ["pool", "wide"] := ⟨_, _, fun_mk (st := s_law_window) l12 c12 k12, PySem.W.mg_of X G a12, (fun_mk (st := s_law_window) l12 c12 k12).binds (ps := ["pool", "wide"]) fun _ _ _ _ _ _ us hl => match us, hl with | [_, _], _ => rfl⟩
  have F_law_jobs : At K mg "_law_jobs" s_law_jobs ["pool", "most"] := ⟨_, _, fun_mk (st := s_law_jobs) l13 c13 k13, PySem.W.mg_of X G a13, (fun_mk (st := s_law_jobs) l13 c13 k13).binds (ps := ["pool", "most"]) fun _ _ _ _ _ _ us hl => match us, hl with | [_, _], _ => rfl⟩
  have Flaw := fun_mk (st := slaw) l14 c14 k14
  refine ⟨PySem.W.fnOf "law" "law" (defArgs slaw) (defBody slaw) (defScope slaw) .none kV14 dc14 pm14 an14 cd14 ct14, fun s v => .of_eq rfl, fun base _ _ => ?_⟩
  exact all (P := l.prog) (w := w) (base := base) B ⟨⟨_, PySem.W.mg_of X G zgLETTERS⟩, ⟨_, PySem.W.mg_of X G zgDIGITS⟩, ⟨_, PySem.W.mg_of X G zgLONGEST_NAME⟩, ⟨_, PySem.W.mg_of X G zgMOST_JOBS⟩, ⟨_, PySem.W.mg_of X G zgLATEST⟩, ⟨_, PySem.W.mg_of X G zgMOST_WORK⟩, ⟨_, PySem.W.mg_of X G zgMOST_DIGITS⟩⟩ Fconsists_of Fis_name Fwhole Fis_job Fwrite_jobs Fread_job Fread_jobs F_law_pool F_law_draw F_law_same F_law_name F_law_window F_law_jobs Flaw
end Z
open PySem PySem.W PyProof.Rows
set_option maxRecDepth 100000 in
set_option maxHeartbeats 0 in
theorem PySem.Challenge.cw_sparewatts_k02_job_texts_holds : PySem.Challenge.rw_sparewatts_k02_job_texts.Holds := by
  w_on; o_law; k_head; (case hw => w_witness2)
  k_fill
  refine L2.walk_of (l := PySem.Challenge.rw_sparewatts_k02_job_texts) (n := 63) (k := 6) (x := "script") (CX := fun _ => L2.CX0) (sp := fun w => Z.spLaw _) rfl (by decide) rfl ⟨rfl, by decide, by decide⟩ (fun w h Y => PySem.W.kIn_of Y) ?F (fun _ _ a ns hl _ hS => ⟨a, ns, rfl, hS, hl, fun _ => rfl⟩) (fun _ _ _ _ _ h => h)
  case F =>
    intro w mg fa h KX G hmg
    refine' Z.all_mk KX G hmg ?a1 ?l1 ?c1 ?k1 ?a2 ?l2 ?c2 ?k2 ?a3 ?l3 ?c3 ?k3 ?a4 ?l4 ?c4 ?k4 ?a5 ?l5 ?c5 ?k5 ?a6 ?l6 ?c6 ?k6 ?a7 ?l7 ?c7 ?k7 ?a8 ?l8 ?c8 ?k8 ?a9 ?l9 ?c9 ?k9 ?a10 ?l10 ?c10 ?k10 ?a11 ?l11 ?c11 ?k11 ?a12 ?l12 ?c12 ?k12 ?a13 ?l13 ?c13 ?k13 ?a14 ?l14 ?c14 ?k14 ?z_len ?z_int ?z_abs ?z_list ?z_tuple ?z_range ?z_isinstance ?z_str ?z_bool ?z_sum ?z_sorted ?z_enumerate ?zgLETTERS ?zgDIGITS ?zgLONGEST_NAME ?zgMOST_JOBS ?zgLATEST ?zgMOST_WORK ?zgMOST_DIGITS
    (case a1 => k_is)
    (case l1 => k_is)
    (case c1 => k_is)
    (case k1 => k_is)
    (case a2 => k_is)
    (case l2 => k_is)
    (case c2 => k_is)
    (case k2 => k_is)
    (case a3 => k_is)
    (case l3 => k_is)
    (case c3 => k_is)
    (case k3 => k_is)
    (case a4 => k_is)
    (case l4 => k_is)
    (case c4 => k_is)
    (case k4 => k_is)
    (case a5 => k_is)
    (case l5 => k_is)
    (case c5 => k_is)
    (case k5 => k_is)
    (case a6 => k_is)
    (case l6 => k_is)
    (case c6 => k_is)
    (case k6 => k_is)
    (case a7 => k_is)
    (case l7 => k_is)
    (case c7 => k_is)
    (case k7 => k_is)
    (case a8 => k_is)
    (case l8 => k_is)
    (case c8 => k_is)
    (case k8 => k_is)
    (case a9 => k_is)
    (case l9 => k_is)
    (case c9 => k_is)
    (case k9 => k_is)
    (case a10 => k_is)
    (case l10 => k_is)
    (case c10 => k_is)
    (case k10 => k_is)
    (case a11 => k_is)
    (case l11 => k_is)
    (case c11 => k_is)
    (case k11 => k_is)
    (case a12 => k_is)
    (case l12 => k_is)
    (case c12 => k_is)
    (case k12 => k_is)
    (case a13 => k_is)
    (case l13 => k_is)
    (case c13 => k_is)
    (case k13 => k_is)
    (case a14 => k_is)
    (case l14 => k_is)
    (case c14 => k_is)
    (case k14 => k_is)
    (case z_len => k_is)
    (case z_int => k_is)
    (case z_abs => k_is)
    (case z_list => k_is)
    (case z_tuple => k_is)
    (case z_range => k_is)
    (case z_isinstance => k_is)
    (case z_str => k_is)
    (case z_bool => k_is)
    (case z_sum => k_is)
    (case z_sorted => k_is)
    (case z_enumerate => k_is)
    (case zgLETTERS => k_is)
    (case zgDIGITS => k_is)
    (case zgLONGEST_NAME => k_is)
    (case zgMOST_JOBS => k_is)
    (case zgLATEST => k_is)
    (case zgMOST_WORK => k_is)
    (case zgMOST_DIGITS => k_is)
