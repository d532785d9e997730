import PyProof.Rows.All
import Wide.All
import OpenK.AllK
import Wide.FinOn
import HandS.ForMost
import HandS.Wide
import HandS.Gcd
import HandS.IsInst
import HandS.Defaults
import HandS.Evl
import HandS.TupAny
import HandS.Zip
import KE.GoesEnum
import HandS.Walk
import HandS.Deep
import HandS.More
import KE.GoesZip
import KE.GoesMore
import PySem.Challenge.RW_sparewatts_k39_whole_dozing_costs_at_mos
set_option Elab.async false
set_option linter.all false
set_option maxRecDepth 100000
set_option maxHeartbeats 4000000
/-! Own base: a def's promise with its place, draws, data that is made of tuples. -/
namespace Z
open PySem PySem.Spec PyProof.Rows L2

/-! ### heaps -/
/-- all stays but what stands at p -/
def Kp (p : Addr) (H H' : Hp) : Prop := ∀ a o, a ≠ p → H a = some o → H' a = some o
theorem Kp.refl (p : Addr) (H : Hp) : Kp p H H := fun _ _ _ h => h
theorem Kp.trans {p : Addr} {H H1 H2 : Hp} (a : Kp p H H1) (b : Kp p H1 H2) : Kp p H H2 := fun x o n h => b x o n (a x o n h)
theorem Kp.of {p : Addr} {H H' : Hp} (e : Same H H') : Kp p H H' := fun a o _ h => e a o h
theorem Kp.sto {p : Addr} {H : Hp} {o : HO} : Kp p H (upd H p o) := fun a u n h => by rw [upd_ne n]; exact h
theorem same_upd {H : Hp} {p : Addr} {o : HO} (h : H p = none) : Same H (upd H p o) := fun b x e => by
  rw [upd_ne (ne_of_none e h)]
  exact e
theorem Kp.new {p q : Addr} {H : Hp} {o : HO} (h : H q = none) : Kp p H (upd H q o) := .of (same_upd h)
/-- a place that H does not know may change -/
theorem Kp.mut {p q : Addr} {H H' : Hp} {o : HO} (e : Kp p H H') (h : H q = none) : Kp p H (upd H' q o) := fun a u n ha => by
  rw [upd_ne (ne_of_none ha h)]
  exact e a u n ha
theorem Same.mut {q : Addr} {H H' : Hp} {o : HO} (e : Same H H') (h : H q = none) : Same H (upd H' q o) := fun a u ha => by
  rw [upd_ne (ne_of_none ha h)]
  exact e a u ha
/-- what may be read as a tuple stays so -/
def Tm (H H' : Hp) : Prop := ∀ a xs, Rd H a (.tup xs) → Rd H' a (.tup xs)
theorem Same.tm {H H' : Hp} (e : Same H H') : Tm H H' := fun a xs h => by
  rcases h with h | ⟨o, h⟩
  · exact .inl (e _ _ h)
  · exact .inr ⟨o, e _ _ h⟩
theorem Kp.tm {p : Addr} {H H' : Hp} {xs : List V} (e : Kp p H H') (hp : H p = some (.lst xs)) : Tm H H' := fun a ys h => by
  rcases h with h | ⟨o, h⟩
  · exact .inl (e _ _ (by rintro rfl; rw [hp] at h; cases h) h)
  · exact .inr ⟨o, e _ _ (by rintro rfl; rw [hp] at h; cases h) h⟩
theorem Tm.refl (H : Hp) : Tm H H := fun _ _ h => h
theorem Tm.trans {H H1 H2 : Hp} (a : Tm H H1) (b : Tm H1 H2) : Tm H H2 := fun x o h => b x o (a x o h)
/-- a list is stored -/
theorem Tm.lst {p : Addr} {H : Hp} {xs ys : List V} (hp : H p = some (.lst xs)) : Tm H (upd H p (.lst ys)) := Kp.tm (Kp.sto (p := p)) hp
theorem Tm.new {p : Addr} {H : Hp} {o : HO} (hp : H p = none) : Tm H (upd H p o) := Same.tm (same_upd hp)
theorem Tm.sq {K : PySem.W.Frag} {H H' : Hp} {a : Addr} {xs : List V} (e : Tm H H') (h : SqT K H a xs) : SqT K H' a xs := by
  rcases h with h | h
  · exact .inl (e _ _ h)
  · exact .inr h

/-! ### data of tuples -/
mutual
inductive Is (K : PySem.W.Frag) (H : Hp) : V → PyData → Prop
  | non : Is K H .non .none
  | bl (b : Bool) : Is K H (.bl b) (.bool b)
  | int (i : Int) : Is K H (.int i) (.int i)
  | str (x : Str) : Is K H (.str x) (.str x)
  | tup {a : Addr} {xs : List V} {ds : List PyData} : SqT K H a xs → IsA K H xs ds → Is K H (.ref a) (.tuple ds)
inductive IsA (K : PySem.W.Frag) (H : Hp) : List V → List PyData → Prop
  | nil : IsA K H [] []
  | cons {v : V} {vs : List V} {d : PyData} {ds : List PyData} : Is K H v d → IsA K H vs ds → IsA K H (v :: vs) (d :: ds)
end
section
variable {K : PySem.W.Frag} {H H' : Hp}
mutual
theorem Is.mono (e : Tm H H') : ∀ (d : PyData) {v : V}, Is K H v d → Is K H' v d
  | _, _, .non => .non
  | _, _, .bl b => .bl b
  | _, _, .int i => .int i
  | _, _, .str x => .str x
  | .tuple ds, _, .tup s a => .tup (e.sq s) (IsA.mono e ds a)
theorem IsA.mono (e : Tm H H') : ∀ (ds : List PyData) {vs : List V}, IsA K H vs ds → IsA K H' vs ds
  | _, _, .nil => .nil
  | d :: ds, _, .cons h t => .cons (Is.mono e d h) (IsA.mono e ds t)
end
mutual
theorem Is.dp : ∀ (d : PyData) {v : V}, Is K H v d → Dp K H v d
  | _, _, .non => .non
  | _, _, .bl b => .bl b
  | _, _, .int i => .int i
  | _, _, .str x => .str x
  | .tuple ds, _, .tup s a => .tup s (IsA.dp ds a)
theorem IsA.dp : ∀ (ds : List PyData) {vs : List V}, IsA K H vs ds → DpAll K H vs ds
  | _, _, .nil => .nil
  | d :: ds, _, .cons h t => .cons (Is.dp d h) (IsA.dp ds t)
end
theorem Is.to {d : PyData} {v : V} (h : Is K H v d) (e : Tm H H') : Is K H' v d := Is.mono e d h
theorem IsA.to {ds : List PyData} {vs : List V} (h : IsA K H vs ds) (e : Tm H H') : IsA K H' vs ds := IsA.mono e ds h
theorem Is.int' {v : V} {i : Int} (h : Is K H v (.int i)) : v = .int i := by cases h; rfl
theorem Is.str' {v : V} {i : Str} (h : Is K H v (.str i)) : v = .str i := by cases h; rfl
theorem Is.tup' {v : V} {ds : List PyData} (h : Is K H v (.tuple ds)) : ∃ a xs, v = .ref a ∧ SqT K H a xs ∧ IsA K H xs ds := by
  cases h with
  | tup s a => exact ⟨_, _, rfl, s, a⟩
theorem IsA.len : ∀ {vs : List V} {ds : List PyData}, IsA K H vs ds → vs.length = ds.length
  | _, _, .nil => rfl
  | _, _, .cons _ t => congrArg Nat.succ (IsA.len t)
theorem IsA.get : ∀ {vs : List V} {ds : List PyData} {i : Nat} {d : PyData}, IsA K H vs ds → ds[i]? = some d → ∃ v, vs[i]? = some v ∧ Is K H v d
  | _, _, _, _, .nil, e => by simp at e
  | _, _, 0, _, .cons h _, e => by simp at e; subst e; exact ⟨_, rfl, h⟩
  | _, _, i + 1, d, .cons _ t, e => by
    obtain ⟨v, h1, h2⟩ := IsA.get (i := i) (d := d) t (by simpa using e)
    exact ⟨v, by simpa using h1, h2⟩
theorem IsA.append : ∀ {vs us : List V} {ds es : List PyData}, IsA K H vs ds → IsA K H us es → IsA K H (vs ++ us) (ds ++ es)
  | _, _, _, _, .nil, s => s
  | _, _, _, _, .cons h t, s => .cons h (IsA.append t s)
theorem IsA.take : ∀ {vs : List V} {ds : List PyData} (n : Nat), IsA K H vs ds → IsA K H (vs.take n) (ds.take n)
  | _, _, 0, _ => .nil
  | _, _, _ + 1, .nil => .nil
  | _, _, n + 1, .cons h t => .cons h (IsA.take n t)
theorem IsA.drop : ∀ {vs : List V} {ds : List PyData} (n : Nat), IsA K H vs ds → IsA K H (vs.drop n) (ds.drop n)
  | _, _, 0, h => h
  | _, _, _ + 1, .nil => .nil
  | _, _, n + 1, .cons _ t => IsA.drop n t
theorem IsA.set {v : V} {d : PyData} (h : Is K H v d) : ∀ {vs : List V} {ds : List PyData} (i : Nat), IsA K H vs ds → IsA K H (vs.set i v) (ds.set i d)
  | _, _, _, .nil => .nil
  | _, _, 0, .cons _ t => .cons h t
  | _, _, i + 1, .cons q t => .cons q (IsA.set h i t)
theorem IsA.two {a b : V} {d e : PyData} (h : Is K H a d) (h' : Is K H b e) : IsA K H [a, b] [d, e] := .cons h (.cons h' .nil)
theorem Is.two' {v : V} {d e : PyData} (h : Is K H v (.tuple [d, e])) : ∃ p a b, v = .ref p ∧ SqT K H p [a, b] ∧ Is K H a d ∧ Is K H b e := by
  obtain ⟨p, xs, rfl, s, q⟩ := h.tup'
  cases q with
  | cons h1 q => cases q with
    | cons h2 q => cases q; exact ⟨p, _, _, rfl, s, h1, h2⟩
/-- a new tuple -/
theorem Is.newT {p : Addr} {xs : List V} {ds : List PyData} (hp : H p = none) (h : IsA K H xs ds) : Is K (upd H p (.tup xs)) (.ref p) (.tuple ds) := .tup (.inl (.inl upd_same)) (h.to (Tm.new hp))
/-- its type -/
def tyD : PyData → String
  | .none => "NoneType" | .bool _ => "bool" | .int _ => "int" | .str _ => "str" | _ => "tuple"
theorem Is.ty {v : V} {d : PyData} (h : Is K H v d) : TyX K H v (.type (tyD d)) := by
  cases h with
  | non => exact .base .non
  | bl b => exact .base (.bl b)
  | int i => exact .base (.int i)
  | str x => exact .base (.str x)
  | tup s a =>
    rcases s with (s | ⟨o, s⟩) | ⟨o, its, n, hk, hc, _⟩
    · exact .base (.tup s)
    · exact .fTuple s
    · exact .kTuple hk hc
end

/-! ### a def of the text, and what it promises -/
structure At (K : PySem.W.Frag) (mg : Str → Option Value) (x : Str) (st : Stmt) (ps : List Str) : Prop where
  ex : ∃ (f : Addr) (fd : FuncData), Fun K x x st f fd ∧ mg x = some (.ref f) ∧ Binds K fd ps []
structure Ok (P : Program) (w : World) (K : PySem.W.Frag) (mg : Str → Option Value) (base : Heap) (lvl : Nat) (x : Str) (ps : List Str) (dvs : List V) (sp : Sp) : Prop where
  ex : ∃ (f : Addr) (fd : FuncData) (ds : List Value), FnOk P w K mg base CX0 lvl f fd ps sp ∧ mg x = some (.ref f) ∧ PySem.W.keepIn K (.ref f) = true ∧ Binds K fd ps ds ∧ Vals dvs ds
section
variable {P : Program} {w : World} {K : PySem.W.Frag} {mg : Str → Option Value} {base : Heap} {x : Str} {st : Stmt} {ps N : List Str} {k : Nat} {sp : Sp}
theorem At.ok (F : At K mg x st ps) (S : FnScope N ps (defScope st)) (len : ∀ vs H Q E, sp vs H Q E → vs.length = ps.length)
    (hbody : ∀ (f : Addr) (cdv : Value) (A : Around) (outer : List Env) (s : Shared) (H : Hp) (vs : List V) (Q : VK) (E : XK), Room k (A.deeper (envOfC x (defScope st) s.heap.objs.size f cdv)) → sp vs H Q E →
      ∃ t, PSs (cxOf CX0 P w K mg base N x (defScope st) f cdv A outer s H E).nox (defBody st) t ∧ t { nx := fun _ H' => Q .non H', rt := Q } (start N vs) H) : Ok P w K mg base (k + 1) x ps [] sp := by
  obtain ⟨f, fd, F, m, b⟩ := F.ex
  exact ⟨f, fd, [], F.ok S len (fun cdv A outer s H vs Q E hr h => hbody f cdv A outer s H vs Q E hr h), m, F.kp, b, .nil⟩
theorem Ok.imp {dvs : List V} {sp' : Sp} (F : Ok P w K mg base k x ps dvs sp) (h : ∀ vs H Q E, sp' vs H Q E → sp vs H Q E) : Ok P w K mg base k x ps dvs sp' := by
  obtain ⟨f, fd, ds, F, m, kp, b, d⟩ := F.ex
  exact ⟨f, fd, ds, F.imp h, m, kp, b, d⟩
theorem Ok.up {dvs : List V} {j : Nat} (F : Ok P w K mg base k x ps dvs sp) (h : k ≤ j) : Ok P w K mg base j x ps dvs sp := by
  obtain ⟨f, fd, ds, F, m, kp, b, d⟩ := F.ex
  exact ⟨f, fd, ds, F.mono h, m, kp, b, d⟩
end
section
variable {X : Cx} {x : Str} {p pos : Pos} {e : Expr} {es : List Expr} {k : Nat} {ps : List Str} {dvs : List V} {sp : Sp} {t : TA}
theorem pe_ok (C : Ok X.prog X.w X.K X.mg X.base k x ps dvs sp) (hr : Room k X.A) (hg : Gl X x) (ha : PA X (e :: es) t) (hdb : (x == ("__debug__" : Str)) = false := by decide)
    (he : starEach (e :: es) X.env = (false, eval e X.env) :: starEach es X.env := by rfl) (hpl : (backTo pos (starEach es X.env)).any (·.1) = false := by rfl) :
    PE X (.Call (.Name x p) (e :: es) [] pos) (tCall sp dvs E0 t) := by
  obtain ⟨f, fd, ds, F, m, kp, b, d⟩ := C.ex
  exact pe_call F hr hg m kp b d pass0 ha hdb he hpl
/-- // by any divisor but 0 below 2 ^ 9000 -/
def CDivX (_ j : Int) : Prop := j ≠ 0 ∧ j.natAbs.log2 < 9000
theorem op_fdivX : OpR X (binaryOp .FloorDiv) (rI CDivX fun i j => .int (i.fdiv j)) := opI fun i j _ _ _ _ _ hc q => floordiv_int hc.1 q (.inl (PyProof.noPylong_of_log2 hc.2))
end
section
variable {X : Cx}
/-- a product: one side small, or both of moderate size -/
def CMulX (i j : Int) : Prop := CMul i j ∨ CMulW i j
theorem op_mulX : OpR X (binaryOp .Mult) (rI CMulX fun i j => .int (i * j)) := opI fun _ _ _ _ _ _ _ hc q => mul_int q (hc.elim (fun h => h.ok) (fun h => h.ok))
end
theorem mulL {i j : Int} (h : -(2 ^ 64) < i ∧ i < 2 ^ 64) : CMulX i j := .inl (.inl h)
theorem mulR {i j : Int} (h : -(2 ^ 64) < j ∧ j < 2 ^ 64) : CMulX i j := .inl (.inr h)
/-! the same rules, the written part named (within a comprehension) -/
section
variable {X : Cx} {K : PySem.W.Frag}
theorem ix_tupK (h : X.K = K) : IxR X (rIxT K) := h ▸ ix_tup
theorem ix_listK (h : X.K = K) : IxR X (rIxL K) := h ▸ ix_list
theorem call_lenK (h : X.K = K) : CallR X (.builtin "len") (fun xs H Q => ∃ p ys, xs = [.ref p] ∧ (SqL K H p ys ∨ SqT K H p ys) ∧ Q (.int ys.length) H) := h ▸ call_len_seq
theorem op_inK (h : X.K = K) : OpR X (compareOp .In) (rIn K false) := h ▸ op_in_seq
theorem op_notInK (h : X.K = K) : OpR X (compareOp .NotIn) (rIn K true) := h ▸ op_notIn_seq
theorem op_eqK (h : X.K = K) (hu : X.A.units + 64 < cLine) : OpR X (compareOp .Eq) (rEqD K) := h ▸ op_eqD hu
theorem op_neK (h : X.K = K) (hu : X.A.units + 64 < cLine) : OpR X (compareOp .NotEq) (rNeD K) := h ▸ op_neD hu
theorem sl_listK (h : X.K = K) : SlR X (rSlL K) := h ▸ sl_list
theorem sl_tupK (h : X.K = K) : SlR X (rSlT K) := h ▸ sl_tup
end
/-- what the program leaves alone -/
structure BI (mg : Str → Option Value) : Prop where
  len : mg "len" = none
  int : mg "int" = none
  abs : mg "abs" = none
  list : mg "list" = none
  tuple : mg "tuple" = none
  range : mg "range" = none
  isinstance : mg "isinstance" = none
  str : mg "str" = none
  bool : mg "bool" = none
  sum : mg "sum" = none
  sorted : mg "sorted" = none
  enumerate : mg "enumerate" = none

/-! ### draws -/
/-- a pool of draws stands at p, its cells at a -/
def Pl (p a : Addr) (H : Hp) : Prop := ∃ (ns : List Int) (i rest last cnt : Int), a ≠ p ∧ H p = some (.lst [.ref a, .int i, .int rest, .int last, .int cnt]) ∧ H a = some (.lst (ns.map V.int)) ∧ ns.length ≤ 63 ∧
  0 ≤ i ∧ 0 ≤ rest ∧ 0 ≤ last ∧ last < 1000000000000000000 ∧ 0 ≤ cnt
theorem Pl.lst {p a : Addr} {H : Hp} (h : Pl p a H) : ∃ xs, H p = some (.lst xs) := by
  obtain ⟨ns, i, rest, last, cnt, _, h, _⟩ := h
  exact ⟨_, h⟩
theorem Pl.tm {p a : Addr} {H H' : Hp} (h : Pl p a H) (e : Kp p H H') : Tm H H' := by
  obtain ⟨xs, h⟩ := h.lst
  exact e.tm h
theorem Pl.same {p a : Addr} {H H' : Hp} (h : Pl p a H) (e : Same H H') : Pl p a H' := by
  obtain ⟨ns, i, rest, last, cnt, n, h, h1, h2⟩ := h
  exact ⟨ns, i, rest, last, cnt, n, e _ _ h, e _ _ h1, h2⟩
/-- another place is stored -/
theorem Pl.mut {p a q : Addr} {H : Hp} {o : HO} (h : Pl p a H) (n : q ≠ p) (na : q ≠ a) : Pl p a (upd H q o) := by
  obtain ⟨ns, i, rest, last, cnt, nn, h, h1, h3⟩ := h
  exact ⟨ns, i, rest, last, cnt, nn, by rw [upd_ne n.symm]; exact h, by rw [upd_ne na.symm]; exact h1, h3⟩
theorem Pl.ne {p a q : Addr} {H : Hp} (h : Pl p a H) (hq : H q = none) : q ≠ p ∧ q ≠ a := by
  obtain ⟨ns, i, rest, last, cnt, nn, h, h1, h3⟩ := h
  exact ⟨fun e => (by rw [e, h] at hq; cases hq), fun e => (by rw [e, h1] at hq; cases hq)⟩
def spPool (K : PySem.W.Frag) : Sp := fun vs H Q _ => ∃ (s : Addr) (ns : List Int), vs = [.ref s] ∧ SqL K H s (ns.map V.int) ∧ ns.length ≤ 63 ∧ ∀ p a H', H p = none → Same H H' → Pl p a H' → Q (.ref p) H'
def spDraw : Sp := fun vs H Q _ => ∃ (p a : Addr) (m : Int), vs = [.ref p, .int m] ∧ Pl p a H ∧ 0 < m ∧ m ≤ 10000000000000000000000000000000000000000 ∧
  ∀ r H', 0 ≤ r → r < m → Kp p H H' → Pl p a H' → Q (.int r) H'
theorem tenK : (10 : Int) ^ (40 : Int).toNat = 10000000000000000000000000000000000000000 := by decide +kernel
theorem divX {i m : Int} (h0 : 0 < m) (h1 : m ≤ 10000000000000000000000000000000000000000) : CDivX i m := by
  refine ⟨by omega, ?_⟩
  have h : m.natAbs < 2 ^ 200 := by
    have : (10000000000000000000000000000000000000000 : Nat) < 2 ^ 200 := by decide +kernel
    omega
  exact Nat.lt_of_lt_of_le (PySem.Flt.log2_lt_of (by decide) h) (by decide)
theorem fm0 {i m : Int} (h0 : 0 < m) : 0 ≤ i.fmod m := Int.fmod_nonneg_of_pos i h0
theorem fm1 {i m : Int} (h0 : 0 < m) : i.fmod m < m := Int.fmod_lt_of_pos i h0
theorem mulF {i j : Int} : CMulX (i.fmod 2147483647) j := mulL ⟨by have := fm0 (i := i) (m := 2147483647) (by decide); omega, by have := fm1 (i := i) (m := 2147483647) (by decide); omega⟩
theorem fd0 {i m : Int} (h0 : 0 < m) (hi : 0 ≤ i) : 0 ≤ i.fdiv m := by
  rw [Int.fdiv_eq_ediv_of_nonneg i (by omega)]
  exact Int.ediv_nonneg hi (by omega)
theorem small5 {n : Nat} (h : n ≤ 100000) : n ≤ sizeLine := Nat.le_trans h (by decide)
theorem small5' {n : Nat} (h : n < 100000) : n < sizeLine := Nat.lt_of_lt_of_le h (by decide)
/-- a product with one small side -/
theorem mulS {i j : Int} (hi : i.natAbs < 2 ^ 400000) (hj : j.natAbs < 2 ^ 400000) : CMulW i j := wide_mul hi hj (by decide) (by decide) (by decide)
end Z

/-! Own mathematics: lowest terms, greatest common divisors. -/
namespace Z
theorem sgn_mul (b : Int) (hb : b ≠ 0) : b.sign * b = (b.natAbs : Int) := by
  rw [Int.mul_comm]
  exact Int.mul_sign_self b
/-- what both texts reckon: the two parts divided by the greatest common divisor with the sign of the second one -/
theorem nrm_eq (t b : Int) (hb : b ≠ 0) (s : Int) (hs : s = if b < 0 then -((Nat.gcd t.natAbs b.natAbs : Nat) : Int) else ((Nat.gcd t.natAbs b.natAbs : Nat) : Int)) :
    s ≠ 0 ∧ s.natAbs ≤ b.natAbs ∧ t.fdiv s = (Rat.divInt t b).num ∧ b.fdiv s = ((Rat.divInt t b).den : Int) := by
  have g0 : 0 < Nat.gcd t.natAbs b.natAbs := Nat.gcd_pos_of_pos_right _ (by omega)
  have gl : Nat.gcd t.natAbs b.natAbs ≤ b.natAbs := Nat.gcd_le_right _ (by omega)
  have ht : ((Nat.gcd t.natAbs b.natAbs : Nat) : Int) ∣ t := Int.ofNat_dvd_left.mpr (Nat.gcd_dvd_left _ _)
  have hbd : ((Nat.gcd t.natAbs b.natAbs : Nat) : Int) ∣ b := Int.ofNat_dvd_left.mpr (Nat.gcd_dvd_right _ _)
  have hn := Rat.num_divInt t b
  have hd := Rat.den_divInt t b
  have hg : b.gcd t = Nat.gcd t.natAbs b.natAbs := by rw [Int.gcd_comm]; rfl
  rw [hg] at hn hd
  rw [if_neg hb] at hd
  generalize hG : Nat.gcd t.natAbs b.natAbs = g at *
  have g1 : (g : Int) ≠ 0 := by omega
  obtain ⟨t', rfl⟩ := ht
  obtain ⟨b', rfl⟩ := hbd
  have b0 : b' ≠ 0 := by rintro rfl; simp at hb
  have hna : ((g : Int) * b').natAbs = g * b'.natAbs := by rw [Int.natAbs_mul]; rfl
  have dd : (Rat.divInt (↑g * t') (↑g * b')).den = b'.natAbs := by
    rw [hd, hna]
    exact Nat.mul_div_cancel_left _ g0
  have nn : (Rat.divInt (↑g * t') (↑g * b')).num = b'.sign * t' := by
    rw [hn, Int.sign_mul, Int.sign_eq_one_of_pos (show (0 : Int) < g by omega), Int.one_mul, Int.mul_left_comm]
    exact Int.mul_ediv_cancel_left _ g1
  by_cases hneg : (g : Int) * b' < 0
  · rw [if_pos hneg] at hs
    have hb' : b' < 0 := by
      rcases Int.lt_trichotomy b' 0 with h | h | h
      · exact h
      · exact absurd h b0
      · have := Int.mul_pos (show (0 : Int) < g by omega) h
        omega
    refine ⟨by omega, by omega, ?_, ?_⟩
    · rw [nn, hs, Int.sign_eq_neg_one_of_neg hb', show (g : Int) * t' = (-1 * t') * (-(g : Int)) by rw [Int.neg_mul, Int.one_mul, Int.neg_mul_neg, Int.mul_comm]]
      exact Int.mul_fdiv_cancel _ (by omega)
    · rw [dd, hs, show (g : Int) * b' = (-b') * (-(g : Int)) by rw [Int.neg_mul_neg, Int.mul_comm], Int.mul_fdiv_cancel _ (by omega)]
      omega
  · rw [if_neg hneg] at hs
    have hb' : 0 < b' := by
      rcases Int.lt_trichotomy b' 0 with h | h | h
      · have := Int.mul_neg_of_pos_of_neg (show (0 : Int) < g by omega) h
        omega
      · exact absurd h b0
      · exact h
    refine ⟨by omega, by omega, ?_, ?_⟩
    · rw [nn, hs, Int.sign_eq_one_of_pos hb', show (g : Int) * t' = (1 * t') * (g : Int) by rw [Int.one_mul, Int.mul_comm]]
      exact Int.mul_fdiv_cancel _ (by omega)
    · rw [dd, hs, Int.mul_comm, Int.mul_fdiv_cancel _ (by omega)]
      omega
theorem num_le (t b : Int) (hb : b ≠ 0) : (Rat.divInt t b).num.natAbs ≤ t.natAbs := by
  rw [Rat.num_divInt]
  refine Nat.le_trans (Int.natAbs_ediv_le_natAbs _ _) ?_
  rw [Int.natAbs_mul, Int.natAbs_sign_of_ne_zero hb, Nat.one_mul]
  exact Nat.le_refl _
theorem den_le (t b : Int) (hb : b ≠ 0) : (Rat.divInt t b).den ≤ b.natAbs := by
  rw [Rat.den_divInt, if_neg hb]
  exact Nat.div_le_self _ _
/-- the last word of a loop of greatest common divisors: after i turns the two numbers are small -/
def GStep (C i x y : Nat) : Prop := (1 ≤ i → y < x ∧ x * y * 2 ^ (i - 1) ≤ C) ∧ (2 ≤ i → x * 2 ^ (i - 2) ≤ C)
theorem GStep.zero {C x y : Nat} : GStep C 0 x y := ⟨by omega, by omega⟩
theorem GStep.next {i x y a b : Nat} (h : GStep (a * b) i x y) (h0 : i = 0 → x = a ∧ y = b) (hy : y ≠ 0) : GStep (a * b) (i + 1) y (x % y) := by
  have m1 : x % y < y := Nat.mod_lt _ (by omega)
  refine ⟨fun _ => ⟨m1, ?_⟩, fun h2 => ?_⟩
  · by_cases hi : i = 0
    · obtain ⟨rfl, rfl⟩ := h0 hi
      subst hi
      show y * (x % y) * 2 ^ 0 ≤ x * y
      rw [Nat.pow_zero, Nat.mul_one, Nat.mul_comm x y]
      exact Nat.mul_le_mul_left _ (Nat.mod_le _ _)
    · obtain ⟨h1, h2⟩ := h.1 (by omega)
      refine Nat.le_trans ?_ h2
      have e : i + 1 - 1 = (i - 1) + 1 := by omega
      rw [e, Nat.pow_succ]
      have k : 2 * (x % y) ≤ x := by
        have := Nat.div_add_mod x y
        have d : 1 ≤ x / y := Nat.div_pos (by omega) (by omega)
        have : y * 1 ≤ y * (x / y) := Nat.mul_le_mul_left _ d
        omega
      calc y * (x % y) * (2 ^ (i - 1) * 2) = y * (2 * (x % y)) * 2 ^ (i - 1) := by
            rw [Nat.mul_comm (2 ^ (i - 1)) 2, ← Nat.mul_assoc, Nat.mul_assoc y (x % y) 2, Nat.mul_comm (x % y) 2]
        _ ≤ y * x * 2 ^ (i - 1) := Nat.mul_le_mul_right _ (Nat.mul_le_mul_left _ k)
        _ = x * y * 2 ^ (i - 1) := by rw [Nat.mul_comm y x]
  · obtain ⟨h1, h3⟩ := h.1 (by omega)
    refine Nat.le_trans ?_ h3
    have e : i + 1 - 2 = i - 1 := by omega
    rw [e]
    refine Nat.mul_le_mul_right _ ?_
    have : 1 * y ≤ x * y := Nat.mul_le_mul_right _ (by omega)
    omega
theorem GStep.end {C n x y : Nat} (h : GStep C n x y) (hn : 2 ≤ n) (hC : C < 2 ^ (n - 2)) : False := by
  obtain ⟨h1, _⟩ := h.1 (by omega)
  have h2 := h.2 hn
  have : 1 * 2 ^ (n - 2) ≤ x * 2 ^ (n - 2) := Nat.mul_le_mul_right _ (by omega)
  omega
theorem gcd_turn (x y : Nat) : Nat.gcd y (x % y) = Nat.gcd x y := by
  rw [Nat.gcd_comm y, ← Nat.gcd_rec, Nat.gcd_comm]
theorem abs_nat (i : Int) : (if i < 0 then -i else i) = (i.natAbs : Int) := by split <;> omega
end Z

namespace Z
open PySem PySem.Spec PyProof.Rows L2
/-! ### numbers and ratios -/
def BIG : Nat := 2 ^ 8000
theorem big_lt {n : Nat} (h : n < BIG) : n < 2 ^ 8000 := h
theorem divB {i s : Int} {b : Nat} (h0 : s ≠ 0) (h1 : s.natAbs ≤ b) (h2 : b < BIG) : CDivX i s :=
  ⟨h0, Nat.lt_of_lt_of_le (PySem.Flt.log2_lt_of (by decide) (big_lt (Nat.lt_of_le_of_lt h1 h2))) (by decide)⟩
theorem big_sq {a b : Nat} (ha : a < BIG) (hb : b < BIG) : a * b < 2 ^ (100000 - 2) := by
  have h : a * b < BIG * BIG := Nat.mul_lt_mul'' ha hb
  refine Nat.lt_of_lt_of_le h ?_
  unfold BIG
  rw [← Nat.pow_add]
  exact Nat.pow_le_pow_right (by decide) (by decide)
theorem mulB {i j : Int} (hi : i.natAbs < BIG) (hj : j.natAbs < BIG) : CMulX i j := .inr (wide_mul (big_lt hi) (big_lt hj) (by decide) (by decide) (by decide))
/-- a ratio as the program writes it -/
def rat2 (q : Rat) : PyData := .tuple [.int q.num, .int (q.den : Int)]
def spGcd : Sp := fun vs H Q _ => ∃ a b : Nat, vs = [.int (a : Int), .int (b : Int)] ∧ a < BIG ∧ b < BIG ∧ Q (.int ((Nat.gcd a b : Nat) : Int)) H
/-- the ratio of two numbers -/
def spRat (K : PySem.W.Frag) : Sp := fun vs H Q _ => ∃ t b : Int, vs = [.int t, .int b] ∧ b ≠ 0 ∧ t.natAbs < BIG ∧ b.natAbs < BIG ∧ ∀ v H', Same H H' → Is K H' v (rat2 (Rat.divInt t b)) → Q v H'
theorem rat2_new {K : PySem.W.Frag} {H : Hp} {p : Addr} {x y : Int} {q : Rat} (hp : H p = none) (hx : x = q.num) (hy : y = (q.den : Int)) : Is K (upd H p (.tup [.int x, .int y])) (.ref p) (rat2 q) := by
  subst hx hy
  exact Is.newT hp (.two (.int _) (.int _))
/-! ### two data are the same -/
mutual
def plainD : PyData → Bool
  | .none | .int _ | .str _ => true
  | .tuple ds => decide (ds.length ≤ 1000) && plainDs ds
  | _ => false
def plainDs : List PyData → Bool
  | [] => true
  | d :: ds => plainD d && plainDs ds
end
theorem plain_get : ∀ {ds : List PyData} {i : Nat} {d : PyData}, plainDs ds = true → ds[i]? = some d → plainD d = true
  | [], _, _, _, e => by simp at e
  | x :: xs, 0, d, h, e => by
    simp at e
    subst e
    exact (Bool.and_eq_true_iff.mp (by simpa [plainDs] using h)).1
  | x :: xs, i + 1, d, h, e => plain_get (ds := xs) (i := i) (Bool.and_eq_true_iff.mp (by simpa [plainDs] using h)).2 (by simpa using e)
mutual
def depD : PyData → Nat
  | .tuple ds => depDs ds + 1
  | _ => 0
def depDs : List PyData → Nat
  | [] => 0
  | d :: ds => max (depD d) (depDs ds)
end
theorem dep_get : ∀ {ds : List PyData} {i : Nat} {d : PyData}, ds[i]? = some d → depD d ≤ depDs ds
  | [], _, _, e => by simp at e
  | x :: xs, 0, d, e => by
    simp at e
    subst e
    show depD x ≤ max (depD x) (depDs xs)
    omega
  | x :: xs, i + 1, d, e => by
    have := dep_get (ds := xs) (i := i) (d := d) (by simpa using e)
    show depD d ≤ max (depD x) (depDs xs)
    omega
/-- n calls, one in another, are allowed -/
def spSame (K : PySem.W.Frag) (n : Nat) : Sp := fun vs H Q _ => ∃ (x y : V) (d e : PyData), vs = [x, y] ∧ Is K H x d ∧ Is K H y e ∧ plainD d = true ∧ plainD e = true ∧ depD e < n ∧ ∀ (b : Bool) H', Same H H' → (b = true ↔ d = e) → Q (.bl b) H'
theorem kt {K : PySem.W.Frag} {a b : String} {r : Bool} (h : kitB a b = some r) : PySem.W.kitOne K (.type a) (.type b) = some r := kit_ty h
/-- which built-in type a datum has -/
theorem kt_of {K : PySem.W.Frag} (d : PyData) (hd : plainD d = true) (T : String) (hT : T = "tuple" ∨ T = "str" ∨ T = "int") : PySem.W.kitOne K (.type (tyD d)) (.type T) = some (decide (tyD d = T)) := by
  cases d with
  | none =>
            rcases hT with rfl | rfl | rfl
            · exact kt (show kitB "NoneType" "tuple" = some (decide ("NoneType" = "tuple")) by decide +kernel)
            · exact kt (show kitB "NoneType" "str" = some (decide ("NoneType" = "str")) by decide +kernel)
            · exact kt (show kitB "NoneType" "int" = some (decide ("NoneType" = "int")) by decide +kernel)
  | int i =>
            rcases hT with rfl | rfl | rfl
            · exact kt (show kitB "int" "tuple" = some (decide ("int" = "tuple")) by decide +kernel)
            · exact kt (show kitB "int" "str" = some (decide ("int" = "str")) by decide +kernel)
            · exact kt (show kitB "int" "int" = some (decide ("int" = "int")) by decide +kernel)
  | str s =>
            rcases hT with rfl | rfl | rfl
            · exact kt (show kitB "str" "tuple" = some (decide ("str" = "tuple")) by decide +kernel)
            · exact kt (show kitB "str" "str" = some (decide ("str" = "str")) by decide +kernel)
            · exact kt (show kitB "str" "int" = some (decide ("str" = "int")) by decide +kernel)
  | tuple ds =>
            rcases hT with rfl | rfl | rfl
            · exact kt (show kitB "tuple" "tuple" = some (decide ("tuple" = "tuple")) by decide +kernel)
            · exact kt (show kitB "tuple" "str" = some (decide ("tuple" = "str")) by decide +kernel)
            · exact kt (show kitB "tuple" "int" = some (decide ("tuple" = "int")) by decide +kernel)
  | bool b => simp [plainD] at hd
  | list ds => simp [plainD] at hd
  | dict ds => simp [plainD] at hd
theorem ktB {K : PySem.W.Frag} (i : Int) : PySem.W.kitOne K (.type (tyD (.int i))) (.type "bool") = some false := kt (show kitB "int" "bool" = some false by decide +kernel)
end Z
namespace Z
open PySem PySem.Spec PyProof.Rows L2
theorem ty_tuple {d : PyData} (hd : plainD d = true) (h : tyD d = "tuple") : ∃ ds, d = .tuple ds ∧ ds.length ≤ 1000 ∧ plainDs ds = true := by
  cases d with
  | none => exact absurd h (show ¬ "NoneType" = "tuple" by decide)
  | int i => exact absurd h (show ¬ "int" = "tuple" by decide)
  | str s => exact absurd h (show ¬ "str" = "tuple" by decide)
  | tuple ds =>
    have h2 : (decide (ds.length ≤ 1000) && plainDs ds) = true := by simpa [plainD] using hd
    exact ⟨ds, rfl, of_decide_eq_true (Bool.and_eq_true_iff.mp h2).1, (Bool.and_eq_true_iff.mp h2).2⟩
  | bool b => simp [plainD] at hd
  | list ds => simp [plainD] at hd
  | dict ds => simp [plainD] at hd
theorem no_tuple {d : PyData} (hd : plainD d = true) (h : ¬ tyD d = "tuple") : d = .none ∨ (∃ i, d = .int i) ∨ ∃ s, d = .str s := by
  cases d with
  | none => exact .inl rfl
  | int i => exact .inr (.inl ⟨i, rfl⟩)
  | str s => exact .inr (.inr ⟨s, rfl⟩)
  | tuple ds => exact absurd rfl h
  | bool b => simp [plainD] at hd
  | list ds => simp [plainD] at hd
  | dict ds => simp [plainD] at hd
theorem ext_of {α : Type} {xs ys : List α} (hl : xs.length = ys.length) (h : ∀ j < ys.length, xs[j]? = ys[j]?) : xs = ys := by
  apply List.ext_getElem? 
  intro j
  by_cases hj : j < ys.length
  · exact h j hj
  · rw [List.getElem?_eq_none (by omega), List.getElem?_eq_none (by omega)]
/-- a def with defaults dvs, the last of which may be left out -/
structure AtD (K : PySem.W.Frag) (mg : Str → Option Value) (x : Str) (st : Stmt) (ps : List Str) (dvs : List V) : Prop where
  ex : ∃ (f : Addr) (fd : FuncData) (ds : List Value), FunD K x x (defArgs st) (defBody st) (defScope st) dvs [] f fd ∧ mg x = some (.ref f) ∧ Binds K fd ps [] ∧ Binds K fd ps ds ∧ Vals dvs ds
section
variable {P : Program} {w : World} {K : PySem.W.Frag} {mg : Str → Option Value} {base : Heap} {x : Str} {st : Stmt} {ps N : List Str} {k : Nat} {sp : Sp} {dvs : List V}
theorem AtD.ok (F : AtD K mg x st ps dvs) (S : FnScope N ps (defScope st)) (len : ∀ vs H Q E, sp vs H Q E → vs.length = ps.length)
    (hbody : ∀ (f : Addr) (cdv : Value) (A : Around) (outer : List Env) (s : Shared) (H : Hp) (vs : List V) (Q : VK) (E : XK), Room k (A.deeper (envOfC x (defScope st) s.heap.objs.size f cdv)) → sp vs H Q E →
      ∃ t, PSs (cxOf CX0 P w K mg base N x (defScope st) f cdv A outer s H E).nox (defBody st) t ∧ t { nx := fun _ H' => Q .non H', rt := Q } (start N vs) H) :
    Ok P w K mg base (k + 1) x ps [] sp ∧ Ok P w K mg base (k + 1) x ps dvs sp := by
  obtain ⟨f, fd, ds, F, m, b, b2, d⟩ := F.ex
  have G : FnOk P w K mg base CX0 (k + 1) f fd ps sp := F.ok S len (fun cdv A outer s H vs Q E hr h => by
    obtain ⟨t, h1, h2⟩ := hbody f cdv A outer s H vs Q E hr h
    exact ⟨t, h1.nox, h2⟩)
  exact ⟨⟨f, fd, [], G, m, F.kp, b, .nil⟩, ⟨f, fd, ds, G, m, F.kp, b2, d⟩⟩
end
end Z
namespace Z
open PySem PySem.Spec PyProof.Rows L2
theorem plain_rat2 (q : Rat) : plainD (rat2 q) = true := by
  unfold rat2
  rw [plainD, plainDs, plainDs, plainDs, plainD, plainD]
  rfl
theorem dep_rat2 (q : Rat) : depD (rat2 q) = 1 := by
  simp [rat2, depD, depDs]
theorem rat2_inj {q r : Rat} (h : rat2 q = rat2 r) : q = r := by
  have h1 := PyData.tuple.inj h
  have h2 : PyData.int q.num = PyData.int r.num ∧ _ := List.cons.inj h1
  have h3 := List.cons.inj h2.2
  have h4 := PyData.int.inj h2.1
  have h5 := PyData.int.inj h3.1
  exact Rat.ext h4 (by omega)
/-- what law(script) promises -/
def spLaw (K : PySem.W.Frag) : Sp := fun vs H Q _ => ∃ (a : Addr) (ns : List Int), vs = [.ref a] ∧ SqL K H a (ns.map V.int) ∧ ns.length ≤ 63 ∧ ∀ H', Q (.bl true) H'
theorem t41 : (100000000000000000000000000000000000000000 : Nat) < BIG := Nat.lt_of_lt_of_le (show 100000000000000000000000000000000000000000 < 2 ^ 200 by decide +kernel) (Nat.pow_le_pow_right (by decide) (by decide))
theorem bigK {n : Nat} (h : n ≤ 100000000000000000000000000000000000000000000000000) : n < BIG :=
  Nat.lt_of_le_of_lt h (Nat.lt_of_lt_of_le (show 100000000000000000000000000000000000000000000000000 < 2 ^ 200 by decide +kernel) (Nat.pow_le_pow_right (by decide) (by decide)))
end Z

/-! Own mathematics: ratios as rational numbers, and how large they are. -/
namespace Z
def Sz (n : Nat) (q : Rat) : Prop := q.num.natAbs < 2 ^ n ∧ q.den < 2 ^ n
theorem Sz.mono {n m : Nat} {q : Rat} (h : Sz n q) (l : n ≤ m) : Sz m q :=
  ⟨Nat.lt_of_lt_of_le h.1 (Nat.pow_le_pow_right (by decide) l), Nat.lt_of_lt_of_le h.2 (Nat.pow_le_pow_right (by decide) l)⟩
theorem Sz.divInt {n : Nat} {t b : Int} (hb : b ≠ 0) (h : t.natAbs < 2 ^ n) (h' : b.natAbs < 2 ^ n) : Sz n (Rat.divInt t b) :=
  ⟨Nat.lt_of_le_of_lt (num_le t b hb) h, Nat.lt_of_le_of_lt (den_le t b hb) h'⟩
theorem lt_pow_mul {x y a b : Nat} (hx : x < 2 ^ a) (hy : y < 2 ^ b) : x * y < 2 ^ (a + b) := by
  rw [Nat.pow_add]
  exact Nat.mul_lt_mul'' hx hy
theorem denz (q : Rat) : (q.den : Int) ≠ 0 := by
  have := q.den_nz
  omega
theorem den_mul (p q : Rat) : (p.den : Int) * (q.den : Int) ≠ 0 := Int.mul_ne_zero (denz p) (denz q)
theorem r_add (p q : Rat) : Rat.divInt (p.num * (q.den : Int) + q.num * (p.den : Int)) ((p.den : Int) * (q.den : Int)) = p + q := by
  conv => rhs; rw [← Rat.num_divInt_den p, ← Rat.num_divInt_den q]
  rw [Rat.divInt_add_divInt _ _ (denz p) (denz q)]
theorem r_sub (p q : Rat) : Rat.divInt (p.num * (q.den : Int) - q.num * (p.den : Int)) ((p.den : Int) * (q.den : Int)) = p - q := by
  conv => rhs; rw [← Rat.num_divInt_den p, ← Rat.num_divInt_den q]
  rw [Rat.divInt_sub_divInt _ _ (denz p) (denz q)]
theorem r_mul (p q : Rat) : Rat.divInt (p.num * q.num) ((p.den : Int) * (q.den : Int)) = p * q := by
  conv => rhs; rw [← Rat.num_divInt_den p, ← Rat.num_divInt_den q]
  rw [Rat.divInt_mul_divInt _ _]
theorem r_div (p q : Rat) : Rat.divInt (p.num * (q.den : Int)) ((p.den : Int) * q.num) = p / q := by
  rw [Rat.div_def, Rat.inv_def]
  conv => rhs; rw [← Rat.num_divInt_den p]
  rw [Rat.divInt_mul_divInt _ _]
theorem r_less (p q : Rat) : (p.num * (q.den : Int) < q.num * (p.den : Int)) ↔ p < q := (Rat.lt_iff p q).symm
theorem num0 {q : Rat} (h : q ≠ 0) : q.num ≠ 0 := fun z => h (Rat.num_eq_zero.mp z)
section
variable {p q : Rat} {a b : Nat}
theorem Sz.x1 (h : Sz a p) (k : Sz b q) : (p.num * (q.den : Int)).natAbs < 2 ^ (a + b) := by
  rw [Int.natAbs_mul]
  exact lt_pow_mul h.1 k.2
theorem Sz.x2 (h : Sz a p) (k : Sz b q) : (p.num * q.num).natAbs < 2 ^ (a + b) := by
  rw [Int.natAbs_mul]
  exact lt_pow_mul h.1 k.1
theorem Sz.x3 (h : Sz a p) (k : Sz b q) : ((p.den : Int) * (q.den : Int)).natAbs < 2 ^ (a + b) := by
  rw [Int.natAbs_mul]
  exact lt_pow_mul h.2 k.2
theorem Sz.x4 (h : Sz a p) (k : Sz b q) : ((p.den : Int) * q.num).natAbs < 2 ^ (a + b) := by
  rw [Int.natAbs_mul]
  exact lt_pow_mul h.2 k.1
theorem Sz.x5 (h : Sz a p) (k : Sz b q) : (p.num * (q.den : Int) + q.num * (p.den : Int)).natAbs < 2 ^ (a + b + 1) := by
  have h1 := h.x1 k
  have h2 := k.x1 h
  rw [Nat.add_comm b a] at h2
  rw [Nat.pow_succ]
  omega
theorem Sz.x6 (h : Sz a p) (k : Sz b q) : (p.num * (q.den : Int) - q.num * (p.den : Int)).natAbs < 2 ^ (a + b + 1) := by
  have h1 := h.x1 k
  have h2 := k.x1 h
  rw [Nat.add_comm b a] at h2
  rw [Nat.pow_succ]
  omega
theorem up1 {x n : Nat} (h : x < 2 ^ n) : x < 2 ^ (n + 1) := Nat.lt_of_lt_of_le h (Nat.pow_le_pow_right (by decide) (by omega))
theorem Sz.add (h : Sz a p) (k : Sz b q) : Sz (a + b + 1) (p + q) := by
  rw [← r_add]
  exact Sz.divInt (den_mul p q) (h.x5 k) (up1 (h.x3 k))
theorem Sz.sub (h : Sz a p) (k : Sz b q) : Sz (a + b + 1) (p - q) := by
  rw [← r_sub]
  exact Sz.divInt (den_mul p q) (h.x6 k) (up1 (h.x3 k))
theorem Sz.mul (h : Sz a p) (k : Sz b q) : Sz (a + b) (p * q) := by
  rw [← r_mul]
  exact Sz.divInt (den_mul p q) (h.x2 k) (h.x3 k)
theorem Sz.div (h : Sz a p) (k : Sz b q) (hq : q ≠ 0) : Sz (a + b) (p / q) := by
  rw [← r_div]
  exact Sz.divInt (Int.mul_ne_zero (denz p) (num0 hq)) (h.x1 k) (h.x4 k)
end
theorem Sz.zero : Sz 1 0 := ⟨by decide, by decide⟩
end Z

namespace Z
open PySem PySem.Spec PyProof.Rows L2
/-! ### the promises of the ratios' operations -/
theorem sz_big {x n : Nat} (h : n ≤ 8000) (hx : x < 2 ^ n) : x < BIG := Nat.lt_of_lt_of_le hx (Nat.pow_le_pow_right (by decide) h)
theorem Sz.bn {q : Rat} (h : Sz 3900 q) : q.num.natAbs < BIG := sz_big (by decide) h.1
theorem Sz.bd {q : Rat} (h : Sz 3900 q) : ((q.den : Int)).natAbs < BIG := sz_big (n := 3900) (by decide) (by rw [Int.natAbs_natCast]; exact h.2)
def spBin (K : PySem.W.Frag) (g : Rat → Rat → Rat) : Sp := fun vs H Q _ => ∃ (x y : V) (p q : Rat), vs = [x, y] ∧ Is K H x (rat2 p) ∧ Is K H y (rat2 q) ∧ Sz 3900 p ∧ Sz 3900 q ∧ ∀ v H', Same H H' → Is K H' v (rat2 (g p q)) → Q v H'
def spBinQ (K : PySem.W.Frag) : Sp := fun vs H Q _ => ∃ (x y : V) (p q : Rat), vs = [x, y] ∧ Is K H x (rat2 p) ∧ Is K H y (rat2 q) ∧ Sz 3900 p ∧ Sz 3900 q ∧ q ≠ 0 ∧ ∀ v H', Same H H' → Is K H' v (rat2 (p / q)) → Q v H'
def spLess (K : PySem.W.Frag) : Sp := fun vs H Q _ => ∃ (x y : V) (p q : Rat), vs = [x, y] ∧ Is K H x (rat2 p) ∧ Is K H y (rat2 q) ∧ Sz 3900 p ∧ Sz 3900 q ∧ Q (.bl (decide (p < q))) H
/-- the program's own zero -/
def GZ (K : PySem.W.Frag) (mg : Str → Option Value) : Prop := ∃ zA : Addr, mg "ZERO" = some (.ref zA) ∧ ∀ H : Hp, SqT K H zA [.int 0, .int 1]
theorem is_zero {K : PySem.W.Frag} {H : Hp} {a : Addr} (h : SqT K H a [.int 0, .int 1]) : Is K H (.ref a) (rat2 0) := .tup h (.two (.int 0) (.int 1))
/-! ### sums -/
def sumR : List Rat → Rat
  | [] => 0
  | q :: r => q + sumR r
def sumL (z : Rat) (qs : List Rat) : Rat := qs.foldl (· + ·) z
theorem sumL_take {qs : List Rat} {i : Nat} {q : Rat} (h : qs[i]? = some q) (z : Rat) : sumL z (qs.take (i + 1)) = sumL z (qs.take i) + q := by
  unfold sumL
  rw [List.take_add_one, h, List.foldl_append]
  rfl
theorem sumL_sz {n : Nat} : ∀ {qs : List Rat} {m : Nat} {z : Rat}, (∀ q ∈ qs, Sz n q) → Sz m z → Sz (m + qs.length * (n + 1)) (sumL z qs)
  | [], m, z, _, hz => hz.mono (by omega)
  | q :: r, m, z, h, hz => by
    have h1 := hz.add (h q (List.mem_cons_self ..))
    have h2 := sumL_sz (qs := r) (fun x hx => h x (List.mem_cons_of_mem _ hx)) h1
    refine h2.mono ?_
    rw [List.length_cons, Nat.add_mul]
    omega
/-- the sum of ratios that stand in a list at a; n bounds their size -/
def spSumL (K : PySem.W.Frag) : Sp := fun vs H Q _ => ∃ (a : Addr) (xs : List V) (qs : List Rat) (n : Nat), vs = [.ref a] ∧ SqL K H a xs ∧ IsA K H xs (qs.map rat2) ∧ (∀ q ∈ qs, Sz n q) ∧ n ≤ 2000 ∧ qs.length * (n + 1) ≤ 1900 ∧
  ∀ v H', Same H H' → Is K H' v (rat2 (sumL 0 qs)) → Q v H'
def spSumT (K : PySem.W.Frag) : Sp := fun vs H Q _ => ∃ (a : Addr) (xs : List V) (qs : List Rat) (n : Nat), vs = [.ref a] ∧ SqT K H a xs ∧ IsA K H xs (qs.map rat2) ∧ (∀ q ∈ qs, Sz n q) ∧ n ≤ 2000 ∧ qs.length * (n + 1) ≤ 1900 ∧
  ∀ v H', Same H H' → Is K H' v (rat2 (sumL 0 qs)) → Q v H'
/-- the same, every sum on the way small -/
def spSumLP (K : PySem.W.Frag) : Sp := fun vs H Q _ => ∃ (a : Addr) (xs : List V) (qs : List Rat), vs = [.ref a] ∧ SqL K H a xs ∧ IsA K H xs (qs.map rat2) ∧ (∀ q ∈ qs, Sz 3900 q) ∧ (∀ i, Sz 3900 (sumL 0 (qs.take i))) ∧ ∀ v H', Same H H' → Is K H' v (rat2 (sumL 0 qs)) → Q v H'
def spSumTP (K : PySem.W.Frag) : Sp := fun vs H Q _ => ∃ (a : Addr) (xs : List V) (qs : List Rat), vs = [.ref a] ∧ SqT K H a xs ∧ IsA K H xs (qs.map rat2) ∧ (∀ q ∈ qs, Sz 3900 q) ∧ (∀ i, Sz 3900 (sumL 0 (qs.take i))) ∧ ∀ v H', Same H H' → Is K H' v (rat2 (sumL 0 qs)) → Q v H'
theorem sumL_mid {qs : List Rat} {n i : Nat} (h : ∀ q ∈ qs, Sz n q) (hl : qs.length * (n + 1) ≤ 1900) : Sz 3900 (sumL 0 (qs.take i)) := by
  refine (sumL_sz (fun q hq => h q (List.mem_of_mem_take hq)) Sz.zero).mono ?_
  have : (qs.take i).length ≤ qs.length := by rw [List.length_take]; omega
  have := Nat.mul_le_mul_right (n + 1) this
  omega
theorem getR {qs : List Rat} {i : Nat} {d : PyData} (h : (qs.map rat2)[i]? = some d) : ∃ q, qs[i]? = some q ∧ d = rat2 q := by
  rw [List.getElem?_map] at h
  cases hq : qs[i]? with
  | none => rw [hq] at h; cases h
  | some q => rw [hq] at h; exact ⟨q, rfl, (Option.some.inj h).symm⟩
theorem seq_same {K : PySem.W.Frag} {H H' : Hp} {a : Addr} {xs : List V} (e : Same H H') (h : SqL K H a xs) : SqL K H' a xs := e.seq h
/-- an item of a list of data -/
theorem IsA.at {K : PySem.W.Frag} {H : Hp} : ∀ {vs : List V} {ds : List PyData} {i : Nat} {v : V}, IsA K H vs ds → vs[i]? = some v → ∃ d, ds[i]? = some d ∧ Is K H v d
  | _, _, _, _, .nil, e => by simp at e
  | _, _, 0, _, .cons h _, e => by simp at e; subst e; exact ⟨_, rfl, h⟩
  | _, _, i + 1, v, .cons _ t, e => by
    obtain ⟨d, h1, h2⟩ := IsA.at (i := i) (v := v) t (by simpa using e)
    exact ⟨d, by simpa using h1, h2⟩
section
variable {K : PySem.W.Frag} {σ : L2.St} {H : Hp} {Q : VK} {i j : Nat} {va vb : V} {p q : Rat} {g : Rat → Rat → Rat}
/-- two answers of ratios, the same -/
theorem rd_same2 (h1 : σ[i]? = some (some va)) (h2 : σ[j]? = some (some vb)) (ia : Is K H va (rat2 p)) (ib : Is K H vb (rat2 q)) (zp : Sz 3900 p) (zq : Sz 3900 q) (k : ∀ H', Same H H' → Q (.bl true) H') :
    tCall (spSame K 2) [] E0 (tCons (tCall (spBin K g) [] E0 (tCons (tVar i) (tCons (tVar j) tNil))) (tCons (tCall (spBin K g) [] E0 (tCons (tVar i) (tCons (tVar j) tNil))) tNil)) σ H Q := by
  refine ⟨va, h1, vb, h2, va, vb, p, q, rfl, ia, ib, zp, zq, fun v1 H1 s1 i1 => ?_⟩
  refine ⟨va, h1, vb, h2, va, vb, p, q, rfl, ia.to (Same.tm s1), ib.to (Same.tm s1), zp, zq, fun v2 H2 s2 i2 => ?_⟩
  refine ⟨v1, v2, _, _, rfl, i1.to (Same.tm s2), i2, plain_rat2 _, plain_rat2 _, by rw [dep_rat2]; decide, fun c H3 s3 hc => ?_⟩
  obtain rfl : c = true := hc.mpr rfl
  exact k H3 (s1.trans (s2.trans s3))
theorem rd_same2Q (h1 : σ[i]? = some (some va)) (h2 : σ[j]? = some (some vb)) (ia : Is K H va (rat2 p)) (ib : Is K H vb (rat2 q)) (zp : Sz 3900 p) (zq : Sz 3900 q) (hq : q ≠ 0) (k : ∀ H', Same H H' → Q (.bl true) H') :
    tCall (spSame K 2) [] E0 (tCons (tCall (spBinQ K) [] E0 (tCons (tVar i) (tCons (tVar j) tNil))) (tCons (tCall (spBinQ K) [] E0 (tCons (tVar i) (tCons (tVar j) tNil))) tNil)) σ H Q := by
  refine ⟨va, h1, vb, h2, va, vb, p, q, rfl, ia, ib, zp, zq, hq, fun v1 H1 s1 i1 => ?_⟩
  refine ⟨va, h1, vb, h2, va, vb, p, q, rfl, ia.to (Same.tm s1), ib.to (Same.tm s1), zp, zq, hq, fun v2 H2 s2 i2 => ?_⟩
  refine ⟨v1, v2, _, _, rfl, i1.to (Same.tm s2), i2, plain_rat2 _, plain_rat2 _, by rw [dep_rat2]; decide, fun c H3 s3 hc => ?_⟩
  obtain rfl : c = true := hc.mpr rfl
  exact k H3 (s1.trans (s2.trans s3))
end
theorem sumL_imp {K : PySem.W.Frag} : ∀ vs H Q E, spSumL K vs H Q E → spSumLP K vs H Q E := by
  rintro vs H Q E ⟨a, xs, qs, n, rfl, hS, hI, hz, hn, hl, k⟩
  exact ⟨a, xs, qs, rfl, hS, hI, fun q hq => (hz q hq).mono (by omega), fun i => sumL_mid hz hl, k⟩
theorem sumT_imp {K : PySem.W.Frag} : ∀ vs H Q E, spSumT K vs H Q E → spSumTP K vs H Q E := by
  rintro vs H Q E ⟨a, xs, qs, n, rfl, hS, hI, hz, hn, hl, k⟩
  exact ⟨a, xs, qs, rfl, hS, hI, fun q hq => (hz q hq).mono (by omega), fun i => sumL_mid hz hl, k⟩
end Z

namespace Z
open PySem PySem.Spec PyProof.Rows L2
/-! ### jobs -/
structure Job where
  n : Str
  c : Int
  d : Int
  w : Int
def dJob (j : Job) : PyData := .tuple [.str j.n, .int j.c, .int j.d, .int j.w]
/-- the name of the k-th job: one letter of a .. t, the k-th of them -/
structure NmOk (k : Nat) (x : Str) : Prop where
  mid : x.cps.toList.find? (fun c => decide (c < 117)) = some (97 + k)
  len : x.cps.toList.length ≤ 6
  low : ∀ c ∈ x.cps.toList, 97 ≤ c ∧ c ≤ 122
  ne : x.cps.toList ≠ []
theorem NmOk.inj {k l : Nat} {x : Str} (h : NmOk k x) (h' : NmOk l x) : k = l := by
  have e := h.mid.symm.trans h'.mid
  have := Option.some.inj e
  omega
structure JobOk (j : Job) : Prop where
  c0 : 0 ≤ j.c
  cd : j.c < j.d
  d1 : j.d ≤ 10000
  w0 : 1 ≤ j.w
  w1 : j.w ≤ 10000
/-- a job list as it is drawn -/
structure JobsOk (js : List Job) : Prop where
  ok : ∀ j ∈ js, JobOk j
  nm : ∀ i j, js[i]? = some j → NmOk i j.n
theorem str_app (x y : Str) : (x ++ y).cps.toList = x.cps.toList ++ y.cps.toList := Array.toList_append ..
theorem str_len (x : Str) : x.length = x.cps.toList.length := rfl
/-- a drawn name -/
def spName : Sp := fun vs H Q _ => ∃ (p pa : Addr) (k : Nat), vs = [.ref p, .int (k : Int)] ∧ Pl p pa H ∧ k < 20 ∧ ∀ x H', NmOk k x → Kp p H H' → Pl p pa H' → Q (.str x) H'
/-- a drawn window -/
def spWin (K : PySem.W.Frag) : Sp := fun vs H Q _ => ∃ (p pa : Addr) (b : Bool), vs = [.ref p, .bl b] ∧ Pl p pa H ∧ ∀ t c d H', 0 ≤ c → c < d → d ≤ 10000 → Kp p H H' → Pl p pa H' → H t = none → H' t = some (.tup [.int c, .int d]) → Q (.ref t) H'
/-- a drawn job list of at most n jobs -/
def spJobs (K : PySem.W.Frag) : Sp := fun vs H Q _ => ∃ (p pa : Addr) (n : Nat), vs = [.ref p, .int (n : Int)] ∧ Pl p pa H ∧ n ≤ 19 ∧ ∀ t xs js H', JobsOk js → js.length ≤ n → Kp p H H' → Pl p pa H' → H t = none → H' t = some (.tup xs) → IsA K H' xs (js.map dJob) → Q (.ref t) H'
theorem fresh_kp {p a : Addr} {H H' : Hp} (e : Kp p H H') (n : a ≠ p) (h : H' a = none) : H a = none := by
  cases q : H a with
  | none => rfl
  | some o =>
    rw [e a o n q] at h
    cases h
theorem Pl.at_ne {p pa q : Addr} {H : Hp} {xs : List V} (h : Pl p pa H) (hq : H q = some (.tup xs)) : q ≠ p := by
  obtain ⟨ns, i, rest, last, cnt, nn, h, _⟩ := h
  rintro rfl
  rw [h] at hq
  cases hq
/-- what is new behind a change at p is new before it -/
theorem Pl.free {p pa q : Addr} {H H' : Hp} (h : Pl p pa H') (e : Kp p H H') (hq : H' q = none) : H q = none := fresh_kp e (h.ne hq).1 hq
/-! ### the parts of a name -/
def HeadOk (x : Str) : Prop := x.cps.toList.length ≤ 3 ∧ ∀ c ∈ x.cps.toList, 117 ≤ c ∧ c ≤ 122
def TailOk (x : Str) : Prop := x.cps.toList.length ≤ 2 ∧ ∀ c ∈ x.cps.toList, 97 ≤ c ∧ c ≤ 122
theorem nm_of {k : Nat} {h t : Str} (hk : k < 20) (hh : HeadOk h) (ht : TailOk t) : NmOk k (h ++ ⟨#[97 + k]⟩ ++ t) := by
  have e : (h ++ (⟨#[97 + k]⟩ : Str) ++ t).cps.toList = h.cps.toList ++ (97 + k) :: t.cps.toList := by
    rw [str_app, str_app, List.append_assoc]
    rfl
  refine ⟨?_, ?_, ?_, ?_⟩
  · rw [e]
    have : ∀ l : List Nat, (∀ c ∈ l, 117 ≤ c ∧ c ≤ 122) → (l ++ (97 + k) :: t.cps.toList).find? (fun c => decide (c < 117)) = some (97 + k) := by
      intro l
      induction l with
      | nil =>
        intro _
        show ((97 + k) :: t.cps.toList).find? _ = _
        rw [List.find?_cons_of_pos]
        exact decide_eq_true (by omega)
      | cons c r ih =>
        intro hc
        show (c :: (r ++ (97 + k) :: t.cps.toList)).find? _ = _
        rw [List.find?_cons_of_neg]
        · exact ih fun x hx => hc x (List.mem_cons_of_mem _ hx)
        · have := hc c (List.mem_cons_self ..)
          rw [decide_eq_false (by omega)]
          decide
    exact this _ hh.2
  · rw [e, List.length_append, List.length_cons]
    have := hh.1
    have := ht.1
    omega
  · rw [e]
    intro c hc
    rcases List.mem_append.mp hc with h | h
    · have := hh.2 c h
      omega
    · rcases List.mem_cons.mp h with h | h
      · omega
      · exact ht.2 c h
  · rw [e]
    simp
theorem letters_at : ∀ k < 20, ((("abcdefghijklmnopqrst" : Str)).cps.toList)[k]? = some (97 + k) := by decide +kernel
theorem headOk0 : HeadOk (("" : Str)) := ⟨by decide +kernel, by decide +kernel⟩
theorem headOk1 : HeadOk (("u" : Str)) := ⟨by decide +kernel, by decide +kernel⟩
theorem headOk2 : HeadOk (("vw" : Str)) := ⟨by decide +kernel, by decide +kernel⟩
theorem headOk3 : HeadOk (("xyz" : Str)) := ⟨by decide +kernel, by decide +kernel⟩
theorem tailOk0 : TailOk (("" : Str)) := ⟨by decide +kernel, by decide +kernel⟩
theorem tailOk1 : TailOk (("z" : Str)) := ⟨by decide +kernel, by decide +kernel⟩
theorem tailOk2 : TailOk (("yy" : Str)) := ⟨by decide +kernel, by decide +kernel⟩
theorem head_at {r : Int} (h0 : 0 ≤ r) (h1 : r < 4) : ∃ x, atI [V.str (("" : Str)), V.str (("u" : Str)), V.str (("vw" : Str)), V.str (("xyz" : Str))] r = some (.str x) ∧ HeadOk x := by
  have : r = 0 ∨ r = 1 ∨ r = 2 ∨ r = 3 := by omega
  rcases this with rfl | rfl | rfl | rfl
  · exact ⟨_, rfl, headOk0⟩
  · exact ⟨_, rfl, headOk1⟩
  · exact ⟨_, rfl, headOk2⟩
  · exact ⟨_, rfl, headOk3⟩
theorem tail_at {r : Int} (h0 : 0 ≤ r) (h1 : r < 3) : ∃ x, atI [V.str (("" : Str)), V.str (("z" : Str)), V.str (("yy" : Str))] r = some (.str x) ∧ TailOk x := by
  have : r = 0 ∨ r = 1 ∨ r = 2 := by omega
  rcases this with rfl | rfl | rfl
  · exact ⟨_, rfl, tailOk0⟩
  · exact ⟨_, rfl, tailOk1⟩
  · exact ⟨_, rfl, tailOk2⟩
theorem IsA.push {K : PySem.W.Frag} {H : Hp} {xs : List V} {ds : List PyData} {v : V} {d : PyData} (h : IsA K H xs ds) (i : Is K H v d) : IsA K H (xs ++ [v]) (ds ++ [d]) := h.append (.cons i .nil)
theorem is_job {K : PySem.W.Frag} {H : Hp} {t : Addr} {j : Job} (h : SqT K H t [.str j.n, .int j.c, .int j.d, .int j.w]) : Is K H (.ref t) (dJob j) := .tup h (.cons (.str _) (.cons (.int _) (.cons (.int _) (.cons (.int _) .nil))))
theorem job_at {K : PySem.W.Frag} {H : Hp} {v : V} {j : Job} (h : Is K H v (dJob j)) : ∃ t, v = .ref t ∧ SqT K H t [.str j.n, .int j.c, .int j.d, .int j.w] := by
  obtain ⟨t, xs, rfl, s, a⟩ := h.tup'
  cases a with
  | cons h1 a => cases a with
    | cons h2 a => cases a with
      | cons h3 a => cases a with
        | cons h4 a =>
          cases a; cases h1; cases h2; cases h3; cases h4
          exact ⟨t, rfl, s⟩
theorem getJ {α : Type} {f : α → PyData} {qs : List α} {i : Nat} {d : PyData} (h : (qs.map f)[i]? = some d) : ∃ q, qs[i]? = some q ∧ d = f q := by
  rw [List.getElem?_map] at h
  cases hq : qs[i]? with
  | none => rw [hq] at h; cases h
  | some q => rw [hq] at h; exact ⟨q, rfl, (Option.some.inj h).symm⟩
theorem JobsOk.push {js : List Job} {j : Job} (h : JobsOk js) (hj : JobOk j) (hn : NmOk js.length j.n) : JobsOk (js ++ [j]) := by
  refine ⟨fun x hx => ?_, fun i x hx => ?_⟩
  · rcases List.mem_append.mp hx with z | z
    · exact h.ok x z
    · rw [List.mem_singleton.mp z]
      exact hj
  · by_cases hi : i < js.length
    · rw [List.getElem?_append_left hi] at hx
      exact h.nm i x hx
    · rw [List.getElem?_append_right (by omega)] at hx
      have : i - js.length = 0 := by
        cases z : i - js.length with
        | zero => rfl
        | succ n => rw [z] at hx; simp at hx
      rw [this] at hx
      have e : j = x := Option.some.inj hx
      subst e
      have : i = js.length := by omega
      rw [this]
      exact hn
theorem JobsOk.nil : JobsOk [] := ⟨fun _ h => (nomatch h), fun _ _ h => by simp at h⟩
/-- a pool and a list of data at L, all else as in H0 -/
structure LM (K : PySem.W.Frag) (p pa L : Addr) (H0 : Hp) (ds : List PyData) (H' : Hp) : Prop where
  P : Pl p pa H'
  k : Kp p H0 H'
  l : ∃ xs, H' L = some (.lst xs) ∧ IsA K H' xs ds
theorem LM.step {K : PySem.W.Frag} {p pa L : Addr} {H0 H1 H2 : Hp} {ds : List PyData} (h : LM K p pa L H0 ds H1) (n : L ≠ p) (e : Kp p H1 H2) (P2 : Pl p pa H2) : LM K p pa L H0 ds H2 := by
  obtain ⟨P, k, xs, hl, hi⟩ := h
  exact ⟨P2, k.trans e, xs, e _ _ n hl, hi.to (P.tm e)⟩
theorem LM.same {K : PySem.W.Frag} {p pa L : Addr} {H0 H1 H2 : Hp} {ds : List PyData} (h : LM K p pa L H0 ds H1) (e : Same H1 H2) : LM K p pa L H0 ds H2 := by
  obtain ⟨P, k, xs, hl, hi⟩ := h
  exact ⟨P.same e, k.trans (.of e), xs, e _ _ hl, hi.to (Same.tm e)⟩
/-- the list is stored anew -/
theorem LM.put {K : PySem.W.Frag} {p pa L : Addr} {H0 H1 : Hp} {ds es : List PyData} {ys : List V} (h : LM K p pa L H0 ds H1) (n : L ≠ p) (na : L ≠ pa) (f : H0 L = none) (hi : IsA K H1 ys es) : LM K p pa L H0 es (upd H1 L (.lst ys)) := by
  obtain ⟨P, k, xs, hl, _⟩ := h
  exact ⟨P.mut n na, k.mut f, ys, upd_same, hi.to (Tm.lst hl)⟩
theorem LM.new {K : PySem.W.Frag} {p pa L : Addr} {H0 H1 : Hp} (P : Pl p pa H1) (k : Kp p H0 H1) (f : H1 L = none) : LM K p pa L H0 [] (upd H1 L (.lst [])) :=
  ⟨P.same (same_upd f), k.trans (.new f), [], upd_same, .nil⟩
end Z

/-! Own mathematics: lists of points, sums of shares, the rival's slots. -/
namespace Z
/-! ### sums of rationals -/
def rsum : List Rat → Rat
  | [] => 0
  | q :: r => q + rsum r
theorem rsum_append : ∀ (xs ys : List Rat), rsum (xs ++ ys) = rsum xs + rsum ys
  | [], ys => by show rsum ys = 0 + rsum ys; grind
  | x :: xs, ys => by
    have := rsum_append xs ys
    show x + rsum (xs ++ ys) = x + rsum xs + rsum ys
    grind
theorem rsum_nonneg : ∀ {xs : List Rat}, (∀ x ∈ xs, 0 ≤ x) → 0 ≤ rsum xs
  | [], _ => by show (0 : Rat) ≤ 0; grind
  | x :: xs, h => by
    have h1 := rsum_nonneg (xs := xs) fun y hy => h y (List.mem_cons_of_mem _ hy)
    have h2 := h x (List.mem_cons_self ..)
    show 0 ≤ x + rsum xs
    grind
theorem rsum_take {xs : List Rat} {i : Nat} {x : Rat} (h : xs[i]? = some x) : rsum (xs.take (i + 1)) = rsum (xs.take i) + x := by
  rw [List.take_add_one, h, rsum_append]
  show _ + (x + 0) = _
  grind
theorem rsum_take_le {xs : List Rat} (h : ∀ x ∈ xs, 0 ≤ x) (i : Nat) : rsum (xs.take i) ≤ rsum xs := by
  have e : xs = xs.take i ++ xs.drop i := (List.take_append_drop i xs).symm
  have h1 : 0 ≤ rsum (xs.drop i) := rsum_nonneg fun x hx => h x (List.mem_of_mem_drop hx)
  have h2 := rsum_append (xs.take i) (xs.drop i)
  rw [← e] at h2
  grind
theorem foldl_rsum : ∀ (xs : List Rat) (z : Rat), xs.foldl (· + ·) z = z + rsum xs
  | [], z => by show z = z + 0; grind
  | x :: xs, z => by
    show xs.foldl (· + ·) (z + x) = z + (x + rsum xs)
    rw [foldl_rsum xs (z + x)]
    grind
/-! ### the order in which a slot is gone through -/
def rot (s n : Nat) : List Nat := List.range' s (n - s) ++ List.range s
theorem rot_len {s n : Nat} (h : s ≤ n) : (rot s n).length = n := by
  unfold rot
  rw [List.length_append, List.length_range', List.length_range]
  omega
theorem rot_at {s n j : Nat} (h : s < n) (hj : j < n) : (rot s n)[j]? = some ((j + s) % n) := by
  unfold rot
  by_cases c : j < n - s
  · rw [List.getElem?_append_left (by rw [List.length_range']; exact c), List.getElem?_range' c, Nat.one_mul]
    rw [Nat.mod_eq_of_lt (by omega), Nat.add_comm]
  · rw [List.getElem?_append_right (by rw [List.length_range']; omega), List.length_range', List.getElem?_range (by omega)]
    congr 1
    have : j + s = (j - (n - s)) + n := by omega
    rw [this, Nat.add_mod_right, Nat.mod_eq_of_lt (by omega)]
theorem rot_perm {s n : Nat} (h : s ≤ n) : (rot s n).Perm (List.range n) := by
  have e : List.range n = List.range s ++ List.range' s (n - s) := by
    have z := @List.range'_append_1 0 s (n - s)
    rw [Nat.zero_add, show s + (n - s) = n by omega] at z
    rw [List.range_eq_range', List.range_eq_range', z]
  rw [e]
  unfold rot
  exact List.perm_append_comm
theorem rsum_perm {xs ys : List Rat} (h : xs.Perm ys) : rsum xs = rsum ys := by
  induction h with
  | nil => rfl
  | cons x _ ih => show x + rsum _ = x + rsum _; rw [ih]
  | swap x y l => show y + (x + rsum l) = x + (y + rsum l); grind
  | trans _ _ h1 h2 => exact h1.trans h2
theorem range_map_getD (xs : List Rat) : (List.range xs.length).map (fun i => xs.getD i 0) = xs := by
  apply List.ext_getElem?
  intro i
  rw [List.getElem?_map]
  by_cases h : i < xs.length
  · rw [List.getElem?_range h, List.getElem?_eq_getElem h]
    show some (xs.getD i 0) = _
    rw [List.getD_eq_getElem?_getD, List.getElem?_eq_getElem h]
    rfl
  · rw [List.getElem?_eq_none (by rw [List.length_range]; omega), List.getElem?_eq_none (by omega)]
    rfl
theorem rot_sum (xs : List Rat) {s : Nat} (h : s ≤ xs.length) : rsum ((rot s xs.length).map (fun i => xs.getD i 0)) = rsum xs := by
  rw [rsum_perm ((rot_perm h).map _), range_map_getD]
/-! ### whole numbers among the ratios -/
theorem divInt_div (z : Int) (n : Int) : Rat.divInt z n = (z : Rat) / (n : Rat) := by exact Rat.divInt_eq_div z n
/-- a ratio whose product with n is whole -/
theorem sz_of_whole {q : Rat} {n z : Int} {m : Nat} (h : q * (n : Rat) = (z : Rat)) (n0 : n ≠ 0) (hn : n.natAbs < 2 ^ m) (hz : z.natAbs < 2 ^ m) : Sz m q := by
  have e : q = Rat.divInt z n := by
    rw [divInt_div, ← h]
    have : (n : Rat) ≠ 0 := fun c => n0 (Rat.intCast_eq_zero_iff.mp c)
    grind
  rw [e]
  exact Sz.divInt n0 hz hn
end Z

namespace Z
open PySem PySem.Spec PyProof.Rows L2
/-! ### points -/
structure PtsOk (js : List Job) (ps : List Int) : Prop where
  lt : ps.Pairwise (· < ·)
  mem : ∀ j ∈ js, j.c ∈ ps ∧ j.d ∈ ps
  bd : ∀ x ∈ ps, ∃ j ∈ js, j.c ≤ x ∧ x ≤ j.d
  len : ps.length ≤ 3 * js.length
theorem isA_ints {K : PySem.W.Frag} {H : Hp} : ∀ {ns : List Int} {xs : List V}, IsA K H xs (ns.map PyData.int) → xs = ns.map V.int
  | [], _, .nil => rfl
  | n :: ns, _, .cons h t => by
    cases h
    rw [isA_ints t]
    rfl
theorem ints_isA {K : PySem.W.Frag} {H : Hp} : ∀ (ns : List Int), IsA K H (ns.map V.int) (ns.map PyData.int)
  | [] => .nil
  | n :: ns => .cons (.int n) (ints_isA ns)
theorem inV_int (i : Int) : ∀ ns : List Int, inV (.int i) (ns.map V.int) = decide (i ∈ ns)
  | [] => by simp [inV]
  | n :: ns => by
    have h := inV_int i ns
    unfold inV at h ⊢
    rw [List.map_cons, List.any_cons, h]
    show ((n == i) || decide (i ∈ ns)) = _
    by_cases e : n = i
    · subst e; simp
    · have : (n == i) = false := by simpa using e
      rw [this]
      simp [List.mem_cons, Ne.symm e]
theorem flat_ints : ∀ ns : List Int, (ns.map V.int).all flatV = true
  | [] => rfl
  | n :: ns => by
    rw [List.map_cons, List.all_cons, flat_ints ns]
    rfl
theorem cut_take (xs : List V) (k : Nat) : cutV xs none (some (k : Int)) = xs.take k := by
  unfold cutV
  rw [HT.sIx_none, HT.sIx_nat]
  show (xs.drop 0).take (min k xs.length - 0) = _
  rw [List.drop_zero, Nat.sub_zero]
  by_cases h : k ≤ xs.length
  · rw [Nat.min_eq_left h]
  · rw [Nat.min_eq_right (by omega), List.take_length, List.take_of_length_le (by omega)]
theorem pw_lt {ps : List Int} (h : ps.Pairwise (· ≤ ·)) (nd : ps.Nodup) : ps.Pairwise (· < ·) := by
  have := List.Pairwise.and h nd
  exact this.imp fun ⟨a, b⟩ => by omega
/-- the points of a job list -/
def spPoints (K : PySem.W.Frag) : Sp := fun vs H Q _ => ∃ (p pa J : Addr) (xs : List V) (js : List Job), vs = [.ref p, .ref J] ∧ Pl p pa H ∧ SqT K H J xs ∧ IsA K H xs (js.map dJob) ∧ (∀ j ∈ js, JobOk j) ∧ js.length ≤ 19 ∧
  ∀ l ps H', PtsOk js ps → Kp p H H' → Pl p pa H' → H l = none → H' l = some (.lst (ps.map V.int)) → Q (.ref l) H'
/-! ### shares -/
def dSlot (s : Int × Int) : PyData := .tuple [.int s.1, .int s.2]
theorem slot_at {K : PySem.W.Frag} {H : Hp} {v : V} {s : Int × Int} (h : Is K H v (dSlot s)) : ∃ t, v = .ref t ∧ SqT K H t [.int s.1, .int s.2] := by
  obtain ⟨t, a, b, rfl, st, h1, h2⟩ := Is.two' h
  cases h1; cases h2
  exact ⟨t, rfl, st⟩
def mine (j : Job) (s : Int × Int) : Bool := decide (j.c ≤ s.1) && decide (s.2 ≤ j.d)
/-- the shares fs of the job j in the stretches sl -/
structure ShOk (j : Job) (sl : List (Int × Int)) (fs : List Rat) : Prop where
  len : fs.length = sl.length
  own : ∀ (x : Nat) (q : Rat) (s : Int × Int), fs[x]? = some q → sl[x]? = some s → q ≠ 0 → mine j s = true
  nn : ∀ q ∈ fs, 0 ≤ q
  wh : ∃ W : Int, 0 < W ∧ W ≤ 200 ∧ ∀ q ∈ fs, ∃ z : Int, 0 ≤ z ∧ z ≤ 30000 ∧ q * (W : Rat) = (z : Rat)
  sum : rsum fs = (j.w : Rat)
theorem ShOk.sz {j : Job} {sl : List (Int × Int)} {fs : List Rat} (h : ShOk j sl fs) : ∀ q ∈ fs, Sz 16 q := fun q hq => by
  obtain ⟨W, w0, w1, hw⟩ := h.wh
  obtain ⟨z, z0, z1, e⟩ := hw q hq
  exact sz_of_whole e (by omega) (by omega) (by omega)
theorem rsum_set : ∀ {xs : List Rat} {i : Nat} {x y : Rat}, xs[i]? = some x → rsum (xs.set i y) = rsum xs - x + y
  | [], i, x, y, h => by simp at h
  | a :: r, 0, x, y, h => by
    have e : a = x := Option.some.inj h
    subst e
    show y + rsum r = a + rsum r - a + y
    grind
  | a :: r, i + 1, x, y, h => by
    have ih := rsum_set (xs := r) (i := i) (x := x) (y := y) h
    show a + rsum (r.set i y) = a + rsum r - x + y
    rw [ih]
    grind
theorem rsum_zeros : ∀ n : Nat, rsum (List.replicate n (0 : Rat)) = 0
  | 0 => rfl
  | n + 1 => by
    show 0 + rsum (List.replicate n (0 : Rat)) = 0
    rw [rsum_zeros n]
    grind
/-- the indexes of the stretches of a job -/
def owns (j : Job) (sl : List (Int × Int)) (n : Nat) : List Nat := (List.range n).filter fun k => mine j (sl.getD k (0, 0))
theorem owns_yes {j : Job} {sl : List (Int × Int)} {n : Nat} (h : mine j (sl.getD n (0, 0)) = true) : owns j sl (n + 1) = owns j sl n ++ [n] := by
  unfold owns
  rw [List.range_succ, List.filter_append, List.filter_cons_of_pos (p := fun k => mine j (sl.getD k (0, 0))) h]
  rfl
theorem owns_no {j : Job} {sl : List (Int × Int)} {n : Nat} (h : mine j (sl.getD n (0, 0)) = false) : owns j sl (n + 1) = owns j sl n := by
  unfold owns
  rw [List.range_succ, List.filter_append, List.filter_cons_of_neg (p := fun k => mine j (sl.getD k (0, 0))) (by rw [h]; decide)]
  exact List.append_nil _
theorem owns_len (j : Job) (sl : List (Int × Int)) (n : Nat) : (owns j sl n).length ≤ n := by
  have h := List.length_filter_le (fun k => mine j (sl.getD k (0, 0))) (List.range n)
  rw [List.length_range] at h
  exact h
theorem owns_nodup (j : Job) (sl : List (Int × Int)) (n : Nat) : (owns j sl n).Nodup := List.Pairwise.filter _ List.nodup_range
theorem owns_mem {j : Job} {sl : List (Int × Int)} {n k : Nat} : k ∈ owns j sl n ↔ k < n ∧ mine j (sl.getD k (0, 0)) = true := by
  unfold owns
  rw [List.mem_filter, List.mem_range]
theorem getD_at {α : Type} {xs : List α} {i : Nat} {x d : α} (h : xs[i]? = some x) : xs.getD i d = x := by
  rw [List.getD_eq_getElem?_getD, h]
  rfl
/-- i of the weights are shared out -/
structure ShMid (j : Job) (sl : List (Int × Int)) (os : List Nat) (ws : List Int) (W : Int) (i : Nat) (fs : List Rat) : Prop where
  len : fs.length = sl.length
  own : ∀ (x : Nat) (q : Rat) (s : Int × Int), fs[x]? = some q → sl[x]? = some s → q ≠ 0 → mine j s = true
  rest : ∀ k x : Nat, i ≤ k → os[k]? = some x → fs[x]? = some 0
  wh : ∀ q ∈ fs, ∃ z : Int, 0 ≤ z ∧ z ≤ 30000 ∧ q * (W : Rat) = (z : Rat)
  sum : rsum fs * (W : Rat) = ((j.w * (ws.take i).sum : Int) : Rat)
theorem ShMid.zero {j : Job} {sl : List (Int × Int)} {os : List Nat} {ws : List Int} {W : Int} (h : ∀ x ∈ os, x < sl.length) : ShMid j sl os ws W 0 (List.replicate sl.length 0) where
  len := List.length_replicate
  own := fun x q s hq _ n => absurd (List.eq_of_mem_replicate (List.mem_of_getElem? hq)) n
  rest := fun k x _ hx => by
    rw [List.getElem?_replicate, if_pos (h x (List.mem_of_getElem? hx))]
  wh := fun q hq => ⟨0, Int.le_refl _, by decide, by rw [List.eq_of_mem_replicate hq]; grind⟩
  sum := by
    rw [rsum_zeros]
    show 0 * (W : Rat) = ((j.w * 0 : Int) : Rat)
    rw [Int.mul_zero]
    grind
theorem ShMid.next {j : Job} {sl : List (Int × Int)} {os : List Nat} {ws : List Int} {W : Int} {i x : Nat} {w : Int} {fs : List Rat} (h : ShMid j sl os ws W i fs) (hj : JobOk j) (nd : os.Nodup) (hx : os[i]? = some x) (hw : ws[i]? = some w) (w0 : 0 ≤ w) (w3 : w ≤ 3)
    (hW : 0 < W) (hm : ∀ s, sl[x]? = some s → mine j s = true) : ShMid j sl os ws W (i + 1) (fs.set x (Rat.divInt (j.w * w) W)) := by
  have hWr : (W : Rat) ≠ 0 := fun c => by
    have := Rat.intCast_eq_zero_iff.mp c
    omega
  have eq : Rat.divInt (j.w * w) W * (W : Rat) = ((j.w * w : Int) : Rat) := by
    rw [divInt_div]
    grind
  refine ⟨by rw [List.length_set]; exact h.len, fun y q s hq hs n => ?_, fun k y hk hy => ?_, fun q hq => ?_, ?_⟩
  · by_cases e : x = y
    · subst e
      exact hm s hs
    · rw [List.getElem?_set_ne e] at hq
      exact h.own y q s hq hs n
  · have e : x ≠ y := fun e => by
      subst e
      have := nd_ix nd hx hy
      omega
    rw [List.getElem?_set_ne e]
    exact h.rest k y (by omega) hy
  · rcases List.mem_or_eq_of_mem_set hq with hq | hq
    · exact h.wh q hq
    · subst hq
      have a := hj.w0
      have b := hj.w1
      refine ⟨j.w * w, Int.mul_nonneg (by omega) w0, ?_, eq⟩
      have : j.w * w ≤ 10000 * 3 := Int.mul_le_mul b w3 w0 (by decide)
      omega
  · have z := h.rest i x (Nat.le_refl _) hx
    rw [rsum_set z]
    have e2 : (ws.take (i + 1)).sum = (ws.take i).sum + w := sum_take hw
    rw [e2, Int.mul_add]
    have e3 := h.sum
    have e4 : ((j.w * (ws.take i).sum + j.w * w : Int) : Rat) = ((j.w * (ws.take i).sum : Int) : Rat) + ((j.w * w : Int) : Rat) := Rat.intCast_add _ _
    rw [e4, ← e3, ← eq]
    grind
theorem ShMid.done {j : Job} {sl : List (Int × Int)} {os : List Nat} {ws : List Int} {W : Int} {fs : List Rat} (h : ShMid j sl os ws W ws.length fs) (hW : 0 < W) (h2 : W ≤ 200) (e : ws.sum = W) : ShOk j sl fs := by
  have hWr : (W : Rat) ≠ 0 := fun c => by
    have := Rat.intCast_eq_zero_iff.mp c
    omega
  have hWp : (0 : Rat) < (W : Rat) := Rat.intCast_pos.mpr hW
  refine ⟨h.len, h.own, fun q hq => ?_, ⟨W, hW, h2, h.wh⟩, ?_⟩
  · obtain ⟨z, z0, _, e⟩ := h.wh q hq
    have z1 : (0 : Rat) ≤ (z : Rat) := Rat.intCast_nonneg.mpr z0
    have e2 : q = (z : Rat) / (W : Rat) := by
      rw [← e]
      grind
    rw [e2]
    rw [Rat.div_def]
    exact Rat.mul_nonneg z1 (Rat.le_of_lt (Rat.inv_pos.mpr hWp))
  · have e1 := h.sum
    rw [List.take_length, e, Rat.intCast_mul] at e1
    grind
theorem sum_nonneg : ∀ {ws : List Int}, (∀ w ∈ ws, 0 ≤ w) → 0 ≤ ws.sum
  | [], _ => Int.le_refl _
  | w :: ws, h => by
    have h1 := sum_nonneg (ws := ws) fun y hy => h y (List.mem_cons_of_mem _ hy)
    have h2 := h w (List.mem_cons_self ..)
    rw [List.sum_cons]
    omega
theorem sum_le3 : ∀ {ws : List Int}, (∀ w ∈ ws, w ≤ 3) → ws.sum ≤ 3 * (ws.length : Int)
  | [], _ => by show (0 : Int) ≤ 3 * ((0 : Nat) : Int); omega
  | w :: ws, h => by
    have h1 := sum_le3 (ws := ws) fun y hy => h y (List.mem_cons_of_mem _ hy)
    have h2 := h w (List.mem_cons_self ..)
    rw [List.sum_cons, List.length_cons]
    omega
def spShares (K : PySem.W.Frag) : Sp := fun vs H Q _ => ∃ (p pa S : Addr) (v : V) (sx : List V) (j : Job) (sl : List (Int × Int)), vs = [.ref p, v, .ref S] ∧ Pl p pa H ∧ Is K H v (dJob j) ∧ JobOk j ∧ H S = some (.lst sx) ∧ S ≠ p ∧ IsA K H sx (sl.map dSlot) ∧ sl.length ≤ 60 ∧
  (∃ s ∈ sl, mine j s = true) ∧ ∀ l xs fs H', ShOk j sl fs → Kp p H H' → Pl p pa H' → H l = none → H' l = some (.lst xs) → IsA K H' xs (fs.map rat2) → Q (.ref l) H'
theorem is_slots {K : PySem.W.Frag} {H : Hp} {sx : List V} {sl : List (Int × Int)} {i : Nat} (h : IsA K H sx (sl.map dSlot)) (hi : i < sl.length) : ∃ t, sx[i]? = some (.ref t) ∧ SqT K H t [.int (sl.getD i (0, 0)).1, .int (sl.getD i (0, 0)).2] := by
  have g : sl[i]? = some sl[i] := List.getElem?_eq_getElem hi
  obtain ⟨v, gv, iv⟩ := h.get (i := i) (d := dSlot sl[i]) (by rw [List.getElem?_map, g]; rfl)
  obtain ⟨t, rfl, st⟩ := slot_at iv
  rw [getD_at g]
  exact ⟨t, gv, st⟩
def vN (k : Nat) : V := .int (k : Int)
theorem le_sum : ∀ {ws : List Int} {x : Int}, (∀ w ∈ ws, 0 ≤ w) → x ∈ ws → x ≤ ws.sum
  | [], _, _, h => (nomatch h)
  | w :: ws, x, h, hx => by
    have h1 := sum_nonneg (ws := ws) fun y hy => h y (List.mem_cons_of_mem _ hy)
    have h2 := h w (List.mem_cons_self ..)
    rw [List.sum_cons]
    rcases List.mem_cons.mp hx with e | e
    · omega
    · have := le_sum (ws := ws) (fun y hy => h y (List.mem_cons_of_mem _ hy)) e
      omega
theorem ixN_of {n : Nat} {i : Int} (h0 : 0 ≤ i) (h1 : i < n) : ixN n i = some i.toNat := by
  unfold ixN
  rw [if_pos h0, if_pos h1]
end Z

namespace Z
open PySem PySem.Spec PyProof.Rows L2
/-! ### plans -/
structure Pc where
  s : Rat
  e : Rat
  n : Str
  v : Rat
def dPc (p : Pc) : PyData := .tuple [rat2 p.s, rat2 p.e, .str p.n, rat2 p.v]
def workOf (n : Str) (ps : List Pc) : Rat := rsum ((ps.filter fun p => decide (p.n = n)).map fun p => p.v * (p.e - p.s))
theorem workOf_push (n : Str) (ps : List Pc) (p : Pc) : workOf n (ps ++ [p]) = workOf n ps + (if p.n = n then p.v * (p.e - p.s) else 0) := by
  unfold workOf
  rw [List.filter_append, List.map_append, rsum_append]
  by_cases h : p.n = n
  · rw [List.filter_cons_of_pos (by exact decide_eq_true h), if_pos h]
    show _ + (p.v * (p.e - p.s) + 0) = _
    grind
  · rw [List.filter_cons_of_neg (by rw [decide_eq_false h]; decide), if_neg h]
    rfl
/-- a piece of the rival -/
structure PcOk (js : List Job) (sl : List (Int × Int)) (fss : List (List Rat)) (p : Pc) : Prop where
  at' : ∃ j ∈ js, ∃ s ∈ sl, p.n = j.n ∧ mine j s = true ∧ ((s.1 : Int) : Rat) ≤ p.s ∧ p.e ≤ ((s.2 : Int) : Rat)
  lt : p.s < p.e
  v0 : 0 < p.v
  zs : Sz 200 p.s
  ze : Sz 200 p.e
  zv : Sz 200 p.v
  vb : p.v ≤ 600000
  wk : ∃ k a : Nat, p.v * (p.e - p.s) = (fss.getD a []).getD k 0
  vk : ∃ (k : Nat) (t : Int × Int), sl[k]? = some t ∧ p.v = rsum (fss.map fun fs => fs.getD k 0) / ((t.2 - t.1 : Int) : Rat)
/-- a whole number -/
def IsI (q : Rat) : Prop := ∃ z : Int, 0 ≤ z ∧ z ≤ 100000 ∧ q = (z : Rat)
/-- one piece goes on at the speed of the one in front of it, or whole times stand between them -/
def RunR (p q : Pc) : Prop := (p.e = q.s ∧ p.v = q.v) ∨ (IsI p.e ∧ IsI q.s)
structure RunC (ps : List Pc) : Prop where
  hd : ∀ p, ps[0]? = some p → IsI p.s
  ch : ∀ (i : Nat) (p q : Pc), ps[i]? = some p → ps[i + 1]? = some q → RunR p q
/-- what stands at the end of the pieces -/
def LastP (ps : List Pc) (X : Pc → Prop) : Prop := ∀ p, ps[ps.length - 1]? = some p → X p
theorem RunC.nil : RunC [] := ⟨fun _ h => by simp at h, fun _ _ _ h => by simp at h⟩
theorem RunC.push {ps : List Pc} {q : Pc} (h : RunC ps) (h0 : ps = [] → IsI q.s) (hl : LastP ps fun p => RunR p q) : RunC (ps ++ [q]) := by
  refine ⟨fun p hp => ?_, fun i p r hp hr => ?_⟩
  · cases ps with
    | nil =>
      have : q = p := by simpa using hp
      subst this
      exact h0 rfl
    | cons a r =>
      have : a = p := by simpa using hp
      subst this
      exact h.hd a rfl
  · by_cases hi : i + 1 < ps.length
    · rw [List.getElem?_append_left (by omega)] at hp
      rw [List.getElem?_append_left hi] at hr
      exact h.ch i p r hp hr
    · have hl2 := (List.getElem?_eq_some_iff.mp hr).1
      rw [List.length_append, List.length_singleton] at hl2
      have e : ps.length = i + 1 := by omega
      rw [List.getElem?_append_left (by omega)] at hp
      rw [List.getElem?_append_right (by omega), show i + 1 - ps.length = 0 by omega] at hr
      have er : q = r := by simpa using hr
      subst er
      exact hl p (by rw [e]; exact hp)
theorem lastP_push {ps : List Pc} {q : Pc} {X : Pc → Prop} (h : X q) : LastP (ps ++ [q]) X := fun p hp => by
  rw [List.length_append, List.length_singleton, Nat.add_sub_cancel, List.getElem?_append_right (Nat.le_refl _), Nat.sub_self] at hp
  have e : q = p := by simpa using hp
  subst e
  exact h
structure SlOk (sl : List (Int × Int)) : Prop where
  bd : ∀ s ∈ sl, 0 ≤ s.1 ∧ s.1 < s.2 ∧ s.2 ≤ 10000
  pw : sl.Pairwise fun s t => s.2 ≤ t.1
structure RHyp (js : List Job) (sl : List (Int × Int)) (fss : List (List Rat)) : Prop where
  jok : JobsOk js
  nj : js.length ≤ 19
  sok : SlOk sl
  len : fss.length = js.length
  sh : ∀ (a : Nat) (j : Job) (fs : List Rat), js[a]? = some j → fss[a]? = some fs → ShOk j sl fs
def col (fss : List (List Rat)) (k a : Nat) : Rat := (fss.getD a []).getD k 0
def load (fss : List (List Rat)) (k : Nat) : Rat := rsum (fss.map fun fs => fs.getD k 0)
theorem cols_range (fss : List (List Rat)) (k : Nat) : (List.range fss.length).map (col fss k) = fss.map fun fs => fs.getD k 0 := by
  apply List.ext_getElem?
  intro i
  rw [List.getElem?_map, List.getElem?_map]
  by_cases h : i < fss.length
  · rw [List.getElem?_range h, List.getElem?_eq_getElem h]
    show some ((fss.getD i []).getD k 0) = _
    rw [getD_at (List.getElem?_eq_getElem h)]
    rfl
  · rw [List.getElem?_eq_none (by rw [List.length_range]; omega), List.getElem?_eq_none (by omega)]
    rfl
theorem rot_load (fss : List (List Rat)) (k : Nat) {s : Nat} (h : s ≤ fss.length) : rsum ((rot s fss.length).map (col fss k)) = load fss k := by
  rw [rsum_perm ((rot_perm h).map _), cols_range]
  rfl
section
variable {js : List Job} {sl : List (Int × Int)} {fss : List (List Rat)}
theorem RHyp.col0 (h : RHyp js sl fss) (k a : Nat) : 0 ≤ col fss k a := by
  unfold col
  by_cases ha : a < fss.length
  · have g := List.getElem?_eq_getElem ha
    rw [getD_at g]
    by_cases hk : k < (fss[a]).length
    · rw [getD_at (List.getElem?_eq_getElem hk)]
      have hj : js[a]? = some (js[a]'(by have := h.len; omega)) := List.getElem?_eq_getElem _
      exact (h.sh a _ _ hj g).nn _ (List.getElem_mem hk)
    · rw [List.getD_eq_getElem?_getD, List.getElem?_eq_none (by omega)]
      show (0 : Rat) ≤ 0
      grind
  · have e : fss.getD a [] = [] := by
      rw [List.getD_eq_getElem?_getD, List.getElem?_eq_none (by omega)]
      rfl
    rw [e]
    show (0 : Rat) ≤ 0
    grind
/-- one number with which all shares become whole -/
theorem whole_all : ∀ {fss : List (List Rat)}, (∀ fs ∈ fss, ∃ W : Int, 0 < W ∧ W ≤ 200 ∧ ∀ q ∈ fs, ∃ z : Int, 0 ≤ z ∧ z ≤ 30000 ∧ q * (W : Rat) = (z : Rat)) →
    ∃ D : Int, 0 < D ∧ D ≤ 200 ^ fss.length ∧ ∀ fs ∈ fss, ∀ q ∈ fs, ∃ z : Int, 0 ≤ z ∧ z ≤ 30000 * D ∧ q * (D : Rat) = (z : Rat)
  | [], _ => ⟨1, by decide, by decide, fun _ h => (nomatch h)⟩
  | fs :: r, h => by
    obtain ⟨D, d0, d1, hD⟩ := whole_all (fss := r) fun x hx => h x (List.mem_cons_of_mem _ hx)
    obtain ⟨W, w0, w1, hW⟩ := h fs (List.mem_cons_self ..)
    have wd : 0 < W * D := Int.mul_pos w0 d0
    have dle : D ≤ W * D := by
      have : 1 * D ≤ W * D := Int.mul_le_mul_of_nonneg_right (by omega) (by omega)
      omega
    refine ⟨W * D, wd, ?_, fun x hx q hq => ?_⟩
    · rw [List.length_cons, Int.pow_succ, Int.mul_comm]
      exact Int.mul_le_mul d1 w1 (by omega) (Int.pow_nonneg (by decide))
    · rw [Rat.intCast_mul]
      rcases List.mem_cons.mp hx with e | hx
      · subst e
        obtain ⟨z, z0, z1, e⟩ := hW q hq
        refine ⟨z * D, Int.mul_nonneg z0 (by omega), ?_, by rw [Rat.intCast_mul, ← e]; grind⟩
        refine Int.le_trans (Int.mul_le_mul_of_nonneg_right z1 (by omega)) ?_
        omega
      · obtain ⟨z, z0, z1, e⟩ := hD x hx q hq
        refine ⟨W * z, Int.mul_nonneg (by omega) z0, ?_, by rw [Rat.intCast_mul, ← e]; grind⟩
        have := Int.mul_le_mul_of_nonneg_left z1 (show 0 ≤ W by omega)
        rw [show W * (30000 * D) = 30000 * (W * D) by rw [← Int.mul_assoc, Int.mul_comm W 30000, Int.mul_assoc]] at this
        exact this
/-- a sum of such numbers -/
theorem whole_sum {D : Int} (d0 : 0 < D) : ∀ {qs : List Rat}, (∀ q ∈ qs, ∃ z : Int, 0 ≤ z ∧ z ≤ 30000 * D ∧ q * (D : Rat) = (z : Rat)) → ∃ z : Int, 0 ≤ z ∧ z ≤ 30000 * D * (qs.length : Int) ∧ rsum qs * (D : Rat) = (z : Rat)
  | [], _ => ⟨0, Int.le_refl _, by simp, by show 0 * (D : Rat) = 0; grind⟩
  | q :: r, h => by
    obtain ⟨z, z0, z1, e⟩ := whole_sum d0 (qs := r) fun x hx => h x (List.mem_cons_of_mem _ hx)
    obtain ⟨y, y0, y1, e2⟩ := h q (List.mem_cons_self ..)
    refine ⟨y + z, by omega, ?_, ?_⟩
    · rw [List.length_cons]
      have : 30000 * D * ((r.length + 1 : Nat) : Int) = 30000 * D * (r.length : Int) + 30000 * D := by
        rw [Int.natCast_add, Int.mul_add]
        omega
      omega
    · rw [Rat.intCast_add, ← e, ← e2]
      show (q + rsum r) * (D : Rat) = _
      grind
end

/-! ### a slot gone through -/
section
variable {js : List Job} {sl : List (Int × Int)} {fss : List (List Rat)}
/-- behind the first k slots -/
structure OutMid (js : List Job) (sl : List (Int × Int)) (fss : List (List Rat)) (k : Nat) (ps : List Pc) : Prop where
  A : ∀ p ∈ ps, PcOk js sl fss p
  B : ps.Pairwise fun p q => p.e ≤ q.s
  C : ∀ p ∈ ps, ∀ (i : Nat) (s : Int × Int), k ≤ i → sl[i]? = some s → p.e ≤ ((s.1 : Int) : Rat)
  D : ∀ (a : Nat) (j : Job) (fs : List Rat), js[a]? = some j → fss[a]? = some fs → workOf j.n ps = rsum (fs.take k)
  R : RunC ps
  Q : LastP ps fun p => IsI p.e
/-- within the slot k from lo to hi, behind the first i of the order -/
structure InMid (js : List Job) (sl : List (Int × Int)) (fss : List (List Rat)) (k : Nat) (lo hi : Int) (od : List Nat) (i : Nat) (now : Rat) (ps : List Pc) : Prop where
  A : ∀ p ∈ ps, PcOk js sl fss p
  B : ps.Pairwise fun p q => p.e ≤ q.s
  C : ∀ p ∈ ps, p.e ≤ now
  D : ∀ (a : Nat) (j : Job) (fs : List Rat), js[a]? = some j → fss[a]? = some fs → workOf j.n ps = rsum (fs.take k) + (if a ∈ od.take i then col fss k a else 0)
  N : now * load fss k = (lo : Rat) * load fss k + ((hi - lo : Int) : Rat) * rsum ((od.take i).map (col fss k))
  Z : load fss k = 0 → now = (lo : Rat)
  R : RunC ps
  Q : LastP ps fun p => (p.e = now ∧ p.v = load fss k / ((hi - lo : Int) : Rat)) ∨ (IsI p.e ∧ now = (lo : Rat))
  Q0 : ps = [] → now = (lo : Rat)
theorem OutMid.zero : OutMid js sl fss 0 [] :=
  ⟨fun _ h => (nomatch h), .nil, fun _ h => (nomatch h), fun _ _ fs _ _ => by show (0 : Rat) = rsum (fs.take 0); rfl, .nil, fun _ h => by simp at h⟩
theorem OutMid.start {k : Nat} {lo hi : Int} {ps : List Pc} {od : List Nat} (h : OutMid js sl fss k ps) (hs : sl[k]? = some (lo, hi)) : InMid js sl fss k lo hi od 0 (lo : Rat) ps where
  A := h.A
  B := h.B
  C := fun p hp => h.C p hp k (lo, hi) (Nat.le_refl _) hs
  D := fun a j fs hj hf => by
    rw [h.D a j fs hj hf, List.take_zero, if_neg (by simp)]
    grind
  N := by
    rw [List.take_zero]
    show _ = _ + _ * (0 : Rat)
    grind
  Z := fun _ => rfl
  R := h.R
  Q := fun p hp => .inr ⟨h.Q p hp, rfl⟩
  Q0 := fun _ => rfl
theorem load0 (H : RHyp js sl fss) {k a : Nat} (ha : a < fss.length) : col fss k a ≤ load fss k := by
  have e : load fss k = rsum ((List.range fss.length).map (col fss k)) := by rw [cols_range]; rfl
  rw [e]
  have g : ((List.range fss.length).map (col fss k))[a]? = some (col fss k a) := by
    rw [List.getElem?_map, List.getElem?_range ha]
    rfl
  have nn : ∀ x ∈ (List.range fss.length).map (col fss k), (0 : Rat) ≤ x := fun x hx => by
    obtain ⟨b, _, rfl⟩ := List.mem_map.mp hx
    exact H.col0 k b
  have h1 := rsum_take g
  have h2 := rsum_take_le nn (a + 1)
  have h3 := rsum_nonneg (xs := ((List.range fss.length).map (col fss k)).take a) fun x hx => nn x (List.mem_of_mem_take hx)
  grind
theorem loadnn (H : RHyp js sl fss) (k : Nat) : 0 ≤ load fss k := by
  unfold load
  rw [← cols_range]
  exact rsum_nonneg fun x hx => by
    obtain ⟨b, _, rfl⟩ := List.mem_map.mp hx
    exact H.col0 k b
theorem InMid.skip {k i a : Nat} {lo hi : Int} {od : List Nat} {now : Rat} {ps : List Pc} (h : InMid js sl fss k lo hi od i now ps) (ha : od[i]? = some a) (hc : col fss k a = 0) : InMid js sl fss k lo hi od (i + 1) now ps where
  A := h.A
  B := h.B
  C := h.C
  D := fun b j fs hj hf => by
    rw [h.D b j fs hj hf, List.take_add_one, ha]
    by_cases e : b = a
    · subst e
      rw [hc]
      simp
    · congr 1
      have : b ∈ od.take i ++ (some a).toList ↔ b ∈ od.take i := by simp [e]
      simp only [this]
  N := by
    rw [h.N, List.take_add_one, ha]
    show _ = _ + _ * rsum ((od.take i ++ [a]).map (col fss k))
    rw [List.map_append, rsum_append]
    show _ = _ + _ * (_ + (col fss k a + 0))
    rw [hc]
    grind
  Z := h.Z
  R := h.R
  Q := h.Q
  Q0 := h.Q0
end
section
variable {js : List Job} {sl : List (Int × Int)} {fss : List (List Rat)}
theorem col_whole {D : Int} (hD : ∀ fs ∈ fss, ∀ q ∈ fs, ∃ z : Int, 0 ≤ z ∧ z ≤ 30000 * D ∧ q * (D : Rat) = (z : Rat)) (d0 : 0 < D) (k a : Nat) : ∃ z : Int, 0 ≤ z ∧ z ≤ 30000 * D ∧ col fss k a * (D : Rat) = (z : Rat) := by
  have zero : ∃ z : Int, 0 ≤ z ∧ z ≤ 30000 * D ∧ (0 : Rat) * (D : Rat) = (z : Rat) := ⟨0, Int.le_refl _, by omega, by grind⟩
  unfold col
  by_cases ha : a < fss.length
  · rw [getD_at (List.getElem?_eq_getElem ha)]
    by_cases hk : k < (fss[a]).length
    · rw [getD_at (List.getElem?_eq_getElem hk)]
      exact hD _ (List.getElem_mem ha) _ (List.getElem_mem hk)
    · have e : (fss[a]).getD k 0 = 0 := by
        rw [List.getD_eq_getElem?_getD, List.getElem?_eq_none (by omega)]
        rfl
      rw [e]
      exact zero
  · have e : fss.getD a [] = [] := by
      rw [List.getD_eq_getElem?_getD, List.getElem?_eq_none (by omega)]
      rfl
    rw [e]
    exact zero
/-- all times and speeds are small -/
theorem RHyp.small (H : RHyp js sl fss) : ∃ D : Int, 0 < D ∧ D ≤ 200 ^ 19 ∧ ∀ (k : Nat) (as : List Nat), ∃ z : Int, 0 ≤ z ∧ z ≤ 30000 * D * (as.length : Int) ∧ rsum (as.map (col fss k)) * (D : Rat) = (z : Rat) := by
  obtain ⟨D, d0, d1, hD⟩ := whole_all (fss := fss) fun fs hfs => by
    obtain ⟨a, ha⟩ := List.getElem?_of_mem hfs
    have hl := (List.getElem?_eq_some_iff.mp ha).1
    exact (H.sh a _ fs (List.getElem?_eq_getElem (by have := H.len; omega)) ha).wh
  refine ⟨D, d0, Int.le_trans d1 ?_, fun k as => ?_⟩
  · have : fss.length ≤ 19 := by have := H.len; have := H.nj; omega
    have h2 : (200 : Nat) ^ fss.length ≤ 200 ^ 19 := Nat.pow_le_pow_right (by decide) this
    have e1 : ((200 : Int) ^ fss.length) = (((200 : Nat) ^ fss.length : Nat) : Int) := by rw [Int.natCast_pow]; rfl
    have e2 : ((200 : Int) ^ 19) = (((200 : Nat) ^ 19 : Nat) : Int) := by decide +kernel
    rw [e1, e2]
    exact Int.ofNat_le.mpr h2
  · have h := whole_sum d0 (qs := as.map (col fss k)) fun q hq => by
      obtain ⟨a, _, rfl⟩ := List.mem_map.mp hq
      exact col_whole hD d0 k a
    rw [List.length_map] at h
    exact h
theorem p19 : ((200 : Int) ^ 19) < 2 ^ 146 := by decide +kernel
theorem szV (H : RHyp js sl fss) (k : Nat) {h : Int} (h0 : 0 < h) (h1 : h ≤ 10000) : Sz 200 (load fss k / (h : Rat)) := by
  obtain ⟨D, d0, d1, hD⟩ := H.small
  obtain ⟨z, z0, z1, e⟩ := hD k (List.range fss.length)
  rw [cols_range, List.length_range] at *
  have e' : load fss k * (D : Rat) = (z : Rat) := e
  have hh : (h : Rat) ≠ 0 := fun c => by
    have := Rat.intCast_eq_zero_iff.mp c
    omega
  have key : load fss k / (h : Rat) * ((D * h : Int) : Rat) = (z : Rat) := by
    rw [Rat.intCast_mul, ← e']
    grind
  have pp := p19
  have l19 : (fss.length : Int) ≤ 19 := by have := H.len; have := H.nj; omega
  have dh : D * h ≤ 2 ^ 146 * 10000 := Int.mul_le_mul (by omega) h1 (by omega) (by decide)
  have dh0 : 0 < D * h := Int.mul_pos d0 h0
  have zz : z ≤ 30000 * 2 ^ 146 * 19 := Int.le_trans z1 (Int.mul_le_mul (by omega) l19 (by omega) (by decide))
  refine sz_of_whole key (by omega) ?_ ?_
  · have : (2 : Nat) ^ 146 * 10000 < 2 ^ 200 := by decide +kernel
    omega
  · have : (30000 * 2 ^ 146 * 19 : Nat) < 2 ^ 200 := by decide +kernel
    omega
theorem szN (H : RHyp js sl fss) (k : Nat) {lo h : Int} {as : List Nat} {now : Rat} (la : as.length ≤ 19) (lo0 : 0 ≤ lo) (lo1 : lo ≤ 10000) (h0 : 0 < h) (h1 : h ≤ 10000) (hL : 0 < load fss k) (e : now * load fss k = (lo : Rat) * load fss k + (h : Rat) * rsum (as.map (col fss k))) : Sz 200 now := by
  obtain ⟨D, d0, d1, hD⟩ := H.small
  obtain ⟨z, z0, z1, ez⟩ := hD k (List.range fss.length)
  obtain ⟨t, t0, t1, et⟩ := hD k as
  rw [cols_range, List.length_range] at *
  have ez' : load fss k * (D : Rat) = (z : Rat) := ez
  have dr : (0 : Rat) < (D : Rat) := Rat.intCast_pos.mpr d0
  have zpos : 0 < z := by
    have : (0 : Rat) < (z : Rat) := by rw [← ez']; exact Rat.mul_pos hL dr
    exact Rat.intCast_pos.mp this
  have key : now * (z : Rat) = ((lo * z + h * t : Int) : Rat) := by
    rw [Rat.intCast_add, Rat.intCast_mul, Rat.intCast_mul, ← ez', ← et]
    grind
  have pp := p19
  have l19 : (fss.length : Int) ≤ 19 := by have := H.len; have := H.nj; omega
  have la' : (as.length : Int) ≤ 19 := by omega
  have zz : z ≤ 30000 * 2 ^ 146 * 19 := Int.le_trans z1 (Int.mul_le_mul (by omega) l19 (by omega) (by decide))
  have tt : t ≤ 30000 * 2 ^ 146 * 19 := Int.le_trans t1 (Int.mul_le_mul (by omega) la' (by omega) (by decide))
  have b1 : lo * z ≤ 10000 * (30000 * 2 ^ 146 * 19) := Int.mul_le_mul lo1 zz (by omega) (by decide)
  have b2 : h * t ≤ 10000 * (30000 * 2 ^ 146 * 19) := Int.mul_le_mul h1 tt t0 (by decide)
  have b3 : 0 ≤ lo * z := Int.mul_nonneg lo0 (by omega)
  have b4 : 0 ≤ h * t := Int.mul_nonneg (by omega) t0
  have big : (20000 * (30000 * 2 ^ 146 * 19) : Nat) < 2 ^ 200 := by decide +kernel
  refine sz_of_whole key (by omega) (by omega) (by omega)
theorem load_le (H : RHyp js sl fss) (k : Nat) : load fss k ≤ 570000 := by
  obtain ⟨D, d0, d1, hD⟩ := H.small
  obtain ⟨z, z0, z1, e⟩ := hD k (List.range fss.length)
  rw [cols_range, List.length_range] at *
  have e' : load fss k * (D : Rat) = (z : Rat) := e
  have dr : (0 : Rat) < (D : Rat) := Rat.intCast_pos.mpr d0
  have l19 : (fss.length : Int) ≤ 19 := by have := H.len; have := H.nj; omega
  have zz : z ≤ 570000 * D := by
    have h1 : 30000 * D * (fss.length : Int) ≤ 30000 * D * 19 := Int.mul_le_mul_of_nonneg_left l19 (by omega)
    omega
  have c : (z : Rat) ≤ ((570000 * D : Int) : Rat) := Rat.intCast_le_intCast.mpr zz
  rw [Rat.intCast_mul, ← e'] at c
  exact Rat.le_of_mul_le_mul_right c dr
theorem InMid.add (H : RHyp js sl fss) {k i a s : Nat} {lo hi : Int} {now : Rat} {ps : List Pc} {j : Job} {fs : List Rat} (h : InMid js sl fss k lo hi (rot s fss.length) i now ps) (hs0 : s ≤ fss.length) (ha : (rot s fss.length)[i]? = some a) (hj : js[a]? = some j) (hf : fss[a]? = some fs)
    (hs : sl[k]? = some (lo, hi)) (hc : 0 < col fss k a) :
    0 < load fss k / ((hi - lo : Int) : Rat) ∧ Sz 200 (load fss k / ((hi - lo : Int) : Rat)) ∧ Sz 16 (col fss k a) ∧ Sz 200 now ∧
    InMid js sl fss k lo hi (rot s fss.length) (i + 1) (now + col fss k a / (load fss k / ((hi - lo : Int) : Rat))) (ps ++ [⟨now, now + col fss k a / (load fss k / ((hi - lo : Int) : Rat)), j.n, load fss k / ((hi - lo : Int) : Rat)⟩]) := by
  have bs := H.sok.bd _ (List.mem_of_getElem? hs)
  have hl0 : 0 < hi - lo := by have := bs.2.1; simp only at this; omega
  have hl1 : hi - lo ≤ 10000 := by have := bs.2.2; have := bs.1; simp only at *; omega
  have al : a < fss.length := (List.getElem?_eq_some_iff.mp hf).1
  have L0 := load0 H (k := k) al
  have Lp : 0 < load fss k := by grind
  have il : i < (rot s fss.length).length := (List.getElem?_eq_some_iff.mp ha).1
  rw [rot_len hs0] at il
  have nl : fss.length ≤ 19 := by have := H.len; have := H.nj; omega
  have hr : (0 : Rat) < ((hi - lo : Int) : Rat) := Rat.intCast_pos.mpr hl0
  generalize hd : ((hi - lo : Int) : Rat) = d at *
  have vp : 0 < load fss k / d := by
    rw [Rat.div_def]
    exact Rat.mul_pos Lp (Rat.inv_pos.mpr hr)
  have zv : Sz 200 (load fss k / d) := by rw [← hd]; exact szV H k hl0 hl1
  have ec : col fss k a / (load fss k / d) = col fss k a * d / load fss k := by grind
  have ecp : 0 < col fss k a / (load fss k / d) := by
    rw [Rat.div_def]
    exact Rat.mul_pos hc (Rat.inv_pos.mpr vp)
  have nod : (rot s fss.length).Nodup := (rot_perm hs0).nodup_iff.mpr List.nodup_range
  have anot : a ∉ (rot s fss.length).take i := fun hm => by
    obtain ⟨x, hx⟩ := List.getElem?_of_mem hm
    have xl := (List.getElem?_eq_some_iff.mp hx).1
    rw [List.length_take] at xl
    rw [List.getElem?_take_of_lt (by omega)] at hx
    have := nd_ix nod hx ha
    omega
  have et : (rot s fss.length).take (i + 1) = (rot s fss.length).take i ++ [a] := by rw [List.take_add_one, ha]; rfl
  have es : rsum (((rot s fss.length).take (i + 1)).map (col fss k)) = rsum (((rot s fss.length).take i).map (col fss k)) + col fss k a := by
    rw [et, List.map_append, rsum_append]
    show _ + (col fss k a + 0) = _
    grind
  have nnc : ∀ x ∈ (rot s fss.length).map (col fss k), (0 : Rat) ≤ x := fun x hx => by
    obtain ⟨b, _, rfl⟩ := List.mem_map.mp hx
    exact H.col0 k b
  have le1 : rsum (((rot s fss.length).take (i + 1)).map (col fss k)) ≤ load fss k := by
    rw [← rot_load fss k hs0, List.map_take]
    exact rsum_take_le nnc (i + 1)
  have ge0 : 0 ≤ rsum (((rot s fss.length).take i).map (col fss k)) := by
    rw [List.map_take]
    exact rsum_nonneg fun x hx => nnc x (List.mem_of_mem_take hx)
  have N := h.N
  rw [hd] at N
  have N' : (now + col fss k a / (load fss k / d)) * load fss k = (lo : Rat) * load fss k + d * rsum (((rot s fss.length).take (i + 1)).map (col fss k)) := by
    rw [es, ec]
    grind
  have zs : Sz 200 now := szN H k (as := (rot s fss.length).take i) (h := hi - lo) (by rw [List.length_take, rot_len hs0]; omega) bs.1 (by have := bs.2.2; have := bs.2.1; simp only at *; omega) hl0 hl1 Lp (by rw [hd]; exact N)
  have ze : Sz 200 (now + col fss k a / (load fss k / d)) := szN H k (as := (rot s fss.length).take (i + 1)) (h := hi - lo) (by rw [List.length_take, rot_len hs0]; omega) bs.1 (by have := bs.2.2; have := bs.2.1; simp only at *; omega) hl0 hl1 Lp (by rw [hd]; exact N')
  have sh := H.sh a j fs hj hf
  have kl : k < sl.length := (List.getElem?_eq_some_iff.mp hs).1
  have gk : fs[k]? = some (col fss k a) := by
    have g := List.getElem?_eq_getElem (l := fs) (i := k) (by rw [sh.len]; exact kl)
    rw [g]
    unfold col
    rw [getD_at hf, getD_at g]
  have zc : Sz 16 (col fss k a) := sh.sz _ (List.mem_of_getElem? gk)
  have hm : mine j (lo, hi) = true := sh.own k _ _ gk hs (by grind)
  have low : (lo : Rat) ≤ now := by
    have m : (lo : Rat) * load fss k ≤ now * load fss k := by
      have := Rat.mul_nonneg (Rat.le_of_lt hr) ge0
      grind
    exact Rat.le_of_mul_le_mul_right m Lp
  have hid : (hi : Rat) = (lo : Rat) + d := by
    rw [← hd, Rat.intCast_sub]
    grind
  have high : now + col fss k a / (load fss k / d) ≤ (hi : Rat) := by
    have m : (now + col fss k a / (load fss k / d)) * load fss k ≤ (hi : Rat) * load fss k := by
      have := Rat.mul_le_mul_of_nonneg_left le1 (Rat.le_of_lt hr)
      rw [N', hid]
      grind
    exact Rat.le_of_mul_le_mul_right m Lp
  have ilo : IsI (lo : Rat) := ⟨lo, bs.1, by have := bs.2.2; have := bs.2.1; simp only at *; omega, rfl⟩
  refine ⟨vp, zv, zc, zs, ?_, ?_, ?_, ?_, ?_, ?_, ?_, ?_, ?_⟩
  · intro p hp
    rcases List.mem_append.mp hp with hp | hp
    · exact h.A p hp
    · rw [List.mem_singleton.mp hp]
      refine ⟨⟨j, List.mem_of_getElem? hj, (lo, hi), List.mem_of_getElem? hs, rfl, hm, low, high⟩, by show now < now + _; grind, vp, zs, ze, zv, ?_, ⟨k, a, ?_⟩, ⟨k, (lo, hi), hs, by show load fss k / d = load fss k / ((hi - lo : Int) : Rat); rw [hd]⟩⟩
      · have ll := load_le H k
        have d1 : (1 : Rat) ≤ d := by
          rw [← hd]
          exact Rat.intCast_le_intCast.mpr (show (1 : Int) ≤ hi - lo by omega)
        have m : load fss k / d * 1 ≤ load fss k / d * d := Rat.mul_le_mul_of_nonneg_left d1 (Rat.le_of_lt vp)
        have e : load fss k / d * d = load fss k := by grind
        show load fss k / d ≤ 600000
        grind
      · show load fss k / d * (now + col fss k a / (load fss k / d) - now) = col fss k a
        grind
  · rw [List.pairwise_append]
    refine ⟨h.B, List.pairwise_singleton _ _, fun p hp q hq => ?_⟩
    rw [List.mem_singleton.mp hq]
    exact h.C p hp
  · intro p hp
    rcases List.mem_append.mp hp with hp | hp
    · have := h.C p hp
      grind
    · rw [List.mem_singleton.mp hp]
      exact Rat.le_refl
  · intro b j' fs' hj' hf'
    rw [workOf_push, h.D b j' fs' hj' hf', et]
    by_cases e : b = a
    · subst e
      rw [hj] at hj'
      cases hj'
      rw [if_neg anot, if_pos rfl, if_pos (by simp)]
      show _ + 0 + load fss k / d * (now + col fss k b / (load fss k / d) - now) = _
      grind
    · have nm : ¬ j.n = j'.n := fun z => by
        have h1 := H.jok.nm a j hj
        rw [z] at h1
        exact e ((H.jok.nm b j' hj').inj h1)
      have : b ∈ (rot s fss.length).take i ++ [a] ↔ b ∈ (rot s fss.length).take i := by simp [e]
      simp only [this]
      rw [if_neg nm]
      grind
  · rw [hd]
    exact N'
  · intro z
    grind
  · refine h.R.push (fun z => ?_) fun p hp => ?_
    · show IsI now
      rw [h.Q0 z]
      exact ilo
    · rcases h.Q p hp with ⟨z1, z2⟩ | ⟨z1, z2⟩
      · refine .inl ⟨z1, ?_⟩
        rw [hd] at z2
        exact z2
      · refine .inr ⟨z1, ?_⟩
        show IsI now
        rw [z2]
        exact ilo
  · refine lastP_push (.inl ⟨rfl, ?_⟩)
    show load fss k / d = load fss k / ((hi - lo : Int) : Rat)
    rw [hd]
  · intro z
    simp at z
theorem InMid.finish (H : RHyp js sl fss) {k s : Nat} {lo hi : Int} {now : Rat} {ps : List Pc} (h : InMid js sl fss k lo hi (rot s fss.length) fss.length now ps) (hs0 : s ≤ fss.length) (hs : sl[k]? = some (lo, hi)) : OutMid js sl fss (k + 1) ps := by
  have bs := H.sok.bd _ (List.mem_of_getElem? hs)
  have N := h.N
  have lhi : (lo : Rat) ≤ (hi : Rat) := by
    have := bs.2.1
    exact Rat.intCast_le_intCast.mpr (by simp only at this; omega)
  rw [List.take_of_length_le (by rw [rot_len hs0]; exact Nat.le_refl _), rot_load fss k hs0] at N
  have bs1 : 0 ≤ lo := bs.1
  have bs2 : lo < hi := bs.2.1
  have bs3 : hi ≤ 10000 := bs.2.2
  have nh2 : now ≤ (hi : Rat) ∧ IsI now := by
    by_cases z : load fss k = 0
    · rw [h.Z z]
      exact ⟨lhi, lo, bs1, by omega, rfl⟩
    · rw [Rat.intCast_sub] at N
      have : now = (hi : Rat) := by grind
      rw [this]
      exact ⟨Rat.le_refl, hi, by omega, by omega, rfl⟩
  have nh := nh2.1
  refine ⟨h.A, h.B, fun p hp i t hi2 ht => ?_, fun a j fs hj hf => ?_, h.R, fun p hp => ?_⟩
  · have c := h.C p hp
    have pw := H.sok.pw
    have : ((lo, hi) : Int × Int).2 ≤ t.1 := by
      have hil := (List.getElem?_eq_some_iff.mp ht)
      have hkl := (List.getElem?_eq_some_iff.mp hs)
      obtain ⟨h1, e1⟩ := hil
      obtain ⟨h2, e2⟩ := hkl
      have := List.pairwise_iff_getElem.mp pw k i h2 h1 (by omega)
      rw [e1, e2] at this
      exact this
    have r : (hi : Rat) ≤ (t.1 : Rat) := Rat.intCast_le_intCast.mpr this
    grind
  · rw [h.D a j fs hj hf]
    have al : a < fss.length := (List.getElem?_eq_some_iff.mp hf).1
    have am : a ∈ (rot s fss.length).take fss.length := by
      rw [List.take_of_length_le (by rw [rot_len hs0]; exact Nat.le_refl _)]
      exact ((rot_perm hs0).mem_iff).mpr (List.mem_range.mpr al)
    rw [if_pos am]
    have sh := H.sh a j fs hj hf
    have kl : k < sl.length := (List.getElem?_eq_some_iff.mp hs).1
    have gk : fs[k]? = some (col fss k a) := by
      have g := List.getElem?_eq_getElem (l := fs) (i := k) (by rw [sh.len]; exact kl)
      rw [g]
      unfold col
      rw [getD_at hf, getD_at g]
    rw [rsum_take gk]
  · rcases h.Q p hp with ⟨z1, _⟩ | ⟨z1, _⟩
    · rw [z1]
      exact nh2.2
    · exact z1
/-- the product of the lengths of the slots -/
def lens : List (Int × Int) → Int
  | [] => 1
  | t :: r => (t.2 - t.1) * lens r
theorem lens_ok : ∀ {sl : List (Int × Int)}, (∀ s ∈ sl, 0 ≤ s.1 ∧ s.1 < s.2 ∧ s.2 ≤ 10000) → 0 < lens sl ∧ lens sl ≤ 10000 ^ sl.length ∧ ∀ t ∈ sl, ∃ m : Int, lens sl = (t.2 - t.1) * m
  | [], _ => ⟨by decide, by decide, fun _ h => (nomatch h)⟩
  | t :: r, h => by
    obtain ⟨a, b, c⟩ := lens_ok (sl := r) fun s hs => h s (List.mem_cons_of_mem _ hs)
    have ht := h t (List.mem_cons_self ..)
    refine ⟨Int.mul_pos (by omega) a, ?_, fun u hu => ?_⟩
    · show (t.2 - t.1) * lens r ≤ _
      rw [List.length_cons, Int.pow_succ, Int.mul_comm]
      exact Int.mul_le_mul b (by omega) (by omega) (Int.pow_nonneg (by decide))
    · rcases List.mem_cons.mp hu with rfl | hu
      · exact ⟨_, rfl⟩
      · obtain ⟨m, e⟩ := c u hu
        refine ⟨(t.2 - t.1) * m, ?_⟩
        show (t.2 - t.1) * lens r = _
        rw [e]
        grind
/-- the rival as it is made -/
structure RivOk (js : List Job) (ps : List Pc) : Prop where
  pc : ∀ p ∈ ps, p.s < p.e ∧ 0 < p.v ∧ Sz 200 p.s ∧ Sz 200 p.e ∧ Sz 200 p.v ∧ ∃ j ∈ js, p.n = j.n ∧ ((j.c : Int) : Rat) ≤ p.s ∧ p.e ≤ ((j.d : Int) : Rat)
  ord : ps.Pairwise fun p q => p.e ≤ q.s
  work : ∀ j ∈ js, workOf j.n ps = (j.w : Rat)
  vb : ∀ p ∈ ps, p.v ≤ 600000
  wh : ∃ D : Int, 0 < D ∧ D ≤ 200 ^ 19 ∧ ∀ p ∈ ps, ∃ z : Int, p.v * (p.e - p.s) * (D : Rat) = (z : Rat)
  run : RunC ps
  re : LastP ps fun p => IsI p.e
  ve : ∃ E : Int, 0 < E ∧ E ≤ 2 ^ 950 ∧ ∀ p ∈ ps, ∃ z : Int, p.v * (E : Rat) = (z : Rat)
theorem p950 : ((200 : Int) ^ 19) * 10000 ^ 60 ≤ 2 ^ 950 := by decide +kernel
theorem OutMid.done (H : RHyp js sl fss) (hsl : sl.length ≤ 60) {ps : List Pc} (h : OutMid js sl fss sl.length ps) : RivOk js ps := by
  obtain ⟨D, d0, d1, hD⟩ := H.small
  obtain ⟨l0, l1, l2⟩ := lens_ok H.sok.bd
  have l60 : lens sl ≤ 10000 ^ 60 := by
    refine Int.le_trans l1 ?_
    have h2 : (10000 : Nat) ^ sl.length ≤ 10000 ^ 60 := Nat.pow_le_pow_right (by decide) hsl
    have e1 : ((10000 : Int) ^ sl.length) = (((10000 : Nat) ^ sl.length : Nat) : Int) := by rw [Int.natCast_pow]; rfl
    have e2 : ((10000 : Int) ^ 60) = (((10000 : Nat) ^ 60 : Nat) : Int) := by decide +kernel
    rw [e1, e2]
    exact Int.ofNat_le.mpr h2
  refine ⟨fun p hp => ?_, h.B, fun j hj => ?_, fun p hp => (h.A p hp).vb, ⟨D, d0, d1, fun p hp => ?_⟩, h.R, h.Q, D * lens sl, Int.mul_pos d0 l0, Int.le_trans (Int.mul_le_mul d1 l60 (by omega) (by decide +kernel)) p950, fun p hp => ?_⟩
  · have o := h.A p hp
    obtain ⟨j, hj, s, hs, hn, hm, h1, h2⟩ := o.at'
    unfold mine at hm
    rw [Bool.and_eq_true] at hm
    have m1 : ((j.c : Int) : Rat) ≤ ((s.1 : Int) : Rat) := Rat.intCast_le_intCast.mpr (of_decide_eq_true hm.1)
    have m2 : ((s.2 : Int) : Rat) ≤ ((j.d : Int) : Rat) := Rat.intCast_le_intCast.mpr (of_decide_eq_true hm.2)
    exact ⟨o.lt, o.v0, o.zs, o.ze, o.zv, j, hj, hn, by grind, by grind⟩
  · obtain ⟨a, ha⟩ := List.getElem?_of_mem hj
    have al := (List.getElem?_eq_some_iff.mp ha).1
    have hf := List.getElem?_eq_getElem (l := fss) (i := a) (by have := H.len; omega)
    have sh := H.sh a j _ ha hf
    rw [h.D a j _ ha hf, ← sh.len, List.take_length]
    exact sh.sum
  · obtain ⟨k, a, e⟩ := (h.A p hp).wk
    obtain ⟨z, _, _, ez⟩ := hD k [a]
    refine ⟨z, ?_⟩
    rw [e, ← ez]
    show _ = (col fss k a + 0) * (D : Rat)
    unfold col
    grind
  · obtain ⟨k, t, ht, ev⟩ := (h.A p hp).vk
    obtain ⟨z, _, _, ez⟩ := hD k (List.range fss.length)
    rw [cols_range] at ez
    obtain ⟨m, em⟩ := l2 t (List.mem_of_getElem? ht)
    have bt := H.sok.bd _ (List.mem_of_getElem? ht)
    have tn : ((t.2 - t.1 : Int) : Rat) ≠ 0 := fun c => by
      have := Rat.intCast_eq_zero_iff.mp c
      omega
    refine ⟨z * m, ?_⟩
    rw [ev, em, Rat.intCast_mul, Rat.intCast_mul, Rat.intCast_mul, ← ez]
    generalize rsum (fss.map fun fs => fs.getD k 0) = L
    generalize ((t.2 - t.1 : Int) : Rat) = d at tn
    grind
end

/-! ### the slots between the points -/
def slotsOf (ps : List Int) : List (Int × Int) := (List.range (ps.length - 1)).map fun k => (ps.getD k 0, ps.getD (k + 1) 0)
theorem slots_at {ps : List Int} {k : Nat} (h : k < ps.length - 1) : (slotsOf ps)[k]? = some (ps.getD k 0, ps.getD (k + 1) 0) := by
  unfold slotsOf
  rw [List.getElem?_map, List.getElem?_range h]
  rfl
theorem slots_len (ps : List Int) : (slotsOf ps).length = ps.length - 1 := by
  unfold slotsOf
  rw [List.length_map, List.length_range]
theorem pts_lt {ps : List Int} (h : ps.Pairwise (· < ·)) {a b : Nat} (hb : b < ps.length) (hab : a < b) : ps.getD a 0 < ps.getD b 0 := by
  have := List.pairwise_iff_getElem.mp h a b (by omega) hb hab
  rw [getD_at (List.getElem?_eq_getElem (show a < ps.length by omega)), getD_at (List.getElem?_eq_getElem hb)]
  exact this
theorem pts_mem {ps : List Int} {a : Nat} (h : a < ps.length) : ps.getD a 0 ∈ ps := by
  rw [getD_at (List.getElem?_eq_getElem h)]
  exact List.getElem_mem h
theorem slots_ok {js : List Job} {ps : List Int} (h : PtsOk js ps) (hj : ∀ j ∈ js, JobOk j) : SlOk (slotsOf ps) := by
  refine ⟨fun s hs => ?_, ?_⟩
  · obtain ⟨k, hk⟩ := List.getElem?_of_mem hs
    have kl := (List.getElem?_eq_some_iff.mp hk).1
    rw [slots_len] at kl
    rw [slots_at kl] at hk
    cases hk
    have lt := pts_lt h.lt (a := k) (b := k + 1) (by omega) (by omega)
    obtain ⟨j, jm, h1, h2⟩ := h.bd _ (pts_mem (ps := ps) (a := k) (by omega))
    obtain ⟨j2, jm2, h3, h4⟩ := h.bd _ (pts_mem (ps := ps) (a := k + 1) (by omega))
    have := (hj j jm).c0
    have := (hj j2 jm2).d1
    exact ⟨by omega, lt, by omega⟩
  · refine List.pairwise_iff_getElem.mpr fun a b ha hb hab => ?_
    have ga := List.getElem?_eq_getElem ha
    have gb := List.getElem?_eq_getElem hb
    rw [slots_len] at ha hb
    rw [slots_at ha] at ga
    rw [slots_at hb] at gb
    rw [← Option.some.inj ga, ← Option.some.inj gb]
    show ps.getD (a + 1) 0 ≤ ps.getD b 0
    by_cases e : a + 1 = b
    · rw [e]; exact Int.le_refl _
    · exact Int.le_of_lt (pts_lt h.lt (by omega) (by omega))
theorem slots_mine {js : List Job} {ps : List Int} (h : PtsOk js ps) {j : Job} (hj : j ∈ js) (oj : JobOk j) : ∃ s ∈ slotsOf ps, mine j s = true := by
  obtain ⟨m1, m2⟩ := h.mem j hj
  obtain ⟨a, ha⟩ := List.getElem?_of_mem m1
  obtain ⟨b, hb⟩ := List.getElem?_of_mem m2
  have al := (List.getElem?_eq_some_iff.mp ha).1
  have bl := (List.getElem?_eq_some_iff.mp hb).1
  have ea := getD_at (d := (0 : Int)) ha
  have eb := getD_at (d := (0 : Int)) hb
  have cd := oj.cd
  have ab : a < b := by
    by_cases z : a < b
    · exact z
    · by_cases e : a = b
      · subst e; omega
      · have := pts_lt h.lt (a := b) (b := a) al (by omega)
        omega
  refine ⟨_, List.mem_of_getElem? (slots_at (ps := ps) (k := a) (by omega)), ?_⟩
  unfold mine
  rw [Bool.and_eq_true]
  refine ⟨decide_eq_true (by simp only; omega), decide_eq_true ?_⟩
  show ps.getD (a + 1) 0 ≤ j.d
  rw [← eb]
  by_cases e : a + 1 = b
  · rw [e]; exact Int.le_refl _
  · exact Int.le_of_lt (pts_lt h.lt bl (by omega))
/-! ### rows of shares -/
def RowsAt (K : PySem.W.Frag) (p R : Addr) (H : Hp) (ras : List Addr) (fss : List (List Rat)) : Prop :=
  ras.length = fss.length ∧ ∀ (a : Nat) (ra : Addr) (fs : List Rat), ras[a]? = some ra → fss[a]? = some fs → ra ≠ p ∧ ra ≠ R ∧ ∃ xs, H ra = some (.lst xs) ∧ IsA K H xs (fs.map rat2)
theorem RowsAt.kp {K : PySem.W.Frag} {p R pa : Addr} {H H' : Hp} {ras : List Addr} {fss : List (List Rat)} (h : RowsAt K p R H ras fss) (P : Pl p pa H) (e : Kp p H H') : RowsAt K p R H' ras fss :=
  ⟨h.1, fun a ra fs h1 h2 => by
    obtain ⟨n1, n2, xs, hx, hi⟩ := h.2 a ra fs h1 h2
    exact ⟨n1, n2, xs, e _ _ n1 hx, hi.to (P.tm e)⟩⟩
theorem rd_of_div {q : Rat} {h : Int} (h0 : h ≠ 0) : Rat.divInt q.num ((q.den : Int) * h) = q / (h : Rat) := by
  rw [divInt_div, Rat.intCast_mul, Rat.div_def, Rat.div_def]
  have e : (q.num : Rat) * ((q.den : Int) : Rat)⁻¹ = q := by
    rw [← Rat.div_def, ← divInt_div]
    exact Rat.num_divInt_den q
  have d0 : ((q.den : Int) : Rat) ≠ 0 := fun c => denz q (Rat.intCast_eq_zero_iff.mp c)
  have h1 : (h : Rat) ≠ 0 := fun c => h0 (Rat.intCast_eq_zero_iff.mp c)
  conv => rhs; rw [← e]
  grind
/-- a rival plan of a job list -/
def spRival (K : PySem.W.Frag) : Sp := fun vs H Q _ => ∃ (p pa J : Addr) (xs : List V) (js : List Job), vs = [.ref p, .ref J] ∧ Pl p pa H ∧ SqT K H J xs ∧ IsA K H xs (js.map dJob) ∧ JobsOk js ∧ js.length ≤ 19 ∧
  ∀ t ys ps H', RivOk js ps → ps.length ≤ 3 * js.length * js.length → Kp p H H' → Pl p pa H' → H t = none → H' t = some (.tup ys) → IsA K H' ys (ps.map dPc) → Q (.ref t) H'
theorem is_pc {K : PySem.W.Frag} {H : Hp} {t : Addr} {a b c : V} {q : Pc} (h : SqT K H t [a, b, .str q.n, c]) (ha : Is K H a (rat2 q.s)) (hb : Is K H b (rat2 q.e)) (hc : Is K H c (rat2 q.v)) : Is K H (.ref t) (dPc q) :=
  .tup h (.cons ha (.cons hb (.cons (.str _) (.cons hc .nil))))
theorem pc_at {K : PySem.W.Frag} {H : Hp} {v : V} {q : Pc} (h : Is K H v (dPc q)) : ∃ t a b c, v = .ref t ∧ SqT K H t [a, b, .str q.n, c] ∧ Is K H a (rat2 q.s) ∧ Is K H b (rat2 q.e) ∧ Is K H c (rat2 q.v) := by
  obtain ⟨t, xs, rfl, s, a⟩ := h.tup'
  cases a with
  | cons h1 a => cases a with
    | cons h2 a => cases a with
      | cons h3 a => cases a with
        | cons h4 a =>
          cases a; cases h3
          exact ⟨t, _, _, _, rfl, s, h1, h2, h4⟩
theorem rat_at {K : PySem.W.Frag} {H : Hp} {v : V} {q : Rat} (h : Is K H v (rat2 q)) : ∃ t, v = .ref t ∧ SqT K H t [.int q.num, .int (q.den : Int)] := by
  obtain ⟨t, a, b, rfl, s, h1, h2⟩ := Is.two' h
  cases h1; cases h2
  exact ⟨t, rfl, s⟩
theorem num_pos {q : Rat} : (0 < q.num) ↔ 0 < q := by
  rw [Rat.lt_iff]
  show 0 < q.num ↔ (0 : Int) * (q.den : Int) < q.num * ((1 : Nat) : Int)
  omega
end Z

namespace Z
open PySem PySem.Spec PyProof.Rows L2
/-! ### equal data -/
theorem eqv_rat2 (p q : Rat) : PyData.eqv (rat2 p) (rat2 q) = decide (p = q) := by
  show PyData.eqv (.tuple _) (.tuple _) = _
  rw [PyData.eqv, PyData.eqvAll, PyData.eqvAll, PyData.eqvAll, PyData.eqv, PyData.eqv, Bool.and_true]
  by_cases h : p = q
  · subst h
    simp
  · rw [decide_eq_false h, Bool.and_eq_false_iff]
    by_cases h1 : p.num = q.num
    · refine .inr (beq_eq_false_iff_ne.mpr fun h2 => h (Rat.ext h1 (by omega)))
    · exact .inl (beq_eq_false_iff_ne.mpr h1)
theorem lay_rat2 (p : Rat) : (rat2 p).canLay0 = true := by
  unfold rat2
  rw [PyData.canLay0, PyData.canLayAll0, PyData.canLayAll0, PyData.canLayAll0, PyData.canLay0, PyData.canLay0]
  rfl
theorem depth_rat2 (p : Rat) : (rat2 p).depth = 1 := by
  unfold rat2
  simp [PyData.depth, PyData.depthAll]
theorem shaped_rat2 (p : Rat) : SeqAt.shaped (rat2 p) = true := by
  unfold SeqAt.shaped
  rw [lay_rat2, depth_rat2]
  rfl
theorem shaped_str {x : Str} (h : PyData.strOk x = true) : SeqAt.shaped (.str x) = true := by
  unfold SeqAt.shaped
  rw [PyData.canLay0, h]
  simp [PyData.depth]
theorem eqv_str (x y : Str) : PyData.eqv (.str x) (.str y) = decide (x = y) := by
  rw [PyData.eqv]
  by_cases h : x = y
  · subst h; simp
  · rw [decide_eq_false h]
    exact beq_eq_false_iff_ne.mpr h
theorem eqv_pair (x y : Str) (p q : Rat) : PyData.eqv (.tuple [.str x, rat2 p]) (.tuple [.str y, rat2 q]) = (decide (x = y) && decide (p = q)) := by
  rw [PyData.eqv, PyData.eqvAll, PyData.eqvAll, PyData.eqvAll, eqv_str, eqv_rat2, Bool.and_true]
theorem shaped_pair {x : Str} (h : PyData.strOk x = true) (p : Rat) : SeqAt.shaped (.tuple [.str x, rat2 p]) = true := by
  unfold SeqAt.shaped
  rw [PyData.canLay0, PyData.canLayAll0, PyData.canLayAll0, PyData.canLayAll0, PyData.canLay0, h, lay_rat2]
  simp [PyData.depth, PyData.depthAll, depth_rat2]
theorem lay_dPc {p : Pc} (h : PyData.strOk p.n = true) : (dPc p).canLay0 = true := by
  unfold dPc
  rw [PyData.canLay0, PyData.canLayAll0, PyData.canLayAll0, PyData.canLayAll0, PyData.canLayAll0, PyData.canLayAll0, PyData.canLay0, h, lay_rat2, lay_rat2, lay_rat2]
  rfl
theorem depth_dPc (p : Pc) : (dPc p).depth = 2 := by
  unfold dPc
  simp [PyData.depth, PyData.depthAll, depth_rat2]
def POk (ps : List Pc) : Prop := ∀ p ∈ ps, PyData.strOk p.n = true
theorem lay_dPcs : ∀ {ps : List Pc}, POk ps → PyData.canLayAll0 (ps.map dPc) = true
  | [], _ => by rw [List.map_nil, PyData.canLayAll0]
  | p :: ps, h => by
    rw [List.map_cons, PyData.canLayAll0, lay_dPc (h p (List.mem_cons_self ..)), lay_dPcs (ps := ps) fun q hq => h q (List.mem_cons_of_mem _ hq)]
    rfl
theorem depth_dPcs : ∀ (ps : List Pc), PyData.depthAll (ps.map dPc) ≤ 2
  | [] => by simp [PyData.depthAll]
  | p :: ps => by
    have := depth_dPcs ps
    rw [List.map_cons, PyData.depthAll, depth_dPc]
    omega
theorem shaped_list {ps : List Pc} (h : POk ps) : SeqAt.shaped (.list (ps.map dPc)) = true := by
  unfold SeqAt.shaped
  have := depth_dPcs ps
  rw [PyData.canLay0, lay_dPcs h, PyData.depth]
  simp
  omega
theorem shaped_nil : SeqAt.shaped (.list []) = true := by
  unfold SeqAt.shaped
  simp [PyData.canLay0, PyData.canLayAll0, PyData.depth, PyData.depthAll]
theorem eqv_nil (ps : List Pc) : PyData.eqv (.list (ps.map dPc)) (.list []) = decide (ps = []) := by
  cases ps with
  | nil => simp [PyData.eqv, PyData.eqvAll]
  | cons p ps => simp [PyData.eqv, PyData.eqvAll]
theorem plain_dPc (p : Pc) : plainD (dPc p) = true := by
  unfold dPc
  rw [plainD, plainDs, plainDs, plainDs, plainDs, plainDs, plain_rat2, plain_rat2, plain_rat2, plainD]
  rfl
theorem plain_dPcs : ∀ ps : List Pc, plainDs (ps.map dPc) = true
  | [] => by rw [List.map_nil, plainDs]
  | p :: ps => by
    rw [List.map_cons, plainDs, plain_dPc, plain_dPcs ps]
    rfl
def dPlan (ps : List Pc) : PyData := .tuple (ps.map dPc)
theorem plain_plan {ps : List Pc} (h : ps.length ≤ 1000) : plainD (dPlan ps) = true := by
  unfold dPlan
  rw [plainD, plain_dPcs, List.length_map, decide_eq_true h]
  rfl
theorem dep_dPc (p : Pc) : depD (dPc p) = 2 := by
  simp [dPc, depD, depDs, dep_rat2]
theorem dep_dPcs : ∀ ps : List Pc, depDs (ps.map dPc) ≤ 2
  | [] => by simp [depDs]
  | p :: ps => by
    have := dep_dPcs ps
    rw [List.map_cons, depDs, dep_dPc]
    omega
theorem dep_plan (ps : List Pc) : depD (dPlan ps) < 4 := by
  have := dep_dPcs ps
  unfold dPlan
  rw [depD]
  omega
theorem nm_str {k : Nat} {x : Str} (h : NmOk k x) : PyData.strOk x = true := by
  unfold PyData.strOk
  rw [Array.all_eq_true']
  intro c hc
  have := h.low c (by simpa using hc)
  exact decide_eq_true (by omega)
/-! ### tidy plans -/
def goesOn (p q : Pc) : Bool := decide (p.e = q.s) && (decide (p.n = q.n) && decide (p.v = q.v))
def tidyStep (acc : List Pc) (p : Pc) : List Pc :=
  match acc.getLast? with
  | none => acc ++ [p]
  | some l => if goesOn l p then acc.dropLast ++ [⟨l.s, p.e, p.n, p.v⟩] else acc ++ [p]
def tidyL (ps : List Pc) : List Pc := ps.foldl tidyStep []
theorem step_nil (p : Pc) : tidyStep [] p = [p] := rfl
theorem step_yes {acc : List Pc} {l p : Pc} (h : goesOn l p = true) : tidyStep (acc ++ [l]) p = acc ++ [⟨l.s, p.e, p.n, p.v⟩] := by
  unfold tidyStep
  rw [List.getLast?_concat]
  show (if goesOn l p then _ else _) = _
  rw [if_pos h, List.dropLast_concat]
theorem step_no {acc : List Pc} {l p : Pc} (h : goesOn l p = false) : tidyStep (acc ++ [l]) p = acc ++ [l] ++ [p] := by
  unfold tidyStep
  rw [List.getLast?_concat]
  show (if goesOn l p then _ else _) = _
  rw [if_neg (by rw [h]; decide)]
theorem snoc_or (acc : List Pc) : acc = [] ∨ ∃ i l, acc = i ++ [l] := by
  rcases List.eq_nil_or_concat acc with h | ⟨i, l, h⟩
  · exact .inl h
  · exact .inr ⟨i, l, by rw [h, List.concat_eq_append]⟩
theorem tidy_take {ps : List Pc} {i : Nat} {p : Pc} (h : ps[i]? = some p) : tidyL (ps.take (i + 1)) = tidyStep (tidyL (ps.take i)) p := by
  unfold tidyL
  rw [List.take_add_one, h, List.foldl_append]
  rfl
theorem step_len (acc : List Pc) (p : Pc) : (tidyStep acc p).length ≤ acc.length + 1 := by
  rcases snoc_or acc with rfl | ⟨i, l, rfl⟩
  · exact Nat.le_refl _
  · cases h : goesOn l p with
    | true => rw [step_yes h]; simp
    | false => rw [step_no h]; simp
theorem tidy_len (ps : List Pc) : ∀ i, (tidyL (ps.take i)).length ≤ i
  | 0 => Nat.le_refl _
  | i + 1 => by
    have ih := tidy_len ps i
    cases h : ps[i]? with
    | none =>
      have : ps.length ≤ i := List.getElem?_eq_none_iff.mp h
      rw [List.take_of_length_le (by omega)]
      rw [List.take_of_length_le (by omega)] at ih
      omega
    | some p =>
      rw [tidy_take h]
      have := step_len (tidyL (ps.take i)) p
      omega
def Tidy (ps : List Pc) : Prop := ∀ (k : Nat) (p q : Pc), ps[k]? = some p → ps[k + 1]? = some q → goesOn p q = false
theorem goes_last {l l' p : Pc} (e : l.s = l'.s ∧ l.n = l'.n ∧ l.v = l'.v) (h : goesOn p l = goesOn p l) : goesOn p l = goesOn p l' := by
  unfold goesOn
  rw [e.1, e.2.1, e.2.2]
theorem tidy_push {acc : List Pc} {l : Pc} (h : Tidy acc) (hl : ∀ x, acc.getLast? = some x → goesOn x l = false) : Tidy (acc ++ [l]) := by
  intro k p q hp hq
  have lk : k + 1 < (acc ++ [l]).length := (List.getElem?_eq_some_iff.mp hq).1
  rw [List.length_append, List.length_singleton] at lk
  rw [List.getElem?_append_left (by omega)] at hp
  by_cases e : k + 1 < acc.length
  · rw [List.getElem?_append_left e] at hq
    exact h k p q hp hq
  · have e2 : k + 1 = acc.length := by omega
    rw [List.getElem?_append_right (by omega), e2, Nat.sub_self] at hq
    have : l = q := Option.some.inj hq
    subst this
    refine hl p ?_
    rw [List.getLast?_eq_getElem?, show acc.length - 1 = k by omega]
    exact hp
theorem Tidy.init {acc : List Pc} {l : Pc} (h : Tidy (acc ++ [l])) : Tidy acc := fun k p q hp hq => by
  have lk : k + 1 < acc.length := (List.getElem?_eq_some_iff.mp hq).1
  exact h k p q (by rw [List.getElem?_append_left (by omega)]; exact hp) (by rw [List.getElem?_append_left lk]; exact hq)
theorem Tidy.last {acc : List Pc} {l x : Pc} (h : Tidy (acc ++ [l])) (hx : acc.getLast? = some x) : goesOn x l = false := by
  rw [List.getLast?_eq_getElem?] at hx
  have lx : acc.length - 1 < acc.length := (List.getElem?_eq_some_iff.mp hx).1
  refine h (acc.length - 1) x l (by rw [List.getElem?_append_left lx]; exact hx) ?_
  rw [List.getElem?_append_right (by omega), show acc.length - 1 + 1 - acc.length = 0 by omega]
  rfl
theorem tidy_step {acc : List Pc} (h : Tidy acc) (p : Pc) : Tidy (tidyStep acc p) := by
  rcases snoc_or acc with rfl | ⟨i, l, rfl⟩
  · rw [step_nil]
    exact fun k a b _ hb => by simp at hb
  · cases e : goesOn l p with
    | true =>
      rw [step_yes e]
      refine tidy_push h.init fun x hx => ?_
      have := h.last hx
      unfold goesOn at e this ⊢
      simp only [Bool.and_eq_true, decide_eq_true_eq] at e
      rw [← e.2.1, ← e.2.2]
      exact this
    | false =>
      rw [step_no e]
      refine tidy_push h fun x hx => ?_
      rw [List.getLast?_concat] at hx
      rw [← Option.some.inj hx]
      exact e
theorem tidy_fold : ∀ (ps : List Pc) {acc : List Pc}, Tidy acc → Tidy (ps.foldl tidyStep acc)
  | [], _, h => h
  | p :: ps, _, h => tidy_fold ps (tidy_step h p)
theorem tidyL_tidy (ps : List Pc) : Tidy (tidyL ps) := tidy_fold ps fun k a b _ hb => by simp at hb
theorem tidy_same_fold : ∀ (ps acc : List Pc), Tidy (acc ++ ps) → ps.foldl tidyStep acc = acc ++ ps
  | [], acc, _ => (List.append_nil acc).symm
  | p :: ps, acc, h => by
    have e : tidyStep acc p = acc ++ [p] := by
      rcases snoc_or acc with rfl | ⟨i, l, rfl⟩
      · rfl
      · refine step_no ?_
        refine h i.length l p ?_ ?_
        · rw [List.append_assoc, List.getElem?_append_right (Nat.le_refl _), Nat.sub_self]
          rfl
        · rw [List.append_assoc, List.getElem?_append_right (by omega), show i.length + 1 - i.length = 1 by omega]
          rfl
    show ps.foldl tidyStep (tidyStep acc p) = _
    rw [e, tidy_same_fold ps (acc ++ [p]) (by rw [List.append_assoc]; exact h), List.append_assoc]
    rfl
theorem tidyL_same {ps : List Pc} (h : Tidy ps) : tidyL ps = ps := by
  have := tidy_same_fold ps [] h
  exact this
theorem step_ok {acc : List Pc} {p : Pc} (h : POk acc) (hp : PyData.strOk p.n = true) : POk (tidyStep acc p) := by
  rcases snoc_or acc with rfl | ⟨i, l, rfl⟩
  · intro x hx
    rw [List.mem_singleton.mp hx]
    exact hp
  · cases e : goesOn l p with
    | true =>
      rw [step_yes e]
      intro x hx
      rcases List.mem_append.mp hx with z | z
      · exact h x (List.mem_append_left _ z)
      · rw [List.mem_singleton.mp z]
        exact hp
    | false =>
      rw [step_no e]
      intro x hx
      rcases List.mem_append.mp hx with z | z
      · exact h x z
      · rw [List.mem_singleton.mp z]
        exact hp
theorem tidy_ok {ps : List Pc} (h : POk ps) : ∀ i, POk (tidyL (ps.take i))
  | 0 => fun _ z => (nomatch z)
  | i + 1 => by
    cases e : ps[i]? with
    | none =>
      have : ps.length ≤ i := List.getElem?_eq_none_iff.mp e
      have ih := tidy_ok h i
      rw [List.take_of_length_le (by omega)]
      rw [List.take_of_length_le (by omega)] at ih
      exact ih
    | some p =>
      rw [tidy_take e]
      exact step_ok (tidy_ok h i) (h p (List.mem_of_getElem? e))
/-- a list of data that ends in d -/
theorem IsA.snoc {K : PySem.W.Frag} {H : Hp} : ∀ {ds : List PyData} {xs : List V} {d : PyData}, IsA K H xs (ds ++ [d]) → ∃ ys v, xs = ys ++ [v] ∧ IsA K H ys ds ∧ Is K H v d
  | [], _, d, h => by
    cases h with
    | cons a b => cases b; exact ⟨[], _, rfl, .nil, a⟩
  | e :: ds, _, d, h => by
    cases h with
    | cons a b =>
      obtain ⟨ys, v, rfl, h1, h2⟩ := IsA.snoc b
      exact ⟨_ :: ys, v, rfl, .cons a h1, h2⟩
def spTidy (K : PySem.W.Frag) : Sp := fun vs H Q _ => ∃ (A : Addr) (xs : List V) (ps : List Pc), vs = [.ref A] ∧ SqT K H A xs ∧ IsA K H xs (ps.map dPc) ∧ POk ps ∧ ps.length ≤ 1000 ∧
  ∀ t ys H', Same H H' → H t = none → H' t = some (.tup ys) → IsA K H' ys ((tidyL ps).map dPc) → Q (.ref t) H'
def spIsTidy (K : PySem.W.Frag) : Sp := fun vs H Q _ => ∃ (A : Addr) (xs : List V) (ps : List Pc), vs = [.ref A] ∧ SqT K H A xs ∧ IsA K H xs (ps.map dPc) ∧ POk ps ∧ ps.length ≤ 1000 ∧ Tidy ps ∧ ∀ H', Same H H' → Q (.bl true) H'
def spGoes (K : PySem.W.Frag) : Sp := fun vs H Q _ => ∃ (a b : V) (p q : Pc), vs = [a, b] ∧ Is K H a (dPc p) ∧ Is K H b (dPc q) ∧ ∀ H', Same H H' → Q (.bl (goesOn p q)) H'
def spCut (K : PySem.W.Frag) : Sp := fun vs H Q _ => ∃ (p pa : Addr) (v : V) (c : Pc), vs = [.ref p, v] ∧ Pl p pa H ∧ Is K H v (dPc c) ∧ PyData.strOk c.n = true ∧ Sz 200 c.s ∧ Sz 200 c.e ∧
  ∀ l xs qs H', POk qs → qs.length ≤ 3 → Kp p H H' → Pl p pa H' → H l = none → H' l = some (.lst xs) → IsA K H' xs (qs.map dPc) → Q (.ref l) H'
theorem unit_rat {n : Int} (h : 0 < n) : rat2 (Rat.divInt 1 n) = .tuple [.int 1, .int n] := by
  unfold rat2
  rw [Rat.num_divInt, Rat.den_divInt, if_neg (by omega), Int.sign_eq_one_of_pos h]
  have : n.gcd 1 = 1 := by rw [Int.gcd_comm]; exact Int.one_gcd
  rw [this]
  simp
  omega
end Z

namespace Z
open PySem PySem.Spec PyProof.Rows L2
/-! ### pairs that stand for ratios, in lowest terms or not -/
def dP (t : Int × Int) : PyData := .tuple [.int t.1, .int t.2]
structure PrOk (t : Int × Int) : Prop where
  d0 : 0 < t.2
  n1 : t.1.natAbs < 2 ^ 3900
  d1 : t.2.natAbs < 2 ^ 3900
def val (t : Int × Int) : Rat := Rat.divInt t.1 t.2
theorem val_less {a b : Int × Int} (ha : PrOk a) (hb : PrOk b) : (a.1 * b.2 < b.1 * a.2) ↔ val a < val b := by
  have a0 : (0 : Rat) < (a.2 : Rat) := Rat.intCast_pos.mpr ha.d0
  have b0 : (0 : Rat) < (b.2 : Rat) := Rat.intCast_pos.mpr hb.d0
  have ea : val a * (a.2 : Rat) = (a.1 : Rat) := by
    unfold val
    rw [divInt_div]
    grind
  have eb : val b * (b.2 : Rat) = (b.1 : Rat) := by
    unfold val
    rw [divInt_div]
    grind
  rw [← Rat.intCast_lt_intCast, Rat.intCast_mul, Rat.intCast_mul, ← ea, ← eb]
  have p := Rat.mul_pos a0 b0
  have e1 : val a * (a.2 : Rat) * (b.2 : Rat) = val a * ((a.2 : Rat) * (b.2 : Rat)) := by grind
  have e2 : val b * (b.2 : Rat) * (a.2 : Rat) = val b * ((a.2 : Rat) * (b.2 : Rat)) := by grind
  rw [e1, e2]
  refine ⟨fun h => ?_, fun h => Rat.mul_lt_mul_of_pos_right h p⟩
  by_cases z : val a < val b
  · exact z
  · have z2 : val b ≤ val a := Rat.not_lt.mp z
    have := Rat.mul_le_mul_of_nonneg_right z2 (Rat.le_of_lt p)
    grind
def ofR (q : Rat) : Int × Int := (q.num, (q.den : Int))
theorem dP_ofR (q : Rat) : dP (ofR q) = rat2 q := rfl
theorem val_ofR (q : Rat) : val (ofR q) = q := Rat.num_divInt_den q
theorem pr_ofR {q : Rat} (h : Sz 3900 q) : PrOk (ofR q) := ⟨by have := q.den_nz; show 0 < (q.den : Int); omega, h.1, by show ((q.den : Int)).natAbs < _; rw [Int.natAbs_natCast]; exact h.2⟩
def spLessP (K : PySem.W.Frag) : Sp := fun vs H Q _ => ∃ (x y : V) (a b : Int × Int), vs = [x, y] ∧ Is K H x (dP a) ∧ Is K H y (dP b) ∧ PrOk a ∧ PrOk b ∧ Q (.bl (decide (val a < val b))) H
theorem less_imp {K : PySem.W.Frag} : ∀ vs H Q E, spLess K vs H Q E → spLessP K vs H Q E := by
  rintro vs H Q E ⟨x, y, p, q, rfl, hx, hy, zp, zq, k⟩
  refine ⟨x, y, ofR p, ofR q, rfl, hx, hy, pr_ofR zp, pr_ofR zq, ?_⟩
  rw [val_ofR, val_ofR]
  exact k
theorem dp_at {K : PySem.W.Frag} {H : Hp} {v : V} {a : Int × Int} (h : Is K H v (dP a)) : ∃ t, v = .ref t ∧ SqT K H t [.int a.1, .int a.2] := by
  obtain ⟨t, x, y, rfl, s, h1, h2⟩ := Is.two' h
  cases h1; cases h2
  exact ⟨t, rfl, s⟩
/-! ### the lesser, the greater -/
def minR (p q : Rat) : Rat := if q < p then q else p
def maxR (p q : Rat) : Rat := if p < q then q else p
/-! ### idle times -/
def dGap (g : Rat × Rat) : PyData := .tuple [rat2 g.1, rat2 g.2]
def gapStep (last : Rat) (a : Rat × List (Rat × Rat)) (p : Pc) : Rat × List (Rat × Rat) :=
  (maxR a.1 p.e, if a.1 < minR p.s last then a.2 ++ [(a.1, minR p.s last)] else a.2)
def gapsL (begin last : Rat) (ps : List Pc) : Rat × List (Rat × Rat) := ps.foldl (gapStep last) (begin, [])
def gapsD (begin last : Rat) (ps : List Pc) : List (Rat × Rat) :=
  if (gapsL begin last ps).1 < last then (gapsL begin last ps).2 ++ [((gapsL begin last ps).1, last)] else (gapsL begin last ps).2
theorem gaps_take {begin last : Rat} {ps : List Pc} {i : Nat} {p : Pc} (h : ps[i]? = some p) : gapsL begin last (ps.take (i + 1)) = gapStep last (gapsL begin last (ps.take i)) p := by
  unfold gapsL
  rw [List.take_add_one, h, List.foldl_append]
  rfl
theorem maxR_sz {n : Nat} {p q : Rat} (h : Sz n p) (k : Sz n q) : Sz n (maxR p q) := by
  unfold maxR
  split
  · exact k
  · exact h
theorem minR_sz {n : Nat} {p q : Rat} (h : Sz n p) (k : Sz n q) : Sz n (minR p q) := by
  unfold minR
  split
  · exact k
  · exact h
theorem gaps_sz {begin last : Rat} {ps : List Pc} (hb : Sz 200 begin) (h : ∀ p ∈ ps, Sz 200 p.e) : ∀ i, Sz 200 (gapsL begin last (ps.take i)).1
  | 0 => hb
  | i + 1 => by
    cases e : ps[i]? with
    | none =>
      have : ps.length ≤ i := List.getElem?_eq_none_iff.mp e
      have ih := gaps_sz (last := last) hb h i
      rw [List.take_of_length_le (by omega)]
      rw [List.take_of_length_le (by omega)] at ih
      exact ih
    | some p =>
      rw [gaps_take e]
      exact maxR_sz (gaps_sz hb h i) (h p (List.mem_of_getElem? e))
theorem gaps_len {begin last : Rat} {ps : List Pc} : ∀ i, (gapsL begin last (ps.take i)).2.length ≤ i
  | 0 => Nat.le_refl _
  | i + 1 => by
    cases e : ps[i]? with
    | none =>
      have : ps.length ≤ i := List.getElem?_eq_none_iff.mp e
      have ih := gaps_len (begin := begin) (last := last) (ps := ps) i
      rw [List.take_of_length_le (by omega)]
      rw [List.take_of_length_le (by omega)] at ih
      omega
    | some p =>
      have ih := gaps_len (begin := begin) (last := last) (ps := ps) i
      rw [gaps_take e]
      unfold gapStep
      dsimp only
      split
      · rw [List.length_append]; exact Nat.succ_le_succ ih
      · omega
theorem gapsD_len {begin last : Rat} {ps : List Pc} : (gapsD begin last ps).length ≤ ps.length + 1 := by
  have h := gaps_len (begin := begin) (last := last) (ps := ps) ps.length
  rw [List.take_length] at h
  unfold gapsD
  split
  · rw [List.length_append]; exact Nat.succ_le_succ h
  · omega
/-- the law's own turn is the same -/
theorem min_both {a s l : Rat} : (a < minR s l) ↔ (a < s ∧ a < l) := by
  unfold minR
  split
  · constructor <;> grind
  · constructor <;> grind
theorem plain_gaps : ∀ gs : List (Rat × Rat), plainDs (gs.map dGap) = true
  | [] => by rw [List.map_nil, plainDs]
  | g :: gs => by
    rw [List.map_cons, plainDs, plain_gaps gs]
    unfold dGap
    rw [plainD, plainDs, plainDs, plainDs, plain_rat2, plain_rat2]
    rfl
theorem plain_gap {gs : List (Rat × Rat)} (h : gs.length ≤ 1000) : plainD (.tuple (gs.map dGap)) = true := by
  rw [plainD, plain_gaps, List.length_map, decide_eq_true h]
  rfl
theorem dep_gaps : ∀ gs : List (Rat × Rat), depDs (gs.map dGap) ≤ 2
  | [] => by simp [depDs]
  | g :: gs => by
    have := dep_gaps gs
    rw [List.map_cons, depDs]
    have e : depD (dGap g) = 2 := by simp [dGap, depD, depDs, dep_rat2]
    rw [e]
    omega
theorem dep_gap (gs : List (Rat × Rat)) : depD (.tuple (gs.map dGap)) < 4 := by
  have := dep_gaps gs
  rw [depD]
  omega
def spSel (K : PySem.W.Frag) (g : Rat → Rat → Rat) : Sp := fun vs H Q _ => ∃ (x y : V) (p q : Rat), vs = [x, y] ∧ Is K H x (rat2 p) ∧ Is K H y (rat2 q) ∧ Sz 3900 p ∧ Sz 3900 q ∧ ∀ v, Is K H v (rat2 (g p q)) → Q v H
/-- begin and last are integers -/
def spGaps (K : PySem.W.Frag) : Sp := fun vs H Q _ => ∃ (A : Addr) (xs : List V) (ps : List Pc) (b e : Int), vs = [.ref A, .int b, .int e] ∧ SqT K H A xs ∧ IsA K H xs (ps.map dPc) ∧ (∀ p ∈ ps, Sz 200 p.s ∧ Sz 200 p.e) ∧ ps.length ≤ 900 ∧ b.natAbs < 2 ^ 100 ∧ e.natAbs < 2 ^ 100 ∧
  ∀ t ys H', Same H H' → H' t = some (.tup ys) → IsA K H' ys ((gapsD (b : Rat) (e : Rat) ps).map dGap) → Q (.ref t) H'
theorem int_rat (b : Int) : rat2 (b : Rat) = .tuple [.int b, .int 1] := rfl
theorem sz_int {b : Int} {n : Nat} (h : b.natAbs < 2 ^ n) (n0 : 0 < n) : Sz n (b : Rat) := ⟨h, by show 1 < 2 ^ n; exact Nat.one_lt_two_pow (by omega)⟩
theorem one_rat (b : Int) : Rat.divInt b 1 = (b : Rat) := by
  rw [divInt_div]
  show (b : Rat) / ((1 : Int) : Rat) = (b : Rat)
  grind
/-! ### the speed at a time -/
def speedL (t : Rat) : List Pc → Rat
  | [] => 0
  | p :: ps => if ¬ t < p.s ∧ t < p.e then p.v else speedL t ps
def spSpeed (K : PySem.W.Frag) : Sp := fun vs H Q _ => ∃ (A : Addr) (xs : List V) (ps : List Pc) (v : V) (t : Int × Int), vs = [.ref A, v] ∧ SqT K H A xs ∧ IsA K H xs (ps.map dPc) ∧ (∀ p ∈ ps, Sz 200 p.s ∧ Sz 200 p.e) ∧ Is K H v (dP t) ∧ PrOk t ∧
  ∀ u H', Same H H' → Is K H' u (rat2 (speedL (val t) ps)) → Q u H'
theorem speed_drop {t : Rat} {ps : List Pc} {i : Nat} {p : Pc} (h : ps[i]? = some p) : speedL t (ps.drop i) = if ¬ t < p.s ∧ t < p.e then p.v else speedL t (ps.drop (i + 1)) := by
  obtain ⟨hi, e⟩ := List.getElem?_eq_some_iff.mp h
  rw [List.drop_eq_getElem_cons hi, e]
  rfl
def spPick : Sp := fun vs H Q _ => ∃ (p pa R : Addr) (ns : List Int), vs = [.ref p, .ref R] ∧ Pl p pa H ∧ R ≠ p ∧ H R = some (.lst (ns.map V.int)) ∧ 0 < ns.length ∧ ns.length ≤ 1000 ∧ ∀ x H', x ∈ ns → Kp p H H' → Pl p pa H' → Q (.int x) H'
end Z
namespace Z
open PySem PySem.Spec PyProof.Rows L2
/-! ### slices and sums of tuples, whole or not -/
def rSlW (K : PySem.W.Frag) : V → Option Int → Option Int → Hp → VK → Prop := fun x lo hi H Q => ∃ a xs, x = .ref a ∧ SqT K H a xs ∧ ∀ b H', Same H H' → SqT K H' b (cutV xs lo hi) → Q (.ref b) H'
theorem cut_whole {xs : List V} {lo hi : Option Int} (h : HT.sIx xs.length 0 lo = 0 ∧ HT.sIx xs.length xs.length hi = xs.length) : cutV xs lo hi = xs := by
  unfold cutV
  rw [h.1, h.2, List.drop_zero, Nat.sub_zero, List.take_length]
theorem slW_A {K : PySem.W.Frag} {x : V} {lo hi : Option Int} {H : Hp} {Q : VK} (h : rSlW K x lo hi H Q) : rSlA K x lo hi H Q := by
  obtain ⟨a, xs, rfl, hs, q⟩ := h
  refine ⟨a, xs, rfl, hs, fun w => q a H (Same.refl _) (by rw [cut_whole w]; exact hs), fun _ p np => q p _ (same_upd np) (SqT.of upd_same)⟩
section
variable {X : Cx} {K : PySem.W.Frag}
theorem sl_tupW : SlR X (rSlW X.K) := by
  intro pins s σ H x v vl vu lo hi sl Q I rx hs pl pu h
  exact sl_tupA pins s σ H x v vl vu lo hi sl Q I rx hs pl pu (slW_A h)
theorem sl_tupWK (h : X.K = K) : SlR X (rSlW K) := h ▸ sl_tupW
def rCatW (K : PySem.W.Frag) : R2 := fun x y H Q => ∃ a b xs ys, x = .ref a ∧ y = .ref b ∧ SqT K H a xs ∧ SqT K H b ys ∧ xs.length + ys.length ≤ sizeLine ∧ ∀ c H', Same H H' → SqT K H' c (xs ++ ys) → Q (.ref c) H'
theorem op_catW : OpR X (binaryOp .Add) (rCatW X.K) := by
  intro pins s σ H x y v u Q I rx ry h
  obtain ⟨a, b, xs, ys, rfl, rfl, ha, hb, hl, q⟩ := h
  refine op_catA pins s σ H _ _ v u Q I rx ry ⟨a, b, xs, ys, rfl, rfl, ha, hb, hl, fun e => ?_, fun _ e => ?_, fun _ _ p np => q p _ (same_upd np) (SqT.of upd_same)⟩
  · subst e
    exact q b H (Same.refl _) hb
  · subst e
    exact q a H (Same.refl _) (by rw [List.append_nil]; exact ha)
end
end Z

namespace Z
open PySem PySem.Spec PyProof.Rows L2
/-! ### prices -/
def px (ts : List (Int × Int)) (i : Nat) : Int := (ts.getD i (0, 0)).1
def py (ts : List (Int × Int)) (i : Nat) : Int := (ts.getD i (0, 0)).2
/-- the points of a table, as whole numbers -/
structure TabOk (ts : List (Int × Int)) : Prop where
  n2 : 2 ≤ ts.length
  n6 : ts.length ≤ 6
  x0 : px ts 0 = 0
  up : ∀ i, i + 1 < ts.length → px ts i < px ts (i + 1)
  cv : ∀ i, i + 2 < ts.length → (py ts (i + 1) - py ts i) * (px ts (i + 2) - px ts (i + 1)) ≤ (py ts (i + 2) - py ts (i + 1)) * (px ts (i + 1) - px ts i)
  bx : ∀ i, (px ts i).natAbs < 2 ^ 60
  bY : ∀ i, (py ts i).natAbs < 2 ^ 60
def slo (ts : List (Int × Int)) (i : Nat) : Rat := ((py ts (i + 1) - py ts i : Int) : Rat) / ((px ts (i + 1) - px ts i : Int) : Rat)
def lin (ts : List (Int × Int)) (i : Nat) (s : Rat) : Rat := (py ts i : Rat) + slo ts i * (s - (px ts i : Rat))
theorem ratlt {a b : Int} (h : a < b) : (a : Rat) < (b : Rat) := Rat.intCast_lt_intCast.mpr h
theorem ratle {a b : Int} (h : a ≤ b) : (a : Rat) ≤ (b : Rat) := Rat.intCast_le_intCast.mpr h
theorem slo_mul {ts : List (Int × Int)} {i : Nat} (h : TabOk ts) (hi : i + 1 < ts.length) : slo ts i * ((px ts (i + 1) : Rat) - (px ts i : Rat)) = (py ts (i + 1) : Rat) - (py ts i : Rat) := by
  have h1 := ratlt (h.up i hi)
  unfold slo
  rw [Rat.intCast_sub, Rat.intCast_sub]
  have : (px ts (i + 1) : Rat) - (px ts i : Rat) ≠ 0 := by grind
  grind
theorem rmul_cancel {a b c : Rat} (hc : 0 < c) (h : a * c ≤ b * c) : a ≤ b := Rat.le_of_mul_le_mul_right h hc
theorem slo_up {ts : List (Int × Int)} {i : Nat} (h : TabOk ts) (hi : i + 2 < ts.length) : slo ts i ≤ slo ts (i + 1) := by
  have c := ratle (h.cv i hi)
  have e1 := slo_mul h (i := i) (by omega)
  have e2 := slo_mul h (i := i + 1) (by omega)
  have p1 := ratlt (h.up i (by omega))
  have p2 := ratlt (h.up (i + 1) (by omega))
  rw [Rat.intCast_mul, Rat.intCast_mul, Rat.intCast_sub, Rat.intCast_sub, Rat.intCast_sub, Rat.intCast_sub] at c
  have d1 : (0 : Rat) < (px ts (i + 1) : Rat) - (px ts i : Rat) := by grind
  have d2 : (0 : Rat) < (px ts (i + 2) : Rat) - (px ts (i + 1) : Rat) := by
    have : (px ts (i + 1) : Rat) < (px ts (i + 2) : Rat) := p2
    grind
  have e2' : slo ts (i + 1) * ((px ts (i + 2) : Rat) - (px ts (i + 1) : Rat)) = (py ts (i + 2) : Rat) - (py ts (i + 1) : Rat) := e2
  have e3 := Rat.mul_pos d1 d2
  refine rmul_cancel e3 ?_
  rw [← e1, ← e2'] at c
  grind
/-- one line above the next -/
theorem lin_step {ts : List (Int × Int)} {i : Nat} (h : TabOk ts) (hi : i + 2 < ts.length) (s : Rat) : lin ts (i + 1) s - lin ts i s = (slo ts (i + 1) - slo ts i) * (s - (px ts (i + 1) : Rat)) := by
  have e1 := slo_mul h (i := i) (by omega)
  unfold lin
  grind
theorem rmul_nn {a b : Rat} (ha : 0 ≤ a) (hb : 0 ≤ b) : 0 ≤ a * b := Rat.mul_nonneg ha hb
theorem lin_up {ts : List (Int × Int)} {i : Nat} (h : TabOk ts) (hi : i + 2 < ts.length) {s : Rat} (hs : (px ts (i + 1) : Rat) ≤ s) : lin ts i s ≤ lin ts (i + 1) s := by
  have e := lin_step h hi s
  have a := slo_up h hi
  have := rmul_nn (a := slo ts (i + 1) - slo ts i) (b := s - (px ts (i + 1) : Rat)) (by grind) (by grind)
  grind
theorem lin_dn {ts : List (Int × Int)} {i : Nat} (h : TabOk ts) (hi : i + 2 < ts.length) {s : Rat} (hs : s ≤ (px ts (i + 1) : Rat)) : lin ts (i + 1) s ≤ lin ts i s := by
  have e := lin_step h hi s
  have a := slo_up h hi
  have := rmul_nn (a := slo ts (i + 1) - slo ts i) (b := (px ts (i + 1) : Rat) - s) (by grind) (by grind)
  grind
theorem px_mono {ts : List (Int × Int)} (h : TabOk ts) : ∀ {i j : Nat}, i ≤ j → j < ts.length → px ts i ≤ px ts j := by
  intro i j hij
  induction hij with
  | refl => intro _; exact Int.le_refl _
  | step hm ih =>
    intro hj
    have a1 := h.up _ hj
    have a2 := ih (by omega)
    exact Int.le_trans a2 (Int.le_of_lt a1)
/-- the place of a speed -/
structure Sel (ts : List (Int × Int)) (s : Rat) (k : Nat) : Prop where
  lt : k + 1 < ts.length
  lo : (px ts k : Rat) ≤ s
  hi : k + 2 = ts.length ∨ s ≤ (px ts (k + 1) : Rat)
theorem Sel.top {ts : List (Int × Int)} {s : Rat} {k : Nat} (h : TabOk ts) (S : Sel ts s k) : ∀ j, j + 1 < ts.length → lin ts j s ≤ lin ts k s := by
  intro j hj
  rcases Nat.le_total j k with hjk | hjk
  · -- below
    have : ∀ d, j + d ≤ k → lin ts j s ≤ lin ts (j + d) s := by
      intro d
      induction d with
      | zero => intro _; exact Rat.le_refl
      | succ d ih =>
        intro hd
        have h1 := ih (by omega)
        have hx : (px ts (j + d + 1) : Rat) ≤ s := Rat.le_trans (ratle (px_mono h (by omega) (by have := S.lt; omega))) S.lo
        exact Rat.le_trans h1 (lin_up h (by have := S.lt; omega) hx)
    have h2 := this (k - j) (by omega)
    rwa [show j + (k - j) = k by omega] at h2
  · rcases S.hi with e | e
    · have : j = k := by omega
      subst this
      exact Rat.le_refl
    · have : ∀ d, k + d + 1 < ts.length → lin ts (k + d) s ≤ lin ts k s := by
        intro d
        induction d with
        | zero => intro _; exact Rat.le_refl
        | succ d ih =>
          intro hd
          have h1 := ih (by omega)
          have hx : s ≤ (px ts (k + d + 1) : Rat) := Rat.le_trans e (ratle (px_mono h (by omega) (by omega)))
          exact Rat.le_trans (lin_dn h (by omega) hx) h1
      have h2 := this (j - k) (by omega)
      rwa [show k + (j - k) = j by omega] at h2
/-- the value: the greatest of the lines -/
def maxL (ts : List (Int × Int)) (s : Rat) : Nat → Rat
  | 0 => lin ts 0 s
  | n + 1 => if maxL ts s n < lin ts (n + 1) s then lin ts (n + 1) s else maxL ts s n
def tabV (ts : List (Int × Int)) (s : Rat) : Rat := maxL ts s (ts.length - 2)
theorem maxL_ge {ts : List (Int × Int)} {s : Rat} : ∀ {n j : Nat}, j ≤ n → lin ts j s ≤ maxL ts s n
  | 0, j, h => by
    have : j = 0 := by omega
    subst this
    exact Rat.le_refl
  | n + 1, j, h => by
    unfold maxL
    by_cases e : j = n + 1
    · subst e
      split
      · exact Rat.le_refl
      · grind
    · have := maxL_ge (ts := ts) (s := s) (n := n) (j := j) (by omega)
      split
      · grind
      · exact this
theorem maxL_at {ts : List (Int × Int)} {s : Rat} : ∀ {n : Nat}, ∃ j, j ≤ n ∧ maxL ts s n = lin ts j s
  | 0 => ⟨0, Nat.le_refl _, rfl⟩
  | n + 1 => by
    unfold maxL
    split
    · exact ⟨n + 1, Nat.le_refl _, rfl⟩
    · obtain ⟨j, h, e⟩ := maxL_at (ts := ts) (s := s) (n := n)
      exact ⟨j, by omega, e⟩
theorem Sel.val {ts : List (Int × Int)} {s : Rat} {k : Nat} (h : TabOk ts) (S : Sel ts s k) : lin ts k s = tabV ts s := by
  have n2 := h.n2
  have a := maxL_ge (ts := ts) (s := s) (n := ts.length - 2) (j := k) (by have := S.lt; omega)
  obtain ⟨j, hj, e⟩ := maxL_at (ts := ts) (s := s) (n := ts.length - 2)
  have b := S.top h j (by omega)
  unfold tabV
  rw [e] at a ⊢
  exact Rat.le_antisymm a b
/-- convex -/
theorem tab_convex {ts : List (Int × Int)} (a b : Rat) : ¬ (tabV ts a + tabV ts b) * Rat.divInt 1 2 < tabV ts ((a + b) * Rat.divInt 1 2) := by
  obtain ⟨j, hj, e⟩ := maxL_at (ts := ts) (s := (a + b) * Rat.divInt 1 2) (n := ts.length - 2)
  have h1 := maxL_ge (ts := ts) (s := a) hj
  have h2 := maxL_ge (ts := ts) (s := b) hj
  have half : Rat.divInt 1 2 = 1 / 2 := by rw [divInt_div]; rfl
  show ¬ (maxL ts a (ts.length - 2) + maxL ts b (ts.length - 2)) * Rat.divInt 1 2 < maxL ts ((a + b) * Rat.divInt 1 2) (ts.length - 2)
  rw [e]
  generalize maxL ts a (ts.length - 2) = x at h1
  generalize maxL ts b (ts.length - 2) = y at h2
  unfold lin at h1 h2 ⊢
  rw [half]
  generalize slo ts j = m at h1 h2 ⊢
  generalize (py ts j : Rat) = q at h1 h2 ⊢
  generalize (px ts j : Rat) = r at h1 h2 ⊢
  grind
theorem sq_convex (a b : Rat) : ¬ (a * a + b * b) * Rat.divInt 1 2 < ((a + b) * Rat.divInt 1 2) * ((a + b) * Rat.divInt 1 2) := by
  have half : Rat.divInt 1 2 = 1 / 2 := by rw [divInt_div]; rfl
  rw [half]
  have h : 0 ≤ (a - b) * (a - b) := by
    rcases Rat.le_total (a := a - b) (b := 0) with h | h
    · have := Rat.mul_nonneg (a := -(a - b)) (b := -(a - b)) (by grind) (by grind)
      grind
    · exact Rat.mul_nonneg h h
  grind
/-! ### data -/
/-- a price: the square, or a table -/
abbrev Pr := Option (List (Int × Int))
def dPt (t : Int × Int) : PyData := .tuple [.int t.1, .int t.2]
def dPr : Pr → PyData
  | none => .tuple [.str ("square" : Str)]
  | some ts => .tuple [.str ("table" : Str), .tuple (ts.map dPt)]
def PriceOk : Pr → Prop
  | none => True
  | some ts => TabOk ts
def prV : Pr → Rat → Rat
  | none, s => s * s
  | some ts, s => tabV ts s
theorem pr_convex (pr : Pr) (a b : Rat) : ¬ (prV pr a + prV pr b) * Rat.divInt 1 2 < prV pr ((a + b) * Rat.divInt 1 2) := by
  cases pr with
  | none => exact sq_convex a b
  | some ts => exact tab_convex a b
theorem sz_cast {z : Int} {n : Nat} (h : z.natAbs < 2 ^ n) (hn : 1 ≤ n) : Sz n (z : Rat) := sz_int h hn
theorem TabOk.szx {ts : List (Int × Int)} (h : TabOk ts) (i : Nat) : Sz 60 (px ts i : Rat) := sz_cast (h.bx i) (by decide)
theorem TabOk.szy {ts : List (Int × Int)} (h : TabOk ts) (i : Nat) : Sz 60 (py ts i : Rat) := sz_cast (h.bY i) (by decide)
theorem TabOk.dx {ts : List (Int × Int)} (h : TabOk ts) (i : Nat) : (px ts (i + 1) - px ts i).natAbs < 2 ^ 61 := by
  have := h.bx i
  have := h.bx (i + 1)
  omega
theorem TabOk.dy {ts : List (Int × Int)} (h : TabOk ts) (i : Nat) : (py ts (i + 1) - py ts i).natAbs < 2 ^ 61 := by
  have := h.bY i
  have := h.bY (i + 1)
  omega
theorem slo_div (ts : List (Int × Int)) (i : Nat) : Rat.divInt (py ts (i + 1) - py ts i) (px ts (i + 1) - px ts i) = slo ts i := divInt_div _ _
theorem TabOk.szs {ts : List (Int × Int)} (h : TabOk ts) {i : Nat} (hi : i + 1 < ts.length) : Sz 61 (slo ts i) := by
  rw [← slo_div]
  have := h.up i hi
  exact Sz.divInt (by omega) (h.dy i) (h.dx i)
theorem sz_line {n : Nat} {s m : Rat} {x y : Int} (hs : Sz n s) (hx : Sz 60 (x : Rat)) (hy : Sz 60 (y : Rat)) (hm : Sz 61 m) : Sz (60 + n + 60 + 61 + 2 + 61) ((y : Rat) + m * (s - (x : Rat))) := by
  have h1 := hs.sub hx
  have h2 := hm.mul h1
  have h3 := hy.add h2
  exact h3.mono (by omega)
theorem prV_sz {pr : Pr} {n : Nat} {s : Rat} (h : PriceOk pr) (hs : Sz n s) : Sz (2 * n + 400) (prV pr s) := by
  cases pr with
  | none => exact (hs.mul hs).mono (by omega)
  | some ts =>
    obtain ⟨j, hj, e⟩ := maxL_at (ts := ts) (s := s) (n := ts.length - 2)
    have n2 := TabOk.n2 h
    have := sz_line hs (TabOk.szx h j) (TabOk.szy h j) (TabOk.szs h (i := j) (by omega))
    show Sz _ (maxL ts s (ts.length - 2))
    rw [e]
    exact this.mono (by omega)
/-- the price at a speed -/
def spPrice (K : PySem.W.Frag) : Sp := fun vs H Q _ => ∃ (x y : V) (pr : Pr) (s : Rat), vs = [x, y] ∧ Is K H x (dPr pr) ∧ Is K H y (rat2 s) ∧ PriceOk pr ∧ 0 ≤ s ∧ Sz 1700 s ∧ ∀ v H', Same H H' → Is K H' v (rat2 (prV pr s)) → Q v H'
theorem pt_at {K : PySem.W.Frag} {H : Hp} {v : V} {t : Int × Int} (h : Is K H v (dPt t)) : ∃ p, v = .ref p ∧ SqT K H p [.int t.1, .int t.2] := by
  obtain ⟨p, a, b, rfl, s, h1, h2⟩ := Is.two' h
  cases h1; cases h2
  exact ⟨p, rfl, s⟩
theorem pts_get {K : PySem.W.Frag} {H : Hp} {xs : List V} {ts : List (Int × Int)} {i : Nat} (h : IsA K H xs (ts.map dPt)) (hi : i < ts.length) : ∃ p, xs[i]? = some (.ref p) ∧ SqT K H p [.int (px ts i), .int (py ts i)] := by
  obtain ⟨v, e, iv⟩ := h.get (i := i) (d := dPt ts[i]) (by rw [List.getElem?_map, List.getElem?_eq_getElem hi]; rfl)
  obtain ⟨p, rfl, s⟩ := pt_at iv
  refine ⟨p, e, ?_⟩
  have : ts.getD i (0, 0) = ts[i] := by rw [List.getD_eq_getElem?_getD, List.getElem?_eq_getElem hi]; rfl
  unfold px py
  rw [this]
  exact s
theorem tabL_get {xs : List V} {ts : List (Int × Int)} {i : Nat} {v : V} {K : PySem.W.Frag} {H : Hp} (h : IsA K H xs (ts.map dPt)) (e : xs[i]? = some v) : i < ts.length := by
  have := h.len
  rw [List.length_map] at this
  have := (List.getElem?_eq_some_iff.mp e).1
  omega
theorem cut_drop1 (xs : List V) : cutV xs (some 1) none = xs.drop 1 := by
  unfold cutV
  rw [HT.sIx_none, show (1 : Int) = ((1 : Nat) : Int) from rfl, HT.sIx_nat]
  by_cases h : 1 ≤ xs.length
  · rw [Nat.min_eq_left h]
    exact List.take_of_length_le (by rw [List.length_drop]; exact Nat.le_refl _)
  · have : xs = [] := List.eq_nil_of_length_eq_zero (by omega)
    subst this
    rfl
theorem pr_none {K : PySem.W.Frag} {H : Hp} {v : V} (h : Is K H v (dPr none)) : ∃ a, v = .ref a ∧ SqT K H a [.str ("square" : Str)] := by
  obtain ⟨a, xs, rfl, s, q⟩ := Is.tup' h
  cases q with
  | cons h1 q => cases q; cases h1; exact ⟨a, rfl, s⟩
theorem pr_some {K : PySem.W.Frag} {H : Hp} {v : V} {ts : List (Int × Int)} (h : Is K H v (dPr (some ts))) : ∃ a b xs, v = .ref a ∧ SqT K H a [.str ("table" : Str), .ref b] ∧ SqT K H b xs ∧ IsA K H xs (ts.map dPt) := by
  obtain ⟨a, x, y, rfl, s, h1, h2⟩ := Is.two' h
  cases h1
  obtain ⟨b, xs, rfl, sb, q⟩ := Is.tup' h2
  exact ⟨a, b, xs, rfl, s, sb, q⟩
theorem is_whole {K : PySem.W.Frag} {H : Hp} {t : Addr} {z : Int} : Is K (upd H t (.tup [.int z, .int 1])) (.ref t) (rat2 (z : Rat)) := .tup (SqT.of upd_same) (.two (.int _) (.int _))
/-! ### how a table is made -/
theorem px_push {ts : List (Int × Int)} {t : Int × Int} {k : Nat} (h : k < ts.length) : px (ts ++ [t]) k = px ts k := by
  unfold px
  rw [List.getD_eq_getElem?_getD, List.getD_eq_getElem?_getD, List.getElem?_append_left h]
theorem py_push {ts : List (Int × Int)} {t : Int × Int} {k : Nat} (h : k < ts.length) : py (ts ++ [t]) k = py ts k := by
  unfold py
  rw [List.getD_eq_getElem?_getD, List.getD_eq_getElem?_getD, List.getElem?_append_left h]
theorem px_last {ts : List (Int × Int)} {t : Int × Int} : px (ts ++ [t]) ts.length = t.1 := by
  unfold px
  rw [List.getD_eq_getElem?_getD, List.getElem?_append_right (Nat.le_refl _), Nat.sub_self]
  rfl
theorem py_last {ts : List (Int × Int)} {t : Int × Int} : py (ts ++ [t]) ts.length = t.2 := by
  unfold py
  rw [List.getD_eq_getElem?_getD, List.getElem?_append_right (Nat.le_refl _), Nat.sub_self]
  rfl
/-- i lines of a table are made; m is the next slope -/
structure TbMid (i : Nat) (m : Int) (ts : List (Int × Int)) : Prop where
  len : ts.length = i + 1
  i5 : i ≤ 5
  m0 : m.natAbs ≤ 3 + 63 * i
  x0 : px ts 0 = 0
  up : ∀ k, k + 1 < ts.length → px ts k < px ts (k + 1)
  cv : ∀ k, k + 2 < ts.length → (py ts (k + 1) - py ts k) * (px ts (k + 2) - px ts (k + 1)) ≤ (py ts (k + 2) - py ts (k + 1)) * (px ts (k + 1) - px ts k)
  la : ∀ k, k + 1 < ts.length → py ts (k + 1) - py ts k ≤ m * (px ts (k + 1) - px ts k)
  bd : ∀ k, k < ts.length → 0 ≤ px ts k ∧ px ts k ≤ 6 * i ∧ (py ts k).natAbs ≤ 2400 * i
theorem TbMid.one {m : Int} (h : m.natAbs ≤ 3) : TbMid 0 m [(0, 0)] := by
  refine ⟨rfl, by decide, h, rfl, fun k hk => ?_, fun k hk => ?_, fun k hk => ?_, fun k hk => ?_⟩
  · simp at hk
  · simp at hk
  · simp at hk
  · have : k = 0 := by simpa using hk
    subst this
    decide
theorem mul_up {a m x y : Int} (h : m ≤ y) (hx : 0 ≤ x) (ha : a ≤ m * x) : a ≤ y * x := Int.le_trans ha (Int.mul_le_mul_of_nonneg_right h hx)
theorem TbMid.push {i : Nat} {m st d : Int} {ts : List (Int × Int)} (h : TbMid i m ts) (hi : i < 5) (s0 : 1 ≤ st) (s1 : st ≤ 6) (d0 : 0 ≤ d) (d1 : d ≤ 63) : TbMid (i + 1) (m + d) (ts ++ [(px ts i + st, py ts i + m * st)]) := by
  have hl := h.len
  have lst : ts.length = i + 1 := hl
  have ex : px (ts ++ [(px ts i + st, py ts i + m * st)]) (i + 1) = px ts i + st := by
    have := px_last (ts := ts) (t := (px ts i + st, py ts i + m * st))
    rw [hl] at this
    exact this
  have ey : py (ts ++ [(px ts i + st, py ts i + m * st)]) (i + 1) = py ts i + m * st := by
    have := py_last (ts := ts) (t := (px ts i + st, py ts i + m * st))
    rw [hl] at this
    exact this
  have ll : (ts ++ [(px ts i + st, py ts i + m * st)]).length = i + 2 := by rw [List.length_append, hl]; rfl
  have m0 := h.m0
  have bmul : (m * st).natAbs ≤ 400 * 6 := by
    rw [Int.natAbs_mul]
    exact Nat.mul_le_mul (by omega) (by omega)
  generalize et : (px ts i + st, py ts i + m * st) = t at *
  refine ⟨by rw [ll], by omega, by omega, ?_, ?_, ?_, ?_, ?_⟩
  · rw [px_push (by omega)]; exact h.x0
  · intro k hk
    rw [ll] at hk
    by_cases e : k = i
    · subst e
      rw [ex, px_push (by omega)]
      omega
    · rw [px_push (by omega), px_push (by omega)]
      exact h.up k (by omega)
  · intro k hk
    rw [ll] at hk
    by_cases e : k + 1 = i
    · subst e
      rw [show k + 2 = k + 1 + 1 from rfl, ex, ey, px_push (k := k + 1) (by omega), px_push (k := k) (by omega), py_push (k := k + 1) (by omega), py_push (k := k) (by omega)]
      have la := h.la k (by omega)
      have := Int.mul_le_mul_of_nonneg_right la (show (0 : Int) ≤ st by omega)
      rw [show px ts (k + 1) + st - px ts (k + 1) = st by omega, show py ts (k + 1) + m * st - py ts (k + 1) = m * st by omega]
      rw [Int.mul_right_comm] at this
      exact this
    · rw [px_push (by omega), px_push (by omega), px_push (by omega), py_push (by omega), py_push (by omega), py_push (by omega)]
      exact h.cv k (by omega)
  · intro k hk
    rw [ll] at hk
    by_cases e : k = i
    · subst e
      rw [ex, ey, px_push (by omega), py_push (by omega), show px ts k + st - px ts k = st by omega, show py ts k + m * st - py ts k = m * st by omega]
      exact Int.mul_le_mul_of_nonneg_right (by omega) (by omega)
    · rw [px_push (by omega), px_push (by omega), py_push (by omega), py_push (by omega)]
      have u := h.up k (by omega)
      exact mul_up (by omega) (by omega) (h.la k (by omega))
  · intro k hk
    rw [ll] at hk
    by_cases e : k = i + 1
    · subst e
      rw [ex, ey]
      have := h.bd i (by omega)
      omega
    · rw [px_push (by omega), py_push (by omega)]
      have := h.bd k (by omega)
      omega
theorem px_map {ts : List (Int × Int)} {w l : Int} {k : Nat} (h : k < ts.length) : px (ts.map fun t => (t.1 * w, t.2 + l)) k = px ts k * w := by
  unfold px
  rw [List.getD_eq_getElem?_getD, List.getD_eq_getElem?_getD, List.getElem?_map, List.getElem?_eq_getElem h]
  rfl
theorem py_map {ts : List (Int × Int)} {w l : Int} {k : Nat} (h : k < ts.length) : py (ts.map fun t => (t.1 * w, t.2 + l)) k = py ts k + l := by
  unfold py
  rw [List.getD_eq_getElem?_getD, List.getD_eq_getElem?_getD, List.getElem?_map, List.getElem?_eq_getElem h]
  rfl
theorem p_out {ts : List (Int × Int)} {k : Nat} (h : ts.length ≤ k) : px ts k = 0 ∧ py ts k = 0 := by
  unfold px py
  rw [List.getD_eq_getElem?_getD, List.getElem?_eq_none h]
  exact ⟨rfl, rfl⟩
theorem TbMid.fin {i : Nat} {m w l : Int} {ts : List (Int × Int)} (h : TbMid i m ts) (hi : 1 ≤ i) (w0 : 1 ≤ w) (w1 : w ≤ 20001) (l0 : 0 ≤ l) (l1 : l ≤ 100000) : TabOk (ts.map fun t => (t.1 * w, t.2 + l)) := by
  have hl := h.len
  have i5 := h.i5
  have ll : (ts.map fun t => (t.1 * w, t.2 + l)).length = i + 1 := by rw [List.length_map, hl]
  refine ⟨by omega, by omega, by rw [px_map (by omega), h.x0, Int.zero_mul], fun k hk => ?_, fun k hk => ?_, fun k => ?_, fun k => ?_⟩
  · rw [ll] at hk
    rw [px_map (by omega), px_map (by omega)]
    exact Int.mul_lt_mul_of_pos_right (h.up k (by omega)) (by omega)
  · rw [ll] at hk
    rw [px_map (by omega), px_map (by omega), px_map (by omega), py_map (by omega), py_map (by omega), py_map (by omega)]
    have := Int.mul_le_mul_of_nonneg_right (h.cv k (by omega)) (show (0 : Int) ≤ w by omega)
    grind
  · by_cases hk : k < ts.length
    · rw [px_map hk]
      have b := h.bd k hk
      have : (px ts k * w).natAbs ≤ 30 * 20001 := by
        rw [Int.natAbs_mul]
        exact Nat.mul_le_mul (by omega) (by omega)
      exact Nat.lt_of_le_of_lt this (by decide)
    · rw [(p_out (by rw [ll]; omega)).1]
      decide
  · by_cases hk : k < ts.length
    · rw [py_map hk]
      have b := h.bd k hk
      exact Nat.lt_of_le_of_lt (show _ ≤ 200000 by omega) (by decide)
    · rw [(p_out (by rw [ll]; omega)).2]
      decide
def spTable (K : PySem.W.Frag) : Sp := fun vs H Q _ => ∃ (p pa : Addr), vs = [.ref p] ∧ Pl p pa H ∧ ∀ v (ts : List (Int × Int)) H', TabOk ts → Kp p H H' → Pl p pa H' → Is K H' v (dPr (some ts)) → Q v H'
/-- further built-in names -/
structure BJ (mg : Str → Option Value) : Prop where
  zip : mg "zip" = none
  max : mg "max" = none
  min : mg "min" = none
/-- a loop over zip of a tuple and a shorter one -/
theorem for_zipS {K : PySem.W.Frag} {a b : Addr} {xs ys : List V} {g : TG} {tb : TS} {D : Ends} {σ : L2.St} {H : Hp} (hl : ys.length ≤ xs.length) (Pv : Nat → L2.St → Hp → Prop) (h0 : Pv 0 σ H) (hq : ∀ i σ H, Pv i σ H → SqT K H a xs ∧ SqT K H b ys)
    (hs : ∀ (i : Nat) (x y : V) (T : Addr) (σ : L2.St) (H : Hp), xs[i]? = some x → ys[i]? = some y → Pv i σ H → H T = none → g (.ref T) σ (upd H T (.tup [x, y])) fun σ2 H2 => tb { D with nx := Pv (i + 1), ct := Pv (i + 1), bk := D.nx } σ2 H2) (hd : ∀ σ H, Pv ys.length σ H → D.nx σ H) :
    ∃ W : Nat → Nat → L2.St → Hp → Prop, (∃ m, W 0 m σ H) ∧ ∀ i m σ H, W i m σ H →
      ((RZ.ItzT K a b).stop i H ∧ D.nx σ H) ∨ ((RZ.ItzT K a b).go i H ∧ ∃ N : L2.St → Hp → Prop, (∀ σ' H', N σ' H' → ∃ m', m' < m ∧ W (i + 1) m' σ' H') ∧ ∀ v H', (RZ.ItzT K a b).yld i H v H' → g v σ H' fun σ2 H2 => tb { D with nx := N, ct := N, bk := D.nx } σ2 H2) := by
  refine ⟨fun i m σ H => m = ys.length - i ∧ i ≤ ys.length ∧ Pv i σ H, ⟨ys.length, rfl, Nat.zero_le _, h0⟩, ?_⟩
  rintro i m σ H ⟨rfl, hi, p⟩
  obtain ⟨qx, qy⟩ := hq i σ H p
  by_cases hlt : i < ys.length
  · have hlt2 : i < xs.length := by omega
    have hx : xs[i]? = some xs[i] := List.getElem?_eq_getElem hlt2
    have hy : ys[i]? = some ys[i] := List.getElem?_eq_getElem hlt
    refine .inr ⟨⟨xs, ys, _, _, qx, qy, hx, hy⟩, Pv (i + 1), fun σ' H' p' => ⟨ys.length - (i + 1), by omega, rfl, hlt, p'⟩, fun v H' y => ?_⟩
    obtain ⟨T, x', y', rfl, hT, rfl, f1, f2⟩ := y
    exact hs i x' y' T σ H (f1 xs qx) (f2 ys qy) p hT
  · have e : i = ys.length := by omega
    subst e
    exact .inl ⟨⟨xs, ys, qx, qy, Or.inr (Nat.le_refl _)⟩, hd σ H p⟩
/-- the points at a -/
def spTab (K : PySem.W.Frag) : Sp := fun vs H Q _ => ∃ (a : Addr) (xs : List V) (y : V) (ts : List (Int × Int)) (s : Rat), vs = [.ref a, y] ∧ SqT K H a xs ∧ IsA K H xs (ts.map dPt) ∧ Is K H y (rat2 s) ∧ TabOk ts ∧ 0 ≤ s ∧ Sz 1700 s ∧ ∀ v H', Same H H' → Is K H' v (rat2 (tabV ts s)) → Q v H'
/-- what the program's loop holds behind i pairs -/
def TPi (ts : List (Int × Int)) (s : Rat) (i j : Nat) (sl : Rat) : Prop :=
  (∀ k, j < k → k < i → ¬ (px ts k : Rat) < s) ∧ ((j < i ∧ (px ts j : Rat) < s ∧ sl = slo ts j) ∨ (j = 0 ∧ sl = 0 ∧ (0 < i → ¬ (px ts 0 : Rat) < s)))
theorem TPi.yes {ts : List (Int × Int)} {s : Rat} {i : Nat} (h : (px ts i : Rat) < s) : TPi ts s (i + 1) i (slo ts i) := ⟨fun k a b => by omega, .inl ⟨by omega, h, rfl⟩⟩
theorem TPi.no {ts : List (Int × Int)} {s : Rat} {i j : Nat} {sl : Rat} (h : ¬ (px ts i : Rat) < s) (p : TPi ts s i j sl) : TPi ts s (i + 1) j sl := by
  refine ⟨fun k a b => ?_, ?_⟩
  · by_cases e : k = i
    · subst e; exact h
    · exact p.1 k a (by omega)
  · rcases p.2 with ⟨a, b, c⟩ | ⟨a, b, c⟩
    · exact .inl ⟨by omega, b, c⟩
    · refine .inr ⟨a, b, fun _ => ?_⟩
      by_cases e : i = 0
      · subst e; exact h
      · exact c (by omega)
theorem TPi.end' {ts : List (Int × Int)} {s sl : Rat} {j : Nat} (ht : TabOk ts) (h0 : 0 ≤ s) (p : TPi ts s (ts.length - 1) j sl) : (py ts j : Rat) + sl * (s - (px ts j : Rat)) = tabV ts s := by
  have n2 := ht.n2
  rcases p.2 with ⟨a, b, rfl⟩ | ⟨rfl, rfl, c⟩
  · have S : Sel ts s j := by
      refine ⟨by omega, by grind, ?_⟩
      by_cases e : j + 2 = ts.length
      · exact .inl e
      · exact .inr (Rat.not_lt.mp (p.1 (j + 1) (by omega) (by omega)))
    exact S.val ht
  · have c := Rat.not_lt.mp (c (by omega))
    have z : (px ts 0 : Rat) = 0 := by rw [ht.x0]; rfl
    have s0 : s = 0 := by
      rw [z] at c
      exact Rat.le_antisymm c h0
    have u := ratlt (ht.up 0 (by omega))
    have S : Sel ts s 0 := ⟨by omega, by rw [z]; exact h0, .inr (by rw [s0, ← z]; exact Rat.le_of_lt u)⟩
    rw [← S.val ht]
    unfold lin
    rw [z, s0]
    grind
/-- what the law's loop holds -/
def LPi (ts : List (Int × Int)) (s : Rat) (i j : Nat) : Prop := (∀ k, j < k → k < i → s < (px ts k : Rat)) ∧ (j = 0 ∨ (j < i ∧ ¬ s < (px ts j : Rat)))
theorem LPi.end' {ts : List (Int × Int)} {s : Rat} {j : Nat} (ht : TabOk ts) (h0 : 0 ≤ s) (p : LPi ts s (ts.length - 1) j) : lin ts j s = tabV ts s := by
  have n2 := ht.n2
  have z : (px ts 0 : Rat) = 0 := by rw [ht.x0]; rfl
  have jl : j + 1 < ts.length := by
    rcases p.2 with rfl | ⟨a, _⟩ <;> omega
  have S : Sel ts s j := by
    refine ⟨jl, ?_, ?_⟩
    · rcases p.2 with rfl | ⟨_, b⟩
      · rw [z]; exact h0
      · exact Rat.not_lt.mp b
    · by_cases e : j + 2 = ts.length
      · exact .inl e
      · exact .inr (Rat.le_of_lt (p.1 (j + 1) (by omega) (by omega)))
  exact S.val ht
end Z

/-! A loop over enumerate of a tuple. -/
namespace PySem
section
variable {val : Value} {cell : Obj} {Hq : Heap → Prop}
theorem z_enum_new (Bg : Begins val cell Hq) : Meets (Builtin.«enumerate.__new__» ⟨[.type "enumerate", val], []⟩) (fun _ R st => Hq st.heap ∧
    R (.ok (.ret (.ref (st.heap.push cell).objs.size))) { st with heap := (st.heap.push cell).push { cls := .type "enumerate", data := .fields #[.none, .bool false, .ref st.heap.objs.size, rawInt 0, .none, .none] } }) := by
  refine .of_wp fun prog w A R s h => ?_
  obtain ⟨hp, gl, dd, tk, os⟩ := s
  obtain ⟨hq, h⟩ := h
  have sb := sub_enumerate
  have it : ∀ {A' : Around} {E' : Value → Shared → Prop} {Q' : Value → Shared → Prop}, Q' (.ref hp.objs.size) ⟨hp.push cell, gl, dd, tk, os⟩ → wpAny (model prog w) A' (pyIter val) Q' E' ⟨hp, gl, dd, tk, os⟩ := fun q => Bg.iter prog w _ _ ⟨hp, gl, dd, tk, os⟩ _ hq q
  wp_walk using it
  refine wpAny_stack_any fun _ => wpAny_pure ?_
  split
  next c _ _ _ _ _ =>
    cases (c == Value.type "enumerate") <;> (wp_walk using it; exact ⟨_, rfl, h⟩)
  next =>
    wp_walk using it
    exact ⟨_, rfl, h⟩
end
section
variable {prog : Program} {w : World} {A : Around} {E : Value → Shared → Prop} {s : Shared}
theorem z_enum_call {val : Value} {cell : Obj} {Hq : Heap → Prop} {Q : Value → Shared → Prop} (Bg : Begins val cell Hq) (h1 : Hq s.heap)
    (fin : ∀ hh, IsEnum hh (s.heap.objs.size + 1) s.heap.objs.size 0 .none → hh.get? s.heap.objs.size = some cell → hh.objs.size = s.heap.objs.size + 2 → (∀ b o, s.heap.get? b = some o → hh.get? b = some o) →
      Q (.ref (s.heap.objs.size + 1)) { s with heap := hh }) : wpAny (model prog w) A (call (.type "enumerate") [val]) Q E s := by
  refine callType_new F.called_enumerate (by decide) (F.typeCall_enumerate_1 _) (F.newCall_enumerate_1 _) (fun ob => F.args_object_init_2 ob _) F.entry_enumerate_new (z_enum_new Bg) ⟨h1, ?_⟩
  have sz : (s.heap.push cell).objs.size = s.heap.objs.size + 1 := Heap.size_push ..
  show _ ∧ _
  rw [sz]
  have he : IsEnum ((s.heap.push cell).push { cls := .type "enumerate", data := .fields #[.none, .bool false, .ref s.heap.objs.size, rawInt 0, .none, .none] }) (s.heap.objs.size + 1) s.heap.objs.size 0 .none := by
    have z := Heap.get?_push_size (s.heap.push cell) (o := { cls := .type "enumerate", data := .fields #[.none, .bool false, .ref s.heap.objs.size, rawInt 0, .none, .none] }) rfl
    rw [sz] at z
    exact z
  exact ⟨⟨_, he, rfl⟩, fin _ he (Heap.get?_push_of_some _ (Heap.get?_push_size _ Bg.free)) (by rw [Heap.size_push, sz]) fun b o x => Heap.get?_push_of_some _ (Heap.get?_push_of_some _ x)⟩
end
end PySem
namespace Z
open PySem PySem.Spec PyProof.Rows L2
/-- the tuple at a, each item in a new pair -/
def IteT (K : PySem.W.Frag) (a : Addr) : It :=
  ⟨fun i H => ∃ (xs : List V) (x : V), SqT K H a xs ∧ xs[i]? = some x, fun i H v H' => ∃ T x, v = .ref T ∧ H T = none ∧ H' = upd H T (.tup [.int (i : Nat), x]) ∧ ∀ xs, SqT K H a xs → xs[i]? = some x, fun i H => ∃ xs : List V, SqT K H a xs ∧ xs.length = i⟩
theorem turn_enumT {P : Program} {w : World} {K : PySem.W.Frag} {elts : List Expr} {kk : Nat} {tpos : Pos} (a e it : Addr) :
    Turn P w K (.Tuple elts kk tpos) (IteT K a) [e, it] e (fun i h => (∃ old, IsEnum h e it ((i : Nat) : Int) old) ∧ h.IsTupleIter it a i ∧ e ≠ it ∧ a ≠ it ∧ a ≠ e) where
  mem := by simp
  obj := fun i h st b hb => by
    obtain ⟨⟨old, he⟩, ⟨o, ho, hc, hd⟩, _⟩ := st
    rcases (show b = e ∨ b = it by simpa using hb) with z | z
    · rw [z]
      exact ⟨_, he, fun v q => nomatch q⟩
    · rw [z]
      refine ⟨o, ho, fun v q => ?_⟩
      rw [hd] at q
      cases q
  keep := fun i h h' st k => by
    obtain ⟨⟨old, he⟩, hi, rest⟩ := st
    exact ⟨⟨old, k e (by simp) _ he⟩, hi.at fun o q => k it (by simp) o q, rest⟩
  item := by
    intro X hP hw hK hc i pins s σ H E I hf st hg
    subst hP hw hK
    obtain ⟨⟨old, he⟩, hit, hne, hai, hae⟩ := st
    obtain ⟨xs, x, hq, hx⟩ := hg
    obtain ⟨its, rv, p, hz⟩ := I.tuple hq
    obtain ⟨u, hu, ru⟩ := rv.get hx
    have hel : e < s.heap.objs.size := Heap.lt_size he
    have hil : it < s.heap.objs.size := by
      obtain ⟨_, q, _⟩ := hit
      exact Heap.lt_size q
    have hh : X.A.in1.handled = none := I.ok.hd hc
    have hlt : i < its.toArray.size := by
      rw [List.size_toArray]
      exact (List.getElem?_eq_some_iff.mp hu).1
    refine wpAny_pyNext_enum_itemD (Draws.tuple hh it a hai its.toArray) he ⟨hit, (show s.heap.IsTuple a its.toArray from p)⟩ hlt hne (by simp [hne, Ne.symm hae]) fun y h' tk hy ho hst hT hsz hk => ?_
    have ey : u = y := Option.some.inj ((show its.toArray[i]? = some u by simpa using hu).symm.trans hy)
    subst ey
    refine ⟨_, rfl, wpAny_letOwnedTupleGo_enum (s := { s with heap := h', toks := tk + 1 }) ho fun h'' he' sb => ?_⟩
    have hT2 : h''.get? s.heap.objs.size = some { cls := .type "tuple", data := .seq #[.int i tk, u] } := (sb.2 _ (Nat.ne_of_gt hel)).trans hT
    have new : ObjOk X.prog X.w (upd H s.heap.objs.size (.tup [.int (i : Nat), x])) h'' s.heap.objs.size (.tup [.int (i : Nat), x]) :=
      ⟨(by show 2 ≤ sizeLine; decide), [.int i tk, u], .cons ⟨_, rfl⟩ (.cons ru .nil), ⟨_, hT2, rfl, _, rfl⟩⟩
    have kept : ∀ b ob, b ∉ [e, it] → s.heap.get? b = some ob → h''.get? b = some ob := fun b ob hb q =>
      (sb.2 b (fun z => hb (by simp [z]))).trans (hk b ob (fun z => hb (by simp [z])) (fun z => hb (by simp [z])) q)
    have I1 : Inv X pins σ (upd H s.heap.objs.size (.tup [.int (i : Nat), x])) { s with heap := h'', toks := tk + 1 } := I.turnedNew (ch := [e, it]) kept hf (Nat.le_refl _) new
    refine ⟨.ref s.heap.objs.size, _, I1, rfl, ⟨_, x, rfl, I.hok.fresh (Nat.le_refl _), rfl, fun ys hy => by rw [I.tuple_inj hy hq]; exact hx⟩, ⟨⟨u, ?_⟩, hst.1.at fun o q => (sb.2 it (Ne.symm hne)).trans q, hne, hai, hae⟩, fun b hb => ?_⟩
    · rw [show ((i + 1 : Nat) : Int) = (i : Int) + 1 by omega]
      exact he'
    · have hb' : b < s.heap.objs.size := by
        rcases (show b = e ∨ b = it by simpa using hb) with z | z
        · rw [z]
          exact hel
        · rw [z]
          exact hil
      rw [upd_ne (Nat.ne_of_lt hb')]
      exact (hf b hb).1
  done := by
    intro X hP hw hK hc i pins s σ H E I hf st hg
    subst hP hw hK
    obtain ⟨⟨old, he⟩, hit, hne, hai, hae⟩ := st
    obtain ⟨xs, hq, hx⟩ := hg
    obtain ⟨its, rv, p, hz⟩ := I.tuple hq
    obtain ⟨f0, f1, f2, f3, f4, f5⟩ := hf it (by simp)
    have hl := rv.length
    have hh : X.A.in1.handled = none := I.ok.hd hc
    have hn : its.toArray.size = i := by
      rw [List.size_toArray]
      omega
    refine wpAny_pyNext_enum_endD (Draws.tuple hh it a hai its.toArray) he ⟨by rw [hn]; exact hit, (show s.heap.IsTuple a its.toArray from p)⟩ fun h' eb => ⟨rfl, I.turned (t' := s.toks) (fun b o hb q => eb b o hb q) f0 f1 f3 f4 f5⟩
  self := fun A i s Q E st h => by
    obtain ⟨⟨_, he⟩, _⟩ := st
    exact wpAny_pyIter_enum he h
def iEnumT (K : PySem.W.Frag) (ta : TA) : TI := fun σ H R => ta σ H fun vs H1 => ∃ a xs, vs = [.ref a] ∧ SqT K H1 a xs ∧ R (IteT K a) H1
theorem pi_enumT {X : Cx} {e : Expr} {ta : TA} {p pos tpos : Pos} {elts : List Expr} {kk : Nat} (hg : Gl X "enumerate") (hm : X.mg "enumerate" = none) (ha : PA X [e] ta) (hs : starEach [e] X.env = [(false, eval e X.env)] := by rfl) :
    PI X (.Tuple elts kk tpos) (.Call (.Name "enumerate" p) [e] [] pos) (iEnumT X.K ta) := by
  refine ⟨fun pins s σ H R I h => ?_⟩
  refine Call_ (ld_blt I hg hm boot_enumerate (PyProof.Rows.callWith_type1 (thn (ha.run pos pins s σ H _ I h) fun us s1 got => ?_) hs rfl))
  obtain ⟨vs, H1, I1, r1, a, xs, ex, hq, q⟩ := got
  subst ex
  cases r1 with
  | cons r rr =>
    cases rr
    cases r
    obtain ⟨its, rv, p', hz⟩ := I1.tuple hq
    have p2 : s1.heap.IsTuple a its.toArray := p'
    have al : a < s1.heap.objs.size := by
      obtain ⟨o, ho, _⟩ := p'
      exact Heap.lt_size ho
    refine z_enum_call (begins_tuple a its.toArray) p2 fun h' he hit hsz hk => wpAny_pyIter_enum he ?_
    have I2 : Inv X pins σ H1 { s1 with heap := h' } := I1.kept (t' := s1.toks) hk
    have n1 : a ≠ s1.heap.objs.size := Nat.ne_of_lt al
    have n2 : a ≠ s1.heap.objs.size + 1 := Nat.ne_of_lt (Nat.lt_succ_of_lt al)
    refine ⟨s1.heap.objs.size + 1, [s1.heap.objs.size + 1, s1.heap.objs.size], _, _, H1, rfl, I2, turn_enumT a (s1.heap.objs.size + 1) s1.heap.objs.size, ⟨⟨.none, he⟩, ⟨_, hit, rfl, rfl⟩, Nat.succ_ne_self _, n1, n2⟩, fun b hb => ?_, q⟩
    have hle : s1.heap.objs.size ≤ b := by
      rcases (show b = s1.heap.objs.size + 1 ∨ b = s1.heap.objs.size by simpa using hb) with z | z
      · rw [z]
        exact Nat.le_succ _
      · rw [z]
        exact Nat.le_refl _
    exact I1.fpOk hle (I1.hok.fresh hle)
/-- a loop over enumerate of a tuple -/
theorem for_enumT {K : PySem.W.Frag} {a : Addr} {xs : List V} {g : TG} {tb : TS} {D : Ends} {σ : L2.St} {H : Hp} (Pv : Nat → L2.St → Hp → Prop) (h0 : Pv 0 σ H) (hl : ∀ i σ H, i ≤ xs.length → Pv i σ H → SqT K H a xs)
    (hs : ∀ i x T σ H, xs[i]? = some x → Pv i σ H → H T = none → g (.ref T) σ (upd H T (.tup [.int (i : Nat), x])) fun σ2 H2 => tb { D with nx := Pv (i + 1), ct := Pv (i + 1), bk := D.nx } σ2 H2) (hd : ∀ σ H, Pv xs.length σ H → D.nx σ H) :
    ∃ W : Nat → Nat → L2.St → Hp → Prop, (∃ m, W 0 m σ H) ∧ ∀ i m σ H, W i m σ H →
      ((IteT K a).stop i H ∧ D.nx σ H) ∨ ((IteT K a).go i H ∧ ∃ N : L2.St → Hp → Prop, (∀ σ' H', N σ' H' → ∃ m', m' < m ∧ W (i + 1) m' σ' H') ∧ ∀ x H', (IteT K a).yld i H x H' → g x σ H' fun σ2 H2 => tb { D with nx := N, ct := N, bk := D.nx } σ2 H2) := by
  refine ⟨fun i m σ H => m = xs.length - i ∧ i ≤ xs.length ∧ Pv i σ H, ⟨xs.length, (Nat.sub_zero _).symm, Nat.zero_le _, h0⟩, ?_⟩
  rintro i m σ H ⟨rfl, hi, p⟩
  have q := hl i σ H hi p
  by_cases c : i < xs.length
  · have gx : xs[i]? = some xs[i] := List.getElem?_eq_getElem c
    refine .inr ⟨⟨xs, xs[i], q, gx⟩, Pv (i + 1), fun σ' H' p' => ⟨xs.length - (i + 1), by omega, rfl, c, p'⟩, ?_⟩
    rintro v H' ⟨T, x, rfl, nT, rfl, fx⟩
    exact hs i x T σ H (fx xs q) p nT
  · have e : i = xs.length := by omega
    subst e
    exact .inl ⟨⟨xs, q, rfl⟩, hd σ H p⟩
end Z

namespace Z
open PySem PySem.Spec PyProof.Rows L2
/-! ### a comprehension over enumerate of a tuple -/
def YEnT (xs : List V) : Nat → Hp → V → Hp → Prop := fun i H v H' => ∃ T x, v = .ref T ∧ H T = none ∧ H' = upd H T (.tup [.int (i : Nat), x]) ∧ xs[i]? = some x
theorem walk_enumT {K : PySem.W.Frag} {a : Addr} {xs : List V} : Walk (IteT K a) xs.length (fun H => SqT K H a xs) (YEnT xs) :=
  ⟨fun i _ hi q => ⟨xs, xs[i], q, by simp [hi]⟩, fun _ q => ⟨xs, q, rfl⟩, fun _ _ _ _ _ q y => by
    obtain ⟨T, x, h1, h2, h3, h4⟩ := y
    exact ⟨T, x, h1, h2, h3, h4 xs q⟩⟩
/-! ### pairs of whole numbers -/
theorem getP {ts : List (Int × Int)} {i : Nat} {d : PyData} (h : (ts.map dPt)[i]? = some d) : ∃ t, ts[i]? = some t ∧ d = dPt t := by
  rw [List.getElem?_map] at h
  cases hq : ts[i]? with
  | none => rw [hq] at h; cases h
  | some q => rw [hq] at h; exact ⟨q, rfl, (Option.some.inj h).symm⟩
theorem plain_pts : ∀ ts : List (Int × Int), plainDs (ts.map dPt) = true
  | [] => by rw [List.map_nil, plainDs]
  | t :: ts => by
    rw [List.map_cons, plainDs, plain_pts ts]
    unfold dPt
    rw [plainD, plainDs, plainDs, plainDs, plainD, plainD]
    rfl
theorem plain_ptT {ts : List (Int × Int)} (h : ts.length ≤ 1000) : plainD (.tuple (ts.map dPt)) = true := by
  rw [plainD, plain_pts, List.length_map, decide_eq_true h]
  rfl
theorem dep_pts : ∀ ts : List (Int × Int), depDs (ts.map dPt) ≤ 1
  | [] => by simp [depDs]
  | t :: ts => by
    have := dep_pts ts
    rw [List.map_cons, depDs]
    have e : depD (dPt t) = 1 := by simp [dPt, depD, depDs]
    rw [e]
    omega
theorem dep_ptT (ts : List (Int × Int)) : depD (.tuple (ts.map dPt)) < 3 := by
  have := dep_pts ts
  rw [depD]
  omega
/-- pairs of whole numbers of moderate size -/
structure LevB (ts : List (Int × Int)) : Prop where
  n : ts.length ≤ 100
  b : ∀ t ∈ ts, t.1.natAbs < 1000000000000 ∧ t.2.natAbs < 1000000000000
theorem mulM {x y : Int} (hx : x.natAbs < 10000000000000) : CMulX x y := mulL ⟨by omega, by omega⟩
theorem cutd (xs : List V) (k : Nat) : cutV xs (some ((k : Int) + 1)) none = xs.drop (k + 1) := by
  have e : ((k : Int) + 1) = ((k + 1 : Nat) : Int) := by omega
  unfold cutV
  rw [e, HT.sIx_none, HT.sIx_nat]
  by_cases h : k + 1 ≤ xs.length
  · rw [Nat.min_eq_left h, List.take_of_length_le]
    rw [List.length_drop]
    exact Nat.le_refl _
  · rw [Nat.min_eq_right (by omega), List.drop_length, List.drop_of_length_le (by omega)]
    simp
/-! ### levels -/
/-- a mixture of s and f does not cost more than a -/
def mixB (a s f : Int × Int) : Bool := decide (a.2 * (f.1 - s.1) ≥ s.2 * (f.1 - a.1) + f.2 * (a.1 - s.1))
def useA (ts : List (Int × Int)) (k : Nat) (a : Int × Int) : Bool := (ts.take k).all fun s => (ts.drop (k + 1)).all fun f => !mixB a s f
/-- the useful ones of the first n -/
def useN (ts : List (Int × Int)) (n : Nat) : List (Int × Int) := (List.range n).filterMap fun k => ts[k]?.bind fun a => if useA ts k a = true then some a else none
theorem useN_succ {ts : List (Int × Int)} {n : Nat} {a : Int × Int} (h : ts[n]? = some a) : useN ts (n + 1) = useN ts n ++ if useA ts n a = true then [a] else [] := by
  unfold useN
  rw [List.range_succ, List.filterMap_append, List.filterMap_cons, List.filterMap_nil, h]
  by_cases e : useA ts n a = true
  · simp [e]
  · simp [e]
theorem useN_len (ts : List (Int × Int)) (n : Nat) : (useN ts n).length ≤ n := by
  unfold useN
  exact Nat.le_trans (List.length_filterMap_le _ _) (by rw [List.length_range]; exact Nat.le_refl _)
def spUse (K : PySem.W.Frag) : Sp := fun vs H Q _ => ∃ (a : Addr) (xs : List V) (ts : List (Int × Int)) (k : Nat) (t : Int × Int), vs = [.ref a, .int (k : Nat)] ∧ SqT K H a xs ∧ IsA K H xs (ts.map dPt) ∧ LevB ts ∧ ts[k]? = some t ∧
  ∀ H', Same H H' → Q (.bl (useA ts k t)) H'
def spUseful (K : PySem.W.Frag) : Sp := fun vs H Q _ => ∃ (a : Addr) (xs : List V) (ts : List (Int × Int)), vs = [.ref a] ∧ SqT K H a xs ∧ IsA K H xs (ts.map dPt) ∧ LevB ts ∧
  ∀ b ys H', Same H H' → H' b = some (.tup ys) → IsA K H' ys ((useN ts ts.length).map dPt) → Q (.ref b) H'
/-- what is drawn as levels -/
structure LevOk (ts : List (Int × Int)) : Prop where
  n2 : 2 ≤ ts.length
  n8 : ts.length ≤ 8
  x0 : (ts.map (·.1)).head? = some 0
  up : (ts.map (·.1)).Pairwise (· < ·)
  b : ∀ t ∈ ts, 0 ≤ t.1 ∧ t.1 ≤ 10000 ∧ 0 ≤ t.2 ∧ t.2 ≤ 1000000
theorem LevOk.lb {ts : List (Int × Int)} (h : LevOk ts) : LevB ts := ⟨by have := h.n8; omega, fun t ht => by
  have := h.b t ht
  omega⟩
/-- levels on the way -/
structure LvMid (m : Int) (i : Nat) (ts : List (Int × Int)) : Prop where
  len : ts.length = i + 1
  x0 : (ts.map (·.1)).head? = some 0
  up : (ts.map (·.1)).Pairwise (· < ·)
  b : ∀ t ∈ ts, 0 ≤ t.1 ∧ t.1 ≤ m * i ∧ 0 ≤ t.2 ∧ t.2 ≤ 30 * t.1 + 205
theorem LvMid.one {m y : Int} (h0 : 0 ≤ y) (h1 : y ≤ 200) : LvMid m 0 [(0, y)] := ⟨rfl, rfl, by simp, fun t ht => by
  rw [List.mem_singleton.mp ht]
  show (0 : Int) ≤ 0 ∧ (0 : Int) ≤ m * ((0 : Nat) : Int) ∧ 0 ≤ y ∧ y ≤ 30 * 0 + 205
  omega⟩
theorem LvMid.push {m r y : Int} {i : Nat} {ts : List (Int × Int)} {l : Int × Int} (h : LvMid m i ts) (hl : ts[i]? = some l) (m0 : 0 ≤ m) (r0 : 0 ≤ r) (r1 : r < m) (y0 : 0 ≤ y) (y1 : y ≤ 200) : LvMid m (i + 1) (ts ++ [(l.1 + 1 + r, y)]) := by
  have e : m * ((i + 1 : Nat) : Int) = m * (i : Int) + m := by rw [show ((i + 1 : Nat) : Int) = (i : Int) + 1 by omega, Int.mul_add, Int.mul_one]
  have bl := h.b l (List.mem_of_getElem? hl)
  have last : ∀ x ∈ ts.map (·.1), x ≤ l.1 := by
    intro x hx
    obtain ⟨k, hk⟩ := List.getElem?_of_mem hx
    have gl : (ts.map (·.1))[i]? = some l.1 := by rw [List.getElem?_map, hl]; rfl
    have kl : k < i + 1 := by
      have := (List.getElem?_eq_some_iff.mp hk).1
      rw [List.length_map, h.len] at this
      exact this
    by_cases c : k = i
    · subst c
      rw [gl] at hk
      exact Int.le_of_eq (Option.some.inj hk).symm
    · have p := List.pairwise_iff_getElem.mp h.up k i (List.getElem?_eq_some_iff.mp hk).1 (List.getElem?_eq_some_iff.mp gl).1 (by omega)
      rw [(List.getElem?_eq_some_iff.mp hk).2, (List.getElem?_eq_some_iff.mp gl).2] at p
      exact Int.le_of_lt p
  refine ⟨by rw [List.length_append, h.len]; rfl, ?_, ?_, ?_⟩
  · rw [List.map_append, List.head?_append, h.x0]
    rfl
  · rw [List.map_append, List.pairwise_append]
    refine ⟨h.up, by simp, fun a ha b hb => ?_⟩
    have eb : b = l.1 + 1 + r := by simpa using hb
    have := last a ha
    omega
  · intro t ht
    rcases List.mem_append.mp ht with ht | ht
    · have := h.b t ht
      rw [e]
      omega
    · rw [List.mem_singleton.mp ht, e]
      show 0 ≤ l.1 + 1 + r ∧ l.1 + 1 + r ≤ m * (i : Int) + m ∧ 0 ≤ y ∧ y ≤ 30 * (l.1 + 1 + r) + 205
      omega
theorem lev_curve {x : Int} (h0 : 0 ≤ x) : 0 ≤ (x * (if 60 < x then 60 else x)).fdiv 2 ∧ (x * (if 60 < x then 60 else x)).fdiv 2 ≤ 30 * x := by
  have n0 : 0 ≤ x * (if 60 < x then 60 else x) := Int.mul_nonneg h0 (by split <;> omega)
  have n1 : x * (if 60 < x then 60 else x) ≤ x * 60 := Int.mul_le_mul_of_nonneg_left (by split <;> omega) h0
  rw [Int.fdiv_eq_ediv_of_nonneg _ (by decide)]
  omega
/-- another cost at each speed -/
theorem LvMid.re {m : Int} {i : Nat} {ts us : List (Int × Int)} (h : LvMid m i ts) (e : us.map (·.1) = ts.map (·.1)) (hb : ∀ t ∈ us, 0 ≤ t.2 ∧ t.2 ≤ 30 * t.1 + 205) : LvMid m i us := by
  have el := congrArg List.length e
  rw [List.length_map, List.length_map] at el
  refine ⟨by rw [el, h.len], by rw [e, h.x0], by rw [e]; exact h.up, fun t ht => ?_⟩
  have ht1 : t.1 ∈ ts.map (·.1) := by rw [← e]; exact List.mem_map_of_mem ht
  obtain ⟨u, hu, e1⟩ := List.mem_map.mp ht1
  have := h.b u hu
  have := hb t ht
  rw [← e1]
  omega
theorem LvMid.fin {m wd : Int} {i : Nat} {ts : List (Int × Int)} (h : LvMid m i ts) (i1 : 1 ≤ i) (i7 : i ≤ 7) (m0 : 0 ≤ m) (m1 : m ≤ 1000) (w0 : 1 ≤ wd) (w1 : wd = 1 ∨ (m ≤ 40 ∧ wd ≤ 100)) : LevOk (ts.map fun t => (t.1, t.2 * wd)) := by
  have e : (ts.map fun t => (t.1, t.2 * wd)).map (·.1) = ts.map (·.1) := by rw [List.map_map]; rfl
  refine ⟨by rw [List.length_map, h.len]; omega, by rw [List.length_map, h.len]; omega, by rw [e]; exact h.x0, by rw [e]; exact h.up, fun t ht => ?_⟩
  obtain ⟨u, hu, rfl⟩ := List.mem_map.mp ht
  obtain ⟨b1, b2, b3, b4⟩ := h.b u hu
  show 0 ≤ u.1 ∧ u.1 ≤ 10000 ∧ 0 ≤ u.2 * wd ∧ u.2 * wd ≤ 1000000
  have mi : m * (i : Int) ≤ m * 7 := Int.mul_le_mul_of_nonneg_left (by omega) m0
  have p0 : 0 ≤ u.2 * wd := Int.mul_nonneg b3 (by omega)
  rcases w1 with rfl | ⟨m4, wl⟩
  · rw [Int.mul_one]
    omega
  · have : u.2 * wd ≤ u.2 * 100 := Int.mul_le_mul_of_nonneg_left wl b3
    omega
def spLevels (K : PySem.W.Frag) : Sp := fun vs H Q _ => ∃ (p pa : Addr) (m : Int), vs = [.ref p, .int m] ∧ Pl p pa H ∧ 1 ≤ m ∧ m ≤ 1000 ∧ ∀ v (ts : List (Int × Int)) H', LevOk ts → Kp p H H' → Pl p pa H' → Is K H' v (.tuple (ts.map dPt)) → Q v H'
/-- the slopes of the useful levels ascend: three of them, one behind the other -/
theorem use_three {ts : List (Int × Int)} {n k : Nat} {a b c : Int × Int} (h1 : (useN ts n)[k]? = some a) (h2 : (useN ts n)[k + 1]? = some b) (h3 : (useN ts n)[k + 2]? = some c) : mixB b a c = false := by
  -- where they stand
  have st : ∀ n, ∀ k a, (useN ts n)[k]? = some a → ∃ i, i < n ∧ ts[i]? = some a ∧ useA ts i a = true ∧ useN ts i = (useN ts n).take k := by
    intro n
    induction n with
    | zero => intro k a h; unfold useN at h; simp at h
    | succ n ih =>
      intro k a h
      cases ht : ts[n]? with
      | none =>
        have e : useN ts (n + 1) = useN ts n := by
          unfold useN
          rw [List.range_succ, List.filterMap_append, List.filterMap_cons, List.filterMap_nil, ht]
          simp
        rw [e] at h ⊢
        obtain ⟨i, h1, h2⟩ := ih k a h
        exact ⟨i, by omega, h2⟩
      | some t =>
        rw [useN_succ ht] at h ⊢
        by_cases hk : k < (useN ts n).length
        · rw [List.getElem?_append_left hk] at h
          obtain ⟨i, h1, h2, h3, h4⟩ := ih k a h
          exact ⟨i, by omega, h2, h3, by rw [h4, List.take_append_of_le_length (by omega)]⟩
        · rw [List.getElem?_append_right (by omega)] at h
          by_cases u : useA ts n t = true
          · rw [if_pos u] at h ⊢
            have hk0 : k - (useN ts n).length = 0 := by
              cases hz : k - (useN ts n).length with
              | zero => rfl
              | succ m => rw [hz] at h; simp at h
            rw [hk0] at h
            have e : t = a := by simpa using h
            subst e
            exact ⟨n, by omega, ht, u, by rw [List.take_append_of_le_length (by omega), List.take_of_length_le (by omega)]⟩
          · rw [if_neg u] at h
            simp at h
  obtain ⟨ia, la, ta, ua, ea⟩ := st n k a h1
  obtain ⟨ib, lb, tb, ub, eb⟩ := st n (k + 1) b h2
  obtain ⟨ic, lc, tc, uc, ec⟩ := st n (k + 2) c h3
  have hl : k + 2 < (useN ts n).length := (List.getElem?_eq_some_iff.mp h3).1
  have mono : ∀ {i j : Nat}, i ≤ j → (useN ts i).length ≤ (useN ts j).length := by
    intro i j hij
    induction hij with
    | refl => exact Nat.le_refl _
    | @step m hm ih =>
      refine Nat.le_trans ih ?_
      unfold useN
      rw [List.range_succ, List.filterMap_append, List.length_append]
      omega
  have l1 := congrArg List.length ea
  have l2 := congrArg List.length eb
  have l3 := congrArg List.length ec
  rw [List.length_take] at l1 l2 l3
  have ab : ia < ib := by
    rcases Nat.lt_or_ge ia ib with h | h
    · exact h
    · have := mono h
      omega
  have bc : ib < ic := by
    rcases Nat.lt_or_ge ib ic with h | h
    · exact h
    · have := mono h
      omega
  unfold useA at ub
  have ma : a ∈ ts.take ib := List.mem_of_getElem? (i := ia) (by rw [List.getElem?_take_of_lt ab]; exact ta)
  have mc : c ∈ ts.drop (ib + 1) := List.mem_of_getElem? (i := ic - (ib + 1)) (by rw [List.getElem?_drop, show ib + 1 + (ic - (ib + 1)) = ic by omega]; exact tc)
  have u1 := List.all_eq_true.mp ub a ma
  have u2 := List.all_eq_true.mp u1 c mc
  simpa using u2
theorem three_slopes {a b c : Int × Int} (h : mixB b a c = false) : (b.2 - a.2) * (c.1 - b.1) < (c.2 - b.2) * (b.1 - a.1) := by
  unfold mixB at h
  have h := of_decide_eq_false h
  have e : (c.2 - b.2) * (b.1 - a.1) - (b.2 - a.2) * (c.1 - b.1) = a.2 * (c.1 - b.1) + c.2 * (b.1 - a.1) - b.2 * (c.1 - a.1) := by grind
  omega
theorem useN_mem {ts : List (Int × Int)} {n : Nat} {t : Int × Int} (h : t ∈ useN ts n) : t ∈ ts := by
  unfold useN at h
  obtain ⟨k, hk, e⟩ := List.mem_filterMap.mp h
  cases ht : ts[k]? with
  | none => rw [ht] at e; simp at e
  | some a =>
    rw [ht] at e
    have e : (if useA ts k a = true then some a else none) = some t := e
    split at e
    · rw [← Option.some.inj e]
      exact List.mem_of_getElem? ht
    · cases e
end Z

namespace Z
open PySem PySem.Spec PyProof.Rows L2
theorem rat_div0 {a b : Rat} (ha : 0 ≤ a) (hb : 0 < b) : 0 ≤ a / b := by
  rw [Rat.div_def]
  exact Rat.mul_nonneg ha (Rat.le_of_lt (Rat.inv_pos.mpr hb))
/-! ### depths, and what a stay costs -/
def stay (d : Int × Int) (q : Rat) : Rat := (d.1 : Rat) * q + (d.2 : Rat)
def dAt (ts : List (Int × Int)) (i : Nat) : Int × Int := ts[i]?.getD (0, 0)
theorem dAt_of {ts : List (Int × Int)} {i : Nat} {t : Int × Int} (h : ts[i]? = some t) : dAt ts i = t := by unfold dAt; rw [h]; rfl
/-- the first one of the least -/
def bst (f : Nat → Rat) : Nat → Nat
  | 0 => 0
  | n + 1 => if f n < f (bst f n) then n else bst f n
theorem bst_lt (f : Nat → Rat) : ∀ {n : Nat}, 0 < n → bst f n < n
  | 1, _ => by
    unfold bst
    split
    · decide
    · exact Nat.lt_succ_of_le (Nat.le_refl _)
  | n + 2, _ => by
    have := bst_lt f (n := n + 1) (by omega)
    unfold bst
    split <;> omega
theorem bst_le (f : Nat → Rat) : ∀ {n i : Nat}, i < n → f (bst f n) ≤ f i
  | n + 1, i, h => by
    unfold bst
    by_cases e : i = n
    · subst e
      split
      · exact Rat.le_refl
      · grind
    · have := bst_le f (n := n) (i := i) (by omega)
      split
      · grind
      · exact this
/-- it is the first one -/
theorem bst_first (f : Nat → Rat) : ∀ {n i : Nat}, i < bst f n → f (bst f n) < f i
  | 0, i, h => by unfold bst at h; omega
  | n + 1, i, h => by
    unfold bst at h ⊢
    split at h
    · rename_i e
      rw [if_pos e]
      have := bst_le f (n := n) (i := i) h
      grind
    · rename_i e
      rw [if_neg e]
      exact bst_first f h
/-- there is one such -/
theorem bst_uniq (f : Nat → Rat) {n k : Nat} (kn : k < n) (h1 : ∀ i, i < n → f k ≤ f i) (h2 : ∀ i, i < k → f k < f i) : bst f n = k := by
  have a := bst_le f (n := n) kn
  have b := bst_lt f (n := n) (by omega)
  rcases Nat.lt_trichotomy (bst f n) k with c | c | c
  · have := h2 _ c
    grind
  · exact c
  · have := bst_first f c
    have := h1 _ b
    grind
def stayF (ts : List (Int × Int)) (q : Rat) (i : Nat) : Rat := stay (dAt ts i) q
def dAs (q : Rat) (k : Nat) : PyData := .tuple [rat2 q, .int (k : Nat)]
def dBest (ts : List (Int × Int)) (q : Rat) (i : Nat) : PyData := dAs (stayF ts q (bst (stayF ts q) i)) (bst (stayF ts q) i)
theorem as_at {K : PySem.W.Frag} {H : Hp} {v : V} {q : Rat} {k : Nat} (h : Is K H v (dAs q k)) : ∃ p u, v = .ref p ∧ SqT K H p [u, .int (k : Nat)] ∧ Is K H u (rat2 q) := by
  obtain ⟨p, a, b, rfl, s, ia, ib⟩ := h.two'
  cases ib
  exact ⟨p, a, rfl, s, ia⟩
theorem is_one {K : PySem.W.Frag} {H : Hp} {t : Addr} {x : Int} (s : SqT K H t [.int x, .int 1]) : Is K H (.ref t) (rat2 ((x : Int) : Rat)) := .tup s (.two (.int x) (.int 1))
theorem stay_sz {d : Int × Int} {q : Rat} {n : Nat} (h : d.1.natAbs < 1000000000000 ∧ d.2.natAbs < 1000000000000) (hq : Sz n q) : Sz (n + 81) (stay d q) :=
  (((sz_int (n := 40) (by omega) (by decide)).mul hq).add (sz_int (n := 40) (by omega) (by decide))).mono (by omega)
/-- what both depth searches promise -/
def spAsleep (K : PySem.W.Frag) : Sp := fun vs H Q _ => ∃ (a : Addr) (y : V) (xs : List V) (ts : List (Int × Int)) (q : Rat), vs = [.ref a, y] ∧ SqT K H a xs ∧ IsA K H xs (ts.map dPt) ∧ LevB ts ∧ 1 ≤ ts.length ∧ Is K H y (rat2 q) ∧ Sz 3000 q ∧
  ∀ v H', Same H H' → Is K H' v (dBest ts q ts.length) → Q v H'
def spStay (K : PySem.W.Frag) : Sp := fun vs H Q _ => ∃ (x y : V) (d : Int × Int) (q : Rat), vs = [x, y] ∧ Is K H x (dPt d) ∧ Is K H y (rat2 q) ∧ Sz 3000 q ∧ d.1.natAbs < 1000000000000 ∧ d.2.natAbs < 1000000000000 ∧
  ∀ v H', Same H H' → Is K H' v (rat2 (stay d q)) → Q v H'
/-- what is drawn as depths -/
structure DepOk (ts : List (Int × Int)) : Prop where
  n1 : 1 ≤ ts.length
  n6 : ts.length ≤ 6
  b : ∀ t ∈ ts, 0 ≤ t.1 ∧ t.1 ≤ 1000000 ∧ 0 ≤ t.2 ∧ t.2 ≤ 1000000
  dn : (ts.map (·.1)).Pairwise (· > ·)
  up : (ts.map (·.2)).Pairwise (· < ·)
  w0 : (ts.map (·.2)).head? = some 0
theorem DepOk.lb {ts : List (Int × Int)} (h : DepOk ts) : LevB ts := ⟨by have := h.n6; omega, fun t ht => by
  have := h.b t ht
  omega⟩
def spDepths (K : PySem.W.Frag) : Sp := fun vs H Q _ => ∃ (p pa : Addr), vs = [.ref p] ∧ Pl p pa H ∧ ∀ a xs ts H', DepOk ts → Kp p H H' → Pl p pa H' → SqT K H' a xs → IsA K H' xs (ts.map dPt) → Q (.ref a) H'
def spLength (K : PySem.W.Frag) : Sp := fun vs H Q _ => ∃ (p pa : Addr), vs = [.ref p] ∧ Pl p pa H ∧ ∀ v q H', 0 ≤ q → Sz 40 q → Kp p H H' → Pl p pa H' → Is K H' v (rat2 q) → Q v H'
/-- depths on the way -/
structure DpMid (i : Nat) (ts : List (Int × Int)) : Prop where
  n1 : 1 ≤ ts.length
  n : ts.length ≤ i + 1
  b : ∀ t ∈ ts, 0 ≤ t.1 ∧ t.1 ≤ 3009 ∧ 0 ≤ t.2 ∧ t.2 ≤ 60 * i
  dn : (ts.map (·.1)).Pairwise (· > ·)
  up : (ts.map (·.2)).Pairwise (· < ·)
  w0 : (ts.map (·.2)).head? = some 0
theorem DpMid.one {x : Int} (h0 : 0 ≤ x) (h1 : x ≤ 3009) : DpMid 0 [(x, 0)] := ⟨Nat.le_refl _, Nat.le_refl _, fun t ht => by
  rw [List.mem_singleton.mp ht]
  show 0 ≤ x ∧ x ≤ 3009 ∧ (0 : Int) ≤ 0 ∧ (0 : Int) ≤ 60 * ((0 : Nat) : Int)
  omega, by simp, by simp, rfl⟩
theorem DpMid.up1 {i : Nat} {ts : List (Int × Int)} (h : DpMid i ts) : DpMid (i + 1) ts := ⟨h.n1, by have := h.n; omega, fun t ht => by
  have := h.b t ht
  omega, h.dn, h.up, h.w0⟩
theorem pair_last {α : Type} {R : α → α → Prop} {xs : List α} {l : α} (h : xs.Pairwise R) (hl : xs[xs.length - 1]? = some l) : ∀ x ∈ xs, x = l ∨ R x l := by
  intro x hx
  obtain ⟨k, hk⟩ := List.getElem?_of_mem hx
  have kl := (List.getElem?_eq_some_iff.mp hk).1
  by_cases c : k = xs.length - 1
  · subst c
    rw [hl] at hk
    exact .inl (Option.some.inj hk).symm
  · have p := List.pairwise_iff_getElem.mp h k (xs.length - 1) kl (by omega) (by omega)
    rw [(List.getElem?_eq_some_iff.mp hk).2, (List.getElem?_eq_some_iff.mp hl).2] at p
    exact .inr p
theorem DpMid.push {i : Nat} {ts : List (Int × Int)} {l : Int × Int} {x y : Int} (h : DpMid i ts) (hl : ts[ts.length - 1]? = some l) (x0 : 0 ≤ x) (x1 : x < l.1) (y0 : l.2 < y) (y1 : y ≤ l.2 + 60) : DpMid (i + 1) (ts ++ [(x, y)]) := by
  have n1 := h.n1
  have bl := h.b l (List.mem_of_getElem? hl)
  have g1 : (ts.map (·.1))[(ts.map (·.1)).length - 1]? = some l.1 := by rw [List.length_map, List.getElem?_map, hl]; rfl
  have g2 : (ts.map (·.2))[(ts.map (·.2)).length - 1]? = some l.2 := by rw [List.length_map, List.getElem?_map, hl]; rfl
  have p1 := pair_last h.dn g1
  have p2 := pair_last h.up g2
  refine ⟨by rw [List.length_append]; omega, by rw [List.length_append]; have := h.n; simp; omega, ?_, ?_, ?_, ?_⟩
  · intro t ht
    rcases List.mem_append.mp ht with ht | ht
    · have := h.b t ht
      omega
    · rw [List.mem_singleton.mp ht]
      show 0 ≤ x ∧ x ≤ 3009 ∧ 0 ≤ y ∧ y ≤ 60 * ((i + 1 : Nat) : Int)
      omega
  · rw [List.map_append, List.pairwise_append]
    refine ⟨h.dn, by simp, fun a ha b hb => ?_⟩
    have eb : b = x := by simpa using hb
    have := p1 a ha
    omega
  · rw [List.map_append, List.pairwise_append]
    refine ⟨h.up, by simp, fun a ha b hb => ?_⟩
    have eb : b = y := by simpa using hb
    have := p2 a ha
    omega
  · rw [List.map_append, List.head?_append, h.w0]
    rfl
theorem DpMid.fin {i : Nat} {ts : List (Int × Int)} {wd : Int} (h : DpMid i ts) (i5 : i ≤ 5) (w0 : 1 ≤ wd) (w1 : wd ≤ 300) : DepOk (ts.map fun t => (t.1 * wd, t.2 * wd)) := by
  have e1 : (ts.map fun t => (t.1 * wd, t.2 * wd)).map (·.1) = (ts.map (·.1)).map (· * wd) := by rw [List.map_map, List.map_map]; rfl
  have e2 : (ts.map fun t => (t.1 * wd, t.2 * wd)).map (·.2) = (ts.map (·.2)).map (· * wd) := by rw [List.map_map, List.map_map]; rfl
  refine ⟨by rw [List.length_map]; exact h.n1, by rw [List.length_map]; have := h.n; omega, ?_, ?_, ?_, ?_⟩
  · intro t ht
    obtain ⟨u, hu, rfl⟩ := List.mem_map.mp ht
    have b := h.b u hu
    have m1 : u.1 * wd ≤ 3009 * 300 := Int.mul_le_mul (by omega) w1 (by omega) (by decide)
    have m2 : u.2 * wd ≤ 300 * 300 := Int.mul_le_mul (by omega) w1 (by omega) (by decide)
    have m3 : 0 ≤ u.1 * wd := Int.mul_nonneg (by omega) (by omega)
    have m4 : 0 ≤ u.2 * wd := Int.mul_nonneg (by omega) (by omega)
    show 0 ≤ u.1 * wd ∧ u.1 * wd ≤ 1000000 ∧ 0 ≤ u.2 * wd ∧ u.2 * wd ≤ 1000000
    omega
  · rw [e1, List.pairwise_map]
    exact h.dn.imp fun {a b} c => Int.mul_lt_mul_of_pos_right c (by omega)
  · rw [e2, List.pairwise_map]
    exact h.up.imp fun {a b} c => Int.mul_lt_mul_of_pos_right c (by omega)
  · rw [e2, List.head?_map, h.w0]
    show some (0 * wd) = some 0
    rw [Int.zero_mul]
end Z

namespace Z
open PySem PySem.Spec PyProof.Rows L2
theorem rlg (a b : Rat) : a < b ∨ b ≤ a := by
  by_cases h : a < b
  · exact .inl h
  · exact .inr (Rat.not_lt.mp h)
/-! ### meetings of two depths -/
def meet (a b : Int × Int) : Rat := Rat.divInt (b.2 - a.2) (a.1 - b.1)
theorem meet_mul {a b : Int × Int} (h : b.1 < a.1) : meet a b * ((a.1 : Rat) - (b.1 : Rat)) = (b.2 : Rat) - (a.2 : Rat) := by
  unfold meet
  rw [divInt_div, Rat.intCast_sub, Rat.intCast_sub]
  have : (a.1 : Rat) - (b.1 : Rat) ≠ 0 := by
    have : (b.1 : Rat) < (a.1 : Rat) := Rat.intCast_lt_intCast.mpr h
    grind
  grind
theorem rate_pos {a b : Int × Int} (h : b.1 < a.1) : 0 < (a.1 : Rat) - (b.1 : Rat) := by
  have : (b.1 : Rat) < (a.1 : Rat) := Rat.intCast_lt_intCast.mpr h
  grind
/-- behind their meeting the deeper one costs less -/
theorem stay_lt {a b : Int × Int} (h : b.1 < a.1) (q : Rat) : stay b q < stay a q ↔ meet a b < q := by
  have e := meet_mul h
  have p := rate_pos h
  unfold stay
  generalize meet a b = m at e
  have k : (a.1 : Rat) * q + a.2 - ((b.1 : Rat) * q + b.2) = (q - m) * ((a.1 : Rat) - (b.1 : Rat)) := by grind
  constructor
  · intro l
    rcases rlg m q with c | c
    · exact c
    · have : (m - q) * ((a.1 : Rat) - (b.1 : Rat)) ≥ 0 := Rat.mul_nonneg (by grind) (by grind)
      grind
  · intro l
    have : (q - m) * ((a.1 : Rat) - (b.1 : Rat)) > 0 := Rat.mul_pos (by grind) p
    grind
theorem stay_le {a b : Int × Int} (h : b.1 < a.1) (q : Rat) : stay a q ≤ stay b q ↔ q ≤ meet a b := by
  have := stay_lt h q
  constructor
  · intro l
    rcases rlg (meet a b) q with c | c
    · have := this.mpr c
      grind
    · exact c
  · intro l
    rcases rlg (stay b q) (stay a q) with c | c
    · have := this.mp c
      grind
    · exact c
theorem stay_slt {a b : Int × Int} (h : b.1 < a.1) (q : Rat) : stay a q < stay b q ↔ q < meet a b := by
  have e := meet_mul h
  have p := rate_pos h
  unfold stay
  generalize meet a b = m at e
  have k : (b.1 : Rat) * q + b.2 - ((a.1 : Rat) * q + a.2) = (m - q) * ((a.1 : Rat) - (b.1 : Rat)) := by grind
  constructor
  · intro l
    rcases rlg q m with c | c
    · exact c
    · have : (q - m) * ((a.1 : Rat) - (b.1 : Rat)) ≥ 0 := Rat.mul_nonneg (by grind) (by grind)
      grind
  · intro l
    have : (m - q) * ((a.1 : Rat) - (b.1 : Rat)) > 0 := Rat.mul_pos (by grind) p
    grind
theorem stay_eq {a b : Int × Int} (h : b.1 < a.1) : stay a (meet a b) = stay b (meet a b) := by
  have e := meet_mul h
  unfold stay
  generalize meet a b = m at e
  grind
/-- what is known of drawn depths -/
structure Dps (ts : List (Int × Int)) : Prop where
  n1 : 1 ≤ ts.length
  dn : ∀ i j, i < j → j < ts.length → (dAt ts j).1 < (dAt ts i).1
  up : ∀ i j, i < j → j < ts.length → (dAt ts i).2 < (dAt ts j).2
  w0 : (dAt ts 0).2 = 0
  p0 : ∀ i, i < ts.length → 0 ≤ (dAt ts i).1 ∧ 0 ≤ (dAt ts i).2
theorem DepOk.dps {ts : List (Int × Int)} (h : DepOk ts) : Dps ts := by
  have at' : ∀ i, i < ts.length → ts[i]? = some (dAt ts i) := fun i hi => by
    have g := List.getElem?_eq_getElem hi
    rw [dAt_of g]
    exact g
  refine ⟨h.n1, ?_, ?_, ?_, ?_⟩
  · intro i j ij jn
    have := List.pairwise_iff_getElem.mp h.dn i j (by rw [List.length_map]; omega) (by rw [List.length_map]; omega) ij
    rw [List.getElem_map, List.getElem_map, (List.getElem?_eq_some_iff.mp (at' i (by omega))).2, (List.getElem?_eq_some_iff.mp (at' j jn)).2] at this
    exact this
  · intro i j ij jn
    have := List.pairwise_iff_getElem.mp h.up i j (by rw [List.length_map]; omega) (by rw [List.length_map]; omega) ij
    rw [List.getElem_map, List.getElem_map, (List.getElem?_eq_some_iff.mp (at' i (by omega))).2, (List.getElem?_eq_some_iff.mp (at' j jn)).2] at this
    exact this
  · have := h.w0
    rw [List.head?_eq_getElem?, List.getElem?_map, at' 0 h.n1] at this
    exact Option.some.inj this
  · intro i hi
    have := h.b _ (List.mem_of_getElem? (at' i hi))
    omega
/-! ### the next turn -/
def mt (ts : List (Int × Int)) (i j : Nat) : Rat := meet (dAt ts i) (dAt ts j)
def nxtStep (ts : List (Int × Int)) (d : Nat) (b : Option (Rat × Nat)) (j : Nat) : Option (Rat × Nat) :=
  match b with
  | none => some (mt ts d j, j)
  | some b => if b.1 < mt ts d j then some b else some (mt ts d j, j)
/-- the best of the first m deeper ones -/
def nxtN (ts : List (Int × Int)) (d : Nat) : Nat → Option (Rat × Nat)
  | 0 => none
  | m + 1 => nxtStep ts d (nxtN ts d m) (d + 1 + m)
def nxt (ts : List (Int × Int)) (d : Nat) : Option (Rat × Nat) := nxtN ts d (ts.length - (d + 1))
structure NxtOk (ts : List (Int × Int)) (d m : Nat) (p : Rat × Nat) : Prop where
  dp : d < p.2
  lt : p.2 ≤ d + m
  e : p.1 = mt ts d p.2
  le : ∀ j, d < j → j ≤ d + m → p.1 ≤ mt ts d j
  last : ∀ j, p.2 < j → j ≤ d + m → p.1 < mt ts d j
theorem nxtN_ok (ts : List (Int × Int)) (d : Nat) : ∀ m, (m = 0 ∧ nxtN ts d m = none) ∨ ∃ p, nxtN ts d m = some p ∧ NxtOk ts d m p
  | 0 => .inl ⟨rfl, rfl⟩
  | m + 1 => by
    refine .inr ?_
    rcases nxtN_ok ts d m with ⟨rfl, e⟩ | ⟨p, e, k⟩
    · refine ⟨(mt ts d (d + 1), d + 1), ?_, ?_⟩
      · show nxtStep ts d (nxtN ts d 0) (d + 1 + 0) = _
        rw [e]
        rfl
      · refine ⟨Nat.lt_succ_self d, Nat.le_refl _, rfl, fun j h1 h2 => ?_, fun j h1 h2 => ?_⟩
        · have : j = d + 1 := by omega
          rw [this]
          exact Rat.le_refl
        · have h1 : d + 1 < j := h1
          omega
    · have es : nxtN ts d (m + 1) = if p.1 < mt ts d (d + 1 + m) then some p else some (mt ts d (d + 1 + m), d + 1 + m) := by
        show nxtStep ts d (nxtN ts d m) (d + 1 + m) = _
        rw [e]
        rfl
      rw [es]
      by_cases c : p.1 < mt ts d (d + 1 + m)
      · rw [if_pos c]
        refine ⟨p, rfl, k.dp, by have := k.lt; omega, k.e, fun j h1 h2 => ?_, fun j h1 h2 => ?_⟩
        · by_cases z : j = d + 1 + m
          · rw [z]; grind
          · exact k.le j h1 (by omega)
        · by_cases z : j = d + 1 + m
          · rw [z]; exact c
          · exact k.last j h1 (by omega)
      · rw [if_neg c]
        refine ⟨_, rfl, by show d < d + 1 + m; omega, by show d + 1 + m ≤ _; omega, rfl, fun j h1 h2 => ?_, fun j h1 h2 => ?_⟩
        · show mt ts d (d + 1 + m) ≤ _
          by_cases z : j = d + 1 + m
          · rw [z]; exact Rat.le_refl
          · have := k.le j h1 (by omega)
            grind
        · have h1 : d + 1 + m < j := h1
          omega
theorem nxt_none {ts : List (Int × Int)} {d : Nat} (h : ts.length ≤ d + 1) : nxt ts d = none := by
  unfold nxt
  rw [show ts.length - (d + 1) = 0 by omega]
  rfl
theorem nxt_none' {ts : List (Int × Int)} {d : Nat} (h : nxt ts d = none) : ts.length ≤ d + 1 := by
  rcases nxtN_ok ts d (ts.length - (d + 1)) with ⟨e, _⟩ | ⟨p, e, _⟩
  · omega
  · unfold nxt at h
    rw [h] at e
    cases e
theorem nxt_some {ts : List (Int × Int)} {d : Nat} {p : Rat × Nat} (h : nxt ts d = some p) : NxtOk ts d (ts.length - (d + 1)) p := by
  rcases nxtN_ok ts d (ts.length - (d + 1)) with ⟨_, e⟩ | ⟨p', e, k⟩
  · unfold nxt at h
    rw [h] at e
    cases e
  · unfold nxt at h
    rw [h] at e
    cases e
    exact k
/-- one that is as said is the next one -/
theorem nxt_eq {ts : List (Int × Int)} {d : Nat} {p : Rat × Nat} (h : NxtOk ts d (ts.length - (d + 1)) p) : nxt ts d = some p := by
  cases e : nxt ts d with
  | none =>
    have := nxt_none' e
    have := h.dp
    have := h.lt
    omega
  | some q =>
    have k := nxt_some e
    congr 1
    have e1 : q.2 = p.2 := by
      rcases Nat.lt_trichotomy q.2 p.2 with c | c | c
      · have a1 := k.last p.2 c h.lt
        have a2 := h.le q.2 k.dp k.lt
        rw [← k.e] at a2
        rw [← h.e] at a1
        grind
      · exact c
      · have a1 := h.last q.2 c k.lt
        have a2 := k.le p.2 h.dp h.lt
        rw [← k.e] at a1
        rw [← h.e] at a2
        grind
    exact Prod.ext (by rw [k.e, h.e, e1]) e1
/-! ### chains of turns -/
inductive Ch (ts : List (Int × Int)) : Rat × Nat → List (Rat × Nat) → Prop
  | done {p : Rat × Nat} : nxt ts p.2 = none → Ch ts p [p]
  | step {p p' : Rat × Nat} {l : List (Rat × Nat)} : nxt ts p.2 = some p' → Ch ts p' l → Ch ts p (p :: l)
theorem Ch.uniq {ts : List (Int × Int)} : ∀ {l l' : List (Rat × Nat)} {p : Rat × Nat}, Ch ts p l → Ch ts p l' → l = l'
  | _, _, _, .done e, .done e' => rfl
  | _, _, _, .done e, .step e' _ => by rw [e] at e'; cases e'
  | _, _, _, .step e' _, .done e => by rw [e] at e'; cases e'
  | _, _, _, .step e k, .step e' k' => by
    rw [e] at e'
    cases e'
    rw [k.uniq k']
/-- how a turn stands among all depths -/
structure Gd (ts : List (Int × Int)) (t : Rat) (d : Nat) : Prop where
  dn : d < ts.length
  t0 : 0 ≤ t
  lo : ∀ i, i < d → ∀ q, t < q → stayF ts q d < stayF ts q i
  hi : ∀ j, d < j → j < ts.length → stayF ts t d < stayF ts t j
theorem Gd.zero {ts : List (Int × Int)} (D : Dps ts) : Gd ts 0 0 := by
  refine ⟨D.n1, Rat.le_refl, fun i h => absurd h (Nat.not_lt_zero _), fun j h1 h2 => ?_⟩
  have := D.up 0 j h1 h2
  unfold stayF stay
  have : ((dAt ts 0).2 : Rat) < ((dAt ts j).2 : Rat) := Rat.intCast_lt_intCast.mpr this
  grind
theorem Gd.next {ts : List (Int × Int)} {t : Rat} {d : Nat} {p : Rat × Nat} (D : Dps ts) (g : Gd ts t d) (h : nxt ts d = some p) : t < p.1 ∧ d < p.2 ∧ p.2 < ts.length ∧ Gd ts p.1 p.2 ∧ p.1 = mt ts d p.2 ∧ ∀ j, d < j → j < ts.length → p.1 ≤ mt ts d j := by
  have k := nxt_some h
  have dn := g.dn
  have kd := k.dp
  have kl : p.2 < ts.length := by have := k.lt; omega
  have tp : t < p.1 := by
    rw [k.e]
    exact (stay_slt (D.dn _ _ kd kl) t).mp (g.hi _ kd kl)
  have lej : ∀ j, d < j → j < ts.length → p.1 ≤ mt ts d j := fun j h1 h2 => k.le j h1 (by omega)
  have eqp : stayF ts p.1 d = stayF ts p.1 p.2 := by
    rw [k.e]
    exact stay_eq (D.dn _ _ kd kl)
  refine ⟨tp, kd, kl, ⟨kl, by have := g.t0; grind, fun i hi q hq => ?_, fun j h1 h2 => ?_⟩, k.e, lej⟩
  · have a : stayF ts q p.2 < stayF ts q d := (stay_lt (D.dn _ _ kd kl) q).mpr (by
      have := k.e
      unfold mt at this
      rw [← this]
      exact hq)
    rcases Nat.lt_trichotomy i d with c | c | c
    · have := g.lo i c q (by grind)
      grind
    · rw [c]
      exact a
    · -- between them: at the turn it is not cheaper, and its rate is greater
      have il : i < ts.length := by omega
      have b1 : stayF ts p.1 p.2 ≤ stayF ts p.1 i := by
        rw [← eqp]
        exact (stay_le (D.dn _ _ c il) p.1).mpr (lej i c il)
      have r := D.dn _ _ hi kl
      have m : meet (dAt ts i) (dAt ts p.2) ≤ p.1 := by
        rcases rlg p.1 (meet (dAt ts i) (dAt ts p.2)) with z | z
        · have := (stay_slt r p.1).mpr z
          unfold stayF at b1
          grind
        · exact z
      exact (stay_lt r q).mpr (by grind)
  · rw [← eqp]
    exact (stay_slt (D.dn _ _ (by omega) h2) p.1).mpr (k.last j h1 (by omega))
/-- until the next turn this is the depth -/
theorem Gd.best {ts : List (Int × Int)} {t q : Rat} {d : Nat} (D : Dps ts) (g : Gd ts t d) (hq : t < q ∨ (q = t ∧ d = 0)) (hn : ∀ j, d < j → j < ts.length → q ≤ mt ts d j) : bst (stayF ts q) ts.length = d := by
  refine bst_uniq _ g.dn (fun i hi => ?_) (fun i hi => ?_)
  · rcases Nat.lt_trichotomy i d with c | c | c
    · rcases hq with h | ⟨_, h⟩
      · have := g.lo i c q h
        grind
      · omega
    · rw [c]; exact Rat.le_refl
    · exact (stay_le (D.dn _ _ c hi) q).mpr (hn i c hi)
  · rcases hq with h | ⟨_, h⟩
    · exact g.lo i hi q h
    · omega
end Z

namespace Z
open PySem PySem.Spec PyProof.Rows L2
theorem atI_neg {us : List V} {v : V} (h : us[us.length - 1]? = some v) (h0 : 0 < us.length) : atI us (-1) = some v := by
  obtain ⟨ys, w, e⟩ : ∃ ys w, us = ys ++ [w] := ⟨us.dropLast, us.getLast (List.ne_nil_of_length_pos h0), (List.dropLast_concat_getLast _).symm⟩
  subst e
  have : w = v := by simpa using h
  rw [this]
  exact atI_last _ _
theorem hu65 {A : Around} {k : Nat} (hr : Room k A) : A.units + 65 < cLine := by have := hr.un; omega
theorem eqv_any (ms : List Rat) (x : Rat) : ((ms.map rat2).any fun z => PyData.eqv z (rat2 x)) = decide (x ∈ ms) := by
  induction ms with
  | nil => rfl
  | cons m ms ih =>
    rw [List.map_cons, List.any_cons, ih, eqv_rat2]
    by_cases h : m = x
    · subst h; simp
    · rw [decide_eq_false h, Bool.false_or]
      have : (x ∈ m :: ms) ↔ x ∈ ms := by
        rw [List.mem_cons]
        exact ⟨fun z => z.resolve_left (fun e => h e.symm), .inr⟩
      exact decide_eq_decide.mpr this.symm
theorem lay_rats : ∀ ms : List Rat, PyData.canLayAll0 (ms.map rat2) = true
  | [] => by rw [List.map_nil, PyData.canLayAll0]
  | p :: ps => by
    rw [List.map_cons, PyData.canLayAll0, lay_rat2, lay_rats ps]
    rfl
theorem depth_rats : ∀ (ps : List Rat), PyData.depthAll (ps.map rat2) ≤ 1
  | [] => by simp [PyData.depthAll]
  | p :: ps => by
    have := depth_rats ps
    rw [List.map_cons, PyData.depthAll, depth_rat2]
    omega
theorem shaped_rats (ps : List Rat) : SeqAt.shaped (.list (ps.map rat2)) = true := by
  unfold SeqAt.shaped
  have := depth_rats ps
  rw [PyData.canLay0, lay_rats, PyData.depth]
  simp
  omega
def Asc (ms : List Rat) : Prop := ms.Pairwise (· < ·)
/-! ### what the turns promise -/
def dTurn (r : Rat × Nat) : PyData := dAs r.1 r.2
/-- all that meets -/
structure AllM (ts : List (Int × Int)) (ms : List Rat) : Prop where
  asc : Asc ms
  mem : ∀ i j, i < j → j < ts.length → mt ts i j ∈ ms
  pos : ∀ m ∈ ms, 0 < m
/-- the meetings found of the first i rows and j places -/
structure Mts (ts : List (Int × Int)) (i j : Nat) (ms : List Rat) : Prop where
  asc : Asc ms
  mem : ∀ x, x ∈ ms ↔ ∃ i' j', i' < j' ∧ j' < ts.length ∧ (i' < i ∨ (i' = i ∧ j' < j)) ∧ x = mt ts i' j'
  len : ms.length ≤ 6 * i + j
theorem Mts.sz {ts : List (Int × Int)} {i j : Nat} {ms : List Rat} (D : DepOk ts) (M : Mts ts i j ms) : ∀ x ∈ ms, Sz 40 x := fun x hx => by
  obtain ⟨i', j', h1, h2, _, rfl⟩ := (M.mem x).mp hx
  have a := D.dps.dn i' j' h1 h2
  have b := D.b _ (List.mem_of_getElem? (show ts[i']? = some (dAt ts i') by rw [dAt, List.getElem?_eq_getElem (by omega)]; rfl))
  have c := D.b _ (List.mem_of_getElem? (show ts[j']? = some (dAt ts j') by rw [dAt, List.getElem?_eq_getElem (by omega)]; rfl))
  exact Sz.divInt (by omega) (by omega) (by omega)
theorem Mts.all {ts : List (Int × Int)} {ms : List Rat} (D : Dps ts) (M : Mts ts ts.length 0 ms) : AllM ts ms := by
  refine ⟨M.asc, fun i j h1 h2 => (M.mem _).mpr ⟨i, j, h1, h2, .inl (by omega), rfl⟩, fun m hm => ?_⟩
  obtain ⟨i, j, h1, h2, _, rfl⟩ := (M.mem m).mp hm
  have a := D.up i j h1 h2
  refine (stay_slt (D.dn i j h1 h2) 0).mp ?_
  unfold stay
  have : ((dAt ts i).2 : Rat) < ((dAt ts j).2 : Rat) := Rat.intCast_lt_intCast.mpr a
  grind
theorem Mts.nil (ts : List (Int × Int)) : Mts ts 0 0 [] := ⟨List.Pairwise.nil, fun x => ⟨fun h => (nomatch h), fun ⟨i, j, _, _, h, _⟩ => by omega⟩, Nat.le_refl _⟩
theorem Mts.row {ts : List (Int × Int)} {i : Nat} {ms : List Rat} (D : DepOk ts) (M : Mts ts i ts.length ms) : Mts ts (i + 1) 0 ms := by
  refine ⟨M.asc, fun x => (M.mem x).trans ⟨fun ⟨a, b, h1, h2, h3, e⟩ => ⟨a, b, h1, h2, .inl (by omega), e⟩, fun ⟨a, b, h1, h2, h3, e⟩ => ⟨a, b, h1, h2, by omega, e⟩⟩, ?_⟩
  have := M.len
  have := D.n6
  omega
theorem Mts.skip {ts : List (Int × Int)} {i j : Nat} {ms : List Rat} (h : ¬ i < j ∨ mt ts i j ∈ ms) (M : Mts ts i j ms) : Mts ts i (j + 1) ms := by
  refine ⟨M.asc, fun x => ⟨fun hx => ?_, fun ⟨a, b, h1, h2, h3, e⟩ => ?_⟩, by have := M.len; omega⟩
  · obtain ⟨a, b, h1, h2, h3, e⟩ := (M.mem x).mp hx
    exact ⟨a, b, h1, h2, by omega, e⟩
  · by_cases c : a = i ∧ b = j
    · obtain ⟨rfl, rfl⟩ := c
      rw [e]
      exact h.resolve_left (fun n => n h1)
    · exact (M.mem x).mpr ⟨a, b, h1, h2, by omega, e⟩
theorem ins_len (ms : List Rat) (n : Nat) (x : Rat) : (ms.take n ++ [x] ++ ms.drop n).length = ms.length + 1 := by
  rw [List.length_append, List.length_append, List.length_take, List.length_drop, List.length_singleton]
  omega
/-! ### the meetings, in order, and the turns that are found among them -/
theorem asc_cut {x : Rat} : ∀ {ms : List Rat}, Asc ms → ∃ A B, ms = A ++ B ∧ (∀ a ∈ A, a < x) ∧ ∀ b ∈ B, ¬ b < x
  | [], _ => ⟨[], [], rfl, (fun _ h => nomatch h), (fun _ h => nomatch h)⟩
  | m :: ms, h => by
    obtain ⟨h1, h2⟩ := List.pairwise_cons.mp h
    by_cases c : m < x
    · obtain ⟨A, B, e, a, b⟩ := asc_cut (x := x) h2
      exact ⟨m :: A, B, by rw [e]; rfl, fun z hz => by
        rcases List.mem_cons.mp hz with rfl | hz
        · exact c
        · exact a z hz, b⟩
    · refine ⟨[], m :: ms, rfl, (fun _ h => nomatch h), (fun z hz => ?_)⟩
      rcases List.mem_cons.mp hz with rfl | hz
      · exact c
      · have := h1 z hz
        grind
theorem asc_ins {x : Rat} {ms : List Rat} (h : Asc ms) (hx : x ∉ ms) : Asc (ms.take (ms.filter fun z => decide (z < x)).length ++ [x] ++ ms.drop (ms.filter fun z => decide (z < x)).length) ∧
    (∀ y, y ∈ ms.take (ms.filter fun z => decide (z < x)).length ++ [x] ++ ms.drop (ms.filter fun z => decide (z < x)).length ↔ y ∈ ms ∨ y = x) := by
  obtain ⟨A, B, e, a, b⟩ := asc_cut (x := x) h
  have ef : (ms.filter fun z => decide (z < x)) = A := by
    rw [e, List.filter_append, List.filter_eq_self.mpr fun z hz => decide_eq_true (a z hz), List.filter_eq_nil_iff.mpr fun z hz => by simpa using b z hz, List.append_nil]
  rw [ef, e, List.take_left, List.drop_left]
  rw [e] at h hx
  obtain ⟨hA, hB, hAB⟩ := List.pairwise_append.mp h
  refine ⟨?_, fun y => ?_⟩
  · unfold Asc
    rw [List.append_assoc, List.pairwise_append]
    refine ⟨hA, List.pairwise_cons.mpr ⟨fun z hz => ?_, hB⟩, fun u hu z hz => ?_⟩
    · have := b z hz
      have : z ≠ x := fun c => hx (List.mem_append.mpr (.inr (c ▸ hz)))
      grind
    · rcases List.mem_cons.mp hz with rfl | hz
      · exact a u hu
      · exact hAB u hu z hz
  · simp only [List.mem_append, List.mem_singleton]
    grind
/-- where one stands again in the middle of two -/
def midM (ms : List Rat) (k : Nat) : Rat := match ms[k + 1]? with
  | some m => (ms[k]?.getD 0 + m) * Rat.divInt 1 2
  | none => ms[k]?.getD 0 + 1
def bestAt (ts : List (Int × Int)) (q : Rat) : Nat := bst (stayF ts q) ts.length
def trn (ts : List (Int × Int)) (ms : List Rat) : Nat → List (Rat × Nat)
  | 0 => [(0, 0)]
  | k + 1 => if bestAt ts (midM ms k) = ((trn ts ms k)[(trn ts ms k).length - 1]?.getD (0, 0)).2 then trn ts ms k else trn ts ms k ++ [(ms[k]?.getD 0, bestAt ts (midM ms k))]
theorem mid_some {ms : List Rat} {k : Nat} {x m : Rat} (h : ms[k]? = some x) (h' : ms[k + 1]? = some m) : midM ms k = (x + m) * Rat.divInt 1 2 := by
  unfold midM
  rw [h, h']
  rfl
theorem mid_none {ms : List Rat} {k : Nat} {x : Rat} (h : ms[k]? = some x) (h' : ms[k + 1]? = none) : midM ms k = x + 1 := by
  unfold midM
  rw [h, h']
  rfl
theorem trn_len (ts : List (Int × Int)) (ms : List Rat) : ∀ k, 1 ≤ (trn ts ms k).length ∧ (trn ts ms k).length ≤ k + 1
  | 0 => ⟨Nat.le_refl _, Nat.le_refl _⟩
  | k + 1 => by
    have := trn_len ts ms k
    unfold trn
    split
    · omega
    · rw [List.length_append, List.length_singleton]
      omega
theorem half_mid (a b : Rat) (h : a < b) : a < (a + b) * Rat.divInt 1 2 ∧ (a + b) * Rat.divInt 1 2 < b := by
  have e : Rat.divInt 1 2 = (1 : Rat) / 2 := by rw [divInt_div]; rfl
  rw [e]
  constructor <;> grind
theorem mid_lt {ms : List Rat} {k : Nat} (h : Asc ms) (hk : k < ms.length) : ms[k] < midM ms k ∧ ∀ m, ms[k + 1]? = some m → midM ms k < m := by
  unfold midM
  rw [List.getElem?_eq_getElem hk]
  cases e : ms[k + 1]? with
  | none =>
    refine ⟨?_, fun m h => nomatch h⟩
    show ms[k] < ms[k] + 1
    grind
  | some m =>
    obtain ⟨h1, h2⟩ := List.getElem?_eq_some_iff.mp e
    have := List.pairwise_iff_getElem.mp h k (k + 1) hk h1 (by omega)
    rw [h2] at this
    have := half_mid _ _ this
    refine ⟨this.1, fun m' h => ?_⟩
    cases h
    exact this.2
/-- the best in the middle of two meetings; its deeper ones are met later, its higher ones were met before -/
theorem best_gd {ts : List (Int × Int)} {q : Rat} (D : Dps ts) : bestAt ts q < ts.length ∧ (∀ j, bestAt ts q < j → j < ts.length → q ≤ mt ts (bestAt ts q) j) ∧ ∀ i, i < bestAt ts q → mt ts i (bestAt ts q) < q := by
  have lt : bestAt ts q < ts.length := bst_lt _ D.n1
  refine ⟨lt, fun j h1 h2 => ?_, fun i hi => ?_⟩
  · exact (stay_le (D.dn _ _ h1 h2) q).mp (bst_le (stayF ts q) h2)
  · exact (stay_lt (D.dn _ _ hi lt) q).mp (bst_first (stayF ts q) hi)
theorem best_zero {ts : List (Int × Int)} (D : Dps ts) : bestAt ts 0 = 0 :=
  (Gd.zero D).best D (.inr ⟨rfl, rfl⟩) fun j h1 h2 => by
    have := (stay_slt (D.dn _ _ h1 h2) 0).mp ((Gd.zero D).hi j h1 h2)
    unfold mt
    grind
/-- the place in front of the k-th meeting -/
def pre (ms : List Rat) (k : Nat) : Rat := if k = 0 then 0 else midM ms (k - 1)
theorem pre_lt {ts : List (Int × Int)} {ms : List Rat} {k : Nat} (M : AllM ts ms) (hk : k < ms.length) : pre ms k < ms[k] := by
  unfold pre
  by_cases z : k = 0
  · rw [if_pos z]
    exact M.pos _ (List.getElem_mem hk)
  · rw [if_neg z]
    have := (mid_lt M.asc (k := k - 1) (by omega)).2 ms[k] (by rw [show k - 1 + 1 = k by omega]; exact List.getElem?_eq_getElem hk)
    exact this
/-- no meeting lies between -/
theorem pre_gap {ts : List (Int × Int)} {ms : List Rat} {k : Nat} (M : AllM ts ms) (hk : k ≤ ms.length) {m : Rat} (hm : m ∈ ms) (h : pre ms k ≤ m) : ∃ j, k ≤ j ∧ ms[j]? = some m := by
  obtain ⟨j, hj⟩ := List.getElem?_of_mem hm
  obtain ⟨jl, je⟩ := List.getElem?_eq_some_iff.mp hj
  refine ⟨j, ?_, hj⟩
  by_cases c : k ≤ j
  · exact c
  · exfalso
    have k0 : k ≠ 0 := by omega
    unfold pre at h
    rw [if_neg k0] at h
    have a := (mid_lt M.asc (k := k - 1) (by omega)).1
    have : m ≤ ms[k - 1] := by
      by_cases e : j = k - 1
      · subst e
        rw [je]
        exact Rat.le_refl
      · have := List.pairwise_iff_getElem.mp M.asc j (k - 1) jl (by omega) (by omega)
        rw [je] at this
        grind
    grind
theorem asc_le {ms : List Rat} (h : Asc ms) {k j : Nat} {m : Rat} (hk : k < ms.length) (kj : k ≤ j) (hj : ms[j]? = some m) : ms[k] ≤ m := by
  obtain ⟨jl, je⟩ := List.getElem?_eq_some_iff.mp hj
  by_cases e : k = j
  · subst e
    rw [je]
    exact Rat.le_refl
  · have := List.pairwise_iff_getElem.mp h k j hk jl (by omega)
    rw [je] at this
    grind
theorem best_step {ts : List (Int × Int)} {ms : List Rat} {k : Nat} (D : Dps ts) (M : AllM ts ms) (hk : k < ms.length) (ne : bestAt ts (midM ms k) ≠ bestAt ts (pre ms k)) : nxt ts (bestAt ts (pre ms k)) = some (ms[k], bestAt ts (midM ms k)) := by
  have pl := pre_lt M hk
  have ml := (mid_lt M.asc hk).1
  have ep : pre ms (k + 1) = midM ms k := rfl
  obtain ⟨a1, a2, a3⟩ := best_gd (q := pre ms k) D
  obtain ⟨b1, b2, b3⟩ := best_gd (q := midM ms k) D
  generalize hd : bestAt ts (pre ms k) = d at *
  generalize hd' : bestAt ts (midM ms k) = d' at *
  have later : ∀ j, d < j → j < ts.length → ms[k] ≤ mt ts d j := fun j h1 h2 => by
    obtain ⟨i, h3, h4⟩ := pre_gap M (Nat.le_of_lt hk) (M.mem d j h1 h2) (a2 j h1 h2)
    exact asc_le M.asc hk h3 h4
  have dd : d < d' := by
    rcases Nat.lt_trichotomy d d' with c | c | c
    · exact c
    · exact absurd c.symm ne
    · have x1 := b2 d c a1
      have x2 := a3 d' c
      grind
  have lt' := b3 d dd
  -- the meeting of both is this one
  have em : mt ts d d' = ms[k] := by
    obtain ⟨i, h3, h4⟩ := pre_gap M (Nat.le_of_lt hk) (M.mem d d' dd b1) (a2 d' dd b1)
    by_cases c : i = k
    · subst c
      obtain ⟨_, h5⟩ := List.getElem?_eq_some_iff.mp h4
      exact h5.symm
    · exfalso
      obtain ⟨il, h5⟩ := List.getElem?_eq_some_iff.mp h4
      have g := List.getElem?_eq_getElem (l := ms) (i := k + 1) (by omega)
      have := (mid_lt M.asc hk).2 _ g
      have := asc_le M.asc (k := k + 1) (by omega) (by omega) h4
      grind
  refine nxt_eq ⟨dd, by show d' ≤ d + (ts.length - (d + 1)); omega, em.symm, fun j h1 h2 => later j h1 (by omega), fun j h1 h2 => ?_⟩
  show ms[k] < mt ts d j
  have h1 : d' < j := h1
  have jl : j < ts.length := by omega
  have l1 := later j (by omega) jl
  rcases rlg ms[k] (mt ts d j) with c | c
  · exact c
  · exfalso
    have e : mt ts d j = mt ts d d' := by rw [em]; grind
    have x := b2 j h1 jl
    have s1 : stay (dAt ts d) ms[k] = stay (dAt ts d') ms[k] := by rw [← em]; exact stay_eq (D.dn _ _ dd b1)
    have s2 : stay (dAt ts d) ms[k] = stay (dAt ts j) ms[k] := by rw [← em, ← e]; exact stay_eq (D.dn _ _ (by omega) jl)
    have s3 : stay (dAt ts d') ms[k] < stay (dAt ts j) ms[k] := (stay_slt (D.dn _ _ h1 jl) _).mpr (by unfold mt at x; grind)
    grind
theorem trn_inv {ts : List (Int × Int)} {ms : List Rat} (D : Dps ts) (M : AllM ts ms) : ∀ k, k ≤ ms.length → ∃ init l, trn ts ms k = init ++ [l] ∧ l.2 = bestAt ts (pre ms k) ∧ ∀ r, Ch ts l r → Ch ts (0, 0) (init ++ r)
  | 0, _ => ⟨[], (0, 0), rfl, by show 0 = bestAt ts 0; exact (best_zero D).symm, fun r h => h⟩
  | k + 1, hk => by
    obtain ⟨init, l, e, el, c⟩ := trn_inv D M k (by omega)
    have ee : (trn ts ms k)[(trn ts ms k).length - 1]?.getD (0, 0) = l := by
      rw [e]
      simp
    have et : trn ts ms (k + 1) = if bestAt ts (midM ms k) = l.2 then trn ts ms k else trn ts ms k ++ [(ms[k]?.getD 0, bestAt ts (midM ms k))] := by
      rw [← ee]
      rfl
    rw [et]
    by_cases z : bestAt ts (midM ms k) = l.2
    · rw [if_pos z]
      exact ⟨init, l, e, z.symm, c⟩
    · rw [if_neg z]
      have g := List.getElem?_eq_getElem (l := ms) (i := k) (by omega)
      have n := best_step (k := k) D M (by omega) (fun x => z (by rw [x, el]))
      rw [← el] at n
      refine ⟨init ++ [l], (ms[k]?.getD 0, bestAt ts (midM ms k)), by rw [e], rfl, fun r h => ?_⟩
      rw [g] at h
      have := c (l :: r) (.step n h)
      rw [List.append_assoc]
      exact this
theorem trn_ch {ts : List (Int × Int)} {ms : List Rat} (D : Dps ts) (M : AllM ts ms) : Ch ts (0, 0) (trn ts ms ms.length) := by
  obtain ⟨init, l, e, el, c⟩ := trn_inv D M ms.length (Nat.le_refl _)
  rw [e]
  refine c [l] (.done (nxt_none ?_))
  obtain ⟨a1, a2, a3⟩ := best_gd (q := pre ms ms.length) D
  rw [← el] at a1 a2 a3
  rcases Nat.lt_or_ge (l.2 + 1) ts.length with h | h
  · exfalso
    obtain ⟨j, h1, h2⟩ := pre_gap M (Nat.le_refl _) (M.mem l.2 (l.2 + 1) (by omega) h) (a2 _ (by omega) h)
    have := (List.getElem?_eq_some_iff.mp h2).1
    omega
  · exact h
theorem Mts.ins {ts : List (Int × Int)} {i j : Nat} {ms : List Rat} (ij : i < j) (jn : j < ts.length) (h : mt ts i j ∉ ms) (M : Mts ts i j ms) : Mts ts i (j + 1) (ms.take (ms.filter fun z => decide (z < mt ts i j)).length ++ [mt ts i j] ++ ms.drop (ms.filter fun z => decide (z < mt ts i j)).length) := by
  obtain ⟨h1, h2⟩ := asc_ins M.asc h
  refine ⟨h1, fun x => (h2 x).trans ⟨fun c => ?_, fun ⟨a, b, k1, k2, k3, e⟩ => ?_⟩, by rw [ins_len]; have := M.len; omega⟩
  · rcases c with c | c
    · obtain ⟨a, b, k1, k2, k3, e⟩ := (M.mem x).mp c
      exact ⟨a, b, k1, k2, by omega, e⟩
    · exact ⟨i, j, ij, jn, .inr ⟨rfl, by omega⟩, c⟩
  · by_cases c : a = i ∧ b = j
    · obtain ⟨rfl, rfl⟩ := c
      exact .inr e
    · exact .inl ((M.mem x).mpr ⟨a, b, k1, k2, by omega, e⟩)
def spTurns (K : PySem.W.Frag) : Sp := fun vs H Q _ => ∃ (a : Addr) (xs : List V) (ts : List (Int × Int)), vs = [.ref a] ∧ SqT K H a xs ∧ IsA K H xs (ts.map dPt) ∧ DepOk ts ∧
  ∀ b ys rs H', Same H H' → Ch ts (0, 0) rs → H' b = some (.tup ys) → IsA K H' ys (rs.map dTurn) → Q (.ref b) H'
def dOptT : Option (Rat × Nat) → PyData
  | none => .none
  | some r => dTurn r
def spNext (K : PySem.W.Frag) : Sp := fun vs H Q _ => ∃ (a : Addr) (xs : List V) (ts : List (Int × Int)) (d : Nat), vs = [.ref a, .int (d : Nat)] ∧ SqT K H a xs ∧ IsA K H xs (ts.map dPt) ∧ DepOk ts ∧ d < ts.length ∧ ∀ v H', Same H H' → Is K H' v (dOptT (nxt ts d)) → Q v H'
theorem mt_sz {ts : List (Int × Int)} {i j : Nat} (D : DepOk ts) (ij : i < j) (jn : j < ts.length) : Sz 40 (mt ts i j) := by
  have a := D.dps.dn i j ij jn
  have b := D.b _ (List.mem_of_getElem? (show ts[i]? = some (dAt ts i) by rw [dAt, List.getElem?_eq_getElem (by omega)]; rfl))
  have c := D.b _ (List.mem_of_getElem? (show ts[j]? = some (dAt ts j) by rw [dAt, List.getElem?_eq_getElem (by omega)]; rfl))
  exact Sz.divInt (by omega) (by omega) (by omega)
theorem Ch.facts {ts : List (Int × Int)} (hD : DepOk ts) : ∀ {l : List (Rat × Nat)} {p : Rat × Nat}, Ch ts p l → p.2 < ts.length → Sz 40 p.1 → l.length + p.2 ≤ ts.length ∧ ∀ r ∈ l, Sz 40 r.1 ∧ r.2 < ts.length
  | _, p, .done e, pl, zp => ⟨by show 1 + p.2 ≤ _; omega, fun r hr => by
      rw [List.mem_singleton.mp hr]
      exact ⟨zp, pl⟩⟩
  | _, p, .step (p' := p') (l := l) e k, pl, zp => by
    have ok := nxt_some e
    have h1 := ok.dp
    have h2 := ok.lt
    obtain ⟨a, b⟩ := Ch.facts hD k (by omega) (by rw [ok.e]; exact mt_sz hD h1 (by omega))
    refine ⟨by rw [List.length_cons]; omega, fun r hr => ?_⟩
    rcases List.mem_cons.mp hr with rfl | hr
    · exact ⟨zp, pl⟩
    · exact b r hr
theorem plain_best (ts : List (Int × Int)) (q : Rat) (i : Nat) : plainD (dBest ts q i) = true := by
  unfold dBest dAs
  rw [plainD, plainDs, plainDs, plainDs, plain_rat2, plainD]
  rfl
theorem dep_best (ts : List (Int × Int)) (q : Rat) (i : Nat) : depD (dBest ts q i) = 2 := by
  unfold dBest dAs
  simp [depD, depDs, dep_rat2]
theorem Ch.at {ts : List (Int × Int)} (D : Dps ts) : ∀ {l : List (Rat × Nat)} {p : Rat × Nat}, Ch ts p l → Gd ts p.1 p.2 → ∀ k r, l[k]? = some r → Gd ts r.1 r.2 ∧ nxt ts r.2 = l[k + 1]?
  | _, p, .done e, g, 0, r, h => by
    obtain rfl : p = r := by simpa using h
    exact ⟨g, by rw [e]; rfl⟩
  | _, p, .done e, g, k + 1, r, h => by simp at h
  | _, p, .step (p' := p') (l := l) e c, g, 0, r, h => by
    obtain rfl : p = r := by simpa using h
    refine ⟨g, ?_⟩
    rw [e]
    cases c with
    | done _ => rfl
    | step _ _ => rfl
  | _, p, .step (p' := p') (l := l) e c, g, k + 1, r, h => by
    obtain ⟨_, _, _, g', _⟩ := g.next D e
    exact Ch.at D c g' k r (by simpa using h)
/-- the depth between two turns, or behind the last one -/
theorem Ch.best {ts : List (Int × Int)} {rs : List (Rat × Nat)} (D : Dps ts) (c : Ch ts (0, 0) rs) {k : Nat} {r : Rat × Nat} (hr : rs[k]? = some r) {q : Rat} (h1 : r.1 < q) (h2 : ∀ r', rs[k + 1]? = some r' → q ≤ r'.1) : bst (stayF ts q) ts.length = r.2 := by
  obtain ⟨g, n⟩ := Ch.at D c (Gd.zero D) k r hr
  refine g.best D (.inl h1) fun j j1 j2 => ?_
  cases e : rs[k + 1]? with
  | none =>
    rw [e] at n
    have := nxt_none' n
    omega
  | some r' =>
    rw [e] at n
    obtain ⟨_, _, _, _, _, le⟩ := g.next D n
    have := le j j1 j2
    have := h2 r' e
    grind
theorem plain_turns : ∀ rs : List (Rat × Nat), plainDs (rs.map dTurn) = true
  | [] => by rw [List.map_nil, plainDs]
  | r :: rs => by
    rw [List.map_cons, plainDs, plain_turns rs]
    unfold dTurn dAs
    rw [plainD, plainDs, plainDs, plainDs, plain_rat2, plainD]
    rfl
theorem dep_turns : ∀ rs : List (Rat × Nat), depDs (rs.map dTurn) ≤ 2
  | [] => by simp [depDs]
  | r :: rs => by
    have := dep_turns rs
    rw [List.map_cons, depDs]
    have e : depD (dTurn r) = 2 := by simp [dTurn, dAs, depD, depDs, dep_rat2]
    rw [e]
    omega
end Z

/-! zip of a tuple and a list. -/
namespace Z
open PySem PySem.Spec PyProof.Rows L2
/-- pairs of an item of the tuple at a and one of the list at b -/
def ItzM (K : PySem.W.Frag) (a b : Addr) : It where
  go := fun i H => ∃ (xs ys : List V) (x y : V), SqT K H a xs ∧ SqL K H b ys ∧ xs[i]? = some x ∧ ys[i]? = some y
  yld := fun i H v H' => ∃ T x y, v = .ref T ∧ H T = none ∧ H' = upd H T (.tup [x, y]) ∧ (∀ xs, SqT K H a xs → xs[i]? = some x) ∧ ∀ ys, SqL K H b ys → ys[i]? = some y
  stop := fun i H => ∃ xs ys : List V, SqT K H a xs ∧ SqL K H b ys ∧ xs.length = i ∧ ys.length = i
theorem turn_zipM {P : Program} {w : World} {K : PySem.W.Frag} {es : List Expr} {m : Nat} {tp : Pos} {a b zz t1 t2 j1 j2 : Addr} (S : ZipSep2 zz t1 t2 j1 j2 [j1, a] [j2, b]) (n1 : a ≠ j1) (n2 : b ≠ j2) :
    Turn P w K (.Tuple es m tp) (ItzM K a b) [zz, t1, t2, j1, j2] zz (fun i h => IsZip h zz t1 t2 .none ∧ IsTupOf2 h t1 (.ref j1) (.ref j2) ∧ (∃ x y, IsTupOf2 h t2 x y) ∧ h.IsTupleIter j1 a i ∧ h.IsListIter j2 b i) where
  mem := List.mem_cons_self ..
  obj := fun i h st c hc => by
    obtain ⟨g1, g2, ⟨x, y, g3⟩, ⟨o1, e1, _, d1⟩, ⟨o2, e2, _, d2⟩⟩ := st
    simp only [List.mem_cons, List.not_mem_nil, or_false] at hc
    rcases hc with rfl | rfl | rfl | rfl | rfl
    · exact ⟨_, g1, fun v q => nomatch q⟩
    · exact ⟨_, g2, fun v q => nomatch q⟩
    · exact ⟨_, g3, fun v q => nomatch q⟩
    · refine ⟨o1, e1, fun v q => ?_⟩
      rw [d1] at q
      cases q
    · refine ⟨o2, e2, fun v q => ?_⟩
      rw [d2] at q
      cases q
  keep := fun i h h' st k => by
    obtain ⟨g1, g2, ⟨x, y, g3⟩, g4, g5⟩ := st
    refine ⟨k zz (by simp) _ g1, k t1 (by simp) _ g2, ⟨x, y, k t2 (by simp) _ g3⟩, g4.at fun o q => ?_, g5.at fun o q => ?_⟩
    · exact k j1 (by simp) o q
    · exact k j2 (by simp) o q
  item := by
    intro X e1 e2 e3 calm i pins s σ H E I fresh st hg
    subst e1 e2 e3
    obtain ⟨g1, g2, ⟨x0, y0, g3⟩, g4, g5⟩ := st
    obtain ⟨xs, ys, x, y, qx, qy, hx, hy⟩ := hg
    obtain ⟨us, rv, pu, _⟩ := I.tuple qx
    obtain ⟨ws, rw', pw, _⟩ := I.list qy
    obtain ⟨u, hu, ru⟩ := rv.get hx
    obtain ⟨u', hu', ru'⟩ := rw'.get hy
    have zl : zz < s.heap.objs.size := Heap.lt_size g1
    have hnd : X.A.in1.handled = none := I.ok.hd calm
    have lu : i < us.toArray.size := by rw [List.size_toArray]; exact (List.getElem?_eq_some_iff.mp hu).1
    have lw : i < ws.toArray.size := by rw [List.size_toArray]; exact (List.getElem?_eq_some_iff.mp hu').1
    refine wpAny_pyNext_zipD2_item S (Draws.tuple hnd j1 a n1 us.toArray) (Draws.list hnd j2 b n2 ws.toArray) g1 g2 g3 ⟨g4, pu⟩ ⟨g5, pw.isList⟩ lu lw fun v1 v2 h' tk y1 y2 k1 k2 s1 s2 kT ksz kk => ?_
    obtain rfl : u = v1 := Option.some.inj ((show us.toArray[i]? = some u by simpa using hu).symm.trans y1)
    obtain rfl : u' = v2 := Option.some.inj ((show ws.toArray[i]? = some u' by simpa using hu').symm.trans y2)
    refine ⟨_, rfl, wpAny_letOwnedTupleGo_zip (s := { s with heap := h', toks := tk }) k1 fun h2 kz sb => ?_⟩
    have kept : ∀ c o, c ∉ [zz, t1, t2, j1, j2] → s.heap.get? c = some o → h2.get? c = some o := fun c o hb q => by
      simp only [List.mem_cons, List.not_mem_nil, or_false, not_or] at hb
      exact (sb.2 c hb.1).trans (kk c o hb.1 hb.2.2.1 hb.2.2.2.1 hb.2.2.2.2 q)
    have big : ∀ c, c ∈ [zz, t1, t2, j1, j2] → c < s.heap.objs.size := fun c hc => by
      simp only [List.mem_cons, List.not_mem_nil, or_false] at hc
      rcases hc with rfl | rfl | rfl | rfl | rfl
      · exact zl
      · exact Heap.lt_size g2
      · exact Heap.lt_size g3
      · obtain ⟨_, q, _⟩ := g4; exact Heap.lt_size q
      · obtain ⟨_, q, _⟩ := g5; exact Heap.lt_size q
    have made : ObjOk X.prog X.w (upd H s.heap.objs.size (.tup [x, y])) h2 s.heap.objs.size (.tup [x, y]) :=
      ⟨(by show 2 ≤ sizeLine; decide), [u, u'], .cons ru (.cons ru' .nil), ⟨_, (sb.2 _ (Nat.ne_of_gt zl)).trans kT, rfl, _, rfl⟩⟩
    have I1 : Inv X pins σ (upd H s.heap.objs.size (.tup [x, y])) { s with heap := h2, toks := tk } := I.turnedNew (ch := [zz, t1, t2, j1, j2]) kept fresh (Nat.le_refl _) made
    refine ⟨.ref s.heap.objs.size, _, I1, rfl, ⟨_, x, y, rfl, I.hok.fresh (Nat.le_refl _), rfl, fun l hl => by rw [I.tuple_inj hl qx]; exact hx, fun l hl => ?_⟩, ⟨kz, ?_, ⟨u, u', ?_⟩, ?_, ?_⟩, fun c hc => ?_⟩
    · rw [I.list_inj hl qy]
      exact hy
    · exact (sb.2 _ S.TIz).trans (kk _ _ S.TIz S.TITO S.TIi1 S.TIi2 g2)
    · exact (sb.2 _ S.TOz).trans k2
    · exact s1.1.at fun o q => (sb.2 _ S.zi1.symm).trans q
    · exact s2.1.at fun o q => (sb.2 _ S.zi2.symm).trans q
    · rw [upd_ne (Nat.ne_of_lt (big c hc))]
      exact (fresh c hc).1
  done := by
    intro X e1 e2 e3 calm i pins s σ H E I fresh st hg
    subst e1 e2 e3
    obtain ⟨g1, g2, ⟨x0, y0, g3⟩, g4, g5⟩ := st
    obtain ⟨xs, ys, qx, qy, lx, ly⟩ := hg
    obtain ⟨us, rv, pu, _⟩ := I.tuple qx
    obtain ⟨ws, rw', pw, _⟩ := I.list qy
    have l1 := rv.length
    have l2 := rw'.length
    have hnd : X.A.in1.handled = none := I.ok.hd calm
    refine wpAny_pyNext_zipD2_end S (Draws.tuple hnd j1 a n1 us.toArray) (Draws.list hnd j2 b n2 ws.toArray) g1 g2 g3 ⟨g4, pu⟩ ⟨g5, pw.isList⟩ (by rw [List.size_toArray]; omega) (by rw [List.size_toArray]; omega) (.inl (by rw [List.size_toArray]; omega)) fun h' tk kk => ⟨rfl, ?_⟩
    exact I.turnedL (ch := [zz, t1, t2, j1, j2]) (fun c o hb q => by
      simp only [List.mem_cons, List.not_mem_nil, or_false, not_or] at hb
      exact kk c o hb.1 hb.2.2.1 hb.2.2.2.1 hb.2.2.2.2 q) fresh
  self := fun A i s Q E st h => wpAny_pyIter_zip st.1 h
theorem nmem2 {x p q : Nat} (h1 : x ≠ p) (h2 : x ≠ q) : x ∉ [p, q] := by simp [h1, h2]
theorem sepM {n a b : Nat} (la : a < n) (lb : b < n) : ZipSep2 (n + 4) (n + 2) (n + 3) n (n + 1) [n, a] [n + 1, b] where
  TIz := (by omega : n + 2 ≠ n + 4)
  TOz := (by omega : n + 3 ≠ n + 4)
  TITO := (by omega : n + 2 ≠ n + 3)
  TIi1 := (by omega : n + 2 ≠ n)
  mem1 := List.mem_cons_self ..
  zf1 := nmem2 (by omega) (by omega)
  Tf1 := nmem2 (by omega) (by omega)
  TIi2 := (by omega : n + 2 ≠ n + 1)
  mem2 := List.mem_cons_self ..
  zf2 := nmem2 (by omega) (by omega)
  Tf2 := nmem2 (by omega) (by omega)
  sep1_2 := nmem2 (by omega) (by omega)
  sep2_1 := nmem2 (by omega) (by omega)
def iZipM (K : PySem.W.Frag) (ta : TA) : TI := fun σ H R => ta σ H fun vs H1 => ∃ a b xs ys, vs = [.ref a, .ref b] ∧ SqT K H1 a xs ∧ SqL K H1 b ys ∧ R (ItzM K a b) H1
theorem pi_zipM {X : Cx} {e e2 : Expr} {ta : TA} {p pos tp : Pos} {es : List Expr} {m : Nat} (hg : Gl X "zip") (hm : X.mg "zip" = none) (ha : PA X [e, e2] ta)
    (h1 : starEach [e, e2] X.env = (false, eval e X.env) :: starEach [e2] X.env := by rfl) (h2 : (backTo pos (starEach [e2] X.env)).any (·.1) = false := by rfl) :
    PI X (.Tuple es m tp) (.Call (.Name "zip" p) [e, e2] [] pos) (iZipM X.K ta) := by
  refine ⟨fun pins s σ H R I h => ?_⟩
  refine Call_ (ld_blt I hg hm PyProof.Rows.boot_zip (PyProof.Rows.callWith_type1 (thn (ha.run pos pins s σ H _ I h) fun us s1 ⟨vs, H1, I1, r1, q1⟩ => ?_) h1 h2))
  obtain ⟨a, b, xs, ys, rfl, qx, qy, q⟩ := q1
  obtain ⟨u1, u2, rfl, r1, r2⟩ := r1.two
  cases r1
  cases r2
  obtain ⟨its, _, p1, _⟩ := I1.tuple qx
  obtain ⟨its2, _, p2, _⟩ := I1.list qy
  have la : a < s1.heap.objs.size := by
    obtain ⟨o, ho, _⟩ := id p1
    exact Heap.lt_size ho
  have lb : b < s1.heap.objs.size := p2.lt
  refine zip_begins2 (begins_tuple a its.toArray) (begins_list b its2.toArray) p1 p2.isList fun h' k1 k2 k3 k4 k5 ksz kk => wpAny_pyIter_zip k1 ?_
  have I2 : Inv X pins σ H1 { s1 with heap := h' } := I1.kept (t' := s1.toks) kk
  refine ⟨s1.heap.objs.size + 4, _, _, _, H1, rfl, I2, turn_zipM (sepM la lb) (Nat.ne_of_lt la) (Nat.ne_of_lt (Nat.lt_succ_of_lt lb)), ⟨k1, k2, ⟨_, _, k3⟩, ⟨_, k4, rfl, rfl⟩, ⟨_, k5, rfl, rfl⟩⟩, fun c hc => ?_, q⟩
  have hle : s1.heap.objs.size ≤ c := by
    simp only [List.mem_cons, List.not_mem_nil, or_false] at hc
    rcases hc with rfl | rfl | rfl | rfl | rfl
    · exact Nat.le_add_right _ _
    · exact Nat.le_add_right _ _
    · exact Nat.le_add_right _ _
    · exact Nat.le_refl _
    · exact Nat.le_add_right _ _
  exact I1.fpOk hle (I1.hok.fresh hle)
/-- a loop over such pairs -/
theorem for_zipM {K : PySem.W.Frag} {a b : Addr} {xs ys : List V} {g : TG} {tb : TS} {D : Ends} {σ : L2.St} {H : Hp} (hl : xs.length = ys.length) (Pv : Nat → L2.St → Hp → Prop) (h0 : Pv 0 σ H) (hq : ∀ i σ H, Pv i σ H → SqT K H a xs ∧ SqL K H b ys)
    (hs : ∀ (i : Nat) (x y : V) (T : Addr) (σ : L2.St) (H : Hp), xs[i]? = some x → ys[i]? = some y → Pv i σ H → H T = none → g (.ref T) σ (upd H T (.tup [x, y])) fun σ2 H2 => tb { D with nx := Pv (i + 1), ct := Pv (i + 1), bk := D.nx } σ2 H2)
    (hd : ∀ σ H, Pv xs.length σ H → D.nx σ H) : ∃ W : Nat → Nat → L2.St → Hp → Prop, (∃ m, W 0 m σ H) ∧ ∀ i m σ H, W i m σ H → ((ItzM K a b).stop i H ∧ D.nx σ H) ∨
      ((ItzM K a b).go i H ∧ ∃ N : L2.St → Hp → Prop, (∀ σ' H', N σ' H' → ∃ m', m' < m ∧ W (i + 1) m' σ' H') ∧ ∀ v H', (ItzM K a b).yld i H v H' → g v σ H' fun σ2 H2 => tb { D with nx := N, ct := N, bk := D.nx } σ2 H2) := by
  refine ⟨fun i m σ H => m = xs.length - i ∧ i ≤ xs.length ∧ Pv i σ H, ⟨xs.length, rfl, Nat.zero_le _, h0⟩, fun i m σ H hw => ?_⟩
  obtain ⟨rfl, hi, p⟩ := hw
  obtain ⟨qx, qy⟩ := hq i σ H p
  by_cases c : i < xs.length
  · have gx := List.getElem?_eq_getElem c
    have gy := List.getElem?_eq_getElem (l := ys) (i := i) (by omega)
    refine .inr ⟨⟨xs, ys, _, _, qx, qy, gx, gy⟩, Pv (i + 1), fun σ' H' p' => ⟨xs.length - (i + 1), by omega, rfl, c, p'⟩, fun v H' hv => ?_⟩
    obtain ⟨T, x, y, rfl, nT, rfl, f1, f2⟩ := hv
    exact hs i x y T σ H (f1 xs qx) (f2 ys qy) p nT
  · have e : i = xs.length := by omega
    subst e
    exact .inl ⟨⟨xs, ys, qx, qy, rfl, hl.symm⟩, hd σ H p⟩
end Z

namespace Z
open PySem PySem.Spec PyProof.Rows L2
/-! ### what dozing costs -/
/-- the depth of the last one of the first n turns that lies in front of L -/
def lastD (rs : List (Rat × Nat)) (L : Rat) : Nat → Nat
  | 0 => 0
  | n + 1 => if (rs[n]?.getD (0, 0)).1 < L then (rs[n]?.getD (0, 0)).2 else lastD rs L n
/-- how far the costs are told after i turns -/
def endE (rs : List (Rat × Nat)) (L : Rat) (i : Nat) : Rat := match rs[i]? with
  | some r => if r.1 < L then r.1 else L
  | none => L
def dozeS (ts : List (Int × Int)) (rs : List (Rat × Nat)) (L : Rat) (i : Nat) : Rat := stayF ts (endE rs L i) (lastD rs L i)
def dozeV (ts : List (Int × Int)) (L : Rat) : Rat := stayF ts L (bestAt ts L) + ((dAt ts (bestAt ts L)).2 : Rat)
theorem lastD_yes {rs : List (Rat × Nat)} {L : Rat} {i : Nat} {r : Rat × Nat} (h : rs[i]? = some r) (l : r.1 < L) : lastD rs L (i + 1) = r.2 := by
  unfold lastD
  rw [h]
  exact if_pos l
theorem lastD_no {rs : List (Rat × Nat)} {L : Rat} {i : Nat} {r : Rat × Nat} (h : rs[i]? = some r) (l : ¬ r.1 < L) : lastD rs L (i + 1) = lastD rs L i := by
  show (if (rs[i]?.getD (0, 0)).1 < L then _ else _) = _
  rw [h]
  exact if_neg l
theorem ch_head {ts : List (Int × Int)} {rs : List (Rat × Nat)} {p : Rat × Nat} (c : Ch ts p rs) : rs[0]? = some p := by
  cases c with
  | done _ => rfl
  | step _ _ => rfl
theorem ch_up {ts : List (Int × Int)} {rs : List (Rat × Nat)} (D : Dps ts) (c : Ch ts (0, 0) rs) {i : Nat} {r r' : Rat × Nat} (h : rs[i]? = some r) (h' : rs[i + 1]? = some r') : r.1 < r'.1 ∧ r'.1 = mt ts r.2 r'.2 ∧ r.2 < r'.2 ∧ r'.2 < ts.length := by
  obtain ⟨g, n⟩ := Ch.at D c (Gd.zero D) i r h
  rw [h'] at n
  obtain ⟨a, b, b2, _, e, _⟩ := g.next D n
  exact ⟨a, e, b, b2⟩
theorem ch_pos {ts : List (Int × Int)} {rs : List (Rat × Nat)} (D : Dps ts) (c : Ch ts (0, 0) rs) {i : Nat} {r : Rat × Nat} (h : rs[i]? = some r) : 0 ≤ r.1 ∧ r.2 < ts.length := by
  obtain ⟨g, _⟩ := Ch.at D c (Gd.zero D) i r h
  exact ⟨g.t0, g.dn⟩
theorem doze0 {ts : List (Int × Int)} {rs : List (Rat × Nat)} {L : Rat} (D : Dps ts) (c : Ch ts (0, 0) rs) (L0 : 0 ≤ L) : dozeS ts rs L 0 = 0 := by
  have h := ch_head c
  have e : endE rs L 0 = 0 := by
    unfold endE
    rw [h]
    show (if (0 : Rat) < L then 0 else L) = 0
    split <;> grind
  unfold dozeS
  rw [e]
  show stay (dAt ts 0) 0 = 0
  unfold stay
  rw [D.w0]
  grind
/-- one turn of which the time lies in front of L -/
theorem doze_yes {ts : List (Int × Int)} {rs : List (Rat × Nat)} {L : Rat} {i : Nat} {r : Rat × Nat} (D : Dps ts) (c : Ch ts (0, 0) rs) (h : rs[i]? = some r) (l : r.1 < L) : dozeS ts rs L (i + 1) = dozeS ts rs L i + ((dAt ts r.2).1 : Rat) * (endE rs L (i + 1) - r.1) := by
  have e : endE rs L i = r.1 := by
    unfold endE
    rw [h]
    exact if_pos l
  -- at its time the depth before costs as much
  have es : stayF ts r.1 (lastD rs L i) = stayF ts r.1 r.2 := by
    cases i with
    | zero =>
      rw [ch_head c] at h
      cases h
      rfl
    | succ j =>
      have jl : j < rs.length := by
        have := (List.getElem?_eq_some_iff.mp h).1
        omega
      have hj := List.getElem?_eq_getElem jl
      obtain ⟨a, b, d, k⟩ := ch_up D c hj h
      rw [lastD_yes hj (by grind), b]
      exact stay_eq (D.dn _ _ d k)
  unfold dozeS
  rw [lastD_yes h l, e, es]
  unfold stayF stay
  grind
theorem doze_no {ts : List (Int × Int)} {rs : List (Rat × Nat)} {L : Rat} {i : Nat} {r : Rat × Nat} (D : Dps ts) (c : Ch ts (0, 0) rs) (h : rs[i]? = some r) (l : ¬ r.1 < L) : dozeS ts rs L (i + 1) = dozeS ts rs L i ∧ endE rs L (i + 1) = L ∧ endE rs L i = L := by
  have e : endE rs L i = L := by
    unfold endE
    rw [h]
    exact if_neg l
  have e2 : endE rs L (i + 1) = L := by
    cases h' : rs[i + 1]? with
    | none =>
      unfold endE
      rw [h']
    | some r' =>
      have := (ch_up D c h h').1
      unfold endE
      rw [h']
      exact if_neg (by grind)
  unfold dozeS
  rw [lastD_no h l, e, e2]
  exact ⟨rfl, rfl, rfl⟩
theorem doze_enter {ts : List (Int × Int)} {rs : List (Rat × Nat)} {L : Rat} {i : Nat} {r : Rat × Nat} (D : Dps ts) (c : Ch ts (0, 0) rs) (L0 : 0 ≤ L) (h : rs[i]? = some r) (l : r.1 < L ∨ i = 0) : lastD rs L (i + 1) = r.2 ∧ dozeS ts rs L (i + 1) = dozeS ts rs L i + ((dAt ts r.2).1 : Rat) * (endE rs L (i + 1) - r.1) := by
  by_cases z : r.1 < L
  · exact ⟨lastD_yes h z, doze_yes D c h z⟩
  · have i0 := l.resolve_left z
    subst i0
    have e := ch_head c
    rw [h] at e
    cases e
    have z : ¬ (0 : Rat) < L := z
    have L1 : L = 0 := by grind
    obtain ⟨a, b, _⟩ := doze_no D c h z
    refine ⟨lastD_no h z, ?_⟩
    rw [a, b, L1]
    show _ = _ + _ * (0 - 0 : Rat)
    grind
theorem last_cases {ts : List (Int × Int)} {rs : List (Rat × Nat)} (D : Dps ts) (c : Ch ts (0, 0) rs) (L : Rat) (L0 : 0 ≤ L) : ∀ n, n ≤ rs.length → (lastD rs L n = 0 ∧ (n = 0 ∨ L = 0)) ∨ ∃ i r, i < n ∧ rs[i]? = some r ∧ r.1 < L ∧ lastD rs L n = r.2 ∧ ∀ r', i + 1 < n → rs[i + 1]? = some r' → L ≤ r'.1
  | 0, _ => .inl ⟨rfl, .inl rfl⟩
  | n + 1, hn => by
    have g := List.getElem?_eq_getElem (l := rs) (i := n) (by omega)
    by_cases l : rs[n].1 < L
    · exact .inr ⟨n, rs[n], by omega, g, l, lastD_yes g l, fun r' h => by omega⟩
    · rw [lastD_no g l]
      rcases last_cases D c L L0 n (by omega) with ⟨a, b⟩ | ⟨i, r, h1, h2, h3, h4, h5⟩
      · refine .inl ⟨a, .inr ?_⟩
        rcases b with b | b
        · subst b
          rw [ch_head c] at g
          have := Option.some.inj g
          rw [← this] at l
          have : ¬ (0 : Rat) < L := l
          grind
        · exact b
      · refine .inr ⟨i, r, by omega, h2, h3, h4, fun r' k1 k2 => ?_⟩
        by_cases z : i + 1 < n
        · exact h5 r' z k2
        · have : i + 1 = n := by omega
          subst this
          rw [g] at k2
          cases k2
          exact Rat.not_lt.mp l
theorem lastD_best {ts : List (Int × Int)} {rs : List (Rat × Nat)} (D : Dps ts) (c : Ch ts (0, 0) rs) {L : Rat} (L0 : 0 ≤ L) : lastD rs L rs.length = bestAt ts L := by
  rcases last_cases D c L L0 rs.length (Nat.le_refl _) with ⟨a, b⟩ | ⟨i, r, h1, h2, h3, h4, h5⟩
  · have : L = 0 := by
      rcases b with b | b
      · have := ch_head c
        rw [List.getElem?_eq_none (by omega)] at this
        cases this
      · exact b
    rw [this, best_zero D, ← this, a]
  · rw [h4]
    exact (Ch.best D c h2 h3 fun r' hr' => h5 r' (List.getElem?_eq_some_iff.mp hr').1 hr').symm
theorem doze_end {ts : List (Int × Int)} {rs : List (Rat × Nat)} (D : Dps ts) (c : Ch ts (0, 0) rs) {L : Rat} (L0 : 0 ≤ L) : dozeS ts rs L rs.length + ((dAt ts (lastD rs L rs.length)).2 : Rat) = dozeV ts L := by
  have e : endE rs L rs.length = L := by
    unfold endE
    rw [List.getElem?_eq_none (Nat.le_refl _)]
  unfold dozeS dozeV
  rw [lastD_best D c L0, e]
theorem doze_ge {ts : List (Int × Int)} (D : Dps ts) (L : Rat) : stayF ts L (bestAt ts L) ≤ dozeV ts L := by
  have b := bst_lt (stayF ts L) D.n1
  have := (D.p0 _ b).2
  have : (0 : Rat) ≤ ((dAt ts (bestAt ts L)).2 : Rat) := Rat.intCast_nonneg.mpr this
  unfold dozeV
  grind
theorem doze_le {ts : List (Int × Int)} (D : Dps ts) {L : Rat} (L0 : 0 ≤ L) : dozeV ts L ≤ 2 * stayF ts L (bestAt ts L) := by
  have b := bst_lt (stayF ts L) D.n1
  have h1 : (0 : Rat) ≤ ((dAt ts (bestAt ts L)).1 : Rat) := Rat.intCast_nonneg.mpr (D.p0 _ b).1
  have := Rat.mul_nonneg h1 L0
  unfold dozeV stayF stay
  grind
theorem doze_mono {ts : List (Int × Int)} (D : Dps ts) {L M : Rat} (h : L < M) : dozeV ts L ≤ dozeV ts M := by
  obtain ⟨a1, a2, a3⟩ := best_gd (q := L) D
  obtain ⟨b1, b2, b3⟩ := best_gd (q := M) D
  have le : bestAt ts L ≤ bestAt ts M := by
    rcases Nat.lt_or_ge (bestAt ts M) (bestAt ts L) with c | c
    · have x := b2 _ c a1
      have y := a3 _ c
      grind
    · exact c
  have w : ((dAt ts (bestAt ts L)).2 : Rat) ≤ ((dAt ts (bestAt ts M)).2 : Rat) := by
    rcases Nat.lt_or_ge (bestAt ts L) (bestAt ts M) with c | c
    · exact Rat.intCast_le_intCast.mpr (Int.le_of_lt (D.up _ _ c b1))
    · rw [show bestAt ts L = bestAt ts M by omega]
      exact Rat.le_refl
  have s1 : stayF ts L (bestAt ts L) ≤ stayF ts L (bestAt ts M) := bst_le (stayF ts L) b1
  have s2 : stayF ts L (bestAt ts M) ≤ stayF ts M (bestAt ts M) := by
    have h1 : (0 : Rat) ≤ ((dAt ts (bestAt ts M)).1 : Rat) := Rat.intCast_nonneg.mpr (D.p0 _ b1).1
    have := Rat.mul_nonneg h1 (show 0 ≤ M - L by grind)
    unfold stayF stay
    grind
  unfold dozeV
  grind
/-! ### sizes -/
theorem dAt_b {ts : List (Int × Int)} (hD : DepOk ts) (i : Nat) : (dAt ts i).1.natAbs < 1000000000000 ∧ (dAt ts i).2.natAbs < 1000000000000 := by
  unfold dAt
  cases h : ts[i]? with
  | none => exact ⟨by decide, by decide⟩
  | some t =>
    have := hD.b t (List.mem_of_getElem? h)
    show t.1.natAbs < _ ∧ t.2.natAbs < _
    omega
theorem endE_sz {rs : List (Rat × Nat)} {L : Rat} {i : Nat} {n : Nat} (h : ∀ r ∈ rs, Sz n r.1) (hL : Sz n L) : Sz n (endE rs L i) := by
  unfold endE
  cases e : rs[i]? with
  | none => exact hL
  | some r =>
    show Sz n (if r.1 < L then r.1 else L)
    split
    · exact h r (List.mem_of_getElem? e)
    · exact hL
theorem dozeS_sz {ts : List (Int × Int)} {rs : List (Rat × Nat)} {L : Rat} {i n : Nat} (hD : DepOk ts) (h : ∀ r ∈ rs, Sz n r.1) (hL : Sz n L) : Sz (n + 81) (dozeS ts rs L i) := stay_sz (dAt_b hD _) (endE_sz h hL)
theorem dozeV_sz {ts : List (Int × Int)} {L : Rat} {n : Nat} (hD : DepOk ts) (hL : Sz n L) : Sz (n + 122) (dozeV ts L) :=
  ((stay_sz (dAt_b hD _) hL).add (sz_int (n := 40) (by have := (dAt_b hD (bestAt ts L)).2; omega) (by decide))).mono (by omega)
def spDoze (K : PySem.W.Frag) : Sp := fun vs H Q _ => ∃ (a : Addr) (y : V) (xs : List V) (ts : List (Int × Int)) (L : Rat), vs = [.ref a, y] ∧ SqT K H a xs ∧ IsA K H xs (ts.map dPt) ∧ DepOk ts ∧ Is K H y (rat2 L) ∧ 0 ≤ L ∧ Sz 1000 L ∧ ∀ v H', Same H H' → Is K H' v (rat2 (dozeV ts L)) → Q v H'
def spLawDoze (K : PySem.W.Frag) : Sp := fun vs H Q _ => ∃ (a b : Addr) (y : V) (xs ys : List V) (ts : List (Int × Int)) (rs : List (Rat × Nat)) (L : Rat), vs = [.ref a, .ref b, y] ∧ SqT K H a xs ∧ IsA K H xs (ts.map dPt) ∧ DepOk ts ∧ SqT K H b ys ∧ IsA K H ys (rs.map dTurn) ∧ Ch ts (0, 0) rs ∧ Is K H y (rat2 L) ∧ 0 ≤ L ∧ Sz 1000 L ∧ ∀ v H', Same H H' → Is K H' v (rat2 (dozeV ts L)) → Q v H'
end Z

namespace Z
open PySem PySem.Spec PyProof.Rows L2
def topS (i : Nat) : Stmt := PySem.Challenge.pw_sparewatts_k39_whole_dozing_costs_at_mos.main.body.getD i (.Pass ⟨0, 0, 0, 0⟩)
abbrev sratio : Stmt := topS 3
abbrev splus : Stmt := topS 4
abbrev sminus : Stmt := topS 5
abbrev stimes : Stmt := topS 6
abbrev sless : Stmt := topS 7
abbrev slesser : Stmt := topS 8
abbrev snext_turn : Stmt := topS 10
abbrev sdozing : Stmt := topS 11
abbrev sdoze_cost : Stmt := topS 12
abbrev s_law_pool : Stmt := topS 14
abbrev s_law_draw : Stmt := topS 15
abbrev s_law_pick : Stmt := topS 16
abbrev s_law_gcd : Stmt := topS 17
abbrev s_law_ratio : Stmt := topS 18
abbrev s_law_plus : Stmt := topS 19
abbrev s_law_minus : Stmt := topS 20
abbrev s_law_times : Stmt := topS 21
abbrev s_law_less : Stmt := topS 22
abbrev s_law_same : Stmt := topS 23
abbrev s_law_depths : Stmt := topS 24
abbrev s_law_stay : Stmt := topS 25
abbrev s_law_asleep : Stmt := topS 26
abbrev s_law_length : Stmt := topS 27
abbrev s_law_turns : Stmt := topS 28
abbrev s_law_doze : Stmt := topS 29
abbrev slaw : Stmt := topS 30
theorem scratio : FnScope ["top", "bottom", "shared"] ["top", "bottom"] (defScope sratio) := ⟨rfl, rfl, rfl, by decide +kernel, rfl, by decide +kernel, by decide +kernel⟩
theorem scplus : FnScope ["a", "b"] ["a", "b"] (defScope splus) := ⟨rfl, rfl, rfl, by decide +kernel, rfl, by decide +kernel, by decide +kernel⟩
theorem scminus : FnScope ["a", "b"] ["a", "b"] (defScope sminus) := ⟨rfl, rfl, rfl, by decide +kernel, rfl, by decide +kernel, by decide +kernel⟩
theorem sctimes : FnScope ["a", "b"] ["a", "b"] (defScope stimes) := ⟨rfl, rfl, rfl, by decide +kernel, rfl, by decide +kernel, by decide +kernel⟩
theorem scless : FnScope ["a", "b"] ["a", "b"] (defScope sless) := ⟨rfl, rfl, rfl, by decide +kernel, rfl, by decide +kernel, by decide +kernel⟩
theorem sclesser : FnScope ["a", "b"] ["a", "b"] (defScope slesser) := ⟨rfl, rfl, rfl, by decide +kernel, rfl, by decide +kernel, by decide +kernel⟩
theorem scnext_turn : FnScope ["depths", "depth", "rate", "wake", "found", "deeper", "lower_rate", "higher_wake", "time"] ["depths", "depth"] (defScope snext_turn) := ⟨rfl, rfl, rfl, by decide +kernel, rfl, by decide +kernel, by decide +kernel⟩
theorem scdozing : FnScope ["depths", "pairs", "turn"] ["depths"] (defScope sdozing) := ⟨rfl, rfl, rfl, by decide +kernel, rfl, by decide +kernel, by decide +kernel⟩
theorem scdoze_cost : FnScope ["depths", "length", "pairs", "ends", "spent", "reached", "time", "depth", "end", "pair"] ["depths", "length"] (defScope sdoze_cost) := ⟨rfl, rfl, rfl, by decide +kernel, rfl, by decide +kernel, by decide +kernel⟩
theorem sc_law_pool : FnScope ["script"] ["script"] (defScope s_law_pool) := ⟨rfl, rfl, rfl, by decide +kernel, rfl, by decide +kernel, by decide +kernel⟩
theorem sc_law_draw : FnScope ["pool", "many", "found", "cell", "mixed"] ["pool", "many"] (defScope s_law_draw) := ⟨rfl, rfl, rfl, by decide +kernel, rfl, by decide +kernel, by decide +kernel⟩
theorem sc_law_pick : FnScope ["pool", "rows"] ["pool", "rows"] (defScope s_law_pick) := ⟨rfl, rfl, rfl, by decide +kernel, rfl, by decide +kernel, by decide +kernel⟩
theorem sc_law_gcd : FnScope ["a", "b", "k"] ["a", "b"] (defScope s_law_gcd) := ⟨rfl, rfl, rfl, by decide +kernel, rfl, by decide +kernel, by decide +kernel⟩
theorem sc_law_ratio : FnScope ["top", "bottom", "common"] ["top", "bottom"] (defScope s_law_ratio) := ⟨rfl, rfl, rfl, by decide +kernel, rfl, by decide +kernel, by decide +kernel⟩
theorem sc_law_plus : FnScope ["a", "b"] ["a", "b"] (defScope s_law_plus) := ⟨rfl, rfl, rfl, by decide +kernel, rfl, by decide +kernel, by decide +kernel⟩
theorem sc_law_minus : FnScope ["a", "b"] ["a", "b"] (defScope s_law_minus) := ⟨rfl, rfl, rfl, by decide +kernel, rfl, by decide +kernel, by decide +kernel⟩
theorem sc_law_times : FnScope ["a", "b"] ["a", "b"] (defScope s_law_times) := ⟨rfl, rfl, rfl, by decide +kernel, rfl, by decide +kernel, by decide +kernel⟩
theorem sc_law_less : FnScope ["a", "b"] ["a", "b"] (defScope s_law_less) := ⟨rfl, rfl, rfl, by decide +kernel, rfl, by decide +kernel, by decide +kernel⟩
theorem sc_law_same : FnScope ["actual", "due", "k"] ["actual", "due"] (defScope s_law_same) := ⟨rfl, rfl, rfl, by decide +kernel, rfl, by decide +kernel, by decide +kernel⟩
theorem sc_law_depths : FnScope ["pool", "rows", "k", "rate", "wake", "less_v", "wide", "row"] ["pool"] (defScope s_law_depths) := ⟨rfl, rfl, rfl, by decide +kernel, rfl, by decide +kernel, by decide +kernel⟩
theorem sc_law_stay : FnScope ["depth", "length"] ["depth", "length"] (defScope s_law_stay) := ⟨rfl, rfl, rfl, by decide +kernel, rfl, by decide +kernel, by decide +kernel⟩
theorem sc_law_asleep : FnScope ["depths", "length", "best", "k"] ["depths", "length"] (defScope s_law_asleep) := ⟨rfl, rfl, rfl, by decide +kernel, rfl, by decide +kernel, by decide +kernel⟩
theorem sc_law_length : FnScope ["pool", "pick"] ["pool"] (defScope s_law_length) := ⟨rfl, rfl, rfl, by decide +kernel, rfl, by decide +kernel, by decide +kernel⟩
theorem sc_law_turns : FnScope ["depths", "times_v", "one", "other", "time", "turns", "k", "later", "depth", "row"] ["depths"] (defScope s_law_turns) := ⟨rfl, rfl, rfl, by decide +kernel, rfl, by decide +kernel, by decide +kernel⟩
theorem sc_law_doze : FnScope ["depths", "turns", "length", "found", "last", "k", "end"] ["depths", "turns", "length"] (defScope s_law_doze) := ⟨rfl, rfl, rfl, by decide +kernel, rfl, by decide +kernel, by decide +kernel⟩
theorem sclaw : FnScope ["script", "pool", "depths", "turns", "lengths", "length", "spent", "least", "other", "turn", "k"] ["script"] (defScope slaw) := ⟨rfl, rfl, rfl, by decide +kernel, rfl, by decide +kernel, by decide +kernel⟩
section
variable {P : Program} {w : World} {K : PySem.W.Frag} {mg : Str → Option Value} {base : Heap}
theorem ok_law_stay (B : BI mg) (F : At K mg "_law_stay" s_law_stay ["depth", "length"]) (C_law_plus : Ok P w K mg base 3 "_law_plus" ["a", "b"] [] (spBin K (fun p q => p + q))) (C_law_times : Ok P w K mg base 3 "_law_times" ["a", "b"] [] (spBin K (fun p q => p * q))) : Ok P w K mg base 4 "_law_stay" ["depth", "length"] [] (spStay K) := by
  refine F.ok sc_law_stay (fun vs H Q E h => ?_) (fun f cdv A outer s H vs Q E hr h => ?_)
  · obtain ⟨x, y, d, q, rfl, _⟩ := h
    rfl
  obtain ⟨x, y, d, q, rfl, ix, iy, zq, b1, b2, k⟩ := h
  refine ⟨_, (pss_one (ps_ret (pe_ok C_law_plus (hr.mono (by first | decide | exact Nat.le_refl _)) rfl (pa_cons (pe_ok C_law_times (hr.mono (by first | decide | exact Nat.le_refl _)) rfl (pa_cons (pe_tup (pa_cons (pe_ix ix_tup (pv 0) pe_int (fun _ _ => rfl)) (pa_cons pe_int pa_nil))) (pa_cons (pv 1) pa_nil))) (pa_cons (pe_tup (pa_cons (pe_ix ix_tup (pv 0) pe_int (fun _ _ => rfl)) (pa_cons pe_int pa_nil))) pa_nil))))), ?_⟩
  have two : (2 : Nat) ≤ sizeLine := by decide
  obtain ⟨tc, rfl, st⟩ := pt_at ix
  have z1 := sz_int (n := 40) (b := d.1) (by omega) (by decide)
  have z2 := sz_int (n := 40) (b := d.2) (by omega) (by decide)
  refine ⟨_, rfl, tc, _, 0, _, rfl, rfl, st, rfl, two, fun t1 n1 => ?_⟩
  have s1 := same_upd (o := .tup [V.int d.1, .int 1]) n1
  have i1 : Is K (upd H t1 (.tup [V.int d.1, .int 1])) (.ref t1) (rat2 ((d.1 : Int) : Rat)) := is_one (SqT.of upd_same)
  generalize upd H t1 (.tup [V.int d.1, .int 1]) = H1 at s1 i1
  refine ⟨_, rfl, .ref t1, y, _, q, rfl, i1, iy.to (Same.tm s1), z1.mono (by decide), zq.mono (by decide), fun u2 H2 s2 i2 => ?_⟩
  refine ⟨_, rfl, tc, _, 1, _, rfl, rfl, Tm.sq (Same.tm (s1.trans s2)) st, rfl, two, fun t3 n3 => ?_⟩
  have s3 := same_upd (o := .tup [V.int d.2, .int 1]) n3
  have i3 : Is K (upd H2 t3 (.tup [V.int d.2, .int 1])) (.ref t3) (rat2 ((d.2 : Int) : Rat)) := is_one (SqT.of upd_same)
  generalize upd H2 t3 (.tup [V.int d.2, .int 1]) = H3 at s3 i3
  refine ⟨u2, .ref t3, _, _, rfl, i2.to (Same.tm s3), i3, (z1.mul zq).mono (by decide), z2.mono (by decide), fun u4 H4 s4 i4 => ?_⟩
  exact k u4 H4 (s1.trans (s2.trans (s3.trans s4))) i4

theorem ok_law_asleep (B : BI mg) (F : At K mg "_law_asleep" s_law_asleep ["depths", "length"]) (C_law_stay : Ok P w K mg base 4 "_law_stay" ["depth", "length"] [] (spStay K)) (C_law_less : Ok P w K mg base 1 "_law_less" ["a", "b"] [] (spLess K)) : Ok P w K mg base 5 "_law_asleep" ["depths", "length"] [] (spAsleep K) := by
  refine F.ok sc_law_asleep (fun vs H Q E h => ?_) (fun f cdv A outer s H vs Q E hr h => ?_)
  · obtain ⟨a, y, xs, ts, q, rfl, _⟩ := h
    rfl
  obtain ⟨a, y, xs, ts, q, rfl, hS, hI, hL, n1, iy, zq, k⟩ := h
  refine ⟨_, (pss_cons (ps_set (i := 2) sc_law_asleep.nd rfl (Or.inl rfl) pe_int)
      (pss_cons (ps_for PassesOwn.never rfl (pi_range1 rfl B.range (pa_cons (pe_callB call_len_seq rfl B.len PySem.boot_len (pa_cons (pv 0) pa_nil)) pa_nil)) (pg_name (i := 3) sc_law_asleep.nd rfl (Or.inl rfl))
        (pss_one (ps_if (pt_val (pe_ok C_law_less (hr.mono (by first | decide | exact Nat.le_refl _)) rfl (pa_cons (pe_ok C_law_stay (hr.mono (by first | decide | exact Nat.le_refl _)) rfl (pa_cons (pe_ix ix_tup (pv 0) (pv 3) (fun _ _ => rfl)) (pa_cons (pv 1) pa_nil))) (pa_cons (pe_ok C_law_stay (hr.mono (by first | decide | exact Nat.le_refl _)) rfl (pa_cons (pe_ix ix_tup (pv 0) (pv 2) (fun _ _ => rfl)) (pa_cons (pv 1) pa_nil))) pa_nil))))
          (pss_one (ps_set (i := 2) sc_law_asleep.nd rfl (Or.inl rfl) (pv 3)))
          pss_nil)))
      (pss_one (ps_ret (pe_tup (pa_cons (pe_ok C_law_stay (hr.mono (by first | decide | exact Nat.le_refl _)) rfl (pa_cons (pe_ix ix_tup (pv 0) (pv 2) (fun _ _ => rfl)) (pa_cons (pv 1) pa_nil))) (pa_cons (pv 2) pa_nil))))))), ?_⟩
  have lx : xs.length = ts.length := by rw [hI.len, List.length_map]
  have n100 := hL.n
  have get : ∀ i, i < ts.length → ∃ v, xs[i]? = some v ∧ Is K H v (dPt (dAt ts i)) ∧ (dAt ts i).1.natAbs < 1000000000000 ∧ (dAt ts i).2.natAbs < 1000000000000 := fun i il => by
    have g := List.getElem?_eq_getElem (l := ts) (i := i) il
    rw [dAt_of g]
    obtain ⟨v, hv, iv⟩ := hI.get (i := i) (d := dPt ts[i]) (by rw [List.getElem?_map, g]; rfl)
    exact ⟨v, hv, iv, hL.b _ (List.mem_of_getElem? g)⟩
  have two : (2 : Nat) ≤ sizeLine := by decide
  refine ⟨_, rfl, a, xs, rfl, .inr hS, _, rfl, by omega, by omega, for_range (lo := 0) (fun i σ' H' => ∃ (y3 : Option V), σ' = [some (.ref a), some y, some (.int ((bst (stayF ts q) i : Nat) : Int)), y3] ∧ Same H H') ⟨none, rfl, Same.refl _⟩ ?_ ?_⟩
  · rintro i σ' H' hi ⟨y3, rfl, sm⟩
    have il : i < ts.length := by omega
    have bl : bst (stayF ts q) i < ts.length := by
      rcases Nat.eq_zero_or_pos i with z | z
      · subst z
        exact n1
      · have := bst_lt (stayF ts q) z
        omega
    obtain ⟨v1, h1, i1, b1, b2⟩ := get i il
    obtain ⟨v2, h2, i2, c1, c2⟩ := get _ bl
    have zi : Sz 3900 (stayF ts q i) := (stay_sz ⟨b1, b2⟩ zq).mono (by decide)
    have zb : Sz 3900 (stayF ts q (bst (stayF ts q) i)) := (stay_sz ⟨c1, c2⟩ zq).mono (by decide)
    have sS := Tm.sq (Same.tm sm) hS
    refine ⟨_, rfl, _, rfl, a, xs, _, v1, rfl, rfl, sS, at_of (by omega) h1, _, rfl, v1, y, _, q, rfl, i1.to (Same.tm sm), iy.to (Same.tm sm), zq, b1, b2, fun u3 H3 s3 i3 => ?_⟩
    have sm3 := sm.trans s3
    refine ⟨_, rfl, _, rfl, a, xs, _, v2, rfl, rfl, Tm.sq (Same.tm s3) sS, at_of (by omega) h2, _, rfl, v2, y, _, q, rfl, i2.to (Same.tm sm3), iy.to (Same.tm sm3), zq, c1, c2, fun u4 H4 s4 i4 => ?_⟩
    have eb : bst (stayF ts q) (i + 1) = if stayF ts q i < stayF ts q (bst (stayF ts q) i) then i else bst (stayF ts q) i := rfl
    refine ⟨u3, u4, _, _, rfl, i3.to (Same.tm s4), i4, zi, zb, _, rfl, ite2 (fun e => ?_) (fun e => ?_)⟩
    · have e : stayF ts q i < stayF ts q (bst (stayF ts q) i) := of_decide_eq_true e
      refine ⟨_, rfl, some (.int (0 + (i : Int))), ?_, sm3.trans s4⟩
      rw [eb, if_pos e, Int.zero_add]
      rfl
    · have e : ¬ stayF ts q i < stayF ts q (bst (stayF ts q) i) := of_decide_eq_false (Bool.eq_false_iff.mpr e)
      refine ⟨some (.int (0 + (i : Int))), ?_, sm3.trans s4⟩
      rw [eb, if_neg e]
      rfl
  · rintro σ' H' ⟨y3, rfl, sm⟩
    have bl : bst (stayF ts q) ts.length < ts.length := bst_lt (stayF ts q) n1
    obtain ⟨v2, h2, i2, c1, c2⟩ := get _ bl
    have et : (xs.length : Int).toNat = ts.length := by omega
    rw [et]
    refine ⟨_, rfl, _, rfl, a, xs, _, v2, rfl, rfl, Tm.sq (Same.tm sm) hS, at_of (by omega) h2, _, rfl, v2, y, _, q, rfl, i2.to (Same.tm sm), iy.to (Same.tm sm), zq, c1, c2, fun u3 H3 s3 i3 => ?_⟩
    refine ⟨_, rfl, two, fun t4 n4 => ?_⟩
    exact k (.ref t4) _ (sm.trans (s3.trans (same_upd n4))) (.tup (SqT.of upd_same) (.two (i3.to (Tm.new n4)) (.int _)))

theorem ok_law_depths (B : BI mg) (F : At K mg "_law_depths" s_law_depths ["pool"]) (C_law_draw : Ok P w K mg base 1 "_law_draw" ["pool", "many"] [] spDraw) (C_law_pick : Ok P w K mg base 2 "_law_pick" ["pool", "rows"] [] spPick) : Ok P w K mg base 3 "_law_depths" ["pool"] [] (spDepths K) := by
  refine F.ok sc_law_depths (fun vs H Q E h => ?_) (fun f cdv A outer s H vs Q E hr h => ?_)
  · obtain ⟨p, pa, rfl, _⟩ := h
    rfl
  obtain ⟨p, pa, rfl, hP, q⟩ := h
  refine ⟨_, (pss_cons (ps_set (i := 1) sc_law_depths.nd rfl (Or.inl rfl) (pe_lst (pa_cons (pe_tup (pa_cons (pe_op op_add (pe_ok C_law_draw (hr.mono (by first | decide | exact Nat.le_refl _)) rfl (pa_cons (pv 0) (pa_cons (pe_ok C_law_pick (hr.mono (by first | decide | exact Nat.le_refl _)) rfl (pa_cons (pv 0) (pa_cons (pe_lst (pa_cons pe_int (pa_cons pe_int pa_nil))) pa_nil))) pa_nil))) pe_int) (pa_cons pe_int pa_nil))) pa_nil)))
      (pss_cons (ps_for PassesOwn.never rfl (pi_range1 rfl B.range (pa_cons (pe_ok C_law_draw (hr.mono (by first | decide | exact Nat.le_refl _)) rfl (pa_cons (pv 0) (pa_cons pe_int pa_nil))) pa_nil)) (pg_name (i := 2) sc_law_depths.nd rfl (Or.inl rfl))
        (pss_cons (ps_asg (pe_ix ix_list (pv 1) (pe_op op_sub (pe_callB call_len_seq rfl B.len PySem.boot_len (pa_cons (pv 1) pa_nil)) pe_int) (fun _ _ => rfl)) (pg_tup rfl (pgs_cons (pg_name (i := 3) sc_law_depths.nd rfl (Or.inl rfl)) (pgs_cons (pg_name (i := 4) sc_law_depths.nd rfl (Or.inl rfl)) pgs_nil))))
        (pss_one (ps_if (pt_cmpR op_gt (pv 3) pe_int (nomark _))
          (pss_cons (ps_set (i := 5) sc_law_depths.nd rfl (Or.inl rfl) (pe_op op_add pe_int (pe_ok C_law_draw (hr.mono (by first | decide | exact Nat.le_refl _)) rfl (pa_cons (pv 0) (pa_cons (pe_ok C_law_pick (hr.mono (by first | decide | exact Nat.le_refl _)) rfl (pa_cons (pv 0) (pa_cons (pe_lst (pa_cons (pe_op op_add pe_int (pe_op op_fdivX (pv 3) pe_int)) (pa_cons (pv 3) pa_nil))) pa_nil))) pa_nil)))))
          (pss_one (ps_expr (pe_bm PySem.F.plainAttrs_list PySem.F.slot_list_append PySem.F.type_list_append mt_append (pv 1) (pa_cons (pe_tup (pa_cons (pe_op op_sub (pv 3) (pv 5)) (pa_cons (pe_op op_add (pe_op op_add (pv 4) pe_int) (pe_ok C_law_draw (hr.mono (by first | decide | exact Nat.le_refl _)) rfl (pa_cons (pv 0) (pa_cons pe_int pa_nil)))) pa_nil))) pa_nil)))))
          pss_nil))))
      (pss_cons (ps_set (i := 6) sc_law_depths.nd rfl (Or.inr rfl) pe_int)
      (Evl.pss_cut (ps_if (pt_cmpR op_eq (pe_ok C_law_draw (hr.mono (by first | decide | exact Nat.le_refl _)) rfl (pa_cons (pv 0) (pa_cons pe_int pa_nil))) pe_int (nomark _))
        (pss_one (ps_set (i := 6) sc_law_depths.nd rfl (Or.inr rfl) (pe_op op_add pe_int (pe_ok C_law_draw (hr.mono (by first | decide | exact Nat.le_refl _)) rfl (pa_cons (pv 0) (pa_cons pe_int pa_nil))))))
        pss_nil)
      (pss_one (ps_ret (pe_callTy call_tuple_of rfl B.tuple (by decide +kernel) (pa_cons (pe_lc (own := [("row", 7)]) (g := gName 7) (tt := tYes) rfl sc_law_depths.nd (pi_list (pv 1)) (blkOk_by (own := [("row", 7)]) (N := ["pool", "rows", "k", "rate", "wake", "less_v", "wide", "row"]) (sc := defScope s_law_depths) (by decide +kernel)) (fun _ _ _ _ _ => (pg_name (i := 7) sc_law_depths.nd rfl (Or.inl rfl))) (fun _ _ _ _ _ => pts_nil) (fun _ _ _ _ _ => (pe_tup (pa_cons (pe_op op_mulX (pe_ix (ix_tupK (K := K) rfl) (pv 7) pe_int (fun _ _ => rfl)) (pv 6)) (pa_cons (pe_op op_mulX (pe_ix (ix_tupK (K := K) rfl) (pv 7) pe_int (fun _ _ => rfl)) (pv 6)) pa_nil))))) pa_nil)))))))), ?_⟩
  have two : (2 : Nat) ≤ sizeLine := by decide
  refine ⟨_, rfl, _, rfl, two, fun R0 nR0 => ?_⟩
  have P00 := hP.same (same_upd (o := .lst [V.int 30, V.int 3000]) nR0)
  have kR : Kp p H (upd H R0 (.lst [V.int 30, V.int 3000])) := .new nR0
  refine ⟨p, pa, R0, [30, 3000], rfl, P00, (hP.ne nR0).1, upd_same, by decide, by decide, fun x0 H00 hx0 k00 P0 => ?_⟩
  have x0b : 30 ≤ x0 ∧ x0 ≤ 3000 := by
    have : x0 = 30 ∨ x0 = 3000 := by simpa using hx0
    omega
  refine ⟨p, pa, x0, rfl, P0, by omega, by omega, fun r1 H1 r10 r11 k1 P1 => ?_⟩
  refine ⟨_, _, rfl, rfl, two, fun t0 n0 => ?_⟩
  have P0 := P1.same (same_upd (o := .tup [V.int (r1 + 10), V.int 0]) n0)
  have k0 : Kp p H (upd H1 t0 (.tup [V.int (r1 + 10), V.int 0])) := ((kR.trans k00).trans k1).trans (.new n0)
  have i0 : Is K (upd H1 t0 (.tup [V.int (r1 + 10), V.int 0])) (.ref t0) (dPt (r1 + 10, 0)) := .tup (SqT.of upd_same) (.two (.int _) (.int _))
  generalize upd H1 t0 (.tup [V.int (r1 + 10), V.int 0]) = H0 at P0 k0 i0
  refine ⟨(by show 1 ≤ sizeLine; decide), fun L nL => ?_⟩
  obtain ⟨nLp, nLa⟩ := P0.ne nL
  have fL : H L = none := P0.free k0 nL
  have M1 : LM K p pa L H ([(r1 + 10, 0)].map dPt) (upd H0 L (.lst [V.ref t0])) :=
    ⟨P0.mut nLp nLa, k0.mut fL, _, upd_same, .cons (i0.to (Tm.new nL)) .nil⟩
  refine ⟨_, rfl, p, pa, 6, rfl, M1.P, by decide, by decide, fun r2 H2 r20 r21 k2 P2 => ?_⟩
  have M2 := M1.step nLp k2 P2
  refine ⟨r2, rfl, by omega, by omega, for_range (lo := 0) (n := r2.toNat) (fun i σ' H' => ∃ (ts : List (Int × Int)) (y2 y3 y4 y5 y6 y7 : Option V), σ' = [some (.ref p), some (.ref L), y2, y3, y4, y5, y6, y7] ∧ LM K p pa L H (ts.map dPt) H' ∧ DpMid i ts) ?_ ?_ ?_⟩
  · exact ⟨_, none, none, none, none, none, none, rfl, M2, DpMid.one (by omega) (by omega)⟩
  · rintro i σ' H' hi ⟨ts, y2, y3, y4, y5, y6, y7, rfl, M, T⟩
    have n1 := T.n1
    have nT := T.n
    obtain ⟨xs, hx, hI⟩ := M.l
    have lx : xs.length = ts.length := by rw [hI.len, List.length_map]
    have hl := List.getElem?_eq_getElem (l := ts) (i := ts.length - 1) (by omega)
    generalize ts[ts.length - 1] = l at hl
    have bl := T.b l (List.mem_of_getElem? hl)
    obtain ⟨v, hv, iv⟩ := hI.get (i := ts.length - 1) (d := dPt l) (by rw [List.getElem?_map, hl]; rfl)
    obtain ⟨pl, rfl, sl⟩ := pt_at iv
    refine ⟨_, rfl, _, rfl, L, _, rfl, .inl (SqL.of hx), _, _, rfl, rfl, L, _, _, .ref pl, rfl, rfl, SqL.of hx, at_of (j := ts.length - 1) (by omega) hv, pl, _, rfl, sl, rfl, .int l.1, _, rfl, .int l.2, _, rfl, rfl, ?_⟩
    refine ⟨_, rfl, _, _, rfl, rfl, _, rfl, ite2 (fun e => ?_) (fun e => ⟨ts, _, _, _, _, _, _, rfl, M, T.up1⟩)⟩
    have l0 : 0 < l.1 := of_decide_eq_true e
    have f0 : 0 ≤ l.1.fdiv 3 := fd0 (by decide) (by omega)
    have f1 : 3 * l.1.fdiv 3 ≤ l.1 := by
      rw [Int.fdiv_eq_ediv_of_nonneg _ (by decide)]
      omega
    refine ⟨_, rfl, _, rfl, _, rfl, _, _, rfl, rfl, divX (by decide) (by decide), _, _, rfl, rfl, _, rfl, two, fun R3 nR3 => ?_⟩
    have s3 := same_upd (o := .lst [V.int (1 + l.1.fdiv 3), V.int l.1]) nR3
    have M3 := M.same s3
    have hR3 : (upd H' R3 (.lst [V.int (1 + l.1.fdiv 3), V.int l.1])) R3 = some (.lst ([1 + l.1.fdiv 3, l.1].map V.int)) := upd_same
    have nRp := (M.P.ne nR3).1
    generalize upd H' R3 (.lst [V.int (1 + l.1.fdiv 3), V.int l.1]) = H3 at s3 M3 hR3
    refine ⟨p, pa, R3, [1 + l.1.fdiv 3, l.1], rfl, M3.P, nRp, hR3, by show 0 < 2; decide, by show 2 ≤ 1000; decide, fun x4 H4 hx4 k4 P4 => ?_⟩
    have x4b : 1 ≤ x4 ∧ x4 ≤ l.1 := by
      have : x4 = 1 + l.1.fdiv 3 ∨ x4 = l.1 := by simpa using hx4
      omega
    have M4 := M3.step nLp k4 P4
    refine ⟨p, pa, x4, rfl, P4, by omega, by omega, fun r5 H5 r50 r51 k5 P5 => ?_⟩
    have M5 := M4.step nLp k5 P5
    refine ⟨_, _, rfl, rfl, ?_⟩
    obtain ⟨xs5, hx5, _⟩ := M5.l
    refine ⟨_, rfl, .inl ⟨rfl, _, SqL.of hx5⟩, ?_⟩
    refine ⟨_, rfl, _, rfl, _, _, rfl, rfl, _, rfl, _, _, rfl, rfl, _, rfl, p, pa, 60, rfl, P5, by decide, by decide, fun r6 H6 r60 r61 k6 P6 => ?_⟩
    have M6 := M5.step nLp k6 P6
    refine ⟨_, _, rfl, rfl, two, fun t7 n7 => ?_⟩
    have s7 := same_upd (o := .tup [V.int (l.1 - (1 + r5)), V.int (l.2 + 1 + r6)]) n7
    have M7 := M6.same s7
    have i7 : Is K (upd H6 t7 (.tup [V.int (l.1 - (1 + r5)), V.int (l.2 + 1 + r6)])) (.ref t7) (dPt (l.1 - (1 + r5), l.2 + 1 + r6)) := .tup (SqT.of upd_same) (.two (.int _) (.int _))
    generalize upd H6 t7 (.tup [V.int (l.1 - (1 + r5)), V.int (l.2 + 1 + r6)]) = H7 at s7 M7 i7
    obtain ⟨zs, hz, hzI⟩ := M7.l
    have lz : zs.length = ts.length := by rw [hzI.len, List.length_map]
    refine ⟨L, zs, _, rfl, rfl, hz, small5' (by omega), ?_⟩
    have M8 := M7.put (es := (ts ++ [(l.1 - (1 + r5), l.2 + 1 + r6)]).map dPt) (ys := zs ++ [.ref t7]) nLp nLa fL (by
      rw [List.map_append]
      exact hzI.push i7)
    exact ⟨_, _, _, _, _, _, _, rfl, M8, T.push hl (by omega) (by omega) (by omega) (by omega)⟩
  rintro σ' H3 ⟨ts, y2, y3, y4, y5, y6, y7, rfl, M3, T⟩
  have e2 : r2.toNat ≤ 5 := by omega
  generalize r2.toNat = n at T e2
  refine ⟨fun σ7 H7 => ∃ wd : Int, σ7 = [some (.ref p), some (.ref L), y2, y3, y4, y5, some (.int wd), y7] ∧ Kp p H3 H7 ∧ Pl p pa H7 ∧ 1 ≤ wd ∧ wd ≤ 300, ?_, ?_⟩
  · refine ⟨_, rfl, p, pa, 4, rfl, M3.P, by decide, by decide, fun r6 H6 r60 r61 k6 P6 => ?_⟩
    refine ⟨rfl, _, rfl, ite2 (fun e3 => ?_) (fun e3 => ⟨1, rfl, k6, P6, by decide, by decide⟩)⟩
    refine ⟨_, rfl, p, pa, 300, rfl, P6, by decide, by decide, fun r7 H7 r70 r71 k7 P7 => ?_⟩
    exact ⟨_, _, rfl, rfl, _, rfl, k6.trans k7, P7, by omega, by omega⟩
  rintro σ7 H7 ⟨wd, rfl, k7, P7, w0, w1⟩
  obtain ⟨xs, hx, hI⟩ := M3.l
  have hx := k7 _ _ nLp hx
  have hI := hI.to (M3.P.tm k7)
  have lx : xs.length = ts.length := by rw [hI.len, List.length_map]
  have nT := T.n
  refine ⟨_, rfl, L, rfl, ⟨_, SqL.of hx⟩, fun D hD => ?_⟩
  refine lc_list (xs := xs) (fun i H8 => Same H7 H8 ∧ ∃ cs, H8 D = some (.lst cs) ∧ IsA K H8 cs (((ts.take i).map fun t => (t.1 * wd, t.2 * wd)).map dPt)) ⟨same_upd hD, [], upd_same, .nil⟩ (fun i H8 _ h => SqL.of (h.1 _ _ hx)) ?_ ?_
  · rintro i x H8 hx8 ⟨sm, cs, hc, hcI⟩
    obtain ⟨d, hd, iv⟩ := hI.at hx8
    obtain ⟨t, ht, rfl⟩ := getP hd
    have il : i < ts.length := (List.getElem?_eq_some_iff.mp ht).1
    obtain ⟨pt, rfl, st⟩ := pt_at (iv.to (Same.tm sm))
    have bt := T.b t (List.mem_of_getElem? ht)
    refine ⟨rfl, _, rfl, pt, _, 0, _, rfl, rfl, st, rfl, _, rfl, _, _, rfl, rfl, mulM (by omega), _, rfl, pt, _, 1, _, rfl, rfl, st, rfl, _, rfl, _, _, rfl, rfl, mulM (by omega), two, fun t5 n5 => ?_⟩
    have lc : cs.length = i := by rw [hcI.len, List.length_map, List.length_map, List.length_take]; omega
    refine ⟨cs, same_upd n5 _ _ hc, small5' (by omega), Z.Same.mut (sm.trans (same_upd n5)) hD, _, upd_same, ?_⟩
    rw [List.take_add_one, ht]
    simp only [Option.toList, List.map_append, List.map_cons, List.map_nil]
    exact ((hcI.to (Tm.new n5)).push (.tup (SqT.of upd_same) (.two (.int _) (.int _)))).to (Tm.lst (same_upd n5 _ _ hc))
  · rintro H8 ⟨sm, cs, hc, hcI⟩
    rw [lx, List.take_length] at hcI
    refine ⟨D, cs, rfl, .inl ⟨SqL.of hc, fun t nt => ?_⟩⟩
    have P8 := P7.same sm
    exact q t cs _ _ (T.fin e2 w0 w1) ((M3.k.trans k7).trans ((Kp.of sm).trans (.new nt))) (P8.same (same_upd nt)) (SqT.of upd_same) (hcI.to (Tm.new nt))

theorem ok_law_length (B : BI mg) (F : At K mg "_law_length" s_law_length ["pool"]) (C_law_draw : Ok P w K mg base 1 "_law_draw" ["pool", "many"] [] spDraw) (C_law_ratio : Ok P w K mg base 2 "_law_ratio" ["top", "bottom"] [] (spRat K)) : Ok P w K mg base 3 "_law_length" ["pool"] [] (spLength K) := by
  refine F.ok sc_law_length (fun vs H Q E h => ?_) (fun f cdv A outer s H vs Q E hr h => ?_)
  · obtain ⟨p, pa, rfl, _⟩ := h
    rfl
  obtain ⟨p, pa, rfl, hP, q⟩ := h
  refine ⟨_, (pss_cons (ps_set (i := 1) sc_law_length.nd rfl (Or.inl rfl) (pe_ok C_law_draw (hr.mono (by first | decide | exact Nat.le_refl _)) rfl (pa_cons (pv 0) (pa_cons pe_int pa_nil))))
      (pss_cons (ps_if (pt_cmpR op_eq (pv 1) pe_int (nomark _))
        (pss_one (ps_ret (pe_tup (pa_cons (pe_ok C_law_draw (hr.mono (by first | decide | exact Nat.le_refl _)) rfl (pa_cons (pv 0) (pa_cons pe_int pa_nil))) (pa_cons pe_int pa_nil)))))
        pss_nil)
      (pss_cons (ps_if (pt_cmpR op_eq (pv 1) pe_int (nomark _))
        (pss_one (ps_ret (pe_ok C_law_ratio (hr.mono (by first | decide | exact Nat.le_refl _)) rfl (pa_cons (pe_ok C_law_draw (hr.mono (by first | decide | exact Nat.le_refl _)) rfl (pa_cons (pv 0) (pa_cons (pe_op op_pow pe_int pe_int) pa_nil))) (pa_cons (pe_op op_add pe_int (pe_ok C_law_draw (hr.mono (by first | decide | exact Nat.le_refl _)) rfl (pa_cons (pv 0) (pa_cons pe_int pa_nil)))) pa_nil)))))
        pss_nil)
      (pss_one (ps_ret (pe_ok C_law_ratio (hr.mono (by first | decide | exact Nat.le_refl _)) rfl (pa_cons (pe_ok C_law_draw (hr.mono (by first | decide | exact Nat.le_refl _)) rfl (pa_cons (pv 0) (pa_cons pe_int pa_nil))) (pa_cons (pe_op op_add pe_int (pe_ok C_law_draw (hr.mono (by first | decide | exact Nat.le_refl _)) rfl (pa_cons (pv 0) (pa_cons pe_int pa_nil)))) pa_nil)))))))), ?_⟩
  have two : (2 : Nat) ≤ sizeLine := by decide
  refine ⟨_, rfl, p, pa, 4, rfl, hP, by decide, by decide, fun r1 H1 r10 r11 k1 P1 => ?_⟩
  refine ⟨_, rfl, rfl, _, rfl, ite2 (fun e => ?_) (fun e => ?_)⟩
  · refine ⟨_, rfl, p, pa, 20, rfl, P1, by decide, by decide, fun r2 H2 r20 r21 k2 P2 => ?_⟩
    refine ⟨two, fun t3 n3 => ?_⟩
    exact q (.ref t3) _ _ (Rat.intCast_nonneg.mpr r20) (sz_int (n := 40) (by omega) (by decide)) ((k1.trans k2).trans (.new n3)) (P2.same (same_upd n3)) (is_one (SqT.of upd_same))
  · have rest : ∀ {a b : Int}, 0 ≤ a → a < 1000000 → 1 ≤ b → b ≤ 1000 → 0 ≤ Rat.divInt a b ∧ Sz 40 (Rat.divInt a b) := fun a0 a1 b0 b1 => by
      refine ⟨?_, Sz.divInt (by omega) (by omega) (by omega)⟩
      rw [divInt_div]
      exact rat_div0 (Rat.intCast_nonneg.mpr a0) (Rat.intCast_pos.mpr (by omega))
    refine ⟨_, rfl, rfl, _, rfl, ite2 (fun e => ?_) (fun e => ?_)⟩
    · have t6 : (10 : Int) ^ (6 : Int).toNat = 1000000 := by decide
      refine ⟨_, rfl, _, _, rfl, rfl, ⟨by decide, by decide, by decide⟩, p, pa, _, rfl, P1, by decide, by decide, fun r2 H2 r20 r21 k2 P2 => ?_⟩
      refine ⟨_, rfl, p, pa, 1000, rfl, P2, by decide, by decide, fun r3 H3 r30 r31 k3 P3 => ?_⟩
      refine ⟨_, _, rfl, rfl, r2, 1 + r3, rfl, by omega, bigK (by omega), bigK (by omega), fun v H4 s4 i4 => ?_⟩
      obtain ⟨g1, g2⟩ := rest (a := r2) (b := 1 + r3) (by omega) (by omega) (by omega) (by omega)
      exact q v _ _ g1 g2 (((k1.trans k2).trans k3).trans (.of s4)) (P3.same s4) i4
    · refine ⟨_, rfl, p, pa, 200, rfl, P1, by decide, by decide, fun r2 H2 r20 r21 k2 P2 => ?_⟩
      refine ⟨_, rfl, p, pa, 12, rfl, P2, by decide, by decide, fun r3 H3 r30 r31 k3 P3 => ?_⟩
      refine ⟨_, _, rfl, rfl, r2, 1 + r3, rfl, by omega, bigK (by omega), bigK (by omega), fun v H4 s4 i4 => ?_⟩
      obtain ⟨g1, g2⟩ := rest (a := r2) (b := 1 + r3) (by omega) (by omega) (by omega) (by omega)
      exact q v _ _ g1 g2 (((k1.trans k2).trans k3).trans (.of s4)) (P3.same s4) i4

theorem ok_law_turns (B : BI mg) (F : At K mg "_law_turns" s_law_turns ["depths"]) (C_law_ratio : Ok P w K mg base 2 "_law_ratio" ["top", "bottom"] [] (spRat K)) (C_law_less : Ok P w K mg base 1 "_law_less" ["a", "b"] [] (spLess K)) (C_law_plus : Ok P w K mg base 3 "_law_plus" ["a", "b"] [] (spBin K (fun p q => p + q))) (C_law_times : Ok P w K mg base 3 "_law_times" ["a", "b"] [] (spBin K (fun p q => p * q)))
    (C_law_asleep : Ok P w K mg base 5 "_law_asleep" ["depths", "length"] [] (spAsleep K)) : Ok P w K mg base 6 "_law_turns" ["depths"] [] (spTurns K) := by
  refine F.ok sc_law_turns (fun vs H Q E h => ?_) (fun f cdv A outer s H vs Q E hr h => ?_)
  · obtain ⟨a, xs, ts, rfl, _⟩ := h
    rfl
  obtain ⟨a, xs, ts, rfl, hS, hI, hD, k⟩ := h
  refine ⟨_, (pss_cons (ps_set (i := 1) sc_law_turns.nd rfl (Or.inl rfl) (pe_lst pa_nil))
      (pss_cons (ps_for PassesOwn.never rfl (pi_tup (pv 0)) (pg_name (i := 2) sc_law_turns.nd rfl (Or.inl rfl))
        (pss_one (ps_for PassesOwn.never rfl (pi_tup (pv 0)) (pg_name (i := 3) sc_law_turns.nd rfl (Or.inl rfl))
          (pss_one (ps_if (pt_cmpR op_gt (pe_ix ix_tup (pv 2) pe_int (fun _ _ => rfl)) (pe_ix ix_tup (pv 3) pe_int (fun _ _ => rfl)) (nomark _))
            (pss_cons (ps_set (i := 4) sc_law_turns.nd rfl (Or.inr rfl) (pe_ok C_law_ratio (hr.mono (by first | decide | exact Nat.le_refl _)) rfl (pa_cons (pe_op op_sub (pe_ix ix_tup (pv 3) pe_int (fun _ _ => rfl)) (pe_ix ix_tup (pv 2) pe_int (fun _ _ => rfl))) (pa_cons (pe_op op_sub (pe_ix ix_tup (pv 2) pe_int (fun _ _ => rfl)) (pe_ix ix_tup (pv 3) pe_int (fun _ _ => rfl))) pa_nil))))
            (pss_one (ps_if (pt_cmpR (op_notInD (hu65 hr)) (pv 4) (pv 1) rfl)
              (pss_one (ps_expr (pe_bm PySem.F.plainAttrs_list PySem.F.slot_list_insert PySem.F.type_list_insert mt_insert (pv 1) (pa_cons (pe_callB call_len_seq rfl B.len PySem.boot_len (pa_cons (pe_lc (own := [("row", 9)]) (g := gName 9) (tt := _) rfl sc_law_turns.nd (pi_list (pv 1)) (blkOk_by (own := [("row", 9)]) (N := ["depths", "times_v", "one", "other", "time", "turns", "k", "later", "depth", "row"]) (sc := defScope s_law_turns) (by decide +kernel)) (fun _ _ _ _ _ => (pg_name (i := 9) sc_law_turns.nd rfl (Or.inl rfl))) (fun _ _ _ _ _ => (pts_one (pt_val (pe_ok C_law_less (hr.mono (by first | decide | exact Nat.le_refl _)) rfl (pa_cons (pv 9) (pa_cons (pv 4) pa_nil)))))) (fun _ _ _ _ _ => (pv 9))) pa_nil)) (pa_cons (pv 4) pa_nil)))))
              pss_nil)))
            pss_nil)))))
      (pss_cons (ps_set (i := 5) sc_law_turns.nd rfl (Or.inl rfl) (pe_lst (pa_cons (pe_tup (pa_cons (pe_tup (pa_cons pe_int (pa_cons pe_int pa_nil))) (pa_cons pe_int pa_nil))) pa_nil)))
      (pss_cons (ps_for PassesOwn.never rfl (pi_range1 rfl B.range (pa_cons (pe_callB call_len_seq rfl B.len PySem.boot_len (pa_cons (pv 1) pa_nil)) pa_nil)) (pg_name (i := 6) sc_law_turns.nd rfl (Or.inl rfl))
        (pss_cons (ps_set (i := 7) sc_law_turns.nd rfl (Or.inl rfl) (pe_ok C_law_plus (hr.mono (by first | decide | exact Nat.le_refl _)) rfl (pa_cons (pe_ix ix_list (pv 1) (pv 6) (fun _ _ => rfl)) (pa_cons (pe_tup (pa_cons pe_int (pa_cons pe_int pa_nil))) pa_nil))))
        (Evl.pss_cut (ps_if (pt_cmpR op_lt (pe_op op_add (pv 6) pe_int) (pe_callB call_len_seq rfl B.len PySem.boot_len (pa_cons (pv 1) pa_nil)) (nomark _))
          (pss_one (ps_set (i := 7) sc_law_turns.nd rfl (Or.inl rfl) (pe_ok C_law_times (hr.mono (by first | decide | exact Nat.le_refl _)) rfl (pa_cons (pe_ok C_law_plus (hr.mono (by first | decide | exact Nat.le_refl _)) rfl (pa_cons (pe_ix ix_list (pv 1) (pv 6) (fun _ _ => rfl)) (pa_cons (pe_ix ix_list (pv 1) (pe_op op_add (pv 6) pe_int) (fun _ _ => rfl)) pa_nil))) (pa_cons (pe_tup (pa_cons pe_int (pa_cons pe_int pa_nil))) pa_nil)))))
          pss_nil)
        (pss_cons (ps_set (i := 8) sc_law_turns.nd rfl (Or.inl rfl) (pe_ix ix_tup (pe_ok C_law_asleep (hr.mono (by first | decide | exact Nat.le_refl _)) rfl (pa_cons (pv 0) (pa_cons (pv 7) pa_nil))) pe_int (fun _ _ => rfl)))
        (pss_one (ps_if (pt_cmpR op_ne (pv 8) (pe_ix ix_tup (pe_ix ix_list (pv 5) (pe_un un_neg pe_int) (fun _ _ => rfl)) pe_int (fun _ _ => rfl)) (nomark _))
          (pss_one (ps_expr (pe_bm PySem.F.plainAttrs_list PySem.F.slot_list_append PySem.F.type_list_append mt_append (pv 5) (pa_cons (pe_tup (pa_cons (pe_ix ix_list (pv 1) (pv 6) (fun _ _ => rfl)) (pa_cons (pv 8) pa_nil))) pa_nil))))
          pss_nil))))))
      (pss_one (ps_ret (pe_callTy call_tuple_of rfl B.tuple (by decide +kernel) (pa_cons (pv 5) pa_nil)))))))), ?_⟩
  have two : (2 : Nat) ≤ sizeLine := by decide
  have lx : xs.length = ts.length := by rw [hI.len, List.length_map]
  have n6 := hD.n6
  have n1 := hD.n1
  have D := hD.dps
  refine ⟨(by show 0 ≤ sizeLine; decide), fun L nL => ?_⟩
  have s0 := same_upd (o := .lst []) nL
  have hL0 : (upd H L (.lst [])) L = some (.lst []) := upd_same
  generalize upd H L (.lst []) = H0 at s0 hL0
  refine ⟨_, rfl, a, rfl, ⟨_, Tm.sq (Same.tm s0) hS⟩, for_tup (xs := xs) (fun i σ' H' => ∃ (y2 y3 y4 y5 y6 y7 y8 y9 : Option V) (zs : List V) (ms : List Rat), σ' = [some (.ref a), some (.ref L), y2, y3, y4, y5, y6, y7, y8, y9] ∧ Same H H' ∧ H' L = some (.lst zs) ∧ IsA K H' zs (ms.map rat2) ∧ Mts ts i 0 ms) ?_ ?_ ?_ ?_⟩
  · exact ⟨none, none, none, none, none, none, none, none, [], [], rfl, s0, hL0, .nil, Mts.nil ts⟩
  · rintro i σ' H' hi ⟨y2, y3, y4, y5, y6, y7, y8, y9, zs, ms, rfl, sm, _⟩
    exact Tm.sq (Same.tm sm) hS
  · rintro i v σ' H' hv ⟨y2, y3, y4, y5, y6, y7, y8, y9, zs, ms, rfl, sm, hz, iz, M⟩
    obtain ⟨d, hd, iv⟩ := hI.at hv
    obtain ⟨t, ht, rfl⟩ := getP hd
    have eti := dAt_of ht
    have il : i < ts.length := (List.getElem?_eq_some_iff.mp ht).1
    have bt := hD.b t (List.mem_of_getElem? ht)
    refine ⟨_, rfl, a, rfl, ⟨_, Tm.sq (Same.tm sm) hS⟩, for_tup (xs := xs) (fun j σ' H' => ∃ (y3 y4 y5 y6 y7 y8 y9 : Option V) (zs : List V) (ms : List Rat), σ' = [some (.ref a), some (.ref L), some v, y3, y4, y5, y6, y7, y8, y9] ∧ Same H H' ∧ H' L = some (.lst zs) ∧ IsA K H' zs (ms.map rat2) ∧ Mts ts i j ms) ?_ ?_ ?_ ?_⟩
    · exact ⟨y3, y4, y5, y6, y7, y8, y9, zs, ms, rfl, sm, hz, iz, M⟩
    · rintro i σ' H' hi ⟨y3, y4, y5, y6, y7, y8, y9, zs, ms, rfl, sm, _⟩
      exact Tm.sq (Same.tm sm) hS
    · rintro j u σ' H' hu ⟨y3, y4, y5, y6, y7, y8, y9, zs, ms, rfl, sm, hz, iz, M⟩
      obtain ⟨d, hd, iu⟩ := hI.at hu
      obtain ⟨o, ho, rfl⟩ := getP hd
      have etj := dAt_of ho
      have jl : j < ts.length := (List.getElem?_eq_some_iff.mp ho).1
      have bo := hD.b o (List.mem_of_getElem? ho)
      obtain ⟨tv, rfl, stv⟩ := pt_at (iv.to (Same.tm sm))
      obtain ⟨tu, rfl, stu⟩ := pt_at (iu.to (Same.tm sm))
      refine ⟨_, rfl, tv, _, 0, _, rfl, rfl, stv, rfl, _, rfl, tu, _, 0, _, rfl, rfl, stu, rfl, _, _, rfl, rfl, _, rfl, ite2 (fun e => ?_) (fun e => ?_)⟩
      · have e : o.1 < t.1 := of_decide_eq_true e
        have ij : i < j := by
          rcases Nat.lt_trichotomy i j with c | c | c
          · exact c
          · subst c
            rw [ht] at ho
            cases ho
            omega
          · have := D.dn j i c il
            rw [eti, etj] at this
            omega
        have em : mt ts i j = Rat.divInt (o.2 - t.2) (t.1 - o.1) := by unfold mt meet; rw [eti, etj]
        refine ⟨_, rfl, tu, _, 1, _, rfl, rfl, stu, rfl, _, rfl, tv, _, 1, _, rfl, rfl, stv, rfl, _, _, rfl, rfl, ?_⟩
        refine ⟨_, rfl, tv, _, 0, _, rfl, rfl, stv, rfl, _, rfl, tu, _, 0, _, rfl, rfl, stu, rfl, _, _, rfl, rfl, o.2 - t.2, t.1 - o.1, rfl, by omega, bigK (by omega), bigK (by omega), fun r H1 s1 i1 => ?_⟩
        rw [← em] at i1
        have sm1 := sm.trans s1
        have hz1 := s1 _ _ hz
        have iz1 := iz.to (Same.tm s1)
        refine ⟨_, rfl, _, rfl, rat2 (mt ts i j), ms.map rat2, i1.dp, .lst (SqL.of hz1) iz1.dp, shaped_rat2 _, shaped_rats _, _, rfl, ?_⟩
        rw [eqv_any]
        by_cases c : mt ts i j ∈ ms
        · rw [decide_eq_true c]
          exact iteF ⟨_, _, _, _, _, _, _, zs, ms, rfl, sm1, hz1, iz1, M.skip (.inr c)⟩
        · rw [decide_eq_false c]
          refine iteT ?_
          have szm := M.sz hD
          have szx : Sz 40 (mt ts i j) := by
            rw [em]
            exact Sz.divInt (by omega) (by omega) (by omega)
          have lz : zs.length = ms.length := by rw [iz.len, List.length_map]
          have ml := M.len
          refine ⟨_, rfl, .inl ⟨rfl, _, SqL.of hz1⟩, _, rfl, L, rfl, ⟨_, SqL.of hz1⟩, fun D hD => ?_⟩
          refine lc_list (xs := zs) (fun m H8 => Same H1 H8 ∧ ∃ cs, H8 D = some (.lst cs) ∧ cs.length = ((ms.take m).filter fun z => decide (z < mt ts i j)).length) ⟨same_upd hD, [], upd_same, rfl⟩ (fun m H8 _ h => SqL.of (h.1 _ _ hz1)) ?_ ?_
          · rintro m x H8 hx ⟨s8, cs, hcs, lcs⟩
            obtain ⟨d2, hd2, ix⟩ := iz1.at hx
            obtain ⟨g, hg, rfl⟩ := getR hd2
            have mlt : m < ms.length := (List.getElem?_eq_some_iff.mp hg).1
            have cl : cs.length ≤ m := by
              rw [lcs]
              refine Nat.le_trans (List.length_filter_le _ _) ?_
              rw [List.length_take]
              omega
            refine ⟨rfl, _, rfl, _, rfl, x, r, g, mt ts i j, rfl, ix.to (Same.tm s8), i1.to (Same.tm s8), (szm g (List.mem_of_getElem? hg)).mono (by decide), szx.mono (by decide), _, rfl, ite2 (fun e => ?_) (fun e => ?_)⟩
            · refine ⟨_, rfl, cs, hcs, small5' (by omega), Z.Same.mut s8 hD, _, upd_same, ?_⟩
              rw [List.take_add_one, hg, List.filter_append, List.length_append, List.length_append, lcs]
              congr 1
              show 1 = (List.filter _ [g]).length
              rw [List.filter_cons_of_pos (by exact e)]
              rfl
            · refine ⟨s8, cs, hcs, ?_⟩
              rw [List.take_add_one, hg, List.filter_append, List.length_append, lcs]
              show _ = _ + (List.filter _ [g]).length
              rw [List.filter_cons_of_neg (by exact e)]
              rfl
          rintro H8 ⟨s8, cs, hcs, lcs⟩
          rw [lz, List.take_length] at lcs
          have cl : cs.length ≤ ms.length := by rw [lcs]; exact List.length_filter_le _ _
          have hz8 := s8 _ _ hz1
          refine ⟨D, cs, rfl, .inl (SqL.of hcs), _, rfl, L, zs, (cs.length : Int), r, rfl, rfl, hz8, small5' (by omega), by omega, by omega, ?_⟩
          have tl : Tm H8 (upd H8 L (.lst (zs.take ((cs.length : Nat) : Int).toNat ++ [r] ++ zs.drop ((cs.length : Nat) : Int).toNat))) := Tm.lst hz8
          have e8 := iz1.to (Same.tm s8)
          refine ⟨_, _, _, _, _, _, _, _, _, rfl, Z.Same.mut (sm1.trans s8) nL, upd_same, ?_, M.ins ij jl c⟩
          show IsA K _ (zs.take cs.length ++ [r] ++ zs.drop cs.length) _
          rw [← lcs, List.map_append, List.map_append, List.map_take, List.map_drop]
          exact (((e8.take cs.length).append (.cons (i1.to (Same.tm s8)) .nil)).append (e8.drop cs.length)).to tl
      · have e : ¬ o.1 < t.1 := of_decide_eq_false (Bool.eq_false_iff.mpr e)
        refine ⟨_, _, _, _, _, _, _, zs, ms, rfl, sm, hz, iz, M.skip (.inl fun ij => ?_)⟩
        have := D.dn i j ij jl
        rw [eti, etj] at this
        omega
    · rintro σ' H' ⟨y3, y4, y5, y6, y7, y8, y9, zs, ms, rfl, sm, hz, iz, M⟩
      rw [lx] at M
      exact ⟨_, _, _, _, _, _, _, _, zs, ms, rfl, sm, hz, iz, M.row hD⟩
  rintro σ' H1 ⟨y2, y3, y4, y5, y6, y7, y8, y9, zs, ms, rfl, sm, hz, iz, M⟩
  rw [lx] at M
  have szm := M.sz hD
  have ml := M.len
  have AM := M.all D
  have lz : zs.length = ms.length := by rw [iz.len, List.length_map]
  refine ⟨two, fun t1 n1' => ⟨two, fun t2 n2 => ⟨(by show 1 ≤ sizeLine; decide), fun T nT => ?_⟩⟩⟩
  have s1 := same_upd (o := .tup [V.int 0, .int 1]) n1'
  have i1 : Is K (upd H1 t1 (.tup [V.int 0, .int 1])) (.ref t1) (rat2 0) := is_zero (SqT.of upd_same)
  generalize upd H1 t1 (.tup [V.int 0, .int 1]) = H2 at s1 i1 n2 nT
  have s2 := same_upd (o := .tup [V.ref t1, .int 0]) n2
  have i2 : Is K (upd H2 t2 (.tup [V.ref t1, .int 0])) (.ref t2) (dTurn (0, 0)) := .tup (SqT.of upd_same) (.two (i1.to (Tm.new n2)) (.int _))
  generalize upd H2 t2 (.tup [V.ref t1, .int 0]) = H3 at s2 i2 nT
  have s3 := same_upd (o := .lst [V.ref t2]) nT
  have sm3 := sm.trans (s1.trans s2)
  have fT : H T = none := by
    cases c : H T with
    | none => rfl
    | some o => have := sm3 _ _ c; rw [nT] at this; cases this
  have hT : (upd H3 T (.lst [V.ref t2])) T = some (.lst [V.ref t2]) := upd_same
  have i2 := i2.to (Tm.new (o := .lst [V.ref t2]) nT)
  have nTL : L ≠ T := fun c => by have := (s1.trans s2) _ _ hz; rw [c, nT] at this; cases this
  generalize upd H3 T (.lst [V.ref t2]) = H4 at s3 hT i2
  have sm4 := sm3.trans s3
  have hz4 := (s1.trans (s2.trans s3)) _ _ hz
  have iz4 := iz.to (Same.tm (s1.trans (s2.trans s3)))
  refine ⟨_, rfl, L, zs, rfl, .inl (SqL.of hz4), _, rfl, by omega, by omega, for_range (lo := 0) (fun i σ' H' => ∃ (y6 y7 y8 y9 : Option V) (us : List V), σ' = [some (.ref a), some (.ref L), y2, y3, y4, some (.ref T), y6, y7, y8, y9] ∧ Same H H' ∧ H' L = some (.lst zs) ∧ IsA K H' zs (ms.map rat2) ∧ H' T = some (.lst us) ∧ IsA K H' us ((trn ts ms i).map dTurn)) ?_ ?_ ?_⟩
  · exact ⟨y6, y7, y8, y9, _, rfl, sm4, hz4, iz4, hT, .cons i2 .nil⟩
  · rintro i σ' H5 hi ⟨y6, y7, y8, y9, us, rfl, sm5, hz5, iz5, hT5, iT5⟩
    have il : i < ms.length := by omega
    have gi := List.getElem?_eq_getElem il
    have eg : ms[i]?.getD 0 = ms[i] := by rw [gi]; rfl
    have zi := szm _ (List.getElem_mem il)
    obtain ⟨v, hv, iv⟩ := iz5.get (i := i) (d := rat2 ms[i]) (by rw [List.getElem?_map, gi]; rfl)
    refine ⟨_, rfl, _, rfl, L, zs, _, v, rfl, rfl, SqL.of hz5, at_of (by omega) hv, two, fun t6 n6 => ?_⟩
    have s6 := same_upd (o := .tup [V.int 1, .int 1]) n6
    have i6 : Is K (upd H5 t6 (.tup [V.int 1, .int 1])) (.ref t6) (rat2 ((1 : Int) : Rat)) := is_one (SqT.of upd_same)
    generalize upd H5 t6 (.tup [V.int 1, .int 1]) = H6 at s6 i6
    have z1 : Sz 4 ((1 : Int) : Rat) := sz_int (by decide) (by decide)
    refine ⟨v, .ref t6, _, _, rfl, iv.to (Same.tm s6), i6, zi.mono (by decide), z1.mono (by decide), fun u7 H7 s7 i7 => ?_⟩
    have i7 : Is K H7 u7 (rat2 (ms[i] + 1)) := i7
    have S7 := s6.trans s7
    have sm7 := sm5.trans S7
    refine ⟨fun σ8 H8 => ∃ u : V, σ8 = [some (.ref a), some (.ref L), y2, y3, y4, some (.ref T), some (.int (0 + (i : Int))), some u, y8, y9] ∧ Same H7 H8 ∧ Is K H8 u (rat2 (midM ms i)) ∧ Sz 100 (midM ms i), ?_, ?_⟩
    · refine ⟨_, rfl, _, _, rfl, rfl, _, rfl, L, zs, rfl, .inl (SqL.of (S7 _ _ hz5)), _, _, rfl, rfl, _, rfl, ite2 (fun e => ?_) (fun e => ?_)⟩
      · have e : (0 + (i : Int)) + 1 < (zs.length : Int) := of_decide_eq_true e
        have gi2 := List.getElem?_eq_getElem (l := ms) (i := i + 1) (by omega)
        have zi2 := szm _ (List.getElem_mem (l := ms) (n := i + 1) (by omega))
        obtain ⟨v2, hv2, iv2⟩ := iz5.get (i := i + 1) (d := rat2 ms[i + 1]) (by rw [List.getElem?_map, gi2]; rfl)
        refine ⟨_, rfl, _, rfl, L, zs, _, v, rfl, rfl, SqL.of (S7 _ _ hz5), at_of (by omega) hv, _, rfl, _, rfl, _, _, rfl, rfl, L, zs, _, v2, rfl, rfl, SqL.of (S7 _ _ hz5), at_of (by omega) hv2, v, v2, _, _, rfl, iv.to (Same.tm S7), iv2.to (Same.tm S7), zi.mono (by decide), zi2.mono (by decide), fun u8 H8 s8 i8 => ?_⟩
        refine ⟨two, fun t9 n9 => ?_⟩
        have s9 := same_upd (o := .tup [V.int 1, .int 2]) n9
        have i9 : Is K (upd H8 t9 (.tup [V.int 1, .int 2])) (.ref t9) (rat2 (Rat.divInt 1 2)) := by
          rw [unit_rat (by decide)]
          exact .tup (SqT.of upd_same) (.two (.int _) (.int _))
        generalize upd H8 t9 (.tup [V.int 1, .int 2]) = H9 at s9 i9
        have zh : Sz 4 (Rat.divInt 1 2) := Sz.divInt (by decide) (by decide) (by decide)
        have zz := (zi.add zi2).mul zh
        refine ⟨u8, .ref t9, _, _, rfl, i8.to (Same.tm s9), i9, (zi.add zi2).mono (by decide), zh.mono (by decide), fun u10 H10 s10 i10 => ?_⟩
        rw [mid_some gi gi2]
        exact ⟨u10, rfl, s8.trans (s9.trans s10), i10, zz.mono (by decide)⟩
      · have e : ¬ (0 + (i : Int)) + 1 < (zs.length : Int) := of_decide_eq_false (Bool.eq_false_iff.mpr e)
        rw [mid_none gi (List.getElem?_eq_none (by omega))]
        exact ⟨u7, rfl, Same.refl _, i7, (zi.add z1).mono (by decide)⟩
    rintro σ8 H8 ⟨u, rfl, s8, iu, zu⟩
    have sm8 := sm7.trans s8
    have S8 := S7.trans s8
    refine ⟨_, rfl, _, rfl, a, u, xs, ts, midM ms i, rfl, Tm.sq (Same.tm sm8) hS, hI.to (Same.tm sm8), hD.lb, n1, iu, zu.mono (by decide), fun w9 H9 s9 i9 => ?_⟩
    obtain ⟨t9, u9, rfl, st9, _⟩ := as_at i9
    have S9 := S8.trans s9
    have sm9 := sm8.trans s9
    have hT9 := S9 _ _ hT5
    have iT9 := iT5.to (Same.tm S9)
    obtain ⟨tl1, tl2⟩ := trn_len ts ms i
    have lus : us.length = (trn ts ms i).length := by rw [iT5.len, List.length_map]
    have gl := List.getElem?_eq_getElem (l := trn ts ms i) (i := (trn ts ms i).length - 1) (by omega)
    have egl : (trn ts ms i)[(trn ts ms i).length - 1]?.getD (0, 0) = (trn ts ms i)[(trn ts ms i).length - 1] := by rw [gl]; rfl
    obtain ⟨vl, hvl, ivl⟩ := iT9.get (i := (trn ts ms i).length - 1) (d := dTurn (trn ts ms i)[(trn ts ms i).length - 1]) (by rw [List.getElem?_map, gl]; rfl)
    have et : trn ts ms (i + 1) = if bestAt ts (midM ms i) = ((trn ts ms i)[(trn ts ms i).length - 1]).2 then trn ts ms i else trn ts ms i ++ [(ms[i], bestAt ts (midM ms i))] := by
      rw [← egl, ← eg]
      rfl
    generalize (trn ts ms i)[(trn ts ms i).length - 1] = last at ivl et
    obtain ⟨tl, ul, rfl, stl, _⟩ := as_at ivl
    have hvl2 : atI us (-1) = some (.ref tl) := by
      rw [← lus] at hvl
      exact atI_neg hvl (by omega)
    refine ⟨t9, _, 1, _, rfl, rfl, st9, rfl, ?_⟩
    refine ⟨_, rfl, _, rfl, 1, rfl, T, us, _, .ref tl, rfl, rfl, SqL.of hT9, hvl2, tl, _, 1, _, rfl, rfl, stl, rfl, rfl, _, rfl, ite2 (fun e => ?_) (fun e => ?_)⟩
    · have e : ¬ bestAt ts (midM ms i) = last.2 := fun c => by
        rw [show V.int ((bst (stayF ts (midM ms i)) ts.length : Nat) : Int) = V.int ((last.2 : Nat) : Int) from congrArg (fun n : Nat => V.int (n : Int)) c, decide_eq_true rfl] at e
        cases e
      rw [if_neg e] at et
      have hz9 := S9 _ _ hz5
      refine ⟨_, rfl, .inl ⟨rfl, _, SqL.of hT9⟩, ?_⟩
      refine ⟨_, rfl, _, rfl, L, zs, _, v, rfl, rfl, SqL.of hz9, at_of (by omega) hv, _, rfl, two, fun t10 n10 => ?_⟩
      have s10 := same_upd (o := .tup [v, V.int ((bst (stayF ts (midM ms i)) ts.length : Nat) : Int)]) n10
      have i10 : Is K (upd H9 t10 (.tup [v, V.int ((bst (stayF ts (midM ms i)) ts.length : Nat) : Int)])) (.ref t10) (dTurn (ms[i], bestAt ts (midM ms i))) := .tup (SqT.of upd_same) (.two ((iv.to (Same.tm S9)).to (Tm.new n10)) (.int _))
      generalize upd H9 t10 (.tup [v, V.int ((bst (stayF ts (midM ms i)) ts.length : Nat) : Int)]) = H10 at s10 i10
      have hT10 := s10 _ _ hT9
      refine ⟨T, us, _, rfl, rfl, hT10, small5' (by omega), ?_⟩
      have kk := Z.Same.mut (o := .lst (us ++ [.ref t10])) (sm9.trans s10) fT
      refine ⟨_, _, _, _, _, rfl, kk, by rw [upd_ne nTL]; exact s10 _ _ hz9, ((iz5.to (Same.tm S9)).to (Same.tm s10)).to (Tm.lst hT10), upd_same, ?_⟩
      rw [et, List.map_append]
      exact ((iT9.to (Same.tm s10)).push i10).to (Tm.lst hT10)
    · have e : bestAt ts (midM ms i) = last.2 := by
        have e := of_decide_eq_true (show decide (V.int ((bst (stayF ts (midM ms i)) ts.length : Nat) : Int) = V.int ((last.2 : Nat) : Int)) = true by
          revert e
          cases decide (V.int ((bst (stayF ts (midM ms i)) ts.length : Nat) : Int) = V.int ((last.2 : Nat) : Int)) <;> simp)
        have e := V.int.inj e
        exact Int.ofNat.inj e
      rw [if_pos e] at et
      exact ⟨_, _, _, _, us, rfl, sm9, S9 _ _ hz5, iz5.to (Same.tm S9), hT9, by rw [et]; exact iT9⟩
  · rintro σ' H5 ⟨y6, y7, y8, y9, us, rfl, sm5, hz5, iz5, hT5, iT5⟩
    have en : (zs.length : Int).toNat = ms.length := by omega
    rw [en] at iT5
    exact ⟨_, rfl, T, us, rfl, .inl ⟨SqL.of hT5, fun t nt => k t us _ _ (sm5.trans (same_upd nt)) (trn_ch D AM) upd_same (iT5.to (Tm.new nt))⟩⟩

theorem ok_next_turn (B : BI mg) (F : At K mg "next_turn" snext_turn ["depths", "depth"]) (C_ratio : Ok P w K mg base 1 "ratio" ["top", "bottom"] [] (spRat K)) (C_less : Ok P w K mg base 1 "less" ["a", "b"] [] (spLess K)) : Ok P w K mg base 2 "next_turn" ["depths", "depth"] [] (spNext K) := by
  refine F.ok scnext_turn (fun vs H Q E h => ?_) (fun f cdv A outer s H vs Q E hr h => ?_)
  · obtain ⟨a, xs, ts, d, rfl, _⟩ := h
    rfl
  obtain ⟨a, xs, ts, d, rfl, hS, hI, hD, dn, k⟩ := h
  refine ⟨_, (pss_cons (ps_asg (pe_ix ix_tup (pv 0) (pv 1) (fun _ _ => rfl)) (pg_tup rfl (pgs_cons (pg_name (i := 2) scnext_turn.nd rfl (Or.inl rfl)) (pgs_cons (pg_name (i := 3) scnext_turn.nd rfl (Or.inl rfl)) pgs_nil))))
      (pss_cons (ps_set (i := 4) scnext_turn.nd rfl (Or.inl rfl) pe_non)
      (pss_cons (ps_for PassesOwn.never rfl (pi_range2 rfl B.range (pa_cons (pe_op op_add (pv 1) pe_int) (pa_cons (pe_callB call_len_seq rfl B.len PySem.boot_len (pa_cons (pv 0) pa_nil)) pa_nil))) (pg_name (i := 5) scnext_turn.nd rfl (Or.inl rfl))
        (pss_cons (ps_asg (pe_ix ix_tup (pv 0) (pv 5) (fun _ _ => rfl)) (pg_tup rfl (pgs_cons (pg_name (i := 6) scnext_turn.nd rfl (Or.inl rfl)) (pgs_cons (pg_name (i := 7) scnext_turn.nd rfl (Or.inl rfl)) pgs_nil))))
        (pss_cons (ps_set (i := 8) scnext_turn.nd rfl (Or.inl rfl) (pe_ok C_ratio (hr.mono (by first | decide | exact Nat.le_refl _)) rfl (pa_cons (pe_op op_sub (pv 7) (pv 3)) (pa_cons (pe_op op_sub (pv 2) (pv 6)) pa_nil))))
        (pss_one (ps_if (PW.pt (pw_or (pt_cmpR op_isN (pv 4) pe_non (nomark _)) (pw_or1 (pt_not (pt_val (pe_ok C_less (hr.mono (by first | decide | exact Nat.le_refl _)) rfl (pa_cons (pe_ix ix_tup (pv 4) pe_int (fun _ _ => rfl)) (pa_cons (pv 8) pa_nil))))))))
          (pss_one (ps_set (i := 4) scnext_turn.nd rfl (Or.inl rfl) (pe_tup (pa_cons (pv 8) (pa_cons (pv 5) pa_nil)))))
          pss_nil)))))
      (pss_one (ps_ret (pv 4)))))), ?_⟩
  have lx : xs.length = ts.length := by rw [hI.len, List.length_map]
  have n6 := hD.n6
  have two : (2 : Nat) ≤ sizeLine := by decide
  have get : ∀ i, i < ts.length → ∃ p, xs[i]? = some (.ref p) ∧ SqT K H p [.int (dAt ts i).1, .int (dAt ts i).2] ∧ 0 ≤ (dAt ts i).1 ∧ (dAt ts i).1 ≤ 1000000 ∧ 0 ≤ (dAt ts i).2 ∧ (dAt ts i).2 ≤ 1000000 := fun i il => by
    have g := List.getElem?_eq_getElem (l := ts) (i := i) il
    rw [dAt_of g]
    obtain ⟨v, hv, iv⟩ := hI.get (i := i) (d := dPt ts[i]) (by rw [List.getElem?_map, g]; rfl)
    obtain ⟨p, rfl, sp⟩ := pt_at iv
    have := hD.b _ (List.mem_of_getElem? g)
    exact ⟨p, hv, sp, this⟩
  obtain ⟨pd, hd, sd, d1, d2, d3, d4⟩ := get d dn
  refine ⟨_, rfl, _, rfl, a, xs, _, .ref pd, rfl, rfl, hS, atI_nat hd, pd, _, rfl, sd, rfl, .int (dAt ts d).1, _, rfl, .int (dAt ts d).2, _, rfl, rfl, ?_⟩
  refine ⟨_, rfl, _, _, rfl, rfl, _, rfl, a, xs, rfl, .inr hS, (d : Int) + 1, _, rfl, ⟨by omega, by omega, by omega, by omega⟩, for_range (lo := (d : Int) + 1) (fun i σ' H' => ∃ (y4 : V) (y5 y6 y7 y8 : Option V), σ' = [some (.ref a), some (.int (d : Nat)), some (.int (dAt ts d).1), some (.int (dAt ts d).2), some y4, y5, y6, y7, y8] ∧ Same H H' ∧ Is K H' y4 (dOptT (nxtN ts d i))) ?_ ?_ ?_⟩
  · exact ⟨.non, none, none, none, none, rfl, Same.refl _, .non⟩
  · rintro i σ' H' hi ⟨y4, y5, y6, y7, y8, rfl, sm, i4⟩
    have jl : d + 1 + i < ts.length := by omega
    obtain ⟨pj, hj, sj, b1, b2, b3, b4⟩ := get (d + 1 + i) jl
    have dr := hD.dps.dn d (d + 1 + i) (by omega) jl
    refine ⟨_, rfl, _, rfl, a, xs, _, .ref pj, rfl, rfl, Tm.sq (Same.tm sm) hS, at_of (j := d + 1 + i) (by omega) hj, pj, _, rfl, Tm.sq (Same.tm sm) sj, rfl, .int (dAt ts (d + 1 + i)).1, _, rfl, .int (dAt ts (d + 1 + i)).2, _, rfl, rfl, ?_⟩
    refine ⟨_, rfl, _, rfl, _, _, rfl, rfl, _, rfl, _, rfl, _, _, rfl, rfl, _, _, rfl, by omega, bigK (by omega), bigK (by omega), fun u H1 s1 i1 => ?_⟩
    have i1 : Is K H1 u (rat2 (mt ts d (d + 1 + i))) := i1
    have zj := mt_sz hD (i := d) (j := d + 1 + i) (by omega) jl
    have S1 := sm.trans s1
    have i41 := i4.to (Same.tm s1)
    have es : nxtN ts d (i + 1) = nxtStep ts d (nxtN ts d i) (d + 1 + i) := rfl
    have ej : (d : Int) + 1 + (i : Int) = ((d + 1 + i : Nat) : Int) := by omega
    have new : ∀ t8, H1 t8 = none → Is K (upd H1 t8 (.tup [u, .int ((d : Int) + 1 + (i : Int))])) (.ref t8) (dTurn (mt ts d (d + 1 + i), d + 1 + i)) := fun t8 n8 => by
      rw [ej]
      exact .tup (SqT.of upd_same) (.two (i1.to (Tm.new n8)) (.int _))
    rcases nxtN_ok ts d i with ⟨_, e⟩ | ⟨p, e, ok⟩
    · rw [e] at i41
      have i41 : Is K H1 y4 .none := i41
      cases i41
      refine ⟨_, rfl, rfl, true, by simp, iteT (iteT ⟨_, rfl, _, rfl, two, fun t8 n8 => ⟨_, _, _, _, _, rfl, S1.trans (same_upd n8), ?_⟩⟩)⟩
      rw [es, e]
      exact new t8 n8
    · rw [e] at i41
      obtain ⟨tb, ub, rfl, sb, ib⟩ := as_at (show Is K H1 y4 (dAs p.1 p.2) from i41)
      have zp : Sz 3900 p.1 := by
        rw [ok.e]
        exact (mt_sz hD ok.dp (by have := ok.lt; omega)).mono (by decide)
      have es2 : nxtN ts d (i + 1) = if p.1 < mt ts d (d + 1 + i) then some p else some (mt ts d (d + 1 + i), d + 1 + i) := by
        rw [es, e]
        rfl
      refine ⟨_, rfl, rfl, false, by simp, iteF ⟨_, rfl, tb, _, 0, _, rfl, rfl, sb, rfl, _, rfl, ub, u, _, _, rfl, ib, i1, zp, zj.mono (by decide), _, rfl, ?_⟩⟩
      by_cases c : p.1 < mt ts d (d + 1 + i)
      · rw [decide_eq_true c]
        refine iteF ⟨_, _, _, _, _, rfl, S1, ?_⟩
        rw [es2, if_pos c]
        exact i41
      · rw [decide_eq_false c]
        refine iteT ⟨_, rfl, _, rfl, two, fun t8 n8 => ⟨_, _, _, _, _, rfl, S1.trans (same_upd n8), ?_⟩⟩
        rw [es2, if_neg c]
        exact new t8 n8
  · rintro σ' H' ⟨y4, y5, y6, y7, y8, rfl, sm, i4⟩
    have en : ((xs.length : Int) - ((d : Int) + 1)).toNat = ts.length - (d + 1) := by omega
    rw [en] at i4
    exact ⟨_, rfl, k y4 H' sm i4⟩

theorem ok_dozing (B : BI mg) (Z : GZ K mg) (F : At K mg "dozing" sdozing ["depths"]) (C_next_turn : Ok P w K mg base 2 "next_turn" ["depths", "depth"] [] (spNext K)) : Ok P w K mg base 3 "dozing" ["depths"] [] (spTurns K) := by
  refine F.ok scdozing (fun vs H Q E h => ?_) (fun f cdv A outer s H vs Q E hr h => ?_)
  · obtain ⟨a, xs, ts, rfl, _⟩ := h
    rfl
  obtain ⟨a, xs, ts, rfl, hS, hI, hD, k⟩ := h
  obtain ⟨zA, hZERO, sZ⟩ := Z
  refine ⟨_, (pss_cons (ps_set (i := 1) scdozing.nd rfl (Or.inl rfl) (pe_lst pa_nil))
      (pss_cons (ps_set (i := 2) scdozing.nd rfl (Or.inl rfl) (pe_tup (pa_cons (pe_glob (v := .ref zA) rfl hZERO rfl) (pa_cons pe_int pa_nil))))
      (pss_cons (ps_while PassesOwn.never (pt_cmpR op_notN (pv 2) pe_non (nomark _))
        (pss_cons (ps_expr (pe_bm PySem.F.plainAttrs_list PySem.F.slot_list_append PySem.F.type_list_append mt_append (pv 1) (pa_cons (pv 2) pa_nil)))
        (pss_one (ps_set (i := 2) scdozing.nd rfl (Or.inl rfl) (pe_ok C_next_turn (hr.mono (by first | decide | exact Nat.le_refl _)) rfl (pa_cons (pv 0) (pa_cons (pe_ix ix_tup (pv 2) pe_int (fun _ _ => rfl)) pa_nil)))))))
      (pss_one (ps_ret (pe_callTy call_tuple_of rfl B.tuple (by decide +kernel) (pa_cons (pv 1) pa_nil))))))), ?_⟩
  have two : (2 : Nat) ≤ sizeLine := by decide
  have D := hD.dps
  have n6 := hD.n6
  refine ⟨(by show 0 ≤ sizeLine; decide), fun L nL => ⟨two, fun t1 n1 => ?_⟩⟩
  have sL := same_upd (o := .lst []) nL
  have hL : (upd H L (.lst [])) L = some (.lst []) := upd_same
  generalize upd H L (.lst []) = H1 at sL hL n1
  have s1 := same_upd (o := .tup [V.ref zA, V.int 0]) n1
  have i1 : Is K (upd H1 t1 (.tup [V.ref zA, V.int 0])) (.ref t1) (dTurn (0, 0)) := .tup (SqT.of upd_same) (.two (is_zero (sZ _)) (.int _))
  generalize upd H1 t1 (.tup [V.ref zA, V.int 0]) = H2 at s1 i1
  refine ⟨fun m σ' H' => ∃ (y2 : V) (us : List V) (rs : List (Rat × Nat)) (o : Option (Rat × Nat)), σ' = [some (.ref a), some (.ref L), some y2] ∧ Same H H' ∧ H' L = some (.lst us) ∧ IsA K H' us (rs.map dTurn) ∧ Is K H' y2 (dOptT o) ∧
    (match o with | none => m = 0 ∧ Ch ts (0, 0) rs | some p => p.2 < ts.length ∧ m = ts.length - p.2 ∧ rs.length ≤ p.2 ∧ ∀ l, Ch ts p l → Ch ts (0, 0) (rs ++ l)), ⟨ts.length, .ref t1, [], [], some (0, 0), rfl, sL.trans s1, s1 _ _ hL, .nil, i1, D.n1, rfl, Nat.le_refl _, fun l h => h⟩, ?_⟩
  rintro m σ' H' ⟨y2, us, rs, o, rfl, sm, hU, iU, i2, st⟩
  cases o with
  | none =>
    have i2 : Is K H' y2 .none := i2
    cases i2
    refine ⟨_, rfl, rfl, false, by simp, iteF ?_⟩
    exact ⟨_, rfl, L, us, rfl, .inl ⟨SqL.of hU, fun t nt => k t us rs _ (sm.trans (same_upd nt)) st.2 upd_same (iU.to (Tm.new nt))⟩⟩
  | some p =>
    obtain ⟨pn, rfl, rl, ch⟩ := st
    have i2 : Is K H' y2 (dAs p.1 p.2) := i2
    obtain ⟨tp, up, rfl, sp, ip⟩ := as_at i2
    refine ⟨_, rfl, rfl, true, by simp, iteT ⟨_, fun σ' H' h => h, ?_⟩⟩
    have lu : us.length = rs.length := by rw [iU.len, List.length_map]
    refine ⟨_, rfl, .inl ⟨rfl, _, SqL.of hU⟩, _, rfl, L, us, _, rfl, rfl, hU, small5' (by omega), ?_⟩
    have hL3 : (upd H' L (.lst (us ++ [.ref tp]))) L = some (.lst (us ++ [.ref tp])) := upd_same
    have tl : Tm H' (upd H' L (.lst (us ++ [.ref tp]))) := Tm.lst hU
    have sm3 := Z.Same.mut (o := .lst (us ++ [.ref tp])) sm nL
    have iU3 : IsA K (upd H' L (.lst (us ++ [.ref tp]))) (us ++ [.ref tp]) ((rs ++ [p]).map dTurn) := by
      rw [List.map_append]
      exact (iU.push i2).to tl
    have sp3 := Tm.sq tl sp
    generalize upd H' L (.lst (us ++ [.ref tp])) = H3 at hL3 sm3 iU3 sp3
    refine ⟨_, rfl, _, rfl, tp, _, 1, _, rfl, rfl, sp3, rfl, a, xs, ts, p.2, rfl, Tm.sq (Same.tm sm3) hS, hI.to (Same.tm sm3), hD, pn, fun v H4 s4 i4 => ?_⟩
    cases e : nxt ts p.2 with
    | none =>
      rw [e] at i4
      exact ⟨0, by omega, v, _, rs ++ [p], none, rfl, sm3.trans s4, s4 _ _ hL3, iU3.to (Same.tm s4), i4, rfl, ch [p] (.done e)⟩
    | some p' =>
      rw [e] at i4
      have ok := nxt_some e
      have k1 := ok.dp
      have k2 := ok.lt
      refine ⟨ts.length - p'.2, by omega, v, _, rs ++ [p], some p', rfl, sm3.trans s4, s4 _ _ hL3, iU3.to (Same.tm s4), i4, by omega, rfl, by rw [List.length_append, List.length_singleton]; omega, fun l h => ?_⟩
      rw [List.append_assoc]
      exact ch (p :: l) (.step e h)

end
end Z

namespace Z
open PySem PySem.Spec PyProof.Rows L2
section
variable {P : Program} {w : World} {K : PySem.W.Frag} {mg : Str → Option Value} {base : Heap}
theorem ok_doze_cost (B : BI mg) (B2 : BJ mg) (Z : GZ K mg) (F : At K mg "doze_cost" sdoze_cost ["depths", "length"]) (C_dozing : Ok P w K mg base 3 "dozing" ["depths"] [] (spTurns K)) (C_ratio1 : Ok P w K mg base 1 "ratio" ["top", "bottom"] [.int 1] (spRat K)) (C_less : Ok P w K mg base 1 "less" ["a", "b"] [] (spLess K)) (C_lesser : Ok P w K mg base 2 "lesser" ["a", "b"] [] (spSel K minR))
    (C_plus : Ok P w K mg base 2 "plus" ["a", "b"] [] (spBin K (fun p q => p + q))) (C_minus : Ok P w K mg base 2 "minus" ["a", "b"] [] (spBin K (fun p q => p - q))) (C_times : Ok P w K mg base 2 "times" ["a", "b"] [] (spBin K (fun p q => p * q))) : Ok P w K mg base 4 "doze_cost" ["depths", "length"] [] (spDoze K) := by
  refine F.ok scdoze_cost (fun vs H Q E h => ?_) (fun f cdv A outer s H vs Q E hr h => ?_)
  · obtain ⟨a, y, xs, ts, L, rfl, _⟩ := h
    rfl
  obtain ⟨a, y, xs, ts, L, rfl, hS, hI, hD, iy, L0, zL, k⟩ := h
  obtain ⟨zA, hZERO, sZ⟩ := Z
  refine ⟨_, (pss_cons (ps_set (i := 2) scdoze_cost.nd rfl (Or.inl rfl) (pe_ok C_dozing (hr.mono (by first | decide | exact Nat.le_refl _)) rfl (pa_cons (pv 0) pa_nil)))
      (pss_cons (ps_set (i := 3) scdoze_cost.nd rfl (Or.inl rfl) (pe_op op_cat (pe_lc (own := [("pair", 9)]) (g := gName 9) (tt := tYes) rfl scdoze_cost.nd (pi_tup (pe_slice sl_tupW (pv 2) (po_some pe_int) po_none)) (blkOk_by (own := [("pair", 9)]) (N := ["depths", "length", "pairs", "ends", "spent", "reached", "time", "depth", "end", "pair"]) (sc := defScope sdoze_cost) (by decide +kernel)) (fun _ _ _ _ _ => (pg_name (i := 9) scdoze_cost.nd rfl (Or.inl rfl))) (fun _ _ _ _ _ => pts_nil) (fun _ _ _ _ _ => (pe_ix (ix_tupK (K := K) rfl) (pv 9) pe_int (fun _ _ => rfl)))) (pe_lst (pa_cons (pv 1) pa_nil))))
      (pss_cons (ps_set (i := 4) scdoze_cost.nd rfl (Or.inl rfl) (pe_glob (v := .ref zA) rfl hZERO rfl))
      (pss_cons (ps_set (i := 5) scdoze_cost.nd rfl (Or.inl rfl) pe_int)
      (pss_cons (ps_for PassesOwn.never rfl (pi_zipM rfl B2.zip (pa_cons (pv 2) (pa_cons (pv 3) pa_nil))) (pg_tup rfl (pgs_cons (pg_tup rfl (pgs_cons (pg_name (i := 6) scdoze_cost.nd rfl (Or.inl rfl)) (pgs_cons (pg_name (i := 7) scdoze_cost.nd rfl (Or.inl rfl)) pgs_nil))) (pgs_cons (pg_name (i := 8) scdoze_cost.nd rfl (Or.inl rfl)) pgs_nil)))
        (pss_one (ps_if (pt_val (pe_ok C_less (hr.mono (by first | decide | exact Nat.le_refl _)) rfl (pa_cons (pv 6) (pa_cons (pv 1) pa_nil))))
          (pss_cons (ps_set (i := 4) scdoze_cost.nd rfl (Or.inl rfl) (pe_ok C_plus (hr.mono (by first | decide | exact Nat.le_refl _)) rfl (pa_cons (pv 4) (pa_cons (pe_ok C_times (hr.mono (by first | decide | exact Nat.le_refl _)) rfl (pa_cons (pe_ok C_ratio1 (hr.mono (by first | decide | exact Nat.le_refl _)) rfl (pa_cons (pe_ix ix_tup (pe_ix ix_tup (pv 0) (pv 7) (fun _ _ => rfl)) pe_int (fun _ _ => rfl)) pa_nil)) (pa_cons (pe_ok C_minus (hr.mono (by first | decide | exact Nat.le_refl _)) rfl (pa_cons (pe_ok C_lesser (hr.mono (by first | decide | exact Nat.le_refl _)) rfl (pa_cons (pv 8) (pa_cons (pv 1) pa_nil))) (pa_cons (pv 6) pa_nil))) pa_nil))) pa_nil))))
          (pss_one (ps_set (i := 5) scdoze_cost.nd rfl (Or.inl rfl) (pv 7))))
          pss_nil)))
      (pss_one (ps_ret (pe_ok C_plus (hr.mono (by first | decide | exact Nat.le_refl _)) rfl (pa_cons (pv 4) (pa_cons (pe_ok C_ratio1 (hr.mono (by first | decide | exact Nat.le_refl _)) rfl (pa_cons (pe_ix ix_tup (pe_ix ix_tup (pv 0) (pv 5) (fun _ _ => rfl)) pe_int (fun _ _ => rfl)) pa_nil)) pa_nil)))))))))), ?_⟩
  have two : (2 : Nat) ≤ sizeLine := by decide
  have D := hD.dps
  have n6 := hD.n6
  have lx : xs.length = ts.length := by rw [hI.len, List.length_map]
  have get : ∀ i, i < ts.length → ∃ p, xs[i]? = some (.ref p) ∧ SqT K H p [.int (dAt ts i).1, .int (dAt ts i).2] := fun i il => by
    have g := List.getElem?_eq_getElem (l := ts) (i := i) il
    rw [dAt_of g]
    obtain ⟨v, hv, iv⟩ := hI.get (i := i) (d := dPt ts[i]) (by rw [List.getElem?_map, g]; rfl)
    obtain ⟨p, rfl, sp⟩ := pt_at iv
    exact ⟨p, hv, sp⟩
  refine ⟨_, rfl, a, xs, ts, rfl, hS, hI, hD, fun b ys rs H1 s1 ch hb iT => ?_⟩
  obtain ⟨rl, rz⟩ := Ch.facts hD ch D.n1 (Sz.zero.mono (by decide))
  have rl : rs.length ≤ ts.length := rl
  have ly : ys.length = rs.length := by rw [iT.len, List.length_map]
  have r1 : 1 ≤ rs.length := by
    have := ch_head ch
    have := (List.getElem?_eq_some_iff.mp this).1
    omega
  refine ⟨_, rfl, 1, rfl, b, ys, rfl, SqT.of hb, fun b2 H2 s2 hb2 => ?_⟩
  rw [cut_drop1] at hb2
  have hb2 : SqT K H2 b2 (ys.drop 1) := hb2
  have iT2 := iT.to (Same.tm s2)
  have hbS := s2 _ _ hb
  have ldr : (ys.drop 1).length = ys.length - 1 := List.length_drop ..
  refine ⟨b2, rfl, ⟨_, hb2⟩, fun E3 n3 => ?_⟩
  refine lc_tup (xs := ys.drop 1) (fun i H8 => Same H2 H8 ∧ ∃ cs, H8 E3 = some (.lst cs) ∧ IsA K H8 cs ((((rs.drop 1).take i).map (·.1)).map rat2)) ⟨same_upd n3, [], upd_same, .nil⟩ (fun i H8 _ h => Tm.sq (Same.tm h.1) hb2) ?_ ?_
  · rintro i x H8 hx ⟨sm, cs, hc, ic⟩
    obtain ⟨d2, hd2, ix⟩ := (iT2.drop 1).at hx
    rw [← List.map_drop, List.getElem?_map] at hd2
    obtain ⟨r, hr2, rfl⟩ := Option.map_eq_some_iff.mp hd2
    obtain ⟨tr, ur, rfl, sr, ir⟩ := as_at (show Is K H2 x (dAs r.1 r.2) from ix)
    have il := (List.getElem?_eq_some_iff.mp hr2).1
    have lcs : cs.length = i := by rw [ic.len, List.length_map, List.length_map, List.length_take]; omega
    rw [List.length_drop] at il
    refine ⟨rfl, _, rfl, tr, _, 0, _, rfl, rfl, Tm.sq (Same.tm sm) sr, rfl, cs, hc, small5' (by omega), Z.Same.mut sm n3, _, upd_same, ?_⟩
    rw [List.take_add_one, hr2]
    simp only [Option.toList, List.map_append, List.map_cons, List.map_nil]
    exact (ic.push (ir.to (Same.tm sm))).to (Tm.lst hc)
  rintro H3 ⟨sm3, cs, h3, i3⟩
  rw [ldr, ly, List.take_of_length_le (by rw [List.length_drop]; exact Nat.le_refl _)] at i3
  have lcs : cs.length = rs.length - 1 := by rw [i3.len, List.length_map, List.length_map, List.length_drop]
  refine ⟨_, rfl, (by show 1 ≤ sizeLine; decide), fun M4 n4 => ?_⟩
  have s4 := same_upd (o := .lst [y]) n4
  have h4 : (upd H3 M4 (.lst [y])) M4 = some (.lst [y]) := upd_same
  generalize upd H3 M4 (.lst [y]) = H4 at s4 h4
  refine ⟨E3, M4, cs, [y], rfl, rfl, s4 _ _ h3, h4, small5 (by show cs.length + 1 ≤ 100000; omega), fun N5 n5 => ?_⟩
  have s5 := same_upd (o := .lst (cs ++ [y])) n5
  have h5 : (upd H4 N5 (.lst (cs ++ [y]))) N5 = some (.lst (cs ++ [y])) := upd_same
  have S15 := s2.trans (sm3.trans (s4.trans s5))
  have i5 : IsA K (upd H4 N5 (.lst (cs ++ [y]))) (cs ++ [y]) (((rs.drop 1).map (·.1) ++ [L]).map rat2) := by
    rw [List.map_append]
    exact (i3.to (Same.tm (s4.trans s5))).append (.cons (iy.to (Same.tm (s1.trans S15))) .nil)
  generalize upd H4 N5 (.lst (cs ++ [y])) = H5 at s5 h5 S15 i5
  have hb5 := S15 _ _ hb
  have iT5 := iT.to (Same.tm S15)
  have len5 : ys.length = (cs ++ [y]).length := by rw [List.length_append, lcs, ly]; show _ = rs.length - 1 + 1; omega
  -- the ends
  have ends : ∀ i r, rs[i]? = some r → ∃ e, ((rs.drop 1).map (·.1) ++ [L])[i]? = some e ∧ Sz 1000 e ∧ (r.1 < L → minR e L = endE rs L (i + 1)) := fun i r hr => by
    have il := (List.getElem?_eq_some_iff.mp hr).1
    cases hn : rs[i + 1]? with
    | none =>
      have : rs.length ≤ i + 1 := List.getElem?_eq_none_iff.mp hn
      refine ⟨L, ?_, zL, fun _ => ?_⟩
      · rw [List.getElem?_append_right (by rw [List.length_map, List.length_drop]; omega)]
        rw [List.length_map, List.length_drop, show i - (rs.length - 1) = 0 by omega]
        rfl
      · unfold endE minR
        rw [hn, if_neg (by grind)]
    | some r' =>
      have il' := (List.getElem?_eq_some_iff.mp hn).1
      refine ⟨r'.1, ?_, ((rz r' (List.mem_of_getElem? hn)).1).mono (by decide), fun _ => ?_⟩
      · rw [List.getElem?_append_left (by rw [List.length_map, List.length_drop]; omega), List.getElem?_map, List.getElem?_drop, Nat.add_comm, hn]
        rfl
      · unfold endE minR
        rw [hn]
        show (if L < r'.1 then L else r'.1) = if r'.1 < L then r'.1 else L
        split <;> split <;> grind
  refine ⟨_, rfl, _, rfl, b, N5, ys, _, rfl, SqT.of hb5, SqL.of h5, for_zipM (xs := ys) (ys := cs ++ [y]) len5 (fun i σ' H' => ∃ (u : V) (y6 y7 y8 y9 : Option V), σ' = [some (.ref a), some y, some (.ref b), some (.ref N5), some u, some (.int ((lastD rs L i : Nat) : Int)), y6, y7, y8, y9] ∧ Same H5 H' ∧ Is K H' u (rat2 (dozeS ts rs L i))) ?_ ?_ ?_ ?_⟩
  · exact ⟨.ref zA, none, none, none, none, rfl, Same.refl _, by rw [doze0 D ch L0]; exact is_zero (sZ _)⟩
  · rintro i σ' H' ⟨u, y6, y7, y8, y9, rfl, sm, _⟩
    exact ⟨SqT.of (sm _ _ hb5), SqL.of (sm _ _ h5)⟩
  · rintro i v e T σ' H' hv he ⟨u, y6, y7, y8, y9, rfl, sm, iu⟩ nT
    obtain ⟨d2, hd2, iv⟩ := iT5.at hv
    rw [List.getElem?_map] at hd2
    obtain ⟨r, hr2, rfl⟩ := Option.map_eq_some_iff.mp hd2
    obtain ⟨ex, hex, zex, mex⟩ := ends i r hr2
    obtain ⟨d3, hd3, ie⟩ := i5.at he
    obtain ⟨ex', hex', rfl⟩ := getR hd3
    obtain rfl : ex = ex' := Option.some.inj (hex.symm.trans hex')
    obtain ⟨tr, ur, rfl, sr, ir⟩ := as_at (show Is K H5 v (dAs r.1 r.2) from iv)
    have rn := (ch_pos D ch hr2).2
    have zr := (rz r (List.mem_of_getElem? hr2)).1
    have sT := same_upd (o := .tup [V.ref tr, e]) nT
    have hT : SqT K (upd H' T (.tup [V.ref tr, e])) T [V.ref tr, e] := SqT.of upd_same
    have iuT := iu.to (Tm.new (o := .tup [V.ref tr, e]) nT)
    generalize upd H' T (.tup [V.ref tr, e]) = H6 at sT hT iuT
    have sm6 := sm.trans sT
    have S16 := s1.trans (S15.trans sm6)
    have iy6 := iy.to (Same.tm S16)
    refine ⟨T, _, rfl, hT, rfl, .ref tr, _, rfl, tr, _, rfl, Tm.sq (Same.tm sm6) sr, rfl, ur, _, rfl, .int ((r.2 : Nat) : Int), _, rfl, rfl, e, _, rfl, rfl, ?_⟩
    refine ⟨_, rfl, _, rfl, ur, y, r.1, L, rfl, ir.to (Same.tm sm6), iy6, zr.mono (by decide), zL.mono (by decide), _, rfl, ite2 (fun c => ?_) (fun c => ?_)⟩
    · have c := of_decide_eq_true c
      obtain ⟨pd, hpd, spd⟩ := get r.2 rn
      have hS6 := Tm.sq (Same.tm S16) hS
      have bd := dAt_b hD r.2
      refine ⟨_, rfl, _, rfl, _, rfl, a, xs, _, .ref pd, rfl, rfl, hS6, atI_nat hpd, pd, _, 0, _, rfl, rfl, Tm.sq (Same.tm S16) spd, rfl, (dAt ts r.2).1, 1, rfl, by decide, bigK (by omega), bigK (by decide), fun u7 H7 s7 i7 => ?_⟩
      rw [one_rat] at i7
      have z7 := sz_int (n := 40) (b := (dAt ts r.2).1) (by omega) (by decide)
      refine ⟨_, rfl, _, rfl, e, y, ex, L, rfl, ie.to (Same.tm (sm6.trans s7)), iy6.to (Same.tm s7), zex.mono (by decide), zL.mono (by decide), fun u8 i8 => ?_⟩
      rw [mex c] at i8
      have ze : Sz 1000 (endE rs L (i + 1)) := endE_sz (fun r' h' => ((rz r' h').1).mono (by decide)) zL
      refine ⟨_, rfl, u8, ur, _, _, rfl, i8, ir.to (Same.tm (sm6.trans s7)), ze.mono (by decide), zr.mono (by decide), fun u9 H9 s9 i9 => ?_⟩
      have z9 := ze.sub zr
      refine ⟨u7, u9, _, _, rfl, i7.to (Same.tm s9), i9, z7.mono (by decide), z9.mono (by decide), fun u10 H10 s10 i10 => ?_⟩
      have zS := dozeS_sz (i := i) hD (fun r' h' => ((rz r' h').1).mono (show 40 ≤ 1000 by decide)) zL
      have S10 := s7.trans (s9.trans s10)
      refine ⟨u, u10, _, _, rfl, iuT.to (Same.tm S10), i10, zS.mono (by decide), (z7.mul z9).mono (by decide), fun u11 H11 s11 i11 => ?_⟩
      have S11 := sm6.trans (S10.trans s11)
      refine ⟨_, rfl, u11, some ur, some (.int ((r.2 : Nat) : Int)), some e, y9, ?_, S11, ?_⟩
      · rw [lastD_yes hr2 c]
        rfl
      · rw [doze_yes D ch hr2 c]
        exact i11
    · have c : ¬ r.1 < L := of_decide_eq_false (Bool.eq_false_iff.mpr c)
      refine ⟨u, some ur, some (.int ((r.2 : Nat) : Int)), some e, y9, ?_, sm6, ?_⟩
      · rw [lastD_no hr2 c]
        rfl
      · rw [(doze_no D ch hr2 c).1]
        exact iuT
  · rintro σ' H' ⟨u, y6, y7, y8, y9, rfl, sm, iu⟩
    rw [ly] at iu ⊢
    have S6 := s1.trans (S15.trans sm)
    have eb := lastD_best D ch L0
    have bn : lastD rs L rs.length < ts.length := by
      rw [eb]
      exact bst_lt _ D.n1
    obtain ⟨pd, hpd, spd⟩ := get _ bn
    have bd := dAt_b hD (lastD rs L rs.length)
    have zS := dozeS_sz (i := rs.length) hD (fun r' h' => ((rz r' h').1).mono (show 40 ≤ 1000 by decide)) zL
    have z7 := sz_int (n := 40) (b := (dAt ts (lastD rs L rs.length)).2) (by omega) (by decide)
    refine ⟨_, rfl, _, rfl, _, rfl, a, xs, _, .ref pd, rfl, rfl, Tm.sq (Same.tm S6) hS, atI_nat hpd, pd, _, 1, _, rfl, rfl, Tm.sq (Same.tm S6) spd, rfl, (dAt ts (lastD rs L rs.length)).2, 1, rfl, by decide, bigK (by omega), bigK (by decide), fun u7 H7 s7 i7 => ?_⟩
    rw [one_rat] at i7
    refine ⟨u, u7, _, _, rfl, iu.to (Same.tm s7), i7, zS.mono (by decide), z7.mono (by decide), fun u8 H8 s8 i8 => ?_⟩
    have i8 : Is K H8 u8 (rat2 (dozeS ts rs L rs.length + ((dAt ts (lastD rs L rs.length)).2 : Rat))) := i8
    rw [doze_end D ch L0] at i8
    exact k u8 H8 (S6.trans (s7.trans s8)) i8

theorem ok_law_doze (B : BI mg) (F : At K mg "_law_doze" s_law_doze ["depths", "turns", "length"]) (C_law_less : Ok P w K mg base 1 "_law_less" ["a", "b"] [] (spLess K)) (C_law_plus : Ok P w K mg base 3 "_law_plus" ["a", "b"] [] (spBin K (fun p q => p + q))) (C_law_minus : Ok P w K mg base 3 "_law_minus" ["a", "b"] [] (spBin K (fun p q => p - q))) (C_law_times : Ok P w K mg base 3 "_law_times" ["a", "b"] [] (spBin K (fun p q => p * q))) : Ok P w K mg base 4 "_law_doze" ["depths", "turns", "length"] [] (spLawDoze K) := by
  refine F.ok sc_law_doze (fun vs H Q E h => ?_) (fun f cdv A outer s H vs Q E hr h => ?_)
  · obtain ⟨a, b, y, xs, ys, ts, rs, L, rfl, _⟩ := h
    rfl
  obtain ⟨a, b, y, xs, ys, ts, rs, L, rfl, hS, hI, hD, hb, iT, ch, iy, L0, zL, k⟩ := h
  refine ⟨_, (pss_cons (ps_set (i := 3) sc_law_doze.nd rfl (Or.inl rfl) (pe_tup (pa_cons pe_int (pa_cons pe_int pa_nil))))
      (pss_cons (ps_set (i := 4) sc_law_doze.nd rfl (Or.inl rfl) pe_int)
      (pss_cons (ps_for PassesOwn.never rfl (pi_range1 rfl B.range (pa_cons (pe_callB call_len_seq rfl B.len PySem.boot_len (pa_cons (pv 1) pa_nil)) pa_nil)) (pg_name (i := 5) sc_law_doze.nd rfl (Or.inl rfl))
        (pss_one (ps_if (PW.pt (pw_or (pt_cmpR op_eq (pv 5) pe_int (nomark _)) (pw_or1 (pt_val (pe_ok C_law_less (hr.mono (by first | decide | exact Nat.le_refl _)) rfl (pa_cons (pe_ix ix_tup (pe_ix ix_tup (pv 1) (pv 5) (fun _ _ => rfl)) pe_int (fun _ _ => rfl)) (pa_cons (pv 2) pa_nil)))))))
          (pss_cons (ps_set (i := 4) sc_law_doze.nd rfl (Or.inl rfl) (pe_ix ix_tup (pe_ix ix_tup (pv 1) (pv 5) (fun _ _ => rfl)) pe_int (fun _ _ => rfl)))
          (pss_cons (ps_set (i := 6) sc_law_doze.nd rfl (Or.inl rfl) (pv 2))
          (Evl.pss_cut (ps_if (PW.pt (pw_and (pt_cmpR op_lt (pe_op op_add (pv 5) pe_int) (pe_callB call_len_seq rfl B.len PySem.boot_len (pa_cons (pv 1) pa_nil)) (nomark _)) (pw_and1 (pt_val (pe_ok C_law_less (hr.mono (by first | decide | exact Nat.le_refl _)) rfl (pa_cons (pe_ix ix_tup (pe_ix ix_tup (pv 1) (pe_op op_add (pv 5) pe_int) (fun _ _ => rfl)) pe_int (fun _ _ => rfl)) (pa_cons (pv 2) pa_nil)))))))
            (pss_one (ps_set (i := 6) sc_law_doze.nd rfl (Or.inl rfl) (pe_ix ix_tup (pe_ix ix_tup (pv 1) (pe_op op_add (pv 5) pe_int) (fun _ _ => rfl)) pe_int (fun _ _ => rfl))))
            pss_nil)
          (pss_one (ps_set (i := 3) sc_law_doze.nd rfl (Or.inl rfl) (pe_ok C_law_plus (hr.mono (by first | decide | exact Nat.le_refl _)) rfl (pa_cons (pv 3) (pa_cons (pe_ok C_law_times (hr.mono (by first | decide | exact Nat.le_refl _)) rfl (pa_cons (pe_tup (pa_cons (pe_ix ix_tup (pe_ix ix_tup (pv 0) (pv 4) (fun _ _ => rfl)) pe_int (fun _ _ => rfl)) (pa_cons pe_int pa_nil))) (pa_cons (pe_ok C_law_minus (hr.mono (by first | decide | exact Nat.le_refl _)) rfl (pa_cons (pv 6) (pa_cons (pe_ix ix_tup (pe_ix ix_tup (pv 1) (pv 5) (fun _ _ => rfl)) pe_int (fun _ _ => rfl)) pa_nil))) pa_nil))) pa_nil))))))))
          pss_nil)))
      (pss_one (ps_ret (pe_ok C_law_plus (hr.mono (by first | decide | exact Nat.le_refl _)) rfl (pa_cons (pv 3) (pa_cons (pe_tup (pa_cons (pe_ix ix_tup (pe_ix ix_tup (pv 0) (pv 4) (fun _ _ => rfl)) pe_int (fun _ _ => rfl)) (pa_cons pe_int pa_nil))) pa_nil)))))))), ?_⟩
  have two : (2 : Nat) ≤ sizeLine := by decide
  have D := hD.dps
  have n6 := hD.n6
  have lx : xs.length = ts.length := by rw [hI.len, List.length_map]
  have get : ∀ i, i < ts.length → ∃ p, xs[i]? = some (.ref p) ∧ SqT K H p [.int (dAt ts i).1, .int (dAt ts i).2] := fun i il => by
    have g := List.getElem?_eq_getElem (l := ts) (i := i) il
    rw [dAt_of g]
    obtain ⟨v, hv, iv⟩ := hI.get (i := i) (d := dPt ts[i]) (by rw [List.getElem?_map, g]; rfl)
    obtain ⟨p, rfl, sp⟩ := pt_at iv
    exact ⟨p, hv, sp⟩
  obtain ⟨rl, rz⟩ := Ch.facts hD ch D.n1 (Sz.zero.mono (by decide))
  have rl : rs.length ≤ ts.length := rl
  have ly : ys.length = rs.length := by rw [iT.len, List.length_map]
  have turn : ∀ (i : Nat) (r : Rat × Nat), rs[i]? = some r → ∃ (tr : Addr) (ur : V), ys[i]? = some (.ref tr) ∧ SqT K H tr [ur, .int (r.2 : Nat)] ∧ Is K H ur (rat2 r.1) ∧ Sz 40 r.1 := fun i r hr => by
    obtain ⟨v, hv, iv⟩ := iT.get (i := i) (d := dTurn r) (by rw [List.getElem?_map, hr]; rfl)
    obtain ⟨tr, ur, rfl, sr, ir⟩ := as_at (show Is K H v (dAs r.1 r.2) from iv)
    exact ⟨tr, ur, hv, sr, ir, (rz r (List.mem_of_getElem? hr)).1⟩
  have zS : ∀ i, Sz 1081 (dozeS ts rs L i) := fun i => dozeS_sz hD (fun r' h' => ((rz r' h').1).mono (show 40 ≤ 1000 by decide)) zL
  have zE : ∀ i, Sz 1000 (endE rs L i) := fun i => endE_sz (fun r' h' => ((rz r' h').1).mono (by decide)) zL
  refine ⟨two, fun t0 n0 => ?_⟩
  have s0 := same_upd (o := .tup [V.int 0, .int 1]) n0
  have i0 : Is K (upd H t0 (.tup [V.int 0, .int 1])) (.ref t0) (rat2 0) := is_zero (SqT.of upd_same)
  generalize upd H t0 (.tup [V.int 0, .int 1]) = H0 at s0 i0
  refine ⟨_, rfl, b, ys, rfl, .inr (Tm.sq (Same.tm s0) hb), _, rfl, by omega, by omega, for_range (lo := 0) (fun i σ' H' => ∃ (u : V) (y5 y6 : Option V), σ' = [some (.ref a), some (.ref b), some y, some u, some (.int ((lastD rs L i : Nat) : Int)), y5, y6] ∧ Same H H' ∧ Is K H' u (rat2 (dozeS ts rs L i))) ⟨.ref t0, none, none, rfl, s0, by rw [doze0 D ch L0]; exact i0⟩ ?_ ?_⟩
  · rintro i σ' H' hi ⟨u, y5, y6, rfl, sm, iu⟩
    have il : i < rs.length := by omega
    have hr := List.getElem?_eq_getElem il
    generalize rs[i] = r at hr
    obtain ⟨tr, ur, htr, sr, ir, zr⟩ := turn i r hr
    have rn := (ch_pos D ch hr).2
    have hat : atI ys (0 + (i : Int)) = some (.ref tr) := at_of (by omega) htr
    have hb' := Tm.sq (Same.tm sm) hb
    refine ⟨_, rfl, rfl, _, rfl, ite2 (fun e => iteT ?_) (fun e => ⟨_, rfl, _, rfl, b, ys, _, .ref tr, rfl, rfl, hb', hat, tr, _, 0, _, rfl, rfl, Tm.sq (Same.tm sm) sr, rfl, _, rfl, ur, y, r.1, L, rfl, ir.to (Same.tm sm), iy.to (Same.tm sm), zr.mono (by decide), zL.mono (by decide), _, rfl, ite2 (fun c => ?_) (fun c => ?_)⟩)⟩
    rotate_left 2
    · have c : ¬ r.1 < L := of_decide_eq_false (Bool.eq_false_iff.mpr c)
      refine ⟨u, some (.int (0 + (i : Int))), y6, ?_, sm, ?_⟩
      · rw [lastD_no hr c]
        rfl
      · rw [(doze_no D ch hr c).1]
        exact iu
    all_goals
      have hh : r.1 < L ∨ i = 0 := by
        first
        | exact .inl (of_decide_eq_true c)
        | exact .inr (by have := V.int.inj (of_decide_eq_true e); omega)
      obtain ⟨el, es⟩ := doze_enter D ch L0 hr hh
      refine ⟨_, rfl, _, rfl, b, ys, _, .ref tr, rfl, rfl, hb', hat, tr, _, 1, _, rfl, rfl, Tm.sq (Same.tm sm) sr, rfl, _, rfl, ?_⟩
      refine ⟨fun σ9 H9 => ∃ w9 : V, σ9 = [some (.ref a), some (.ref b), some y, some u, some (.int ((r.2 : Nat) : Int)), some (.int (0 + (i : Int))), some w9] ∧ H9 = H' ∧ Is K H' w9 (rat2 (endE rs L (i + 1))), ?_, ?_⟩
      · cases hn : rs[i + 1]? with
        | none =>
          have := List.getElem?_eq_none_iff.mp hn
          refine ⟨_, rfl, _, _, rfl, rfl, _, rfl, b, ys, rfl, .inr hb', _, _, rfl, rfl, _, rfl, ?_⟩
          rw [decide_eq_false (by omega)]
          refine iteF (iteF ⟨y, rfl, rfl, ?_⟩)
          unfold endE
          rw [hn]
          exact iy.to (Same.tm sm)
        | some r' =>
          have il' := (List.getElem?_eq_some_iff.mp hn).1
          obtain ⟨tr', ur', htr', sr', ir', zr'⟩ := turn (i + 1) r' hn
          have hat' : atI ys (0 + (i : Int) + 1) = some (.ref tr') := at_of (by omega) htr'
          refine ⟨_, rfl, _, _, rfl, rfl, _, rfl, b, ys, rfl, .inr hb', _, _, rfl, rfl, _, rfl, ?_⟩
          rw [decide_eq_true (by omega)]
          refine iteT ⟨_, rfl, _, rfl, _, _, rfl, rfl, b, ys, _, .ref tr', rfl, rfl, hb', hat', tr', _, 0, _, rfl, rfl, Tm.sq (Same.tm sm) sr', rfl, _, rfl, ur', y, r'.1, L, rfl, ir'.to (Same.tm sm), iy.to (Same.tm sm), zr'.mono (by decide), zL.mono (by decide), _, rfl, ?_⟩
          have ee : endE rs L (i + 1) = if r'.1 < L then r'.1 else L := by
            unfold endE
            rw [hn]
          by_cases q : r'.1 < L
          · rw [decide_eq_true q]
            rw [if_pos q] at ee
            refine iteT ⟨_, rfl, _, rfl, _, _, rfl, rfl, b, ys, _, .ref tr', rfl, rfl, hb', hat', tr', _, 0, _, rfl, rfl, Tm.sq (Same.tm sm) sr', rfl, ur', rfl, rfl, ?_⟩
            rw [ee]
            exact ir'.to (Same.tm sm)
          · rw [decide_eq_false q]
            rw [if_neg q] at ee
            refine iteF ⟨y, rfl, rfl, ?_⟩
            rw [ee]
            exact iy.to (Same.tm sm)
      rintro σ9 H9 ⟨w9, rfl, rfl, i9⟩
      obtain ⟨pd, hpd, spd⟩ := get r.2 rn
      have bd := dAt_b hD r.2
      have z7 := sz_int (n := 40) (b := (dAt ts r.2).1) (by omega) (by decide)
      have z9 := (zE (i + 1)).sub zr
      refine ⟨_, rfl, _, rfl, _, rfl, a, xs, _, .ref pd, rfl, rfl, Tm.sq (Same.tm sm) hS, atI_nat hpd, pd, _, 0, _, rfl, rfl, Tm.sq (Same.tm sm) spd, rfl, two, fun t7 n7 => ?_⟩
      have s7 := same_upd (o := .tup [V.int (dAt ts r.2).1, .int 1]) n7
      have i7 : Is K (upd H9 t7 (.tup [V.int (dAt ts r.2).1, .int 1])) (.ref t7) (rat2 (((dAt ts r.2).1 : Int) : Rat)) := is_one (SqT.of upd_same)
      generalize upd H9 t7 (.tup [V.int (dAt ts r.2).1, .int 1]) = H7 at s7 i7
      have sm7 := sm.trans s7
      refine ⟨_, rfl, _, rfl, _, rfl, b, ys, _, .ref tr, rfl, rfl, Tm.sq (Same.tm s7) hb', hat, tr, _, 0, _, rfl, rfl, Tm.sq (Same.tm sm7) sr, rfl, w9, ur, _, _, rfl, i9.to (Same.tm s7), ir.to (Same.tm sm7), (zE (i + 1)).mono (by decide), zr.mono (by decide), fun u8 H8 s8 i8 => ?_⟩
      refine ⟨.ref t7, u8, _, _, rfl, i7.to (Same.tm s8), i8, z7.mono (by decide), z9.mono (by decide), fun u10 H10 s10 i10 => ?_⟩
      have S10 := s7.trans (s8.trans s10)
      refine ⟨u, u10, _, _, rfl, iu.to (Same.tm S10), i10, (zS i).mono (by decide), (z7.mul z9).mono (by decide), fun u11 H11 s11 i11 => ?_⟩
      refine ⟨u11, some (.int (0 + (i : Int))), some w9, ?_, sm.trans (S10.trans s11), ?_⟩
      · rw [el]
        rfl
      · rw [es]
        exact i11
  · rintro σ' H' ⟨u, y5, y6, rfl, sm, iu⟩
    have en : (ys.length : Int).toNat = rs.length := by omega
    rw [en] at iu ⊢
    have eb := lastD_best D ch L0
    have bn : lastD rs L rs.length < ts.length := by
      rw [eb]
      exact bst_lt _ D.n1
    obtain ⟨pd, hpd, spd⟩ := get _ bn
    have bd := dAt_b hD (lastD rs L rs.length)
    have z7 := sz_int (n := 40) (b := (dAt ts (lastD rs L rs.length)).2) (by omega) (by decide)
    refine ⟨_, rfl, _, rfl, _, rfl, a, xs, _, .ref pd, rfl, rfl, Tm.sq (Same.tm sm) hS, atI_nat hpd, pd, _, 1, _, rfl, rfl, Tm.sq (Same.tm sm) spd, rfl, two, fun t7 n7 => ?_⟩
    have s7 := same_upd (o := .tup [V.int (dAt ts (lastD rs L rs.length)).2, .int 1]) n7
    have i7 : Is K (upd H' t7 (.tup [V.int (dAt ts (lastD rs L rs.length)).2, .int 1])) (.ref t7) (rat2 (((dAt ts (lastD rs L rs.length)).2 : Int) : Rat)) := is_one (SqT.of upd_same)
    generalize upd H' t7 (.tup [V.int (dAt ts (lastD rs L rs.length)).2, .int 1]) = H7 at s7 i7
    refine ⟨u, .ref t7, _, _, rfl, iu.to (Same.tm s7), i7, (zS _).mono (by decide), z7.mono (by decide), fun u8 H8 s8 i8 => ?_⟩
    have i8 : Is K H8 u8 (rat2 (dozeS ts rs L rs.length + ((dAt ts (lastD rs L rs.length)).2 : Rat))) := i8
    rw [doze_end D ch L0] at i8
    exact k u8 H8 (sm.trans (s7.trans s8)) i8

end
end Z

namespace Z
open PySem PySem.Spec PyProof.Rows L2
section
variable {P : Program} {w : World} {K : PySem.W.Frag} {mg : Str → Option Value} {base : Heap}
theorem ok_ratio (B : BI mg) (F : AtD K mg "ratio" sratio ["top", "bottom"] [.int 1]) (mGcd : mg "gcd" = some (.builtin "math.gcd")) : Ok P w K mg base 1 "ratio" ["top", "bottom"] [] (spRat K) ∧ Ok P w K mg base 1 "ratio" ["top", "bottom"] [.int 1] (spRat K) := by
  refine F.ok scratio (fun vs H Q E h => ?_) (fun f cdv A outer s H vs Q E hr h => ?_)
  · obtain ⟨a, b, rfl, _⟩ := h
    rfl
  obtain ⟨t, b, rfl, b0, ht, hb, q⟩ := h
  refine ⟨_, (pss_cons (ps_set (i := 2) scratio.nd rfl (Or.inl rfl) (pe_callBfun cr_gcd rfl mGcd (pa_cons (pv 0) (pa_cons (pv 1) pa_nil))))
      (Evl.pss_cut (ps_if (pt_cmpR op_lt (pv 1) pe_int (nomark _))
        (pss_one (ps_set (i := 2) scratio.nd rfl (Or.inl rfl) (pe_un un_neg (pv 2))))
        pss_nil)
      (pss_one (ps_ret (pe_tup (pa_cons (pe_op op_fdivX (pv 0) (pv 2)) (pa_cons (pe_op op_fdivX (pv 1) (pv 2)) pa_nil))))))), ?_⟩
  refine ⟨_, rfl, _, rfl, t, b, rfl, ?_⟩
  refine ⟨fun σ' H' => H' = H ∧ ∃ c : Int, σ' = [some (.int t), some (.int b), some (.int c)] ∧ c = (if b < 0 then -((Nat.gcd t.natAbs b.natAbs : Nat) : Int) else ((Nat.gcd t.natAbs b.natAbs : Nat) : Int)), ?_, ?_⟩
  · refine ⟨_, rfl, _, _, rfl, rfl, _, rfl, ite2 (fun e => ?_) (fun e => ?_)⟩
    · have e1 : b < 0 := of_decide_eq_true e
      refine ⟨_, rfl, _, rfl, ?_⟩
      exact ⟨rfl, _, rfl, by rw [if_pos e1]⟩
    · have e1 : ¬ b < 0 := of_decide_eq_false (Bool.eq_false_iff.mpr e)
      exact ⟨rfl, _, rfl, by rw [if_neg e1]⟩
  · rintro σ' H' ⟨rfl, c, rfl, hc⟩
    obtain ⟨n1, n2, n3, n4⟩ := nrm_eq t b b0 c hc
    refine ⟨_, rfl, _, rfl, _, _, rfl, rfl, divB n1 n2 hb, _, rfl, _, rfl, _, _, rfl, rfl, divB n1 n2 hb, (by show 2 ≤ sizeLine; decide), fun p hp => ?_⟩
    exact q _ _ (same_upd hp) (rat2_new hp n3 n4)

theorem ok_plus (B : BI mg) (F : At K mg "plus" splus ["a", "b"]) (C_ratio : Ok P w K mg base 1 "ratio" ["top", "bottom"] [] (spRat K)) : Ok P w K mg base 2 "plus" ["a", "b"] [] (spBin K (fun p q => p + q)) := by
  refine F.ok scplus (fun vs H Q E h => ?_) (fun f cdv A outer s H vs Q E hr h => ?_)
  · obtain ⟨x, y, p, q, rfl, _⟩ := h
    rfl
  obtain ⟨x, y, p, q, rfl, hx, hy, zp, zq, k⟩ := h
  refine ⟨_, (pss_one (ps_ret (pe_ok C_ratio (hr.mono (by first | decide | exact Nat.le_refl _)) rfl (pa_cons (pe_op op_add (pe_op op_mulX (pe_ix ix_tup (pv 0) pe_int (fun _ _ => rfl)) (pe_ix ix_tup (pv 1) pe_int (fun _ _ => rfl))) (pe_op op_mulX (pe_ix ix_tup (pv 1) pe_int (fun _ _ => rfl)) (pe_ix ix_tup (pv 0) pe_int (fun _ _ => rfl)))) (pa_cons (pe_op op_mulX (pe_ix ix_tup (pv 0) pe_int (fun _ _ => rfl)) (pe_ix ix_tup (pv 1) pe_int (fun _ _ => rfl))) pa_nil))))), ?_⟩
  obtain ⟨xa, _, _, rfl, sx, hx0, hx1⟩ := hx.two'
  obtain ⟨ya, _, _, rfl, sy, hy0, hy1⟩ := hy.two'
  cases hx0; cases hx1; cases hy0; cases hy1
  refine ⟨_, rfl, xa, _, 0, _, rfl, rfl, sx, rfl, _, rfl, ya, _, 1, _, rfl, rfl, sy, rfl, _, _, rfl, rfl, mulB (zp.bn) (zq.bd), ?_⟩
  refine ⟨_, rfl, ya, _, 0, _, rfl, rfl, sy, rfl, _, rfl, xa, _, 1, _, rfl, rfl, sx, rfl, _, _, rfl, rfl, mulB (zq.bn) (zp.bd), _, _, rfl, rfl, ?_⟩
  refine ⟨_, rfl, xa, _, 1, _, rfl, rfl, sx, rfl, _, rfl, ya, _, 1, _, rfl, rfl, sy, rfl, _, _, rfl, rfl, mulB (zp.bd) (zq.bd), ?_⟩
  refine ⟨_, _, rfl, den_mul p q, sz_big (by decide) (zp.x5 zq), sz_big (by decide) (zp.x3 zq), fun v H1 s1 i1 => ?_⟩
  rw [r_add] at i1
  exact k v H1 s1 i1

theorem ok_minus (B : BI mg) (F : At K mg "minus" sminus ["a", "b"]) (C_ratio : Ok P w K mg base 1 "ratio" ["top", "bottom"] [] (spRat K)) : Ok P w K mg base 2 "minus" ["a", "b"] [] (spBin K (fun p q => p - q)) := by
  refine F.ok scminus (fun vs H Q E h => ?_) (fun f cdv A outer s H vs Q E hr h => ?_)
  · obtain ⟨x, y, p, q, rfl, _⟩ := h
    rfl
  obtain ⟨x, y, p, q, rfl, hx, hy, zp, zq, k⟩ := h
  refine ⟨_, (pss_one (ps_ret (pe_ok C_ratio (hr.mono (by first | decide | exact Nat.le_refl _)) rfl (pa_cons (pe_op op_sub (pe_op op_mulX (pe_ix ix_tup (pv 0) pe_int (fun _ _ => rfl)) (pe_ix ix_tup (pv 1) pe_int (fun _ _ => rfl))) (pe_op op_mulX (pe_ix ix_tup (pv 1) pe_int (fun _ _ => rfl)) (pe_ix ix_tup (pv 0) pe_int (fun _ _ => rfl)))) (pa_cons (pe_op op_mulX (pe_ix ix_tup (pv 0) pe_int (fun _ _ => rfl)) (pe_ix ix_tup (pv 1) pe_int (fun _ _ => rfl))) pa_nil))))), ?_⟩
  obtain ⟨xa, _, _, rfl, sx, hx0, hx1⟩ := hx.two'
  obtain ⟨ya, _, _, rfl, sy, hy0, hy1⟩ := hy.two'
  cases hx0; cases hx1; cases hy0; cases hy1
  refine ⟨_, rfl, xa, _, 0, _, rfl, rfl, sx, rfl, _, rfl, ya, _, 1, _, rfl, rfl, sy, rfl, _, _, rfl, rfl, mulB (zp.bn) (zq.bd), ?_⟩
  refine ⟨_, rfl, ya, _, 0, _, rfl, rfl, sy, rfl, _, rfl, xa, _, 1, _, rfl, rfl, sx, rfl, _, _, rfl, rfl, mulB (zq.bn) (zp.bd), _, _, rfl, rfl, ?_⟩
  refine ⟨_, rfl, xa, _, 1, _, rfl, rfl, sx, rfl, _, rfl, ya, _, 1, _, rfl, rfl, sy, rfl, _, _, rfl, rfl, mulB (zp.bd) (zq.bd), ?_⟩
  refine ⟨_, _, rfl, den_mul p q, sz_big (by decide) (zp.x6 zq), sz_big (by decide) (zp.x3 zq), fun v H1 s1 i1 => ?_⟩
  rw [r_sub] at i1
  exact k v H1 s1 i1

theorem ok_lesser (B : BI mg) (F : At K mg "lesser" slesser ["a", "b"]) (C_less : Ok P w K mg base 1 "less" ["a", "b"] [] (spLess K)) : Ok P w K mg base 2 "lesser" ["a", "b"] [] (spSel K minR) := by
  refine F.ok sclesser (fun vs H Q E h => ?_) (fun f cdv A outer s H vs Q E hr h => ?_)
  · obtain ⟨x, y, p, q, rfl, _⟩ := h
    rfl
  obtain ⟨x, y, p, q, rfl, hx, hy, zp, zq, k⟩ := h
  refine ⟨_, (pss_one (ps_ret (pe_ifExp (pt_val (pe_ok C_less (hr.mono (by first | decide | exact Nat.le_refl _)) rfl (pa_cons (pv 1) (pa_cons (pv 0) pa_nil)))) (pv 1) (pv 0)))), ?_⟩
  refine ⟨_, rfl, _, rfl, y, x, q, p, rfl, hy, hx, zq, zp, _, rfl, ite2 (fun e => ?_) (fun e => ?_)⟩
  · have e1 : q < p := of_decide_eq_true e
    exact ⟨_, rfl, k y (by unfold minR; rw [if_pos e1]; exact hy)⟩
  · have e1 : ¬ q < p := of_decide_eq_false (Bool.eq_false_iff.mpr e)
    exact ⟨_, rfl, k x (by unfold minR; rw [if_neg e1]; exact hx)⟩

theorem ok_times (B : BI mg) (F : At K mg "times" stimes ["a", "b"]) (C_ratio : Ok P w K mg base 1 "ratio" ["top", "bottom"] [] (spRat K)) : Ok P w K mg base 2 "times" ["a", "b"] [] (spBin K (fun p q => p * q)) := by
  refine F.ok sctimes (fun vs H Q E h => ?_) (fun f cdv A outer s H vs Q E hr h => ?_)
  · obtain ⟨x, y, p, q, rfl, _⟩ := h
    rfl
  obtain ⟨x, y, p, q, rfl, hx, hy, zp, zq, k⟩ := h
  refine ⟨_, (pss_one (ps_ret (pe_ok C_ratio (hr.mono (by first | decide | exact Nat.le_refl _)) rfl (pa_cons (pe_op op_mulX (pe_ix ix_tup (pv 0) pe_int (fun _ _ => rfl)) (pe_ix ix_tup (pv 1) pe_int (fun _ _ => rfl))) (pa_cons (pe_op op_mulX (pe_ix ix_tup (pv 0) pe_int (fun _ _ => rfl)) (pe_ix ix_tup (pv 1) pe_int (fun _ _ => rfl))) pa_nil))))), ?_⟩
  obtain ⟨xa, _, _, rfl, sx, hx0, hx1⟩ := hx.two'
  obtain ⟨ya, _, _, rfl, sy, hy0, hy1⟩ := hy.two'
  cases hx0; cases hx1; cases hy0; cases hy1
  refine ⟨_, rfl, xa, _, 0, _, rfl, rfl, sx, rfl, _, rfl, ya, _, 0, _, rfl, rfl, sy, rfl, _, _, rfl, rfl, mulB (zp.bn) (zq.bn), ?_⟩
  refine ⟨_, rfl, xa, _, 1, _, rfl, rfl, sx, rfl, _, rfl, ya, _, 1, _, rfl, rfl, sy, rfl, _, _, rfl, rfl, mulB (zp.bd) (zq.bd), ?_⟩
  refine ⟨_, _, rfl, den_mul p q, sz_big (by decide) (zp.x2 zq), sz_big (by decide) (zp.x3 zq), fun v H1 s1 i1 => ?_⟩
  rw [r_mul] at i1
  exact k v H1 s1 i1

theorem ok_less (B : BI mg) (F : At K mg "less" sless ["a", "b"]) : Ok P w K mg base 1 "less" ["a", "b"] [] (spLess K) := by
  refine F.ok scless (fun vs H Q E h => ?_) (fun f cdv A outer s H vs Q E hr h => ?_)
  · obtain ⟨x, y, p, q, rfl, _⟩ := h
    rfl
  obtain ⟨x, y, p, q, rfl, hx, hy, zp, zq, k⟩ := h
  refine ⟨_, (pss_one (ps_ret (pe_cmpR op_lt (pe_op op_mulX (pe_ix ix_tup (pv 0) pe_int (fun _ _ => rfl)) (pe_ix ix_tup (pv 1) pe_int (fun _ _ => rfl))) (pe_op op_mulX (pe_ix ix_tup (pv 1) pe_int (fun _ _ => rfl)) (pe_ix ix_tup (pv 0) pe_int (fun _ _ => rfl))) (nomark _)))), ?_⟩
  obtain ⟨xa, _, _, rfl, sx, hx0, hx1⟩ := hx.two'
  obtain ⟨ya, _, _, rfl, sy, hy0, hy1⟩ := hy.two'
  cases hx0; cases hx1; cases hy0; cases hy1
  refine ⟨_, rfl, xa, _, 0, _, rfl, rfl, sx, rfl, _, rfl, ya, _, 1, _, rfl, rfl, sy, rfl, _, _, rfl, rfl, mulB zp.bn zq.bd, ?_⟩
  refine ⟨_, rfl, ya, _, 0, _, rfl, rfl, sy, rfl, _, rfl, xa, _, 1, _, rfl, rfl, sx, rfl, _, _, rfl, rfl, mulB zq.bn zp.bd, ?_⟩
  refine ⟨_, _, rfl, rfl, ?_⟩
  have e : decide (p.num * (q.den : Int) < q.num * (p.den : Int)) = decide (p < q) := decide_eq_decide.mpr (r_less p q)
  show Q (.bl (decide (p.num * (q.den : Int) < q.num * (p.den : Int)))) H
  rw [e]
  exact k

theorem ok_law_pool (B : BI mg) (F : At K mg "_law_pool" s_law_pool ["script"]) : Ok P w K mg base 1 "_law_pool" ["script"] [] (spPool K) := by
  refine F.ok sc_law_pool (fun vs H Q E h => ?_) (fun f cdv A outer s H vs Q E hr h => ?_)
  · obtain ⟨a, ns, rfl, _⟩ := h
    rfl
  obtain ⟨a, ns, rfl, hS, hl, q⟩ := h
  refine ⟨_, (pss_one (ps_ret (pe_lst (pa_cons (pe_callTy call_list_of rfl B.list (by decide +kernel) (pa_cons (pv 0) pa_nil)) (pa_cons pe_int (pa_cons pe_int (pa_cons pe_int (pa_cons pe_int pa_nil)))))))), ?_⟩
  refine ⟨_, rfl, a, _, rfl, .inl hS, fun l hl' => ⟨(by show 5 ≤ sizeLine; decide), fun p hp => ?_⟩⟩
  have n : p ≠ l := fun e => by rw [e, upd_same] at hp; cases hp
  refine q p l _ ?_ (fun b o e => ?_) ⟨ns, 0, 0, 0, 0, n.symm, upd_same, by rw [upd_ne n.symm, upd_same], hl, by omega, by omega, by omega, by omega, by omega⟩
  · rw [upd_ne n] at hp
    exact hp
  · rw [upd_ne (fun z => by rw [z] at e; rw [upd_ne n] at hp; rw [hp] at e; cases e), upd_ne (ne_of_none e hl')]
    exact e

theorem ok_law_draw (B : BI mg) (F : At K mg "_law_draw" s_law_draw ["pool", "many"]) : Ok P w K mg base 1 "_law_draw" ["pool", "many"] [] spDraw := by
  refine F.ok sc_law_draw (fun vs H Q E h => ?_) (fun f cdv A outer s H vs Q E hr h => ?_)
  · obtain ⟨p, a, m, rfl, _⟩ := h
    rfl
  obtain ⟨p, a, m, rfl, hP, m0, m1, q⟩ := h
  refine ⟨_, (pss_cons (ps_if (pt_cmpR op_gt (pe_ix ix_list (pv 0) pe_int (fun _ _ => rfl)) pe_int (nomark _))
        (pss_cons (ps_set (i := 2) sc_law_draw.nd rfl (Or.inl rfl) (pe_op op_modN (pe_callTy call_int1 rfl B.int (by decide +kernel) (pa_cons (pe_ix ix_list (pv 0) pe_int (fun _ _ => rfl)) pa_nil)) (pv 1)))
        (pss_cons (ps_asg (pe_op op_fdivX (pe_ix ix_list (pv 0) pe_int (fun _ _ => rfl)) (pv 1)) (pg_sub (pv 0) pe_int set_list))
        (pss_one (ps_ret (pv 2)))))
        pss_nil)
      (Evl.pss_cut (ps_if (PW.pt (pw_and (pt_cmpR op_eq (pe_op op_modN (pe_callTy call_int1 rfl B.int (by decide +kernel) (pa_cons (pe_ix ix_list (pv 0) pe_int (fun _ _ => rfl)) pa_nil)) pe_int) pe_int (nomark _)) (pw_and1 (pt_cmpR op_lt (pe_ix ix_list (pv 0) pe_int (fun _ _ => rfl)) (pe_callB call_len_seq rfl B.len PySem.boot_len (pa_cons (pe_ix ix_list (pv 0) pe_int (fun _ _ => rfl)) pa_nil)) (nomark _)))))
        (pss_cons (ps_set (i := 3) sc_law_draw.nd rfl (Or.inl rfl) (pe_callB call_abs rfl B.abs (by decide +kernel) (pa_cons (pe_ix ix_list (pe_ix ix_list (pv 0) pe_int (fun _ _ => rfl)) (pe_ix ix_list (pv 0) pe_int (fun _ _ => rfl)) (fun _ _ => rfl)) pa_nil)))
        (pss_cons (ps_asg (pe_op op_add (pe_ix ix_list (pv 0) pe_int (fun _ _ => rfl)) pe_int) (pg_sub (pv 0) pe_int set_list))
        (pss_cons (ps_if (pt_cmpR op_ge (pv 3) (pe_op op_pow pe_int pe_int) (nomark _))
          (pss_cons (ps_asg (pe_op op_fdivX (pv 3) (pv 1)) (pg_sub (pv 0) pe_int set_list))
          (pss_one (ps_ret (pe_op op_modN (pe_callTy call_int1 rfl B.int (by decide +kernel) (pa_cons (pv 3) pa_nil)) (pv 1)))))
          pss_nil)
        (pss_one (ps_asg (pv 3) (pg_sub (pv 0) pe_int set_list))))))
        pss_nil)
      (pss_cons (ps_asg (pe_op op_add (pe_ix ix_list (pv 0) pe_int (fun _ _ => rfl)) pe_int) (pg_sub (pv 0) pe_int set_list))
      (pss_cons (ps_set (i := 4) sc_law_draw.nd rfl (Or.inl rfl) (pe_op op_modN (pe_callTy call_int1 rfl B.int (by decide +kernel) (pa_cons (pe_op op_add (pe_op op_add (pe_op op_mulX (pe_ix ix_list (pv 0) pe_int (fun _ _ => rfl)) pe_int) (pe_op op_mulX (pe_ix ix_list (pv 0) pe_int (fun _ _ => rfl)) pe_int)) pe_int) pa_nil)) pe_int))
      (pss_cons (ps_set (i := 4) sc_law_draw.nd rfl (Or.inl rfl) (pe_op op_modN (pe_callTy call_int1 rfl B.int (by decide +kernel) (pa_cons (pe_op op_add (pe_op op_mulX (pv 4) (pv 4)) (pe_op op_mulX (pe_ix ix_list (pv 0) pe_int (fun _ _ => rfl)) pe_int)) pa_nil)) pe_int))
      (pss_one (ps_ret (pe_op op_modN (pe_callTy call_int1 rfl B.int (by decide +kernel) (pa_cons (pv 4) pa_nil)) (pv 1))))))))), ?_⟩
  obtain ⟨ns, i, rest, last, cnt, na, hp, ha, hn, i0, r0, l0, l1, c0⟩ := hP
  have mne : m ≠ 0 := by omega
  -- what is stored at p keeps the pool
  have keep : ∀ (H' : Hp) (i' rest' last' cnt' : Int), H' p = some (.lst [.ref a, .int i', .int rest', .int last', .int cnt']) → H' a = H a → 0 ≤ i' → 0 ≤ rest' → 0 ≤ last' → last' < 1000000000000000000 → 0 ≤ cnt' → Pl p a H' :=
    fun H' i' rest' last' cnt' h1 h2 h3 h4 h5 h6 h7 => ⟨ns, i', rest', last', cnt', na, h1, by rw [h2]; exact ha, hn, h3, h4, h5, h6, h7⟩
  -- if pool[2] > 0
  refine ⟨_, rfl, p, _, 2, _, rfl, rfl, SqL.of hp, rfl, _, _, rfl, rfl, _, rfl, ite2 (fun e => ?_) (fun e => ?_)⟩
  · have e1 : 0 < rest := of_decide_eq_true e
    refine ⟨_, rfl, p, _, 2, _, rfl, rfl, SqL.of hp, rfl, .inl ⟨_, rfl, _, rfl, _, _, rfl, rfl, mne, ?_⟩⟩
    refine ⟨_, rfl, p, _, 2, _, rfl, rfl, SqL.of hp, rfl, _, rfl, _, _, rfl, rfl, divX m0 m1, ?_⟩
    refine ⟨_, rfl, p, _, 2, _, rfl, rfl, hp, rfl, ?_⟩
    exact ⟨_, rfl, q _ _ (fm0 m0) (fm1 m0) .sto (keep _ _ _ _ _ upd_same (by rw [upd_ne na]) i0 (fd0 m0 r0) l0 l1 c0)⟩
  -- behind the second if: the count is as it was
  refine ⟨fun σ' H' => ∃ (i' last' : Int) (y2 y3 y4 : Option V), σ' = [some (.ref p), some (.int m), y2, y3, y4] ∧ Kp p H H' ∧ H' p = some (.lst [.ref a, .int i', .int rest, .int last', .int cnt]) ∧ H' a = H a ∧ 0 ≤ i' ∧ 0 ≤ last' ∧ last' < 1000000000000000000, ?_, ?_⟩
  · -- the second if
    refine ⟨_, rfl, p, _, 4, _, rfl, rfl, SqL.of hp, rfl, .inl ⟨_, rfl, _, _, rfl, rfl, (show (8 : Int) ≠ 0 by decide), rfl, _, rfl, ite2 (fun e2 => ?_) (fun e2 => iteF ?_)⟩⟩
    · refine ⟨_, rfl, p, _, 1, _, rfl, rfl, SqL.of hp, rfl, _, rfl, p, _, 0, _, rfl, rfl, SqL.of hp, rfl, a, _, rfl, .inl (SqL.of ha), _, _, rfl, rfl, _, rfl, ite2 (fun e3 => ?_) (fun e3 => ?_)⟩
      · have e4 : i < ((ns.map V.int).length : Int) := of_decide_eq_true e3
        rw [List.length_map] at e4
        have hi : i.toNat < ns.length := by omega
        have g0 : (ns.map V.int)[i.toNat]? = some (.int ns[i.toNat]) := by
          rw [List.getElem?_map, List.getElem?_eq_getElem hi]
          rfl
        have g : atI (ns.map V.int) i = some (.int ns[i.toNat]) := at_of (by omega) g0
        -- cell = abs(..)
        refine ⟨_, rfl, p, _, 0, _, rfl, rfl, SqL.of hp, rfl, _, rfl, p, _, 1, _, rfl, rfl, SqL.of hp, rfl, a, _, i, _, rfl, rfl, SqL.of ha, g, _, rfl, ?_⟩
        generalize hc : (if ns[i.toNat] < 0 then -ns[i.toNat] else ns[i.toNat]) = cell
        have cell0 : 0 ≤ cell := by rw [← hc]; split <;> omega
        -- pool[1] = pool[1] + 1
        refine ⟨_, rfl, p, _, 1, _, rfl, rfl, SqL.of hp, rfl, _, _, rfl, rfl, _, rfl, p, _, 1, _, rfl, rfl, hp, rfl, ?_⟩
        have h7 : (upd H p (.lst [.ref a, .int (i + 1), .int rest, .int last, .int cnt])) p = some (.lst [.ref a, .int (i + 1), .int rest, .int last, .int cnt]) := upd_same
        -- if cell >= 10 ** 18
        refine ⟨_, rfl, _, _, rfl, rfl, ⟨by decide, by decide, by decide⟩, _, _, rfl, rfl, _, rfl, ite2 (fun e5 => ?_) (fun e5 => ?_)⟩
        · refine ⟨_, rfl, _, rfl, _, _, rfl, rfl, divX m0 m1, _, rfl, p, _, 2, _, rfl, rfl, h7, rfl, ?_⟩
          refine ⟨_, rfl, .inl ⟨_, rfl, _, rfl, _, _, rfl, rfl, mne, ?_⟩⟩
          exact q _ _ (fm0 m0) (fm1 m0) (Kp.sto.trans .sto) (keep _ _ _ _ _ upd_same (by rw [upd_ne na, upd_ne na]) (by omega) (fd0 m0 cell0) l0 l1 c0)
        · have e6 : cell < 1000000000000000000 := by
            have z : ¬ ((10 : Int) ^ (18 : Int).toNat ≤ cell) := of_decide_eq_false (Bool.eq_false_iff.mpr e5)
            have y : (10 : Int) ^ (18 : Int).toNat = 1000000000000000000 := by decide +kernel
            omega
          refine ⟨_, rfl, _, rfl, p, _, 3, _, rfl, rfl, h7, rfl, ?_⟩
          exact ⟨i + 1, cell, none, some (.int cell), none, rfl, Kp.sto.trans .sto, upd_same, by rw [upd_ne na, upd_ne na], by omega, cell0, e6⟩
      · exact ⟨i, last, none, none, none, rfl, .refl _ _, hp, rfl, i0, l0, l1⟩
    · exact ⟨i, last, none, none, none, rfl, .refl _ _, hp, rfl, i0, l0, l1⟩
  · rintro σ' H' ⟨i', last', y2, y3, y4, rfl, k, h1, h2, h3, h5, h6⟩
    refine ⟨_, rfl, p, _, 4, _, rfl, rfl, SqL.of h1, rfl, _, _, rfl, rfl, _, rfl, p, _, 4, _, rfl, rfl, h1, rfl, ?_⟩
    have h7 : (upd H' p (.lst [.ref a, .int i', .int rest, .int last', .int (cnt + 1)])) p = some (.lst [.ref a, .int i', .int rest, .int last', .int (cnt + 1)]) := upd_same
    refine ⟨_, rfl, p, _, 3, _, rfl, rfl, SqL.of h7, rfl, _, _, rfl, rfl, mulR ⟨by decide, by decide⟩, ?_⟩
    refine ⟨_, rfl, p, _, 4, _, rfl, rfl, SqL.of h7, rfl, _, _, rfl, rfl, mulR ⟨by decide, by decide⟩, ?_⟩
    refine ⟨_, _, rfl, rfl, _, _, rfl, rfl, .inl ⟨_, rfl, _, _, rfl, rfl, (show (2147483647 : Int) ≠ 0 by decide), ?_⟩⟩
    refine ⟨_, rfl, _, rfl, _, _, rfl, rfl, mulF, ?_⟩
    refine ⟨_, rfl, p, _, 4, _, rfl, rfl, SqL.of h7, rfl, _, _, rfl, rfl, mulR ⟨by decide, by decide⟩, ?_⟩
    refine ⟨_, _, rfl, rfl, .inl ⟨_, rfl, _, _, rfl, rfl, (show (2147483399 : Int) ≠ 0 by decide), ?_⟩⟩
    refine ⟨_, rfl, .inl ⟨_, rfl, ?_⟩⟩
    refine ⟨_, rfl, _, _, rfl, rfl, mne, ?_⟩
    exact q _ _ (fm0 m0) (fm1 m0) (k.trans .sto) (keep _ _ _ _ _ h7 (by rw [upd_ne na]; exact h2) h3 r0 h5 h6 (by omega))

theorem ok_law_gcd (B : BI mg) (F : At K mg "_law_gcd" s_law_gcd ["a", "b"]) : Ok P w K mg base 1 "_law_gcd" ["a", "b"] [] spGcd := by
  refine F.ok sc_law_gcd (fun vs H Q E h => ?_) (fun f cdv A outer s H vs Q E hr h => ?_)
  · obtain ⟨a, b, rfl, _⟩ := h
    rfl
  obtain ⟨a, b, rfl, ha, hb, q⟩ := h
  refine ⟨_, (pss_cons (ps_for PassesOwn.never rfl (pi_range1 rfl B.range (pa_cons pe_int pa_nil)) (pg_name (i := 2) sc_law_gcd.nd rfl (Or.inl rfl))
        (pss_cons (ps_if (pt_cmpR op_eq (pv 1) pe_int (nomark _))
          (pss_one (ps_ret (pv 0)))
          pss_nil)
        (pss_one (ps_par (i := 0) (j := 1) (by rfl) sc_law_gcd.nd rfl rfl (by decide) rfl rfl (pa_cons (pv 1) (pa_cons (pe_op op_modN (pe_callTy call_int1 rfl B.int (by decide +kernel) (pa_cons (pv 0) pa_nil)) (pv 1)) pa_nil)) (by rfl)))))
      (pss_one (ps_ret pe_int))), ?_⟩
  have n2 : 2 ≤ (100000 : Int).toNat := by decide
  refine ⟨100000, rfl, by decide, by decide, for_range (lo := 0) (n := (100000 : Int).toNat) (fun i σ' H' => H' = H ∧ ∃ (x y : Nat) (z : Option V), σ' = [some (.int (x : Int)), some (.int (y : Int)), z] ∧ Nat.gcd x y = Nat.gcd a b ∧ GStep (a * b) i x y ∧ (i = 0 → x = a ∧ y = b))
    ⟨rfl, a, b, none, rfl, rfl, .zero, fun _ => ⟨rfl, rfl⟩⟩ ?_ ?_⟩
  · rintro i σ' H' hi ⟨rfl, x, y, z, rfl, g, st, h0⟩
    refine ⟨_, rfl, rfl, _, rfl, ite2 (fun e => ?_) (fun e => ?_)⟩
    · have e1 : (y : Int) = 0 := V.int.inj (of_decide_eq_true e)
      have e2 : y = 0 := by omega
      subst e2
      refine ⟨_, rfl, ?_⟩
      rw [Nat.gcd_zero_right] at g
      rw [g]
      exact q
    · have e1 : y ≠ 0 := fun h => e (decide_eq_true (by rw [h]; rfl))
      refine ⟨_, rfl, _, rfl, .inl ⟨_, rfl, _, rfl, _, _, rfl, rfl, (show (y : Int) ≠ 0 by omega), ?_⟩⟩
      exact ⟨_, _, rfl, rfl, y, x % y, some (.int (0 + (i : Int))), congrArg (fun v => [some (V.int (y : Int)), some (V.int v), some (V.int (0 + (i : Int)))]) (Int.ofNat_fmod x y).symm, (gcd_turn x y).trans g, st.next h0 e1, fun h => by omega⟩
  · rintro σ' H' ⟨rfl, x, y, z, rfl, g, st, _⟩
    exact (st.end n2 (big_sq ha hb)).elim

theorem ok_law_ratio (B : BI mg) (F : At K mg "_law_ratio" s_law_ratio ["top", "bottom"]) (C_law_gcd : Ok P w K mg base 1 "_law_gcd" ["a", "b"] [] spGcd) : Ok P w K mg base 2 "_law_ratio" ["top", "bottom"] [] (spRat K) := by
  refine F.ok sc_law_ratio (fun vs H Q E h => ?_) (fun f cdv A outer s H vs Q E hr h => ?_)
  · obtain ⟨a, b, rfl, _⟩ := h
    rfl
  obtain ⟨t, b, rfl, b0, ht, hb, q⟩ := h
  refine ⟨_, (pss_cons (ps_set (i := 2) sc_law_ratio.nd rfl (Or.inl rfl) (pe_ok C_law_gcd (hr.mono (by first | decide | exact Nat.le_refl _)) rfl (pa_cons (pe_callB call_abs rfl B.abs (by decide +kernel) (pa_cons (pv 0) pa_nil)) (pa_cons (pe_callB call_abs rfl B.abs (by decide +kernel) (pa_cons (pv 1) pa_nil)) pa_nil))))
      (Evl.pss_cut (ps_if (pt_cmpR op_lt (pv 1) pe_int (nomark _))
        (pss_one (ps_set (i := 2) sc_law_ratio.nd rfl (Or.inl rfl) (pe_op op_sub pe_int (pv 2))))
        pss_nil)
      (pss_one (ps_ret (pe_tup (pa_cons (pe_op op_fdivX (pv 0) (pv 2)) (pa_cons (pe_op op_fdivX (pv 1) (pv 2)) pa_nil))))))), ?_⟩
  refine ⟨_, rfl, _, rfl, _, rfl, _, rfl, t.natAbs, b.natAbs, ?_, ht, hb, ?_⟩
  · show [V.int (if t < 0 then -t else t), V.int (if b < 0 then -b else b)] = _
    rw [abs_nat, abs_nat]
  refine ⟨fun σ' H' => H' = H ∧ ∃ c : Int, σ' = [some (.int t), some (.int b), some (.int c)] ∧ c = (if b < 0 then -((Nat.gcd t.natAbs b.natAbs : Nat) : Int) else ((Nat.gcd t.natAbs b.natAbs : Nat) : Int)), ?_, ?_⟩
  · refine ⟨_, rfl, _, _, rfl, rfl, _, rfl, ite2 (fun e => ?_) (fun e => ?_)⟩
    · have e1 : b < 0 := of_decide_eq_true e
      refine ⟨_, rfl, _, _, rfl, rfl, ?_⟩
      exact ⟨rfl, _, rfl, by rw [if_pos e1]; omega⟩
    · have e1 : ¬ b < 0 := of_decide_eq_false (Bool.eq_false_iff.mpr e)
      exact ⟨rfl, _, rfl, by rw [if_neg e1]⟩
  · rintro σ' H' ⟨rfl, c, rfl, hc⟩
    obtain ⟨n1, n2, n3, n4⟩ := nrm_eq t b b0 c hc
    refine ⟨_, rfl, _, rfl, _, _, rfl, rfl, divB n1 n2 hb, _, rfl, _, rfl, _, _, rfl, rfl, divB n1 n2 hb, (by show 2 ≤ sizeLine; decide), fun p hp => ?_⟩
    exact q _ _ (same_upd hp) (rat2_new hp n3 n4)

theorem ok_law_plus (B : BI mg) (F : At K mg "_law_plus" s_law_plus ["a", "b"]) (C_law_ratio : Ok P w K mg base 2 "_law_ratio" ["top", "bottom"] [] (spRat K)) : Ok P w K mg base 3 "_law_plus" ["a", "b"] [] (spBin K (fun p q => p + q)) := by
  refine F.ok sc_law_plus (fun vs H Q E h => ?_) (fun f cdv A outer s H vs Q E hr h => ?_)
  · obtain ⟨x, y, p, q, rfl, _⟩ := h
    rfl
  obtain ⟨x, y, p, q, rfl, hx, hy, zp, zq, k⟩ := h
  refine ⟨_, (pss_one (ps_ret (pe_ok C_law_ratio (hr.mono (by first | decide | exact Nat.le_refl _)) rfl (pa_cons (pe_op op_add (pe_op op_mulX (pe_ix ix_tup (pv 0) pe_int (fun _ _ => rfl)) (pe_ix ix_tup (pv 1) pe_int (fun _ _ => rfl))) (pe_op op_mulX (pe_ix ix_tup (pv 1) pe_int (fun _ _ => rfl)) (pe_ix ix_tup (pv 0) pe_int (fun _ _ => rfl)))) (pa_cons (pe_op op_mulX (pe_ix ix_tup (pv 0) pe_int (fun _ _ => rfl)) (pe_ix ix_tup (pv 1) pe_int (fun _ _ => rfl))) pa_nil))))), ?_⟩
  obtain ⟨xa, _, _, rfl, sx, hx0, hx1⟩ := hx.two'
  obtain ⟨ya, _, _, rfl, sy, hy0, hy1⟩ := hy.two'
  cases hx0; cases hx1; cases hy0; cases hy1
  refine ⟨_, rfl, xa, _, 0, _, rfl, rfl, sx, rfl, _, rfl, ya, _, 1, _, rfl, rfl, sy, rfl, _, _, rfl, rfl, mulB (zp.bn) (zq.bd), ?_⟩
  refine ⟨_, rfl, ya, _, 0, _, rfl, rfl, sy, rfl, _, rfl, xa, _, 1, _, rfl, rfl, sx, rfl, _, _, rfl, rfl, mulB (zq.bn) (zp.bd), _, _, rfl, rfl, ?_⟩
  refine ⟨_, rfl, xa, _, 1, _, rfl, rfl, sx, rfl, _, rfl, ya, _, 1, _, rfl, rfl, sy, rfl, _, _, rfl, rfl, mulB (zp.bd) (zq.bd), ?_⟩
  refine ⟨_, _, rfl, den_mul p q, sz_big (by decide) (zp.x5 zq), sz_big (by decide) (zp.x3 zq), fun v H1 s1 i1 => ?_⟩
  rw [r_add] at i1
  exact k v H1 s1 i1

theorem ok_law_minus (B : BI mg) (F : At K mg "_law_minus" s_law_minus ["a", "b"]) (C_law_ratio : Ok P w K mg base 2 "_law_ratio" ["top", "bottom"] [] (spRat K)) : Ok P w K mg base 3 "_law_minus" ["a", "b"] [] (spBin K (fun p q => p - q)) := by
  refine F.ok sc_law_minus (fun vs H Q E h => ?_) (fun f cdv A outer s H vs Q E hr h => ?_)
  · obtain ⟨x, y, p, q, rfl, _⟩ := h
    rfl
  obtain ⟨x, y, p, q, rfl, hx, hy, zp, zq, k⟩ := h
  refine ⟨_, (pss_one (ps_ret (pe_ok C_law_ratio (hr.mono (by first | decide | exact Nat.le_refl _)) rfl (pa_cons (pe_op op_sub (pe_op op_mulX (pe_ix ix_tup (pv 0) pe_int (fun _ _ => rfl)) (pe_ix ix_tup (pv 1) pe_int (fun _ _ => rfl))) (pe_op op_mulX (pe_ix ix_tup (pv 1) pe_int (fun _ _ => rfl)) (pe_ix ix_tup (pv 0) pe_int (fun _ _ => rfl)))) (pa_cons (pe_op op_mulX (pe_ix ix_tup (pv 0) pe_int (fun _ _ => rfl)) (pe_ix ix_tup (pv 1) pe_int (fun _ _ => rfl))) pa_nil))))), ?_⟩
  obtain ⟨xa, _, _, rfl, sx, hx0, hx1⟩ := hx.two'
  obtain ⟨ya, _, _, rfl, sy, hy0, hy1⟩ := hy.two'
  cases hx0; cases hx1; cases hy0; cases hy1
  refine ⟨_, rfl, xa, _, 0, _, rfl, rfl, sx, rfl, _, rfl, ya, _, 1, _, rfl, rfl, sy, rfl, _, _, rfl, rfl, mulB (zp.bn) (zq.bd), ?_⟩
  refine ⟨_, rfl, ya, _, 0, _, rfl, rfl, sy, rfl, _, rfl, xa, _, 1, _, rfl, rfl, sx, rfl, _, _, rfl, rfl, mulB (zq.bn) (zp.bd), _, _, rfl, rfl, ?_⟩
  refine ⟨_, rfl, xa, _, 1, _, rfl, rfl, sx, rfl, _, rfl, ya, _, 1, _, rfl, rfl, sy, rfl, _, _, rfl, rfl, mulB (zp.bd) (zq.bd), ?_⟩
  refine ⟨_, _, rfl, den_mul p q, sz_big (by decide) (zp.x6 zq), sz_big (by decide) (zp.x3 zq), fun v H1 s1 i1 => ?_⟩
  rw [r_sub] at i1
  exact k v H1 s1 i1

theorem ok_law_times (B : BI mg) (F : At K mg "_law_times" s_law_times ["a", "b"]) (C_law_ratio : Ok P w K mg base 2 "_law_ratio" ["top", "bottom"] [] (spRat K)) : Ok P w K mg base 3 "_law_times" ["a", "b"] [] (spBin K (fun p q => p * q)) := by
  refine F.ok sc_law_times (fun vs H Q E h => ?_) (fun f cdv A outer s H vs Q E hr h => ?_)
  · obtain ⟨x, y, p, q, rfl, _⟩ := h
    rfl
  obtain ⟨x, y, p, q, rfl, hx, hy, zp, zq, k⟩ := h
  refine ⟨_, (pss_one (ps_ret (pe_ok C_law_ratio (hr.mono (by first | decide | exact Nat.le_refl _)) rfl (pa_cons (pe_op op_mulX (pe_ix ix_tup (pv 0) pe_int (fun _ _ => rfl)) (pe_ix ix_tup (pv 1) pe_int (fun _ _ => rfl))) (pa_cons (pe_op op_mulX (pe_ix ix_tup (pv 0) pe_int (fun _ _ => rfl)) (pe_ix ix_tup (pv 1) pe_int (fun _ _ => rfl))) pa_nil))))), ?_⟩
  obtain ⟨xa, _, _, rfl, sx, hx0, hx1⟩ := hx.two'
  obtain ⟨ya, _, _, rfl, sy, hy0, hy1⟩ := hy.two'
  cases hx0; cases hx1; cases hy0; cases hy1
  refine ⟨_, rfl, xa, _, 0, _, rfl, rfl, sx, rfl, _, rfl, ya, _, 0, _, rfl, rfl, sy, rfl, _, _, rfl, rfl, mulB (zp.bn) (zq.bn), ?_⟩
  refine ⟨_, rfl, xa, _, 1, _, rfl, rfl, sx, rfl, _, rfl, ya, _, 1, _, rfl, rfl, sy, rfl, _, _, rfl, rfl, mulB (zp.bd) (zq.bd), ?_⟩
  refine ⟨_, _, rfl, den_mul p q, sz_big (by decide) (zp.x2 zq), sz_big (by decide) (zp.x3 zq), fun v H1 s1 i1 => ?_⟩
  rw [r_mul] at i1
  exact k v H1 s1 i1

theorem ok_law_less (B : BI mg) (F : At K mg "_law_less" s_law_less ["a", "b"]) : Ok P w K mg base 1 "_law_less" ["a", "b"] [] (spLess K) := by
  refine F.ok sc_law_less (fun vs H Q E h => ?_) (fun f cdv A outer s H vs Q E hr h => ?_)
  · obtain ⟨x, y, p, q, rfl, _⟩ := h
    rfl
  obtain ⟨x, y, p, q, rfl, hx, hy, zp, zq, k⟩ := h
  refine ⟨_, (pss_one (ps_ret (pe_cmpR op_lt (pe_op op_mulX (pe_ix ix_tup (pv 0) pe_int (fun _ _ => rfl)) (pe_ix ix_tup (pv 1) pe_int (fun _ _ => rfl))) (pe_op op_mulX (pe_ix ix_tup (pv 1) pe_int (fun _ _ => rfl)) (pe_ix ix_tup (pv 0) pe_int (fun _ _ => rfl))) (nomark _)))), ?_⟩
  obtain ⟨xa, _, _, rfl, sx, hx0, hx1⟩ := hx.two'
  obtain ⟨ya, _, _, rfl, sy, hy0, hy1⟩ := hy.two'
  cases hx0; cases hx1; cases hy0; cases hy1
  refine ⟨_, rfl, xa, _, 0, _, rfl, rfl, sx, rfl, _, rfl, ya, _, 1, _, rfl, rfl, sy, rfl, _, _, rfl, rfl, mulB zp.bn zq.bd, ?_⟩
  refine ⟨_, rfl, ya, _, 0, _, rfl, rfl, sy, rfl, _, rfl, xa, _, 1, _, rfl, rfl, sx, rfl, _, _, rfl, rfl, mulB zq.bn zp.bd, ?_⟩
  refine ⟨_, _, rfl, rfl, ?_⟩
  have e : decide (p.num * (q.den : Int) < q.num * (p.den : Int)) = decide (p < q) := decide_eq_decide.mpr (r_less p q)
  show Q (.bl (decide (p.num * (q.den : Int) < q.num * (p.den : Int)))) H
  rw [e]
  exact k

theorem ok_law_same_step (B : BI mg) (F : At K mg "_law_same" s_law_same ["actual", "due"]) {n : Nat} (C_law_same : Ok P w K mg base n "_law_same" ["actual", "due"] [] (spSame K n)) :
    Ok P w K mg base (n + 1) "_law_same" ["actual", "due"] [] (spSame K (n + 1)) := by
  refine F.ok sc_law_same (fun vs H Q E h => ?_) (fun f cdv A outer s H vs Q E hr h => ?_)
  · obtain ⟨x, y, d, e, rfl, _⟩ := h
    rfl
  obtain ⟨x, y, d, e, rfl, hx, hy, pd, pe, dp, q⟩ := h
  refine ⟨_, (pss_cons (ps_if (pt_val (pe_callB call_isi rfl B.isinstance (by decide +kernel) (pa_cons (pv 1) (pa_cons (pe_bltn (v := .ty "tuple") (by rfl) B.tuple (by decide +kernel) rfl) pa_nil))))
        (pss_cons (ps_if (PW.pt (pw_or (pt_not (pt_val (pe_callB call_isi rfl B.isinstance (by decide +kernel) (pa_cons (pv 0) (pa_cons (pe_bltn (v := .ty "tuple") (by rfl) B.tuple (by decide +kernel) rfl) pa_nil))))) (pw_or1 (pt_cmpR op_ne (pe_callB call_len_seq rfl B.len PySem.boot_len (pa_cons (pv 0) pa_nil)) (pe_callB call_len_seq rfl B.len PySem.boot_len (pa_cons (pv 1) pa_nil)) (nomark _)))))
          (pss_one (ps_ret pe_bl))
          pss_nil)
        (pss_one (ps_ret (pe_cmpR op_eq (pe_callB call_len_seq rfl B.len PySem.boot_len (pa_cons (pe_lc (own := [("k", 2)]) (g := gName 2) (tt := _) rfl sc_law_same.nd (pi_range1 rfl B.range (pa_cons (pe_callB call_len_seq rfl B.len PySem.boot_len (pa_cons (pv 1) pa_nil)) pa_nil)) (blkOk_by (own := [("k", 2)]) (N := ["actual", "due", "k"]) (sc := defScope s_law_same) (by decide +kernel)) (fun _ _ _ _ _ => (pg_name (i := 2) sc_law_same.nd rfl (Or.inl rfl))) (fun _ _ _ _ _ => (pts_one (pt_not (pt_val (pe_ok C_law_same (hr.mono (by first | decide | exact Nat.le_refl _)) rfl (pa_cons (pe_ix (ix_tupK (K := K) rfl) (pv 0) (pv 2) (fun _ _ => rfl)) (pa_cons (pe_ix (ix_tupK (K := K) rfl) (pv 1) (pv 2) (fun _ _ => rfl)) pa_nil))))))) (fun _ _ _ _ _ => (pv 2))) pa_nil)) pe_int (nomark _)))))
        pss_nil)
      (pss_cons (ps_if (pt_cmpR op_isN (pv 1) pe_non (nomark _))
        (pss_one (ps_ret (pe_cmpR op_isN (pv 0) pe_non (nomark _))))
        pss_nil)
      (pss_cons (ps_if (pt_val (pe_callB call_isi rfl B.isinstance (by decide +kernel) (pa_cons (pv 1) (pa_cons (pe_bltn (v := .ty "str") (by rfl) B.str (by decide +kernel) rfl) pa_nil))))
        (pss_one (ps_ret (pe_and (pe_callB call_isi rfl B.isinstance (by decide +kernel) (pa_cons (pv 0) (pa_cons (pe_bltn (v := .ty "str") (by rfl) B.str (by decide +kernel) rfl) pa_nil))) (pe_one (pe_cmpR op_eq (pv 0) (pv 1) (nomark _))))))
        pss_nil)
      (pss_one (ps_ret (pe_and (pe_callB call_isi rfl B.isinstance (by decide +kernel) (pa_cons (pv 0) (pa_cons (pe_bltn (v := .ty "int") (by rfl) B.int (by decide +kernel) rfl) pa_nil))) (pe_and (pe_not (pe_callB call_isi rfl B.isinstance (by decide +kernel) (pa_cons (pv 0) (pa_cons (pe_bltn (v := .ty "bool") (by rfl) B.bool (by decide +kernel) rfl) pa_nil)))) (pe_one (pe_cmpR op_eq (pv 0) (pv 1) (nomark _)))))))))), ?_⟩
  refine ⟨_, rfl, _, _, _, _, _, rfl, .ty _, hy.ty, kt_of e pe "tuple" (.inl rfl), _, rfl, ite2 (fun c => ?_) (fun c => ?_)⟩
  · obtain ⟨es, rfl, le, pes⟩ := ty_tuple pe (of_decide_eq_true c)
    obtain ⟨ya, ys, rfl, sy, ay⟩ := hy.tup'
    refine ⟨_, rfl, _, _, _, _, _, rfl, .ty _, hx.ty, kt_of d pd "tuple" (.inl rfl), _, rfl, ite2 (fun c2 => iteT ?_) (fun c2 => ?_)⟩
    · have c3 : ¬ tyD d = "tuple" := fun z => by rw [decide_eq_true z] at c2; cases c2
      exact q false _ (Same.refl _) ⟨fun z => (Bool.false_ne_true z).elim, fun z => by subst z; exact absurd rfl c3⟩
    · have c3 : tyD d = "tuple" := by
        by_cases z : tyD d = "tuple"
        · exact z
        · rw [decide_eq_false z] at c2
          exact absurd rfl c2
      obtain ⟨ds, rfl, _, pds⟩ := ty_tuple pd c3
      obtain ⟨xa, xs, rfl, sx, ax⟩ := hx.tup'
      refine ⟨_, rfl, xa, _, rfl, .inr sx, _, rfl, ya, _, rfl, .inr sy, rfl, _, rfl, ite2 (fun c4 => ?_) (fun c4 => ?_)⟩
      · have c5 : ¬ xs.length = ys.length := fun z => by
          rw [z, decide_eq_true rfl] at c4
          cases c4
        rw [ax.len, ay.len] at c5
        exact q false _ (Same.refl _) ⟨fun z => (Bool.false_ne_true z).elim, fun z => by rw [PyData.tuple.inj z] at c5; exact absurd rfl c5⟩
      · have c5 : xs.length = ys.length := by
          by_cases z : (xs.length : Int) = (ys.length : Int)
          · omega
          · rw [decide_eq_false (fun y => z (V.int.inj y))] at c4
            exact absurd rfl c4
        have ly : ys.length ≤ 1000 := by rw [ay.len]; exact le
        have ly2 : (ys.length : Int) < 2 ^ 62 := by omega
        have hl : ds.length = es.length := by rw [← ax.len, ← ay.len]; exact c5
        refine ⟨_, rfl, ya, _, rfl, .inr sy, _, rfl, by omega, ly2, fun D hD => ?_⟩
        refine lc_range (lo := 0) (fun i H' => Same H H' ∧ ∃ acc, H' D = some (.lst acc) ∧ acc.length ≤ i ∧ (acc = [] ↔ ∀ j < i, ds[j]? = es[j]?))
          ⟨same_upd hD, [], upd_same, Nat.le_refl _, ⟨fun _ j hj => absurd hj (Nat.not_lt_zero j), fun _ => rfl⟩⟩ ?_ ?_
        · rintro i H' hi ⟨sm, acc, hacc, lacc, hiff⟩
          have hi2 : i < es.length := by rw [← ay.len]; exact (by simpa using hi)
          have ge : es[i]? = some es[i] := List.getElem?_eq_getElem hi2
          have gd : ds[i]? = some (ds[i]'(by omega)) := List.getElem?_eq_getElem (by omega)
          obtain ⟨v, gv, iv⟩ := ax.get gd
          obtain ⟨u, gu, iu⟩ := ay.get ge
          have tm := Same.tm sm
          refine ⟨rfl, _, rfl, _, rfl, xa, _, _, v, rfl, rfl, tm.sq sx, ?_, _, rfl, _, rfl, ya, _, _, u, rfl, rfl, tm.sq sy, ?_, ?_⟩
          · show atI xs (0 + (i : Int)) = some v
            rw [Int.zero_add]
            exact atI_nat gv
          · show atI ys (0 + (i : Int)) = some u
            rw [Int.zero_add]
            exact atI_nat gu
          · have de := dep_get ge
            refine ⟨v, u, _, _, rfl, iv.to tm, iu.to tm, plain_get pds gd, plain_get pes ge, ?_, fun b H2 s2 hb => ?_⟩
            · have : depDs es + 1 < n + 1 := dp
              omega
            · refine ⟨b, rfl, ?_⟩
              cases b with
              | true =>
                refine iteF ⟨sm.trans s2, acc, s2 _ _ hacc, by omega, hiff.trans ⟨fun z j hj => ?_, fun z j hj => z j (by omega)⟩⟩
                by_cases hj2 : j < i
                · exact z j hj2
                · have : j = i := by omega
                  subst this
                  rw [gd, ge, hb.mp rfl]
              | false =>
                refine iteT ⟨_, rfl, acc, s2 _ _ hacc, ?_, ?_⟩
                · exact small5' (by omega)
                · refine ⟨Z.Same.mut (sm.trans s2) hD, _, upd_same, ?_, ?_⟩
                  · rw [List.length_append]
                    exact Nat.succ_le_succ lacc
                  · refine ⟨fun z => absurd z (by simp), fun z => ?_⟩
                    have := z i (by omega)
                    rw [gd, ge] at this
                    exact absurd (hb.mpr (Option.some.inj this)) (by decide)
        · rintro H' ⟨sm, acc, hacc, lacc, hiff⟩
          refine ⟨D, acc, rfl, .inl (SqL.of hacc), rfl, ?_⟩
          refine q _ _ sm ?_
          have key : (∀ j < ys.length, ds[j]? = es[j]?) ↔ PyData.tuple ds = PyData.tuple es := by
            rw [ay.len]
            exact ⟨fun z => congrArg _ (ext_of hl z), fun z => by rw [PyData.tuple.inj z]; intro j _; rfl⟩
          rw [← key]
          refine Iff.trans ?_ (by simpa using hiff)
          rw [decide_eq_true_iff]
          refine ⟨fun z => ?_, fun z => by rw [z]; rfl⟩
          have z2 := V.int.inj z
          exact List.eq_nil_of_length_eq_zero (by omega)
  · have nt : ¬ tyD e = "tuple" := fun z => c (decide_eq_true z)
    refine ⟨_, rfl, rfl, _, rfl, ite2 (fun c2 => ?_) (fun c2 => ?_)⟩
    · have e1 : y = .non := of_decide_eq_true c2
      subst e1
      cases hy
      refine ⟨_, rfl, rfl, ?_⟩
      refine q _ _ (Same.refl _) ?_
      rw [decide_eq_true_iff]
      exact ⟨fun z => by subst z; cases hx; rfl, fun z => by subst z; cases hx; rfl⟩
    · have e1 : ¬ y = .non := fun z => c2 (decide_eq_true z)
      refine ⟨_, rfl, _, _, _, _, _, rfl, .ty _, hy.ty, kt_of e pe "str" (.inr (.inl rfl)), _, rfl, ite2 (fun c3 => ?_) (fun c3 => ?_)⟩
      · rcases no_tuple pe nt with rfl | ⟨i, rfl⟩ | ⟨z, rfl⟩
        · cases hy; exact absurd rfl e1
        · exact absurd (of_decide_eq_true c3) (show ¬ "int" = "str" by decide)
        cases hy
        refine ⟨_, rfl, _, _, _, _, _, rfl, .ty _, hx.ty, kt_of d pd "str" (.inr (.inl rfl)), _, rfl, ite2 (fun c4 => ?_) (fun c4 => ?_)⟩
        · have : ∃ z2, d = .str z2 := by
            have c5 := of_decide_eq_true c4
            cases d with
            | str z2 => exact ⟨z2, rfl⟩
            | none => exact absurd c5 (show ¬ "NoneType" = "str" by decide)
            | int i => exact absurd c5 (show ¬ "int" = "str" by decide)
            | tuple ds => exact absurd c5 (show ¬ "tuple" = "str" by decide)
            | bool b => simp [plainD] at pd
            | list ds => simp [plainD] at pd
            | dict ds => simp [plainD] at pd
          obtain ⟨z2, rfl⟩ := this
          cases hx
          refine ⟨_, rfl, _, rfl, rfl, ?_⟩
          refine q _ _ (Same.refl _) ?_
          rw [decide_eq_true_iff]
          exact ⟨fun z => congrArg PyData.str (V.str.inj z), fun z => congrArg V.str (PyData.str.inj z)⟩
        · refine q false _ (Same.refl _) ⟨fun z => (Bool.false_ne_true z).elim, fun z => ?_⟩
          subst z
          exact absurd (decide_eq_true (show "str" = "str" by rfl)) c4
      · have : ∃ i, e = .int i := by
          rcases no_tuple pe nt with rfl | ⟨i, rfl⟩ | ⟨z, rfl⟩
          · cases hy; exact absurd rfl e1
          · exact ⟨i, rfl⟩
          · exact absurd (decide_eq_true (show "str" = "str" by rfl)) c3
        obtain ⟨i, rfl⟩ := this
        cases hy
        refine ⟨_, rfl, _, _, _, _, _, rfl, .ty _, hx.ty, kt_of d pd "int" (.inr (.inr rfl)), _, rfl, ite2 (fun c4 => ?_) (fun c4 => ?_)⟩
        · have : ∃ j, d = .int j := by
            have c5 := of_decide_eq_true c4
            cases d with
            | int j => exact ⟨j, rfl⟩
            | none => exact absurd c5 (show ¬ "NoneType" = "int" by decide)
            | str i => exact absurd c5 (show ¬ "str" = "int" by decide)
            | tuple ds => exact absurd c5 (show ¬ "tuple" = "int" by decide)
            | bool b => simp [plainD] at pd
            | list ds => simp [plainD] at pd
            | dict ds => simp [plainD] at pd
          obtain ⟨j, rfl⟩ := this
          cases hx
          refine ⟨_, rfl, _, _, _, _, _, rfl, .ty _, (Is.int (K := K) (H := H) j).ty, ktB j, _, rfl, _, rfl, iteT ?_⟩
          refine ⟨_, rfl, _, rfl, rfl, ?_⟩
          refine q _ _ (Same.refl _) ?_
          rw [decide_eq_true_iff]
          exact ⟨fun z => congrArg PyData.int (V.int.inj z), fun z => congrArg V.int (PyData.int.inj z)⟩
        · refine q false _ (Same.refl _) ⟨fun z => (Bool.false_ne_true z).elim, fun z => ?_⟩
          subst z
          exact absurd (decide_eq_true (show "int" = "int" by rfl)) c4
theorem ok_law_same (B : BI mg) (F : At K mg "_law_same" s_law_same ["actual", "due"]) : ∀ n : Nat, Ok P w K mg base n "_law_same" ["actual", "due"] [] (spSame K n)
  | 0 => by
    obtain ⟨f, fd, F, m, b⟩ := F.ex
    have no : ∀ vs H Q E, ¬ spSame K 0 vs H Q E := fun vs H Q E h => by
      obtain ⟨x, y, d, e, _, _, _, _, _, h, _⟩ := h
      omega
    exact ⟨f, fd, [], ⟨fun vs H Q E h => absurd h (no vs H Q E), fun A outer s H args us vs Q E _ _ _ _ h => absurd h (no vs H Q E)⟩, m, F.kp, b, .nil⟩
  | n + 1 => ok_law_same_step B F (ok_law_same B F n)

theorem ok_law_pick (B : BI mg) (F : At K mg "_law_pick" s_law_pick ["pool", "rows"]) (C_law_draw : Ok P w K mg base 1 "_law_draw" ["pool", "many"] [] spDraw) : Ok P w K mg base 2 "_law_pick" ["pool", "rows"] [] spPick := by
  refine F.ok sc_law_pick (fun vs H Q E h => ?_) (fun f cdv A outer s H vs Q E hr h => ?_)
  · obtain ⟨p, pa, R, ns, rfl, _⟩ := h
    rfl
  obtain ⟨p, pa, R, ns, rfl, hP, nR, hR, h0, h1, q⟩ := h
  refine ⟨_, (pss_one (ps_ret (pe_ix ix_list (pv 1) (pe_ok C_law_draw (hr.mono (by first | decide | exact Nat.le_refl _)) rfl (pa_cons (pv 0) (pa_cons (pe_callB call_len_seq rfl B.len PySem.boot_len (pa_cons (pv 1) pa_nil)) pa_nil))) (fun _ _ => rfl)))), ?_⟩
  refine ⟨_, rfl, _, rfl, _, rfl, R, _, rfl, .inl (SqL.of hR), p, pa, _, rfl, hP, by rw [List.length_map]; omega, by rw [List.length_map]; omega, fun r H1 r0 r1 k1 P1 => ?_⟩
  rw [List.length_map] at r1
  have hr2 : r.toNat < ns.length := by omega
  have g := List.getElem?_eq_getElem hr2
  refine ⟨R, _, r, .int ns[r.toNat], rfl, rfl, SqL.of (k1 _ _ nR hR), at_of (j := r.toNat) (by omega) (by rw [List.getElem?_map, g]; rfl), ?_⟩
  exact q _ _ (List.getElem_mem hr2) k1 P1

end
end Z

namespace Z
open PySem PySem.Spec PyProof.Rows L2
section
variable {P : Program} {w : World} {K : PySem.W.Frag} {mg : Str → Option Value} {base : Heap}
theorem oklaw {f : Addr} {fd : FuncData} (B : BI mg) (F : Fun K "law" "law" slaw f fd) (C_law_pool : Ok P w K mg base 1 "_law_pool" ["script"] [] (spPool K)) (C_law_depths : Ok P w K mg base 3 "_law_depths" ["pool"] [] (spDepths K)) (C_law_length : Ok P w K mg base 3 "_law_length" ["pool"] [] (spLength K))
    (C_law_turns : Ok P w K mg base 6 "_law_turns" ["depths"] [] (spTurns K)) (C_doze_cost : Ok P w K mg base 4 "doze_cost" ["depths", "length"] [] (spDoze K)) (C_law_asleep : Ok P w K mg base 5 "_law_asleep" ["depths", "length"] [] (spAsleep K)) (C_law_doze : Ok P w K mg base 4 "_law_doze" ["depths", "turns", "length"] [] (spLawDoze K)) (C_law_same : Ok P w K mg base 4 "_law_same" ["actual", "due"] [] (spSame K 4))
    (C_law_times : Ok P w K mg base 3 "_law_times" ["a", "b"] [] (spBin K (fun p q => p * q))) (C_law_less : Ok P w K mg base 1 "_law_less" ["a", "b"] [] (spLess K)) : FnOk P w K mg base CX0 7 f fd ["script"] (spLaw K) := by
  refine F.ok sclaw (fun vs H Q E h => ?_) (fun cdv A outer s H vs Q E hr h => ?_)
  · obtain ⟨a, ns, rfl, _⟩ := h
    rfl
  obtain ⟨a, ns, rfl, hS, hl, q⟩ := h
  refine ⟨_, (pss_cons (ps_set (i := 1) sclaw.nd rfl (Or.inr rfl) (pe_ok C_law_pool (hr.mono (by first | decide | exact Nat.le_refl _)) rfl (pa_cons (pv 0) pa_nil)))
      (pss_cons (ps_set (i := 2) sclaw.nd rfl (Or.inl rfl) (pe_ok C_law_depths (hr.mono (by first | decide | exact Nat.le_refl _)) rfl (pa_cons (pv 1) pa_nil)))
      (pss_cons (ps_set (i := 3) sclaw.nd rfl (Or.inl rfl) (pe_ok C_law_turns (hr.mono (by first | decide | exact Nat.le_refl _)) rfl (pa_cons (pv 2) pa_nil)))
      (pss_cons (ps_set (i := 4) sclaw.nd rfl (Or.inl rfl) (pe_op op_cat (pe_op op_cat (pe_lst (pa_cons (pe_tup (pa_cons pe_int (pa_cons pe_int pa_nil))) pa_nil)) (pe_lc (own := [("k", 10)]) (g := gName 10) (tt := tYes) rfl sclaw.nd (pi_range1 rfl B.range (pa_cons pe_int pa_nil)) (blkOk_by (own := [("k", 10)]) (N := ["script", "pool", "depths", "turns", "lengths", "length", "spent", "least", "other", "turn", "k"]) (sc := defScope slaw) (by decide +kernel)) (fun _ _ _ _ _ => (pg_name (i := 10) sclaw.nd rfl (Or.inl rfl))) (fun _ _ _ _ _ => pts_nil) (fun _ _ _ _ _ => (pe_ok C_law_length (hr.mono (by first | decide | exact Nat.le_refl _)) rfl (pa_cons (pv 1) pa_nil))))) (pe_lc (own := [("turn", 9)]) (g := gName 9) (tt := tYes) rfl sclaw.nd (pi_tup (pv 3)) (blkOk_by (own := [("turn", 9)]) (N := ["script", "pool", "depths", "turns", "lengths", "length", "spent", "least", "other", "turn", "k"]) (sc := defScope slaw) (by decide +kernel)) (fun _ _ _ _ _ => (pg_name (i := 9) sclaw.nd rfl (Or.inl rfl))) (fun _ _ _ _ _ => pts_nil) (fun _ _ _ _ _ => (pe_ix (ix_tupK (K := K) rfl) (pv 9) pe_int (fun _ _ => rfl))))))
      (pss_cons (ps_for PassesOwn.never rfl (pi_list (pv 4)) (pg_name (i := 5) sclaw.nd rfl (Or.inl rfl))
        (pss_cons (ps_set (i := 6) sclaw.nd rfl (Or.inl rfl) (pe_ok C_doze_cost (hr.mono (by first | decide | exact Nat.le_refl _)) rfl (pa_cons (pv 2) (pa_cons (pv 5) pa_nil))))
        (pss_cons (ps_set (i := 7) sclaw.nd rfl (Or.inl rfl) (pe_ix ix_tup (pe_ok C_law_asleep (hr.mono (by first | decide | exact Nat.le_refl _)) rfl (pa_cons (pv 2) (pa_cons (pv 5) pa_nil))) pe_int (fun _ _ => rfl)))
        (pss_cons (ps_if (PW.pt (pw_or (pt_not (pt_val (pe_ok C_law_same (hr.mono (by first | decide | exact Nat.le_refl _)) rfl (pa_cons (pv 6) (pa_cons (pe_ok C_law_doze (hr.mono (by first | decide | exact Nat.le_refl _)) rfl (pa_cons (pv 2) (pa_cons (pv 3) (pa_cons (pv 5) pa_nil)))) pa_nil))))) (pw_or1 (pt_val (pe_ok C_law_less (hr.mono (by first | decide | exact Nat.le_refl _)) rfl (pa_cons (pv 6) (pa_cons (pv 7) pa_nil)))))))
          (pss_one (ps_ret pe_bl))
          pss_nil)
        (pss_cons (ps_if (pt_val (pe_ok C_law_less (hr.mono (by first | decide | exact Nat.le_refl _)) rfl (pa_cons (pe_ok C_law_times (hr.mono (by first | decide | exact Nat.le_refl _)) rfl (pa_cons (pe_tup (pa_cons pe_int (pa_cons pe_int pa_nil))) (pa_cons (pv 7) pa_nil))) (pa_cons (pv 6) pa_nil))))
          (pss_one (ps_ret pe_bl))
          pss_nil)
        (pss_one (ps_for PassesOwn.never rfl (pi_list (pv 4)) (pg_name (i := 8) sclaw.nd rfl (Or.inl rfl))
          (pss_one (ps_if (PW.pt (pw_and (pt_val (pe_ok C_law_less (hr.mono (by first | decide | exact Nat.le_refl _)) rfl (pa_cons (pv 5) (pa_cons (pv 8) pa_nil)))) (pw_and1 (pt_val (pe_ok C_law_less (hr.mono (by first | decide | exact Nat.le_refl _)) rfl (pa_cons (pe_ok C_doze_cost (hr.mono (by first | decide | exact Nat.le_refl _)) rfl (pa_cons (pv 2) (pa_cons (pv 8) pa_nil))) (pa_cons (pv 6) pa_nil)))))))
            (pss_one (ps_ret pe_bl))
            pss_nil)))))))))
      (pss_one (ps_ret pe_bl))))))), ?_⟩
  have two : (2 : Nat) ≤ sizeLine := by decide
  refine ⟨_, rfl, a, ns, rfl, hS, hl, fun p pa H1 np s1 P1 => ?_⟩
  refine ⟨_, rfl, p, pa, rfl, P1, fun d xs ts H2o hD k2 P2 hd hI => ?_⟩
  have D := hD.dps
  have n6 := hD.n6
  refine ⟨_, rfl, d, xs, ts, rfl, hd, hI, hD, fun b ys rs H2 s2' ch hb iT => ?_⟩
  obtain ⟨rl, rz⟩ := Ch.facts hD ch D.n1 (Sz.zero.mono (by decide))
  have ly : ys.length = rs.length := by rw [iT.len, List.length_map]
  have P2 := P2.same s2'
  have hd := Tm.sq (Same.tm s2') hd
  have hI := hI.to (Same.tm s2')
  refine ⟨two, fun t3 n3 => ⟨(by show 1 ≤ sizeLine; decide), fun L4 n4 => ?_⟩⟩
  have s3 := same_upd (o := .tup [V.int 0, .int 1]) n3
  have i3 : Is K (upd H2 t3 (.tup [V.int 0, .int 1])) (.ref t3) (rat2 0) := is_zero (SqT.of upd_same)
  generalize upd H2 t3 (.tup [V.int 0, .int 1]) = H3 at s3 i3 n4
  have s4 := same_upd (o := .lst [V.ref t3]) n4
  have h4 : (upd H3 L4 (.lst [V.ref t3])) L4 = some (.lst [V.ref t3]) := upd_same
  have i4 := i3.to (Tm.new (o := .lst [V.ref t3]) n4)
  generalize upd H3 L4 (.lst [V.ref t3]) = H4 at s4 h4 i4
  have P4 := P2.same (s3.trans s4)
  refine ⟨4, rfl, by decide, by decide, fun D5 n5 => ?_⟩
  obtain ⟨n5p, n5a⟩ := P4.ne n5
  have n45 : L4 ≠ D5 := fun e => by rw [e, n5] at h4; cases h4
  have n4p : L4 ≠ p := (P2.same s3).ne n4 |>.1
  refine lc_range (lo := 0) (fun i H5 => Pl p pa H5 ∧ Kp p H4 H5 ∧ ∃ cs qs, H5 D5 = some (.lst cs) ∧ IsA K H5 cs (qs.map rat2) ∧ qs.length = i ∧ ∀ x ∈ qs, 0 ≤ x ∧ Sz 40 x) ⟨P4.same (same_upd n5), .new n5, [], [], upd_same, .nil, rfl, fun x h => nomatch h⟩ ?_ ?_
  · rintro i H5 hi ⟨P5, k5, cs, qs, h5, i5, lq, zq⟩
    refine ⟨rfl, ?_⟩
    refine ⟨_, rfl, p, pa, rfl, P5, fun v x H6 x0 zx k6 P6 i6 => ?_⟩
    have lc : cs.length = i := by rw [i5.len, List.length_map, lq]
    have h6 := k6 _ _ n5p h5
    refine ⟨cs, h6, small5' (by omega), P6.mut n5p n5a, (k5.trans k6).mut n5, _, qs ++ [x], upd_same, ?_, by rw [List.length_append, lq]; rfl, fun y hy => ?_⟩
    · rw [List.map_append]
      exact ((i5.to (P5.tm k6)).push i6).to (Tm.lst h6)
    · rcases List.mem_append.mp hy with hy | hy
      · exact zq y hy
      · rw [List.mem_singleton.mp hy]; exact ⟨x0, zx⟩
  rintro H5 ⟨P5, k5, cs, qs, h5, i5, lq, zq⟩
  have lc : cs.length = 4 := by rw [i5.len, List.length_map, lq]; rfl
  have h45 := k5 _ _ n4p h4
  have t25 : Tm H2 H5 := (Same.tm (s3.trans s4)).trans (P4.tm k5)
  refine ⟨L4, D5, [V.ref t3], cs, rfl, rfl, h45, h5, small5 (by rw [lc]; show 1 + 4 ≤ 100000; decide), fun L6 n6' => ?_⟩
  have s6 := same_upd (o := .lst ([V.ref t3] ++ cs)) n6'
  have h6 : (upd H5 L6 (.lst ([V.ref t3] ++ cs))) L6 = some (.lst ([V.ref t3] ++ cs)) := upd_same
  have i6 : IsA K (upd H5 L6 (.lst ([V.ref t3] ++ cs))) ([V.ref t3] ++ cs) ((0 :: qs).map rat2) := .cons ((i4.to (P4.tm k5)).to (Same.tm s6)) (i5.to (Same.tm s6))
  generalize upd H5 L6 (.lst ([V.ref t3] ++ cs)) = H6 at s6 h6 i6
  have t26 := t25.trans (Same.tm s6)
  -- the turns
  have hb6 := Tm.sq t26 (SqT.of (K := K) hb)
  have iT6 := iT.to t26
  refine ⟨_, rfl, b, rfl, ⟨_, hb6⟩, fun D8 n8 => ?_⟩
  refine lc_tup (xs := ys) (fun i H8 => Same H6 H8 ∧ ∃ cs, H8 D8 = some (.lst cs) ∧ IsA K H8 cs (((rs.take i).map (·.1)).map rat2)) ⟨same_upd n8, [], upd_same, .nil⟩ (fun i H8 _ h => Tm.sq (Same.tm h.1) hb6) ?_ ?_
  · rintro i x H8 hx ⟨sm, cs, hc, ic⟩
    obtain ⟨d2, hd2, ix⟩ := iT6.at hx
    rw [List.getElem?_map] at hd2
    obtain ⟨r, hr2, rfl⟩ := Option.map_eq_some_iff.mp hd2
    obtain ⟨tr, ur, rfl, sr, ir⟩ := as_at (show Is K H6 x (dAs r.1 r.2) from ix)
    have il : i < rs.length := (List.getElem?_eq_some_iff.mp hr2).1
    have lcs : cs.length = i := by rw [ic.len, List.length_map, List.length_map, List.length_take]; omega
    refine ⟨rfl, _, rfl, tr, _, 0, _, rfl, rfl, Tm.sq (Same.tm sm) sr, rfl, cs, hc, small5' (by omega), Z.Same.mut sm n8, _, upd_same, ?_⟩
    rw [List.take_add_one, hr2]
    simp only [Option.toList, List.map_append, List.map_cons, List.map_nil]
    exact (ic.push (ir.to (Same.tm sm))).to (Tm.lst hc)
  rintro H8 ⟨sm8, es, h8, i8⟩
  rw [ly, List.take_length] at i8
  have les : es.length = rs.length := by rw [i8.len, List.length_map, List.length_map]
  refine ⟨L6, D8, _, es, rfl, rfl, sm8 _ _ h6, h8, small5 (by show ([V.ref t3] ++ cs).length + es.length ≤ 100000; rw [List.length_append, lc, les]; show 1 + 4 + rs.length ≤ 100000; omega), fun L9 n9 => ?_⟩
  have s9 := same_upd (o := .lst ([V.ref t3] ++ cs ++ es)) n9
  have h9 : (upd H8 L9 (.lst ([V.ref t3] ++ cs ++ es))) L9 = some (.lst ([V.ref t3] ++ cs ++ es)) := upd_same
  have i9 : IsA K (upd H8 L9 (.lst ([V.ref t3] ++ cs ++ es))) ([V.ref t3] ++ cs ++ es) ((0 :: qs ++ rs.map (·.1)).map rat2) := by
    rw [List.map_append]
    exact (i6.to (Same.tm (sm8.trans s9))).append (i8.to (Same.tm s9))
  have t29 := (t26.trans (Same.tm sm8)).trans (Same.tm s9)
  generalize upd H8 L9 (.lst ([V.ref t3] ++ cs ++ es)) = H9 at s9 h9 i9 t29
  have zall : ∀ x ∈ 0 :: qs ++ rs.map (·.1), 0 ≤ x ∧ Sz 40 x := fun x hx => by
    rcases List.mem_append.mp hx with hx | hx
    · rcases List.mem_cons.mp hx with rfl | hx
      · exact ⟨Rat.le_refl, Sz.zero.mono (by decide)⟩
      · exact zq x hx
    · obtain ⟨r, hr2, rfl⟩ := List.mem_map.mp hx
      obtain ⟨i, hi⟩ := List.getElem?_of_mem hr2
      exact ⟨(ch_pos D ch hi).1, (rz r hr2).1⟩
  generalize [V.ref t3] ++ cs ++ es = ls at h9 i9
  generalize 0 :: qs ++ rs.map (·.1) = qa at i9 zall
  have hd9 := Tm.sq t29 hd
  have hI9 := hI.to t29
  have hb9 := Tm.sq t29 (SqT.of (K := K) hb)
  have iT9 := iT.to t29
  have zDoze : ∀ {x : Rat}, Sz 40 x → Sz 162 (dozeV ts x) := fun h => dozeV_sz hD h
  have zB : ∀ {x : Rat}, Sz 40 x → Sz 121 (stayF ts x (bestAt ts x)) := fun h => stay_sz (dAt_b hD _) h
  refine ⟨_, rfl, L9, rfl, ⟨_, SqL.of h9⟩, for_list (xs := ls) (fun i σ' H' => ∃ (y5 y6 y7 y8 : Option V), σ' = [some (.ref a), some (.ref p), some (.ref d), some (.ref b), some (.ref L9), y5, y6, y7, y8, none, none] ∧ Same H9 H') ⟨none, none, none, none, rfl, Same.refl _⟩ (fun i σ' H' hi h => by
    obtain ⟨y5, y6, y7, y8, rfl, sm⟩ := h
    exact SqL.of (sm _ _ h9)) ?_ ?_⟩
  · rintro i v σ' H' hv ⟨y5, y6, y7, y8, rfl, sm⟩
    obtain ⟨d2, hd2, iv⟩ := i9.at hv
    obtain ⟨x, hx, rfl⟩ := getR hd2
    obtain ⟨x0, zx⟩ := zall x (List.mem_of_getElem? hx)
    refine ⟨_, rfl, _, rfl, d, v, xs, ts, x, rfl, Tm.sq (Same.tm sm) hd9, hI9.to (Same.tm sm), hD, iv.to (Same.tm sm), x0, zx.mono (by decide), fun u1 HA sA iA => ?_⟩
    have SA := sm.trans sA
    refine ⟨_, rfl, _, rfl, d, v, xs, ts, x, rfl, Tm.sq (Same.tm SA) hd9, hI9.to (Same.tm SA), hD.lb, D.n1, iv.to (Same.tm SA), zx.mono (by decide), fun u2 HB sB iB => ?_⟩
    obtain ⟨tb, ub, rfl, stb, ib⟩ := as_at iB
    have SB := SA.trans sB
    have ib : Is K HB ub (rat2 (stayF ts x (bestAt ts x))) := ib
    refine ⟨tb, _, 0, _, rfl, rfl, stb, rfl, ?_⟩
    refine ⟨_, rfl, _, rfl, _, rfl, _, rfl, d, b, v, xs, ys, ts, rs, x, rfl, Tm.sq (Same.tm SB) hd9, hI9.to (Same.tm SB), hD, Tm.sq (Same.tm SB) hb9, iT9.to (Same.tm SB), ch, iv.to (Same.tm SB), x0, zx.mono (by decide), fun u3 HC sC iC => ?_⟩
    have iAC := iA.to (Same.tm (sB.trans sC))
    refine ⟨u1, u3, _, _, rfl, iAC, iC, plain_rat2 _, plain_rat2 _, by rw [dep_rat2]; decide, fun c HD sD hc => ?_⟩
    obtain rfl : c = true := hc.mpr rfl
    have sBD := sB.trans (sC.trans sD)
    have iAD := iA.to (Same.tm sBD)
    have ibD := ib.to (Same.tm (sC.trans sD))
    have SD := SA.trans sBD
    refine ⟨_, rfl, iteF ⟨_, rfl, _, rfl, u1, ub, _, _, rfl, iAD, ibD, (zDoze zx).mono (by decide), (zB zx).mono (by decide), _, rfl, ?_⟩⟩
    rw [decide_eq_false (Rat.not_lt.mpr (doze_ge D x))]
    refine iteF ?_
    refine ⟨two, fun tE nE => ?_⟩
    have sE := same_upd (o := .tup [V.int 2, .int 1]) nE
    have iE : Is K (upd HD tE (.tup [V.int 2, .int 1])) (.ref tE) (rat2 ((2 : Int) : Rat)) := is_one (SqT.of upd_same)
    have iAE := iAD.to (Same.tm sE)
    have ibE := ibD.to (Same.tm sE)
    have SE := SD.trans sE
    generalize upd HD tE (.tup [V.int 2, .int 1]) = HE at sE iE iAE ibE SE
    have z2 : Sz 4 ((2 : Int) : Rat) := sz_int (by decide) (by decide)
    refine ⟨_, rfl, .ref tE, ub, _, _, rfl, iE, ibE, z2.mono (by decide), (zB zx).mono (by decide), fun u4 HF sF iF => ?_⟩
    refine ⟨_, rfl, u4, u1, _, _, rfl, iF, iAE.to (Same.tm sF), (z2.mul (zB zx)).mono (by decide), (zDoze zx).mono (by decide), _, rfl, ?_⟩
    have l2 : dozeV ts x ≤ ((2 : Int) : Rat) * stayF ts x (bestAt ts x) := doze_le D x0
    rw [decide_eq_false (Rat.not_lt.mpr l2)]
    refine iteF ?_
    have SF := SE.trans sF
    have iAF := iAE.to (Same.tm sF)
    refine ⟨_, rfl, L9, rfl, ⟨_, SqL.of (SF _ _ h9)⟩, for_list (xs := ls) (fun m σ' H3' => ∃ (y8 : Option V), σ' = [some (.ref a), some (.ref p), some (.ref d), some (.ref b), some (.ref L9), some v, some u1, some ub, y8, none, none] ∧ Same HF H3') ⟨_, rfl, Same.refl _⟩ (fun m σ' H3' hi h => by
      obtain ⟨y8, rfl, sm'⟩ := h
      exact SqL.of (sm' _ _ (SF _ _ h9))) ?_ ?_⟩
    · rintro m v' σ' H3' hv' ⟨y8', rfl, sm'⟩
      obtain ⟨d3, hd3, iv'⟩ := i9.at hv'
      obtain ⟨x', hx', rfl⟩ := getR hd3
      obtain ⟨x0', zx'⟩ := zall x' (List.mem_of_getElem? hx')
      have S3 := SF.trans sm'
      refine ⟨_, rfl, _, rfl, v, v', x, x', rfl, iv.to (Same.tm S3), iv'.to (Same.tm S3), zx.mono (by decide), zx'.mono (by decide), _, rfl, ite2 (fun e => ?_) (fun e => iteF ⟨_, rfl, sm'⟩)⟩
      have e := of_decide_eq_true e
      refine ⟨_, rfl, _, rfl, d, v', xs, ts, x', rfl, Tm.sq (Same.tm S3) hd9, hI9.to (Same.tm S3), hD, iv'.to (Same.tm S3), x0', zx'.mono (by decide), fun u5 H5' s5' i5' => ?_⟩
      refine ⟨_, rfl, u5, u1, _, _, rfl, i5', iAF.to (Same.tm (sm'.trans s5')), (zDoze zx').mono (by decide), (zDoze zx).mono (by decide), _, rfl, ?_⟩
      rw [decide_eq_false (Rat.not_lt.mpr (doze_mono D e))]
      exact iteF ⟨_, rfl, sm'.trans s5'⟩
    · rintro σ' H3' ⟨y8', rfl, sm'⟩
      exact ⟨_, _, _, _, rfl, SF.trans sm'⟩
  · rintro σ' H' ⟨y5, y6, y7, y8, rfl, sm⟩
    exact q _

theorem all {flaw : Addr} {fdlaw : FuncData} (B : BI mg) (B2 : BJ mg) (mGcd : mg "gcd" = some (.builtin "math.gcd")) (Z : GZ K mg) (Fratio : AtD K mg "ratio" sratio ["top", "bottom"] [.int 1]) (Fplus : At K mg "plus" splus ["a", "b"]) (Fminus : At K mg "minus" sminus ["a", "b"]) (Ftimes : At K mg "times" stimes ["a", "b"]) (Fless : At K mg "less" sless ["a", "b"]) (Flesser : At K mg "lesser" slesser ["a", "b"]) (Fnext_turn : At K mg "next_turn" snext_turn ["depths", "depth"]) (Fdozing : At K mg "dozing" sdozing ["depths"]) (Fdoze_cost : At K mg "doze_cost" sdoze_cost ["depths", "length"]) (F_law_pool : At K mg "_law_pool" s_law_pool ["script"]) (F_law_draw : At K mg "_law_draw" s_law_draw ["pool", "many"]) (F_law_pick : At K mg "_law_pick" s_law_pick ["pool", "rows"]) (F_law_gcd : At K mg "_law_gcd" s_law_gcd ["a", "b"]) (F_law_ratio : At K mg "_law_ratio" s_law_ratio ["top", "bottom"]) (F_law_plus : At K mg "_law_plus" s_law_plus ["a", "b"]) (F_law_minus : At K mg "_law_minus" s_law_minus ["a", "b"]) (F_law_times : At K mg "_law_times" s_law_times ["a", "b"]) (F_law_less : At K mg "_law_less" s_law_less ["a", "b"]) (F_law_same : At K mg "_law_same" s_law_same ["actual", "due"]) (F_law_depths : At K mg "_law_depths" s_law_depths ["pool"]) (F_law_stay : At K mg "_law_stay" s_law_stay ["depth", "length"]) (F_law_asleep : At K mg "_law_asleep" s_law_asleep ["depths", "length"]) (F_law_length : At K mg "_law_length" s_law_length ["pool"]) (F_law_turns : At K mg "_law_turns" s_law_turns ["depths"]) (F_law_doze : At K mg "_law_doze" s_law_doze ["depths", "turns", "length"]) (Flaw : Fun K "law" "law" slaw flaw fdlaw) : FnOk P w K mg base CX0 7 flaw fdlaw ["script"] (spLaw K) := by
  have R := ok_ratio (P := P) (w := w) (base := base) B Fratio mGcd
  have C_plus := ok_plus B Fplus R.1
  have C_minus := ok_minus B Fminus R.1
  have C_times := ok_times B Ftimes R.1
  have C_less := ok_less (P := P) (w := w) (base := base) B Fless
  have C_lesser := ok_lesser B Flesser C_less
  have D_pool := ok_law_pool (P := P) (w := w) (base := base) B F_law_pool
  have D_draw := ok_law_draw (P := P) (w := w) (base := base) B F_law_draw
  have D_pick := ok_law_pick B F_law_pick D_draw
  have D_gcd := ok_law_gcd (P := P) (w := w) (base := base) B F_law_gcd
  have D_ratio := ok_law_ratio (P := P) (w := w) (base := base) B F_law_ratio D_gcd
  have D_plus := ok_law_plus B F_law_plus D_ratio
  have D_minus := ok_law_minus B F_law_minus D_ratio
  have D_times := ok_law_times B F_law_times D_ratio
  have D_less := ok_law_less (P := P) (w := w) (base := base) B F_law_less
  have D_same := ok_law_same (P := P) (w := w) (base := base) B F_law_same 4
  have D_stay := ok_law_stay B F_law_stay D_plus D_times
  have D_asleep := ok_law_asleep B F_law_asleep D_stay D_less
  have D_depths := ok_law_depths B F_law_depths D_draw D_pick
  have D_length := ok_law_length B F_law_length D_draw D_ratio
  have D_turns := ok_law_turns B F_law_turns D_ratio D_less D_plus D_times D_asleep
  have C_next := ok_next_turn B Fnext_turn R.1 C_less
  have C_dozing := ok_dozing B Z Fdozing C_next
  have C_doze := ok_doze_cost B B2 Z Fdoze_cost C_dozing R.2 C_less C_lesser C_plus C_minus C_times
  have D_doze := ok_law_doze B F_law_doze D_less D_plus D_minus D_times
  exact oklaw B Flaw D_pool D_depths D_length D_turns C_doze D_asleep D_doze D_same D_times D_less
end
theorem all_mk {l : PySem.W.OpenLaw} {w : World} {K : PySem.W.Frag} {h : Heap} {mg : Str → Option Value} {fa f1 f2 f3 f4 f5 f6 f7 f8 f9 f10 f11 f12 f13 f14 f15 f16 f17 f18 f19 f20 f21 f22 f23 f24 f25 f26 : Addr} (X : K.In h) (G : h.Ns mainGlobals mg) (hfa : mg "law" = some (.ref fa))
    {od1 an1 od2 an2 od3 an3 od4 an4 od5 an5 od6 an6 od7 an7 od8 an8 od9 an9 od10 an10 od11 an11 od12 an12 od13 an13 od14 an14 od15 an15 od16 an16 od17 an17 od18 an18 od19 an19 od20 an20 od21 an21 od22 an22 od23 an23 od24 an24 od25 an25 od26 an26 : Option Addr} {sl1 sl2 sl3 sl4 sl5 sl6 sl7 sl8 sl9 sl10 sl11 sl12 sl13 sl14 sl15 sl16 sl17 sl18 sl19 sl20 sl21 sl22 sl23 sl24 sl25 sl26 : Array (Option Value)} {oc1 kV1 dc1 pm1 cd1 ct1 oc2 kV2 dc2 pm2 cd2 ct2 oc3 kV3 dc3 pm3 cd3 ct3 oc4 kV4 dc4 pm4 cd4 ct4 oc5 kV5 dc5 pm5 cd5 ct5 oc6 kV6 dc6 pm6 cd6 ct6 oc7 kV7 dc7 pm7 cd7 ct7 oc8 kV8 dc8 pm8 cd8 ct8 oc9 kV9 dc9 pm9 cd9 ct9 oc10 kV10 dc10 pm10 cd10 ct10 oc11 kV11 dc11 pm11 cd11 ct11 oc12 kV12 dc12 pm12 cd12 ct12 oc13 kV13 dc13 pm13 cd13 ct13 oc14 kV14 dc14 pm14 cd14 ct14 oc15 kV15 dc15 pm15 cd15 ct15 oc16 kV16 dc16 pm16 cd16 ct16 oc17 kV17 dc17 pm17 cd17 ct17 oc18 kV18 dc18 pm18 cd18 ct18 oc19 kV19 dc19 pm19 cd19 ct19 oc20 kV20 dc20 pm20 cd20 ct20 oc21 kV21 dc21 pm21 cd21 ct21 oc22 kV22 dc22 pm22 cd22 ct22 oc23 kV23 dc23 pm23 cd23 ct23 oc24 kV24 dc24 pm24 cd24 ct24 oc25 kV25 dc25 pm25 cd25 ct25 oc26 kV26 dc26 pm26 cd26 ct26 : Value}
    {T1 : Addr} {ocT1 : Value} {odT1 : Option Addr} {nT1 : Nat} {slT1 : Array (Option Value)} {tk1 : Tok} (lT1 : K.lookup T1 = some ⟨ocT1, odT1, .seq #[.int 1 tk1] nT1, slT1⟩)
    (a1 : PySem.W.nsIn K mainGlobals "ratio" = some (some (.ref f1))) (l1 : K.lookup f1 = some ⟨oc1, od1, .func (PySem.W.fnOf "ratio" "ratio" (defArgs sratio) (defBody sratio) (defScope sratio) (.ref T1) kV1 dc1 pm1 an1 cd1 ct1), sl1⟩) (c1 : PySem.W.codeIn K cd1 "ratio" = true) (k1 : PySem.W.keepIn K (.ref f1) = true)
    (a2 : PySem.W.nsIn K mainGlobals "plus" = some (some (.ref f2))) (l2 : K.lookup f2 = some ⟨oc2, od2, .func (PySem.W.fnOf "plus" "plus" (defArgs splus) (defBody splus) (defScope splus) .none kV2 dc2 pm2 an2 cd2 ct2), sl2⟩) (c2 : PySem.W.codeIn K cd2 "plus" = true) (k2 : PySem.W.keepIn K (.ref f2) = true)
    (a3 : PySem.W.nsIn K mainGlobals "minus" = some (some (.ref f3))) (l3 : K.lookup f3 = some ⟨oc3, od3, .func (PySem.W.fnOf "minus" "minus" (defArgs sminus) (defBody sminus) (defScope sminus) .none kV3 dc3 pm3 an3 cd3 ct3), sl3⟩) (c3 : PySem.W.codeIn K cd3 "minus" = true) (k3 : PySem.W.keepIn K (.ref f3) = true)
    (a4 : PySem.W.nsIn K mainGlobals "times" = some (some (.ref f4))) (l4 : K.lookup f4 = some ⟨oc4, od4, .func (PySem.W.fnOf "times" "times" (defArgs stimes) (defBody stimes) (defScope stimes) .none kV4 dc4 pm4 an4 cd4 ct4), sl4⟩) (c4 : PySem.W.codeIn K cd4 "times" = true) (k4 : PySem.W.keepIn K (.ref f4) = true)
    (a5 : PySem.W.nsIn K mainGlobals "less" = some (some (.ref f5))) (l5 : K.lookup f5 = some ⟨oc5, od5, .func (PySem.W.fnOf "less" "less" (defArgs sless) (defBody sless) (defScope sless) .none kV5 dc5 pm5 an5 cd5 ct5), sl5⟩) (c5 : PySem.W.codeIn K cd5 "less" = true) (k5 : PySem.W.keepIn K (.ref f5) = true)
    (a6 : PySem.W.nsIn K mainGlobals "lesser" = some (some (.ref f6))) (l6 : K.lookup f6 = some ⟨oc6, od6, .func (PySem.W.fnOf "lesser" "lesser" (defArgs slesser) (defBody slesser) (defScope slesser) .none kV6 dc6 pm6 an6 cd6 ct6), sl6⟩) (c6 : PySem.W.codeIn K cd6 "lesser" = true) (k6 : PySem.W.keepIn K (.ref f6) = true)
    (a7 : PySem.W.nsIn K mainGlobals "next_turn" = some (some (.ref f7))) (l7 : K.lookup f7 = some ⟨oc7, od7, .func (PySem.W.fnOf "next_turn" "next_turn" (defArgs snext_turn) (defBody snext_turn) (defScope snext_turn) .none kV7 dc7 pm7 an7 cd7 ct7), sl7⟩) (c7 : PySem.W.codeIn K cd7 "next_turn" = true) (k7 : PySem.W.keepIn K (.ref f7) = true)
    (a8 : PySem.W.nsIn K mainGlobals "dozing" = some (some (.ref f8))) (l8 : K.lookup f8 = some ⟨oc8, od8, .func (PySem.W.fnOf "dozing" "dozing" (defArgs sdozing) (defBody sdozing) (defScope sdozing) .none kV8 dc8 pm8 an8 cd8 ct8), sl8⟩) (c8 : PySem.W.codeIn K cd8 "dozing" = true) (k8 : PySem.W.keepIn K (.ref f8) = true)
    (a9 : PySem.W.nsIn K mainGlobals "doze_cost" = some (some (.ref f9))) (l9 : K.lookup f9 = some ⟨oc9, od9, .func (PySem.W.fnOf "doze_cost" "doze_cost" (defArgs sdoze_cost) (defBody sdoze_cost) (defScope sdoze_cost) .none kV9 dc9 pm9 an9 cd9 ct9), sl9⟩) (c9 : PySem.W.codeIn K cd9 "doze_cost" = true) (k9 : PySem.W.keepIn K (.ref f9) = true)
    (a10 : PySem.W.nsIn K mainGlobals "_law_pool" = some (some (.ref f10))) (l10 : K.lookup f10 = some ⟨oc10, od10, .func (PySem.W.fnOf "_law_pool" "_law_pool" (defArgs s_law_pool) (defBody s_law_pool) (defScope s_law_pool) .none kV10 dc10 pm10 an10 cd10 ct10), sl10⟩) (c10 : PySem.W.codeIn K cd10 "_law_pool" = true) (k10 : PySem.W.keepIn K (.ref f10) = true)
    (a11 : PySem.W.nsIn K mainGlobals "_law_draw" = some (some (.ref f11))) (l11 : K.lookup f11 = some ⟨oc11, od11, .func (PySem.W.fnOf "_law_draw" "_law_draw" (defArgs s_law_draw) (defBody s_law_draw) (defScope s_law_draw) .none kV11 dc11 pm11 an11 cd11 ct11), sl11⟩) (c11 : PySem.W.codeIn K cd11 "_law_draw" = true) (k11 : PySem.W.keepIn K (.ref f11) = true)
    (a12 : PySem.W.nsIn K mainGlobals "_law_pick" = some (some (.ref f12))) (l12 : K.lookup f12 = some ⟨oc12, od12, .func (PySem.W.fnOf "_law_pick" "_law_pick" (defArgs s_law_pick) (defBody s_law_pick) (defScope s_law_pick) .none kV12 dc12 pm12 an12 cd12 ct12), sl12⟩) (c12 : PySem.W.codeIn K cd12 "_law_pick" = true) (k12 : PySem.W.keepIn K (.ref f12) = true)
    (a13 : PySem.W.nsIn K mainGlobals "_law_gcd" = some (some (.ref f13))) (l13 : K.lookup f13 = some ⟨oc13, od13, .func (PySem.W.fnOf "_law_gcd" "_law_gcd" (defArgs s_law_gcd) (defBody s_law_gcd) (defScope s_law_gcd) .none kV13 dc13 pm13 an13 cd13 ct13), sl13⟩) (c13 : PySem.W.codeIn K cd13 "_law_gcd" = true) (k13 : PySem.W.keepIn K (.ref f13) = true)
    (a14 : PySem.W.nsIn K mainGlobals "_law_ratio" = some (some (.ref f14))) (l14 : K.lookup f14 = some ⟨oc14, od14, .func (PySem.W.fnOf "_law_ratio" "_law_ratio" (defArgs s_law_ratio) (defBody s_law_ratio) (defScope s_law_ratio) .none kV14 dc14 pm14 an14 cd14 ct14), sl14⟩) (c14 : PySem.W.codeIn K cd14 "_law_ratio" = true) (k14 : PySem.W.keepIn K (.ref f14) = true)
    (a15 : PySem.W.nsIn K mainGlobals "_law_plus" = some (some (.ref f15))) (l15 : K.lookup f15 = some ⟨oc15, od15, .func (PySem.W.fnOf "_law_plus" "_law_plus" (defArgs s_law_plus) (defBody s_law_plus) (defScope s_law_plus) .none kV15 dc15 pm15 an15 cd15 ct15), sl15⟩) (c15 : PySem.W.codeIn K cd15 "_law_plus" = true) (k15 : PySem.W.keepIn K (.ref f15) = true)
    (a16 : PySem.W.nsIn K mainGlobals "_law_minus" = some (some (.ref f16))) (l16 : K.lookup f16 = some ⟨oc16, od16, .func (PySem.W.fnOf "_law_minus" "_law_minus" (defArgs s_law_minus) (defBody s_law_minus) (defScope s_law_minus) .none kV16 dc16 pm16 an16 cd16 ct16), sl16⟩) (c16 : PySem.W.codeIn K cd16 "_law_minus" = true) (k16 : PySem.W.keepIn K (.ref f16) = true)
    (a17 : PySem.W.nsIn K mainGlobals "_law_times" = some (some (.ref f17))) (l17 : K.lookup f17 = some ⟨oc17, od17, .func (PySem.W.fnOf "_law_times" "_law_times" (defArgs s_law_times) (defBody s_law_times) (defScope s_law_times) .none kV17 dc17 pm17 an17 cd17 ct17), sl17⟩) (c17 : PySem.W.codeIn K cd17 "_law_times" = true) (k17 : PySem.W.keepIn K (.ref f17) = true)
    (a18 : PySem.W.nsIn K mainGlobals "_law_less" = some (some (.ref f18))) (l18 : K.lookup f18 = some ⟨oc18, od18, .func (PySem.W.fnOf "_law_less" "_law_less" (defArgs s_law_less) (defBody s_law_less) (defScope s_law_less) .none kV18 dc18 pm18 an18 cd18 ct18), sl18⟩) (c18 : PySem.W.codeIn K cd18 "_law_less" = true) (k18 : PySem.W.keepIn K (.ref f18) = true)
    (a19 : PySem.W.nsIn K mainGlobals "_law_same" = some (some (.ref f19))) (l19 : K.lookup f19 = some ⟨oc19, od19, .func (PySem.W.fnOf "_law_same" "_law_same" (defArgs s_law_same) (defBody s_law_same) (defScope s_law_same) .none kV19 dc19 pm19 an19 cd19 ct19), sl19⟩) (c19 : PySem.W.codeIn K cd19 "_law_same" = true) (k19 : PySem.W.keepIn K (.ref f19) = true)
    (a20 : PySem.W.nsIn K mainGlobals "_law_depths" = some (some (.ref f20))) (l20 : K.lookup f20 = some ⟨oc20, od20, .func (PySem.W.fnOf "_law_depths" "_law_depths" (defArgs s_law_depths) (defBody s_law_depths) (defScope s_law_depths) .none kV20 dc20 pm20 an20 cd20 ct20), sl20⟩) (c20 : PySem.W.codeIn K cd20 "_law_depths" = true) (k20 : PySem.W.keepIn K (.ref f20) = true)
    (a21 : PySem.W.nsIn K mainGlobals "_law_stay" = some (some (.ref f21))) (l21 : K.lookup f21 = some ⟨oc21, od21, .func (PySem.W.fnOf "_law_stay" "_law_stay" (defArgs s_law_stay) (defBody s_law_stay) (defScope s_law_stay) .none kV21 dc21 pm21 an21 cd21 ct21), sl21⟩) (c21 : PySem.W.codeIn K cd21 "_law_stay" = true) (k21 : PySem.W.keepIn K (.ref f21) = true)
    (a22 : PySem.W.nsIn K mainGlobals "_law_asleep" = some (some (.ref f22))) (l22 : K.lookup f22 = some ⟨oc22, od22, .func (PySem.W.fnOf "_law_asleep" "_law_asleep" (defArgs s_law_asleep) (defBody s_law_asleep) (defScope s_law_asleep) .none kV22 dc22 pm22 an22 cd22 ct22), sl22⟩) (c22 : PySem.W.codeIn K cd22 "_law_asleep" = true) (k22 : PySem.W.keepIn K (.ref f22) = true)
    (a23 : PySem.W.nsIn K mainGlobals "_law_length" = some (some (.ref f23))) (l23 : K.lookup f23 = some ⟨oc23, od23, .func (PySem.W.fnOf "_law_length" "_law_length" (defArgs s_law_length) (defBody s_law_length) (defScope s_law_length) .none kV23 dc23 pm23 an23 cd23 ct23), sl23⟩) (c23 : PySem.W.codeIn K cd23 "_law_length" = true) (k23 : PySem.W.keepIn K (.ref f23) = true)
    (a24 : PySem.W.nsIn K mainGlobals "_law_turns" = some (some (.ref f24))) (l24 : K.lookup f24 = some ⟨oc24, od24, .func (PySem.W.fnOf "_law_turns" "_law_turns" (defArgs s_law_turns) (defBody s_law_turns) (defScope s_law_turns) .none kV24 dc24 pm24 an24 cd24 ct24), sl24⟩) (c24 : PySem.W.codeIn K cd24 "_law_turns" = true) (k24 : PySem.W.keepIn K (.ref f24) = true)
    (a25 : PySem.W.nsIn K mainGlobals "_law_doze" = some (some (.ref f25))) (l25 : K.lookup f25 = some ⟨oc25, od25, .func (PySem.W.fnOf "_law_doze" "_law_doze" (defArgs s_law_doze) (defBody s_law_doze) (defScope s_law_doze) .none kV25 dc25 pm25 an25 cd25 ct25), sl25⟩) (c25 : PySem.W.codeIn K cd25 "_law_doze" = true) (k25 : PySem.W.keepIn K (.ref f25) = true)
    (a26 : PySem.W.nsIn K mainGlobals "law" = some (some (.ref f26))) (l26 : K.lookup f26 = some ⟨oc26, od26, .func (PySem.W.fnOf "law" "law" (defArgs slaw) (defBody slaw) (defScope slaw) .none kV26 dc26 pm26 an26 cd26 ct26), sl26⟩) (c26 : PySem.W.codeIn K cd26 "law" = true) (k26 : PySem.W.keepIn K (.ref f26) = true)
    (z_len : PySem.W.nsIn K mainGlobals "len" = some none)
    (z_int : PySem.W.nsIn K mainGlobals "int" = some none)
    (z_abs : PySem.W.nsIn K mainGlobals "abs" = some none)
    (z_list : PySem.W.nsIn K mainGlobals "list" = some none)
    (z_tuple : PySem.W.nsIn K mainGlobals "tuple" = some none)
    (z_range : PySem.W.nsIn K mainGlobals "range" = some none)
    (z_isinstance : PySem.W.nsIn K mainGlobals "isinstance" = some none)
    (z_str : PySem.W.nsIn K mainGlobals "str" = some none)
    (z_bool : PySem.W.nsIn K mainGlobals "bool" = some none)
    (z_sum : PySem.W.nsIn K mainGlobals "sum" = some none)
    (z_sorted : PySem.W.nsIn K mainGlobals "sorted" = some none)
    (z_enumerate : PySem.W.nsIn K mainGlobals "enumerate" = some none)
    (z_zip : PySem.W.nsIn K mainGlobals "zip" = some none)
    (z_max : PySem.W.nsIn K mainGlobals "max" = some none)
    (z_min : PySem.W.nsIn K mainGlobals "min" = some none)
    (zgcd : PySem.W.nsIn K mainGlobals "gcd" = some (some (.builtin "math.gcd")))
    {zAZERO : Addr} {zdZERO : Option Addr} {znZERO : Nat} {zsZERO : Array (Option Value)} {ztZERO zuZERO : Tok} (zgZERO : PySem.W.nsIn K mainGlobals "ZERO" = some (some (.ref zAZERO))) (zlZERO : K.lookup zAZERO = some ⟨.type "tuple", zdZERO, .seq #[.int 0 ztZERO, .int 1 zuZERO] znZERO, zsZERO⟩)
    : ∃ fd : FuncData, (∀ (s : Shared) (v : Value), BindsTo s fd ⟨[v], []⟩ [("script", v)]) ∧ ∀ base : Heap, K.In base → base.Ns mainGlobals mg → FnOk l.prog w K mg base CX0 7 fa fd ["script"] (spLaw K) := by
  have e := hfa.symm.trans (PySem.W.mg_of X G a26)
  cases e
  have B : BI mg := ⟨PySem.W.mg_none_of X G z_len, PySem.W.mg_none_of X G z_int, PySem.W.mg_none_of X G z_abs, PySem.W.mg_none_of X G z_list, PySem.W.mg_none_of X G z_tuple, PySem.W.mg_none_of X G z_range, PySem.W.mg_none_of X G z_isinstance, PySem.W.mg_none_of X G z_str, PySem.W.mg_none_of X G z_bool, PySem.W.mg_none_of X G z_sum, PySem.W.mg_none_of X G z_sorted, PySem.W.mg_none_of X G z_enumerate⟩
  have B2 : BJ mg := ⟨PySem.W.mg_none_of X G z_zip, PySem.W.mg_none_of X G z_max, PySem.W.mg_none_of X G z_min⟩
  have Uratio : FunD K "ratio" "ratio" (defArgs sratio) (defBody sratio) (defScope sratio) [.int 1] [] f1 _ := ⟨⟨_, _, _, _, _, _, _, _, _, _, rfl, l1, c1, .inr ⟨by simp, T1, _, [.int 1 tk1], nT1, rfl, lT1, rfl, .cons ⟨_, rfl⟩ .nil⟩, .inl rfl⟩, k1⟩
  have Fratio : AtD K mg "ratio" sratio ["top", "bottom"] [.int 1] := by
    obtain ⟨e1, v1, b1⟩ := Uratio.binds1 (ps := ["top", "bottom"]) 2 1 (by simp) rfl fun _ _ _ _ _ _ _ us its hl hl2 => match us, hl, its, hl2 with | [_, _], _, [_], _ => ⟨_, rfl, rfl⟩
    obtain ⟨e2, v2, b2⟩ := Uratio.binds1 (ps := ["top", "bottom"]) 1 0 (by simp) rfl fun _ _ _ _ _ _ _ us its hl hl2 => match us, hl, its, hl2 with | [_], _, [_], _ => ⟨_, rfl, rfl⟩
    have z1 : e1 = [] := by
      have q := v1.length
      exact List.eq_nil_of_length_eq_zero q.symm
    subst z1
    exact ⟨_, _, e2, Uratio, PySem.W.mg_of X G a1, b1, b2, v2⟩
  have Fplus : At K mg "plus" splus ["a", "b"] := ⟨_, _, fun_mk (st := splus) l2 c2 k2, PySem.W.mg_of X G a2, (fun_mk (st := splus) l2 c2 k2).binds (ps := ["a", "b"]) fun _ _ _ _ _ _ us hl => match us, hl with | [_, _], _ => rfl⟩
  have Fminus : At K mg "minus" sminus ["a", "b"] := ⟨_, _, fun_mk (st := sminus) l3 c3 k3, PySem.W.mg_of X G a3, (fun_mk (st := sminus) l3 c3 k3).binds (ps := ["a", "b"]) fun _ _ _ _ _ _ us hl => match us, hl with | [_, _], _ => rfl⟩
  have Ftimes : At K mg "times" stimes ["a", "b"] := ⟨_, _, fun_mk (st := stimes) l4 c4 k4, PySem.W.mg_of X G a4, (fun_mk (st := stimes) l4 c4 k4).binds (ps := ["a", "b"]) fun _ _ _ _ _ _ us hl => match us, hl with | [_, _], _ => rfl⟩
  have Fless : At K mg "less" sless ["a", "b"] := ⟨_, _, fun_mk (st := sless) l5 c5 k5, PySem.W.mg_of X G a5, (fun_mk (st := sless) l5 c5 k5).binds (ps := ["a", "b"]) fun _ _ _ _ _ _ us hl => match us, hl with | [_, _], _ => rfl⟩
  have Flesser : At K mg "lesser" slesser ["a", "b"] := ⟨_, _, fun_mk (st := slesser) l6 c6 k6, PySem.W.mg_of X G a6, (fun_mk (st := slesser) l6 c6 k6).binds (ps := ["a", "b"]) fun _ _ _ _ _ _ us hl => match us, hl with | [_, _], _ => rfl⟩
  have Fnext_turn : At K mg "next_turn" snext_turn ["depths", "depth"] := ⟨_, _, fun_mk (st := snext_turn) l7 c7 k7, PySem.W.mg_of X G a7, (fun_mk (st := snext_turn) l7 c7 k7).binds (ps := ["depths", "depth"]) fun _ _ _ _ _ _ us hl => match us, hl with | [_, _], _ => rfl⟩
  have Fdozing : At K mg "dozing" sdozing ["depths"] := ⟨_, _, fun_mk (st := sdozing) l8 c8 k8, PySem.W.mg_of X G a8, (fun_mk (st := sdozing) l8 c8 k8).binds (ps := ["depths"]) fun _ _ _ _ _ _ us hl => match us, hl with | [_], _ => rfl⟩
  have Fdoze_cost : At K mg "doze_cost" sdoze_cost ["depths", "length"] := ⟨_, _, fun_mk (st := sdoze_cost) l9 c9 k9, PySem.W.mg_of X G a9, (fun_mk (st := sdoze_cost) l9 c9 k9).binds (ps := ["depths", "length"]) fun _ _ _ _ _ _ us hl => match us, hl with | [_, _], _ => rfl⟩
  have F_law_pool : At K mg "_law_pool" s_law_pool ["script"] := ⟨_, _, fun_mk (st := s_law_pool) l10 c10 k10, PySem.W.mg_of X G a10, (fun_mk (st := s_law_pool) l10 c10 k10).binds (ps := ["script"]) fun _ _ _ _ _ _ us hl => match us, hl with | [_], _ => rfl⟩
  have F_law_draw : At K mg "_law_draw" s_law_draw ["pool", "many"] := ⟨_, _, fun_mk (st := s_law_draw) l11 c11 k11, PySem.W.mg_of X G a11, (fun_mk (st := s_law_draw) l11 c11 k11).binds (ps := ["pool", "many"]) fun _ _ _ _ _ _ us hl => match us, hl with | [_, _], _ => rfl⟩
  have F_law_pick : At K mg "_law_pick" s_law_pick ["pool", "rows"] := ⟨_, _, fun_mk (st := s_law_pick) l12 c12 k12, PySem.W.mg_of X G a12, (fun_mk (st := s_law_pick) l12 c12 k12).binds (ps := ["pool", "rows"]) fun _ _ _ _ _ _ us hl => match us, hl with | [_, _], _ => rfl⟩
  have F_law_gcd : At K mg "_law_gcd" s_law_gcd ["a", "b"] := ⟨_, _, fun_mk (st := s_law_gcd) l13 c13 k13, PySem.W.mg_of X G a13, (fun_mk (st := s_law_gcd) l13 c13 k13).binds (ps := ["a", "b"]) fun _ _ _ _ _ _ us hl => match us, hl with | [_, _], _ => rfl⟩
  have F_law_ratio : At K mg "_law_ratio" s_law_ratio ["top", "bottom"] := ⟨_, _, fun_mk (st := s_law_ratio) l14 c14 k14, PySem.W.mg_of X G a14, (fun_mk (st := s_law_ratio) l14 c14 k14).binds (ps := ["top", "bottom"]) fun _ _ _ _ _ _ us hl => match us, hl with | [_, _], _ => rfl⟩
  have F_law_plus : At K mg "_law_plus" s_law_plus ["a", "b"] := ⟨_, _, fun_mk (st := s_law_plus) l15 c15 k15, PySem.W.mg_of X G a15, (fun_mk (st := s_law_plus) l15 c15 k15).binds (ps := ["a", "b"]) fun _ _ _ _ _ _ us hl => match us, hl with | [_, _], _ => rfl⟩
  have F_law_minus : At K mg "_law_minus" s_law_minus ["a", "b"] := ⟨_, _, fun_mk (st := s_law_minus) l16 c16 k16, PySem.W.mg_of X G a16, (fun_mk (st := s_law_minus) l16 c16 k16).binds (ps := ["a", "b"]) fun _ _ _ _ _ _ us hl => match us, hl with | [_, _], _ => rfl⟩
  have F_law_times : At K mg "_law_times" s_law_times ["a", "b"] := ⟨_, _, fun_mk (st := s_law_times) l17 c17 k17, PySem.W.mg_of X G a17, (fun_mk (st := s_law_times) l17 c17 k17).binds (ps := ["a", "b"]) fun _ _ _ _ _ _ us hl => match us, hl with | [_, _], _ => rfl⟩
  have F_law_less : At K mg "_law_less" s_law_less ["a", "b"] := ⟨_, _, fun_mk (st := s_law_less) l18 c18 k18, PySem.W.mg_of X G a18, (fun_mk (st := s_law_less) l18 c18 k18).binds (ps := ["a", "b"]) fun _ _ _ _ _ _ us hl => match us, hl with | [_, _], _ => rfl⟩
  have F_law_same : At K mg "_law_same" s_law_same ["actual", "due"] := ⟨_, _, fun_mk (st := s_law_same) l19 c19 k19, PySem.W.mg_of X G a19, (fun_mk (st := s_law_same) l19 c19 k19).binds (ps := ["actual", "due"]) fun _ _ _ _ _ _ us hl => match us, hl with | [_, _], _ => rfl⟩
  have F_law_depths : At K mg "_law_depths" s_law_depths ["pool"] := ⟨_, _, fun_mk (st := s_law_depths) l20 c20 k20, PySem.W.mg_of X G a20, (fun_mk (st := s_law_depths) l20 c20 k20).binds (ps := ["pool"]) fun _ _ _ _ _ _ us hl => match us, hl with | [_], _ => rfl⟩
  have F_law_stay : At K mg "_law_stay" s_law_stay ["depth", "length"] := ⟨_, _, fun_mk (st := s_law_stay) l21 c21 k21, PySem.W.mg_of X G a21, (fun_mk (st := s_law_stay) l21 c21 k21).binds (ps := ["depth", "length"]) fun _ _ _ _ _ _ us hl => match us, hl with | [_, _], _ => rfl⟩
  have F_law_asleep : At K mg "_law_asleep" s_law_asleep ["depths", "length"] := ⟨_, _, fun_mk (st := s_law_asleep) l22 c22 k22, PySem.W.mg_of X G a22, (fun_mk (st := s_law_asleep) l22 c22 k22).binds (ps := ["depths", "length"]) fun _ _ _ _ _ _ us hl => match us, hl with | [_, _], _ => rfl⟩
  have F_law_length : At K mg "_law_length" s_law_length ["pool"] := ⟨_, _, fun_mk (st := s_law_length) l23 c23 k23, PySem.W.mg_of X G a23, (fun_mk (st := s_law_length) l23 c23 k23).binds (ps := ["pool"]) fun _ _ _ _ _ _ us hl => match us, hl with | [_], _ => rfl⟩
  have F_law_turns : At K mg "_law_turns" s_law_turns ["depths"] := ⟨_, _, fun_mk (st := s_law_turns) l24 c24 k24, PySem.W.mg_of X G a24, (fun_mk (st := s_law_turns) l24 c24 k24).binds (ps := ["depths"]) fun _ _ _ _ _ _ us hl => match us, hl with | [_], _ => rfl⟩
  have F_law_doze : At K mg "_law_doze" s_law_doze ["depths", "turns", "length"] := ⟨_, _, fun_mk (st := s_law_doze) l25 c25 k25, PySem.W.mg_of X G a25, (fun_mk (st := s_law_doze) l25 c25 k25).binds (ps := ["depths", "turns", "length"]) fun _ _ _ _ _ _ us hl => match us, hl with | [_, _, _], _ => rfl⟩
  have Flaw := fun_mk (st := slaw) l26 c26 k26
  refine ⟨PySem.W.fnOf "law" "law" (defArgs slaw) (defBody slaw) (defScope slaw) .none kV26 dc26 pm26 an26 cd26 ct26, fun s v => .of_eq rfl, fun base _ _ => ?_⟩
  exact all (P := l.prog) (w := w) (base := base) B B2 (PySem.W.mg_of X G zgcd) ⟨zAZERO, PySem.W.mg_of X G zgZERO, fun _ => .inr ⟨_, _, _, zlZERO, rfl, rfl, by show 2 ≤ sizeLine; decide, .cons ⟨_, rfl⟩ (.cons ⟨_, rfl⟩ .nil)⟩⟩ Fratio Fplus Fminus Ftimes Fless Flesser Fnext_turn Fdozing Fdoze_cost F_law_pool F_law_draw F_law_pick F_law_gcd F_law_ratio F_law_plus F_law_minus F_law_times F_law_less F_law_same F_law_depths F_law_stay F_law_asleep F_law_length F_law_turns F_law_doze Flaw
end Z
open PySem PySem.W PyProof.Rows
set_option maxRecDepth 100000 in
set_option maxHeartbeats 0 in
theorem PySem.Challenge.cw_sparewatts_k39_whole_dozing_costs_at_mos_holds : PySem.Challenge.rw_sparewatts_k39_whole_dozing_costs_at_mos.Holds := by
  w_on; o_law; k_head; (case hw => w_witness2)
  k_fill
  refine L2.walk_of (l := PySem.Challenge.rw_sparewatts_k39_whole_dozing_costs_at_mos) (n := 63) (k := 7) (x := "script") (CX := fun _ => L2.CX0) (sp := fun w => Z.spLaw _) rfl (by decide) rfl ⟨rfl, by decide, by decide⟩ (fun w h Y => PySem.W.kIn_of Y) ?F (fun _ _ a ns hl _ hS => ⟨a, ns, rfl, hS, hl, fun _ => rfl⟩) (fun _ _ _ _ _ h => h)
  case F =>
    intro w mg fa h KX G hmg
    refine' Z.all_mk KX G hmg ?lT1 ?a1 ?l1 ?c1 ?k1 ?a2 ?l2 ?c2 ?k2 ?a3 ?l3 ?c3 ?k3 ?a4 ?l4 ?c4 ?k4 ?a5 ?l5 ?c5 ?k5 ?a6 ?l6 ?c6 ?k6 ?a7 ?l7 ?c7 ?k7 ?a8 ?l8 ?c8 ?k8 ?a9 ?l9 ?c9 ?k9 ?a10 ?l10 ?c10 ?k10 ?a11 ?l11 ?c11 ?k11 ?a12 ?l12 ?c12 ?k12 ?a13 ?l13 ?c13 ?k13 ?a14 ?l14 ?c14 ?k14 ?a15 ?l15 ?c15 ?k15 ?a16 ?l16 ?c16 ?k16 ?a17 ?l17 ?c17 ?k17 ?a18 ?l18 ?c18 ?k18 ?a19 ?l19 ?c19 ?k19 ?a20 ?l20 ?c20 ?k20 ?a21 ?l21 ?c21 ?k21 ?a22 ?l22 ?c22 ?k22 ?a23 ?l23 ?c23 ?k23 ?a24 ?l24 ?c24 ?k24 ?a25 ?l25 ?c25 ?k25 ?a26 ?l26 ?c26 ?k26 ?z_len ?z_int ?z_abs ?z_list ?z_tuple ?z_range ?z_isinstance ?z_str ?z_bool ?z_sum ?z_sorted ?z_enumerate ?z_zip ?z_max ?z_min ?zgcd ?zgZERO ?zlZERO
    (case a1 => k_is)
    (case l1 => k_is)
    (case lT1 => k_is)
    (case c1 => k_is)
    (case k1 => k_is)
    (case a2 => k_is)
    (case l2 => k_is)
    (case c2 => k_is)
    (case k2 => k_is)
    (case a3 => k_is)
    (case l3 => k_is)
    (case c3 => k_is)
    (case k3 => k_is)
    (case a4 => k_is)
    (case l4 => k_is)
    (case c4 => k_is)
    (case k4 => k_is)
    (case a5 => k_is)
    (case l5 => k_is)
    (case c5 => k_is)
    (case k5 => k_is)
    (case a6 => k_is)
    (case l6 => k_is)
    (case c6 => k_is)
    (case k6 => k_is)
    (case a7 => k_is)
    (case l7 => k_is)
    (case c7 => k_is)
    (case k7 => k_is)
    (case a8 => k_is)
    (case l8 => k_is)
    (case c8 => k_is)
    (case k8 => k_is)
    (case a9 => k_is)
    (case l9 => k_is)
    (case c9 => k_is)
    (case k9 => k_is)
    (case a10 => k_is)
    (case l10 => k_is)
    (case c10 => k_is)
    (case k10 => k_is)
    (case a11 => k_is)
    (case l11 => k_is)
    (case c11 => k_is)
    (case k11 => k_is)
    (case a12 => k_is)
    (case l12 => k_is)
    (case c12 => k_is)
    (case k12 => k_is)
    (case a13 => k_is)
    (case l13 => k_is)
    (case c13 => k_is)
    (case k13 => k_is)
    (case a14 => k_is)
    (case l14 => k_is)
    (case c14 => k_is)
    (case k14 => k_is)
    (case a15 => k_is)
    (case l15 => k_is)
    (case c15 => k_is)
    (case k15 => k_is)
    (case a16 => k_is)
    (case l16 => k_is)
    (case c16 => k_is)
    (case k16 => k_is)
    (case a17 => k_is)
    (case l17 => k_is)
    (case c17 => k_is)
    (case k17 => k_is)
    (case a18 => k_is)
    (case l18 => k_is)
    (case c18 => k_is)
    (case k18 => k_is)
    (case a19 => k_is)
    (case l19 => k_is)
    (case c19 => k_is)
    (case k19 => k_is)
    (case a20 => k_is)
    (case l20 => k_is)
    (case c20 => k_is)
    (case k20 => k_is)
    (case a21 => k_is)
    (case l21 => k_is)
    (case c21 => k_is)
    (case k21 => k_is)
    (case a22 => k_is)
    (case l22 => k_is)
    (case c22 => k_is)
    (case k22 => k_is)
    (case a23 => k_is)
    (case l23 => k_is)
    (case c23 => k_is)
    (case k23 => k_is)
    (case a24 => k_is)
    (case l24 => k_is)
    (case c24 => k_is)
    (case k24 => k_is)
    (case a25 => k_is)
    (case l25 => k_is)
    (case c25 => k_is)
    (case k25 => k_is)
    (case a26 => k_is)
    (case l26 => k_is)
    (case c26 => k_is)
    (case k26 => k_is)
    (case z_len => k_is)
    (case z_int => k_is)
    (case z_abs => k_is)
    (case z_list => k_is)
    (case z_tuple => k_is)
    (case z_range => k_is)
    (case z_isinstance => k_is)
    (case z_str => k_is)
    (case z_bool => k_is)
    (case z_sum => k_is)
    (case z_sorted => k_is)
    (case z_enumerate => k_is)
    (case z_zip => k_is)
    (case z_max => k_is)
    (case z_min => k_is)
    (case zgcd => k_is)
    (case zgZERO => k_is)
    (case zlZERO => k_is)
