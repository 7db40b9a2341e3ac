import PyProof.Rows.All
import Wide.All
import OpenK.AllK
import Wide.FinOn
import HandS.Base
import HandS.Call
import HandS.List
import HandS.Comp
import HandS.Iter
import HandS.Ends
import HandS.Words
import HandS.Evl
import HandS.WordsList
import HandS.Zip
import HandS.Wide
import HandS.Gcd
import HandS.IsInst
import HandS.TupMul
import HandS.ClsMeth
import HandS.Text
import HandS.RaiseMore
import HandS.ListEq
import HandS.TupLe
import HandS.Flow
import HandS.Codes
import HandS.TupAny
import HandS.Style
import KE.GoesMore
import HandS.ExcInit
import KE.KExcIs
import HandS.Exc
import HandS.TryMany
import HandS.ExcField
import HandS.WordsExc
import HandS.ForMost
import HandS.ExcIs
import PySem.Challenge.RW_noughtcut_k18_corners_of_sums
set_option Elab.async false
set_option linter.all false
section
namespace Nc
/-! ### fractions: Rat's own top and bottom -/
def Sz (n d : Nat) (r : Rat) : Prop := r.num.natAbs < 2 ^ n ∧ r.den < 2 ^ d
theorem den_pos (r : Rat) : (0 : Int) < (r.den : Int) := by
  have := r.den_nz
  omega
theorem num_div {t b : Int} (hb : 0 < b) : t / ((Nat.gcd t.natAbs b.natAbs : Nat) : Int) = (Rat.divInt t b).num := by
  rw [Rat.num_divInt, Int.sign_eq_one_of_pos hb, Int.one_mul, Int.gcd_comm]
  rfl
theorem den_div {t b : Int} (hb : 0 < b) : b / ((Nat.gcd t.natAbs b.natAbs : Nat) : Int) = ((Rat.divInt t b).den : Int) := by
  rw [Rat.den_divInt, if_neg (by omega), Int.gcd_comm]
  have e : b = ((b.natAbs : Nat) : Int) := by omega
  conv => lhs; rw [e]
  rfl
theorem gcd_pos {t b : Int} (hb : 0 < b) : (0 : Int) < ((Nat.gcd t.natAbs b.natAbs : Nat) : Int) := by
  have := Nat.gcd_pos_of_pos_right t.natAbs (n := b.natAbs) (by omega)
  omega
theorem gcd_le {t b : Int} (hb : 0 < b) : ((Nat.gcd t.natAbs b.natAbs : Nat) : Int) ≤ b := by
  have := Nat.gcd_le_right t.natAbs (n := b.natAbs) (by omega)
  omega
theorem add_is (r s : Rat) : Rat.divInt (r.num * (s.den : Int) + s.num * (r.den : Int)) ((r.den : Int) * (s.den : Int)) = r + s := by
  have h1 := den_pos r
  have h2 := den_pos s
  rw [← Rat.divInt_add_divInt r.num s.num (by omega) (by omega), Rat.num_divInt_den, Rat.num_divInt_den]
theorem mul_is (r s : Rat) : Rat.divInt (r.num * s.num) ((r.den : Int) * (s.den : Int)) = r * s := by
  rw [← Rat.divInt_mul_divInt r.num s.num, Rat.num_divInt_den, Rat.num_divInt_den]
theorem natAbs_ediv_le (a b : Int) : (a / b).natAbs ≤ a.natAbs := Int.natAbs_ediv_le_natAbs a b
/-- the size of a quotient by the shared part -/
theorem sz_div {t b : Int} {n d : Nat} (hb : 0 < b) (ht : t.natAbs < 2 ^ n) (hz : b.natAbs < 2 ^ d) : Sz n d (Rat.divInt t b) := by
  constructor
  · rw [← num_div hb]
    exact Nat.lt_of_le_of_lt (natAbs_ediv_le _ _) ht
  · have h := den_div (t := t) hb
    have h2 := natAbs_ediv_le b ((Nat.gcd t.natAbs b.natAbs : Nat) : Int)
    rw [h] at h2
    have : ((Rat.divInt t b).den : Int).natAbs = (Rat.divInt t b).den := Int.natAbs_natCast _
    omega
theorem lt_mul {a b : Nat} {i j : Int} (ha : i.natAbs < 2 ^ a) (hb : j.natAbs < 2 ^ b) : (i * j).natAbs < 2 ^ (a + b) := by
  rw [Int.natAbs_mul, Nat.pow_add]
  exact Nat.mul_lt_mul'' ha hb
theorem lt_add {n : Nat} {i j : Int} (ha : i.natAbs < 2 ^ n) (hb : j.natAbs < 2 ^ n) : (i + j).natAbs < 2 ^ (n + 1) := by
  have := Int.natAbs_add_le i j
  rw [Nat.pow_succ]
  omega
theorem lt_mono {n m : Nat} {i : Nat} (h : i < 2 ^ n) (hm : n ≤ m) : i < 2 ^ m := Nat.lt_of_lt_of_le h (Nat.pow_le_pow_right (by decide) hm)
theorem Sz.mono {n m d e : Nat} {r : Rat} (h : Sz n d r) (hm : n ≤ m) (he : d ≤ e) : Sz m e r := ⟨lt_mono h.1 hm, lt_mono h.2 he⟩
theorem Sz.den {n d : Nat} {r : Rat} (h : Sz n d r) : ((r.den : Int)).natAbs < 2 ^ d := by
  rw [Int.natAbs_natCast]
  exact h.2
theorem sz_add {n d m e N : Nat} {r s : Rat} (hr : Sz n d r) (hs : Sz m e s) (h1 : n + e ≤ N := by omega) (h2 : m + d ≤ N := by omega) : Sz (N + 1) (d + e) (r + s) := by
  rw [← add_is]
  have k1 := lt_mono (lt_mul hr.1 hs.den) h1
  have k2 := lt_mono (lt_mul hs.1 hr.den) h2
  have k3 := lt_mul hr.den hs.den
  exact sz_div (Int.mul_pos (den_pos r) (den_pos s)) (lt_add k1 k2) k3
theorem sz_mul {n d m e : Nat} {r s : Rat} (hr : Sz n d r) (hs : Sz m e s) : Sz (n + m) (d + e) (r * s) := by
  rw [← mul_is]
  exact sz_div (Int.mul_pos (den_pos r) (den_pos s)) (lt_mul hr.1 hs.1) (lt_mul hr.den hs.den)
theorem sz_zero : Sz 1 1 (0 : Rat) := ⟨by decide, by decide⟩
theorem sz_one : Sz 1 1 (1 : Rat) := ⟨by decide, by decide⟩
/-! ### rows -/
/-- what a row weighs another one -/
def weighs (l : List (Rat × Rat)) : Rat := l.foldl (fun t p => t + p.1 * p.2) 0
theorem foldl_weigh : ∀ (l : List (Rat × Rat)) (t : Rat), l.foldl (fun t p => t + p.1 * p.2) t = t + weighs l
  | [], t => by simp [weighs, Rat.add_zero]
  | p :: r, t => by
    unfold weighs
    simp only [List.foldl_cons]
    rw [foldl_weigh r, foldl_weigh r (0 + p.1 * p.2)]
    grind
theorem weighs_cons (p : Rat × Rat) (r : List (Rat × Rat)) : weighs (p :: r) = p.1 * p.2 + weighs r := by
  unfold weighs
  simp only [List.foldl_cons]
  rw [foldl_weigh r]
  unfold weighs
  grind
theorem weighs_take {l : List (Rat × Rat)} {i : Nat} {p : Rat × Rat} (h : l[i]? = some p) : weighs (l.take (i + 1)) = weighs (l.take i) + p.1 * p.2 := by
  unfold weighs
  rw [List.take_add_one, h, List.foldl_append]
  rfl
theorem weighs_add : ∀ (a b c : List Rat), a.length = b.length → weighs (((a.zip b).map fun p => p.1 + p.2).zip c) = weighs (a.zip c) + weighs (b.zip c)
  | [], [], c, _ => by simp [weighs, Rat.add_zero]
  | x :: a, y :: b, [], _ => by simp [weighs, Rat.add_zero]
  | x :: a, y :: b, z :: c, h => by
    have ih := weighs_add a b c (by simpa using h)
    simp only [List.zip_cons_cons, List.map_cons, weighs_cons]
    rw [ih]
    grind
theorem weighs_mul (by_ : Rat) : ∀ (a c : List Rat), weighs ((a.map fun x => by_ * x).zip c) = by_ * weighs (a.zip c)
  | [], c => by simp [weighs, Rat.mul_zero]
  | x :: a, [] => by simp [weighs, Rat.mul_zero]
  | x :: a, z :: c => by
    have ih := weighs_mul by_ a c
    simp only [List.zip_cons_cons, List.map_cons, weighs_cons]
    rw [ih]
    grind
/-! ### sums: a row and a number -/
abbrev Sum2 := List Rat × Rat
def tells (s : Sum2) (row : List Rat) : Rat := weighs (s.1.zip row) + s.2
def splus (s t : Sum2) : Sum2 := ((s.1.zip t.1).map fun p => p.1 + p.2, s.2 + t.2)
def stimes (q : Rat) (s : Sum2) : Sum2 := (s.1.map fun x => q * x, q * s.2)
theorem tells_splus (s t : Sum2) (row : List Rat) (h : s.1.length = t.1.length) : tells (splus s t) row = tells s row + tells t row := by
  unfold tells splus
  simp only
  rw [weighs_add _ _ _ h]
  grind
theorem tells_stimes (q : Rat) (s : Sum2) (row : List Rat) : tells (stimes q s) row = q * tells s row := by
  unfold tells stimes
  simp only
  rw [weighs_mul]
  grind
theorem splus_comm (s t : Sum2) : splus s t = splus t s := by
  unfold splus
  have : (s.1.zip t.1).map (fun p => p.1 + p.2) = (t.1.zip s.1).map fun p => p.1 + p.2 := by
    apply List.ext_getElem
    · simp [Nat.min_comm]
    · intro i h1 h2
      simp only [List.getElem_map, List.getElem_zip]
      exact Rat.add_comm _ _
  rw [this, Rat.add_comm]
/-- all of a row below a size -/
def SzL (n d : Nat) (l : List Rat) : Prop := ∀ r ∈ l, Sz n d r
theorem sz_weighs {n d m e : Nat} (hn : d ≤ n) (hm : e ≤ m) : ∀ (i : Nat) (l : List (Rat × Rat)), i ≤ l.length → (∀ p ∈ l, Sz n d p.1 ∧ Sz m e p.2) → Sz (1 + i * (n + m + 1)) (1 + i * (d + e)) (weighs (l.take i))
  | 0, l, _, _ => by simpa [weighs] using sz_zero
  | i + 1, l, h, hl => by
    have ih := sz_weighs hn hm i l (by omega) hl
    have e1 : l[i]? = some l[i] := List.getElem?_eq_getElem (by omega)
    rw [weighs_take e1]
    have hp := hl l[i] (List.getElem_mem _)
    have le : i * (d + e) ≤ i * (n + m + 1) := Nat.mul_le_mul_left i (by omega)
    have := sz_add (N := i * (n + m + 1) + (n + m + 1)) ih (sz_mul hp.1 hp.2) (by omega) (by omega)
    exact this.mono (by rw [Nat.add_mul]; omega) (by rw [Nat.add_mul]; omega)
theorem sz_of_weighs {n d m e : Nat} {a b : List Rat} (hn : d ≤ n) (hm : e ≤ m) (ha : SzL n d a) (hb : SzL m e b) (hl : a.length = b.length) : Sz (1 + a.length * (n + m + 1)) (1 + a.length * (d + e)) (weighs (a.zip b)) := by
  have h := sz_weighs hn hm a.length (a.zip b) (by rw [List.length_zip]; omega) (fun p hp => ⟨ha _ (List.of_mem_zip hp).1, hb _ (List.of_mem_zip hp).2⟩)
  rwa [List.take_of_length_le (by rw [List.length_zip]; omega)] at h
/-! ### the greatest shared divisor, step by step -/
theorem gcd_step {a b : Int} (ha : 0 ≤ a) (hb : 0 < b) : Nat.gcd b.natAbs (a % b).natAbs = Nat.gcd a.natAbs b.natAbs := by
  have e : (a % b).natAbs = a.natAbs % b.natAbs := by
    rw [Int.natAbs_emod_of_nonneg ha]
  rw [e, Nat.gcd_comm a.natAbs, Nat.gcd_rec b.natAbs a.natAbs, Nat.gcd_comm]
end Nc
end
section
set_option maxRecDepth 100000
set_option maxHeartbeats 4000000
namespace Nc
open PySem L2 Evl PyProof.Rows
/-! ### what stands for a fraction, a row, a sum -/
def FrV (K : PySem.W.Frag) (H : Hp) (v : V) (r : Rat) : Prop := ∃ t, v = .ref t ∧ SqT K H t [.int r.num, .int (r.den : Int)]
abbrev FrL (K : PySem.W.Frag) (H : Hp) : List V → List Rat → Prop := Paired (FrV K H)
def RowV (K : PySem.W.Frag) (H : Hp) (v : V) (rs : List Rat) : Prop := ∃ t xs, v = .ref t ∧ SqT K H t xs ∧ FrL K H xs rs
def SumV (K : PySem.W.Frag) (H : Hp) (v : V) (s : Sum2) : Prop := ∃ t a b, v = .ref t ∧ SqT K H t [a, b] ∧ RowV K H a s.1 ∧ FrV K H b s.2
variable {K : PySem.W.Frag} {H H' : Hp}
theorem FrV.ex {v : V} {r : Rat} (e : Ex H H') (h : FrV K H v r) : FrV K H' v r := by
  obtain ⟨t, rfl, q⟩ := h
  exact ⟨t, rfl, ex_t e q⟩
theorem pmono {α β : Type} {F G : α → β → Prop} (h : ∀ a b, F a b → G a b) : ∀ {xs : List α} {ys : List β}, Paired F xs ys → Paired G xs ys
  | _, _, .nil => .nil
  | _, _, .cons a t => .cons (h _ _ a) (pmono h t)
theorem FrL.ex {xs : List V} {rs : List Rat} (e : Ex H H') (h : FrL K H xs rs) : FrL K H' xs rs := pmono (fun _ _ => FrV.ex e) h
theorem RowV.ex {v : V} {rs : List Rat} (e : Ex H H') (h : RowV K H v rs) : RowV K H' v rs := by
  obtain ⟨t, xs, rfl, q, l⟩ := h
  exact ⟨t, xs, rfl, ex_t e q, FrL.ex e l⟩
theorem SumV.ex {v : V} {s : Sum2} (e : Ex H H') (h : SumV K H v s) : SumV K H' v s := by
  obtain ⟨t, a, b, rfl, q, l, n⟩ := h
  exact ⟨t, a, b, rfl, ex_t e q, l.ex e, n.ex e⟩
theorem pget {α β : Type} {F : α → β → Prop} : ∀ {xs : List α} {ys : List β} {i : Nat} {x : α}, Paired F xs ys → xs[i]? = some x → ∃ y, ys[i]? = some y ∧ F x y
  | _, _, _, _, .nil, e => by simp at e
  | _, _, 0, _, .cons r _, e => by simp at e; subst e; exact ⟨_, rfl, r⟩
  | _, _, i + 1, x, .cons _ t, e => by
    obtain ⟨u, h1, h2⟩ := pget (i := i) (x := x) t (by simpa using e)
    exact ⟨u, by simpa using h1, h2⟩
theorem pget' {α β : Type} {F : α → β → Prop} : ∀ {xs : List α} {ys : List β} {i : Nat} {y : β}, Paired F xs ys → ys[i]? = some y → ∃ x, xs[i]? = some x ∧ F x y
  | _, _, _, _, .nil, e => by simp at e
  | _, _, 0, _, .cons r _, e => by simp at e; subst e; exact ⟨_, rfl, r⟩
  | _, _, i + 1, y, .cons _ t, e => by
    obtain ⟨u, h1, h2⟩ := pget' (i := i) (y := y) t (by simpa using e)
    exact ⟨u, by simpa using h1, h2⟩
/-! ### data -/
def fd (r : Rat) : PyData := .tuple [.int r.num, .int (r.den : Int)]
def sd (s : Sum2) : PyData := .tuple [.tuple (s.1.map fd), fd s.2]
theorem FrV.dp {v : V} {r : Rat} (h : FrV K H v r) : Dp K H v (fd r) := by
  obtain ⟨t, rfl, q⟩ := h
  exact .tup q (.cons (.int _) (.cons (.int _) .nil))
theorem FrL.dp : ∀ {xs : List V} {rs : List Rat}, FrL K H xs rs → DpAll K H xs (rs.map fd)
  | _, _, .nil => .nil
  | _, _, .cons a t => .cons a.dp (FrL.dp t)
theorem RowV.dp {v : V} {rs : List Rat} (h : RowV K H v rs) : Dp K H v (.tuple (rs.map fd)) := by
  obtain ⟨t, xs, rfl, q, l⟩ := h
  exact .tup q (FrL.dp l)
theorem SumV.dp {v : V} {s : Sum2} (h : SumV K H v s) : Dp K H v (sd s) := by
  obtain ⟨t, a, b, rfl, q, l, n⟩ := h
  exact .tup q (.cons l.dp (.cons n.dp .nil))
/-! ### shapes -/
theorem lay_fd (r : Rat) : (fd r).canLay0 = true := rfl
theorem layAll_fd : ∀ rs : List Rat, PyData.canLayAll0 (rs.map fd) = true
  | [] => rfl
  | r :: rs => by
    show ((fd r).canLay0 && PyData.canLayAll0 (rs.map fd)) = true
    rw [layAll_fd rs]
    rfl
end Nc
end
section
set_option maxRecDepth 100000
set_option maxHeartbeats 4000000
namespace Nc
open PySem L2 Evl PyProof.Rows
/-! ### a def of the top, with and without its promise -/
structure Df (K : PySem.W.Frag) (mg : Str → Option Value) (x : Str) (st : Stmt) (ps : List Str) : Prop where
  ex : ∃ f fd, mg x = some (.ref f) ∧ Fun K x x st f fd ∧ Binds K fd ps []
structure Ok (P : Program) (w : World) (K : PySem.W.Frag) (mg : Str → Option Value) (base : Heap) (k : Nat) (x : Str) (ps : List Str) (sp : Sp) : Prop where
  ex : ∃ f fd, mg x = some (.ref f) ∧ PySem.W.keepIn K (.ref f) = true ∧ FnOk P w K mg base CX0 k f fd ps sp ∧ Binds K fd ps []
theorem Df.ok {P : Program} {w : World} {K : PySem.W.Frag} {mg : Str → Option Value} {base : Heap} {k : Nat} {x : Str} {st : Stmt} {ps : List Str} {sp : Sp} (D : Df K mg x st ps)
    (h : ∀ f fd, Fun K x x st f fd → FnOk P w K mg base CX0 k f fd ps sp) : Ok P w K mg base k x ps sp := by
  obtain ⟨f, fd, g, F, b⟩ := D.ex
  exact ⟨f, fd, g, F.kp, h f fd F, b⟩
theorem Ok.mono {P : Program} {w : World} {K : PySem.W.Frag} {mg : Str → Option Value} {base : Heap} {j k : Nat} {x : Str} {ps : List Str} {sp : Sp} (D : Ok P w K mg base j x ps sp) (h : j ≤ k) : Ok P w K mg base k x ps sp := by
  obtain ⟨f, fd, g, kp, F, b⟩ := D.ex
  exact ⟨f, fd, g, kp, F.mono h, b⟩
theorem Df.of {K : PySem.W.Frag} {h : Heap} {mg : Str → Option Value} (X : K.In h) (G : h.Ns mainGlobals mg) {x : Str} {st : Stmt} {ps : List Str} {f : Addr} {oc : Value} {od an : Option Addr} {osl : Array (Option Value)} {kV doc pm cdv ct : Value}
    (a : PySem.W.nsIn K mainGlobals x = some (some (.ref f))) (l : K.lookup f = some ⟨oc, od, .func (PySem.W.fnOf x x (defArgs st) (defBody st) (defScope st) .none kV doc pm an cdv ct), osl⟩)
    (c : PySem.W.codeIn K cdv x = true) (k : PySem.W.keepIn K (.ref f) = true)
    (hb : ∀ (kV doc pm : Value) (an : Option Addr) (cdv ct : Value) (us : List Value), us.length = ps.length → bindArgs (PySem.W.fnOf x x (defArgs st) (defBody st) (defScope st) .none kV doc pm an cdv ct) ⟨us, []⟩ = pure (ps.zip us)) : Df K mg x st ps :=
  have F := fun_mk (st := st) l c k
  ⟨f, _, PySem.W.mg_of X G a, F, F.binds hb⟩
section
variable {X : Cx} {k : Nat} {x : Str} {ps : List Str} {sp : Sp} {e : Expr} {es : List Expr} {t : TA} {p pos : Pos}
/-- a call of such a def -/
theorem cl (D : Ok X.prog X.w X.K X.mg X.base k x ps sp) (hr : Room k X.A) (ha : PA X (e :: es) t) (hg : Gl X x := by rfl) (hdb : (x == ("__debug__" : Str)) = false := by decide)
    (he : starEach (e :: es) X.env = (false, eval e X.env) :: starEach es X.env := by rfl) (hpl : (backTo pos (starEach es X.env)).any (·.1) = false := by rfl) : PE X (.Call (.Name x p) (e :: es) [] pos) (tCall sp [] E0 t) := by
  obtain ⟨f, fd, g, kp, F, b⟩ := D.ex
  exact pe_call F hr hg g kp b .nil pass0 ha hdb he hpl
end
/-! ### small facts -/
theorem at0 {a : V} {l : List V} : atI (a :: l) 0 = some a := atI_nat (j := 0) rfl
theorem at1 {a b : V} {l : List V} : atI (a :: b :: l) 1 = some b := atI_nat (j := 1) rfl
theorem at2 {a b c : V} {l : List V} : atI (a :: b :: c :: l) 2 = some c := atI_nat (j := 2) rfl
theorem at3 {a b c d : V} {l : List V} : atI (a :: b :: c :: d :: l) 3 = some d := atI_nat (j := 3) rfl
theorem at_mem {xs : List V} {d : Int} (h0 : 0 ≤ d) (h1 : d < xs.length) : ∃ v, atI xs d = some v ∧ v ∈ xs := by
  have h : d.toNat < xs.length := by omega
  refine ⟨xs[d.toNat], ?_, List.getElem_mem _⟩
  have e : d = (d.toNat : Int) := by omega
  have q : atI xs (d.toNat : Int) = some xs[d.toNat] := atI_nat (List.getElem?_eq_getElem h)
  rw [← e] at q
  exact q
/-- * of two factors of together less than a hundred million bits -/
def CMulBig (i j : Int) : Prop := i.natAbs.log2 + j.natAbs.log2 < 100000000
theorem CMulBig.ok {i j : Int} (h : CMulBig i j) : IntMulOk i j := by
  have b : ∀ x : Int, Builtin.Int.intBits x ≤ x.natAbs.log2 + 1 := fun x => by
    unfold Builtin.Int.intBits
    split <;> omega
  have h1 := b i
  have h2 := b j
  have h3 : i.natAbs.log2 + j.natAbs.log2 < 100000000 := h
  have e : bitsLine = 134217728 := by decide
  unfold IntMulOk
  intro z
  rw [Bool.and_eq_true] at z
  have z2 := z.2
  unfold Builtin.Int.intTooBig at z2
  have z3 := of_decide_eq_true z2
  rw [e] at z3
  omega
theorem op_mulBig {X : Cx} : OpR X (binaryOp .Mult) (rI CMulBig fun i j => .int (i * j)) := opI fun _ _ _ _ _ _ _ hc q => mul_int q hc.ok
theorem wide_mulX {i j : Int} {a b : Nat} (ha : i.natAbs < 2 ^ a) (hb : j.natAbs < 2 ^ b) (h0 : 0 < a) (h1 : 0 < b) (h : a + b ≤ 100000000) : CMulBig i j := by
  have x := PySem.Flt.log2_lt_of h0 ha
  have y := PySem.Flt.log2_lt_of h1 hb
  unfold CMulBig
  omega
theorem noPylongX {x y : Int} (h : y.natAbs.log2 < 9000 ∨ x.natAbs.log2 < 13500) : Builtin.divisionGoesByPylong x y = false := by
  rcases h with h | h
  · exact PyProof.noPylong_of_log2 h
  · have hx : (if x == 0 then 0 else x.natAbs.log2 / 30 + 1) ≤ 450 := by
      split
      · exact Nat.zero_le _
      · omega
    have e : Builtin.divisionGoesByPylong x y = (decide ((if y == 0 then 0 else y.natAbs.log2 / 30 + 1) > 300) && decide ((if x == 0 then 0 else x.natAbs.log2 / 30 + 1) > (if y == 0 then 0 else y.natAbs.log2 / 30 + 1) + 150)) := rfl
    rw [e]
    generalize (if x == 0 then 0 else x.natAbs.log2 / 30 + 1) = a at hx
    generalize (if y == 0 then 0 else y.natAbs.log2 / 30 + 1) = b
    by_cases hb : b > 300
    · rw [decide_eq_false (show ¬ a > b + 150 by omega), Bool.and_false]
    · rw [decide_eq_false hb, Bool.false_and]
/-- // by a positive divisor, the divisor below 2 ^ 9000 or what is divided below 2 ^ 13500 -/
def CDivX (i j : Int) : Prop := 0 < j ∧ (j.natAbs.log2 < 9000 ∨ i.natAbs.log2 < 13500)
theorem op_fdivX {X : Cx} : OpR X (binaryOp .FloorDiv) (rI CDivX fun i j => .int (i / j)) := opI fun i j _ _ _ _ _ hc q => by
  have h1 : (0 : Int) < j := hc.1
  exact floordiv_int (by omega) (by rw [Int.fdiv_eq_ediv_of_nonneg i (by omega)]; exact q) (.inl (noPylongX hc.2))
theorem wide_divX {i j : Int} {n : Nat} (h : 0 < j) (hb : j.natAbs < 2 ^ n) (h0 : 0 < n) (hi : n ≤ 9000 ∨ i.natAbs < 2 ^ 13500) : CDivX i j :=
  ⟨h, hi.imp (fun z => Nat.lt_of_lt_of_le (PySem.Flt.log2_lt_of h0 hb) z) fun z => PySem.Flt.log2_lt_of (by decide) z⟩
/-- ** of any base, of few bits together -/
def CPowX (i j : Int) : Prop := 0 ≤ j ∧ (Builtin.Int.intBits i : Int) * j ≤ 2 ^ 27
theorem op_powX {X : Cx} : OpR X (binaryOp .Pow) (rI CPowX fun i j => .int (i ^ j.toNat)) := opI fun _ _ _ _ _ _ _ hc q => pow_int hc.1 hc.2 q
theorem mulOk {i j : Int} {a b : Nat} (ha : i.natAbs < 2 ^ a) (hb : j.natAbs < 2 ^ b) (h0 : 0 < a := by omega) (h1 : 0 < b := by omega) (h : a + b ≤ 100000000 := by omega) : CMulBig i j := wide_mulX ha hb h0 h1 h
section
variable {K : PySem.W.Frag} {σ : L2.St} {H : Hp}
/-- an item of a tuple that stands in a slot -/
theorem ix0 {i : Nat} {t : Addr} {a : V} {l : List V} (hs : σ[i]? = some (some (.ref t))) (q : SqT K H t (a :: l)) : Ev (tOp (rIxT K) (tVar i) (tC (.int 0))) σ H a := ev_op (ev_var hs) ev_c (rv_ixT q at0)
theorem ix1 {i : Nat} {t : Addr} {a b : V} {l : List V} (hs : σ[i]? = some (some (.ref t))) (q : SqT K H t (a :: b :: l)) : Ev (tOp (rIxT K) (tVar i) (tC (.int 1))) σ H b := ev_op (ev_var hs) ev_c (rv_ixT q at1)
end
theorem ix_tK {X : Cx} (K : PySem.W.Frag) (h : X.K = K := by rfl) : IxR X (rIxT K) := by
  subst h
  exact ix_tup
theorem ix_lK {X : Cx} (K : PySem.W.Frag) (h : X.K = K := by rfl) : IxR X (rIxL K) := by
  subst h
  exact ix_list
/-! ### promises of the fractions' defs -/
/-- a fraction of two whole numbers, the bottom above nought -/
def spPart (K : PySem.W.Frag) : Sp := fun vs H Q _ => ∃ (t b : Int) (n : Nat), vs = [.int t, .int b] ∧ 0 < b ∧ b.natAbs < 2 ^ n ∧ 0 < n ∧ (n ≤ 9000 ∨ (n ≤ 13500 ∧ t.natAbs < 2 ^ 13500)) ∧ ∀ v H', Ex H H' → FrV K H' v (Rat.divInt t b) → Q v H'
/-- two fractions, a third one of them -/
def sp2 (g : Rat → Rat → Rat) (K : PySem.W.Frag) : Sp := fun vs H Q _ => ∃ (x y : V) (r s : Rat) (n d m e : Nat), vs = [x, y] ∧ FrV K H x r ∧ FrV K H y s ∧ Sz n d r ∧ Sz m e s ∧ (0 < n ∧ 0 < d ∧ 0 < m ∧ 0 < e ∧ (d + e ≤ 8900 ∨ (d + e ≤ 13490 ∧ n + e ≤ 13490 ∧ m + d ≤ 13490 ∧ n + m ≤ 13490)) ∧ n + m + d + e ≤ 90000000) ∧ ∀ v H', Ex H H' → FrV K H' v (g r s) → Q v H'
abbrev spPlus := sp2 (· + ·)
abbrev spTimes := sp2 (· * ·)
theorem big_add {r s : Rat} {n d m e : Nat} (ha : Sz n d r) (hb : Sz m e s) (h : d + e ≤ 8900 ∨ (d + e ≤ 13490 ∧ n + e ≤ 13490 ∧ m + d ≤ 13490 ∧ n + m ≤ 13490)) : d + e ≤ 9000 ∨ (d + e ≤ 13500 ∧ (r.num * (s.den : Int) + s.num * (r.den : Int)).natAbs < 2 ^ 13500) := by
  refine h.imp (fun z => by omega) fun ⟨h1, h2, h3, _⟩ => ⟨by omega, ?_⟩
  have a := lt_mul ha.1 hb.den
  have b := lt_mul hb.1 ha.den
  have a' := lt_mono a h2
  have b' := lt_mono b h3
  refine Nat.lt_of_lt_of_le (m := 2 ^ 13491) ?_ (Nat.pow_le_pow_right (by decide) (by decide))
  have e : (2 : Nat) ^ 13491 = 2 ^ 13490 * 2 := Nat.pow_succ ..
  rw [e]
  generalize (2 : Nat) ^ 13490 = P at a' b'
  omega
theorem big_sub {r s : Rat} {n d m e : Nat} (ha : Sz n d r) (hb : Sz m e s) (h : d + e ≤ 8900 ∨ (d + e ≤ 13490 ∧ n + e ≤ 13490 ∧ m + d ≤ 13490 ∧ n + m ≤ 13490)) : d + e ≤ 9000 ∨ (d + e ≤ 13500 ∧ (r.num * (s.den : Int) - s.num * (r.den : Int)).natAbs < 2 ^ 13500) := by
  refine h.imp (fun z => by omega) fun ⟨h1, h2, h3, _⟩ => ⟨by omega, ?_⟩
  have a := lt_mul ha.1 hb.den
  have b := lt_mul hb.1 ha.den
  have a' := lt_mono a h2
  have b' := lt_mono b h3
  refine Nat.lt_of_lt_of_le (m := 2 ^ 13491) ?_ (Nat.pow_le_pow_right (by decide) (by decide))
  have e : (2 : Nat) ^ 13491 = 2 ^ 13490 * 2 := Nat.pow_succ ..
  rw [e]
  generalize (2 : Nat) ^ 13490 = P at a' b'
  omega
theorem big_mul {r s : Rat} {n d m e : Nat} (ha : Sz n d r) (hb : Sz m e s) (h : d + e ≤ 8900 ∨ (d + e ≤ 13490 ∧ n + e ≤ 13490 ∧ m + d ≤ 13490 ∧ n + m ≤ 13490)) : d + e ≤ 9000 ∨ (d + e ≤ 13500 ∧ (r.num * s.num).natAbs < 2 ^ 13500) :=
  h.imp (fun z => by omega) fun ⟨h1, _, _, h4⟩ => ⟨by omega, lt_mono (lt_mul ha.1 hb.1) (by omega)⟩
/-- a made pair is a fraction -/
theorem made {K : PySem.W.Frag} {H : Hp} {p : Addr} {a b : Int} {r : Rat} (e1 : a = r.num) (e2 : b = (r.den : Int)) : FrV K (upd H p (.tup [.int a, .int b])) (.ref p) r := ⟨p, rfl, by rw [e1, e2]; exact st_of upd_same⟩
/-- what one row weighs another -/
def spWeigh (K : PySem.W.Frag) : Sp := fun vs H Q _ => ∃ (x y : V) (rs ss : List Rat) (n d m e : Nat), vs = [x, y] ∧ RowV K H x rs ∧ RowV K H y ss ∧ rs.length = ss.length ∧ SzL n d rs ∧ SzL m e ss ∧
  (0 < d ∧ 0 < e ∧ d ≤ n ∧ e ≤ m ∧ 1 + rs.length * (d + e) ≤ 8900 ∧ 1 + rs.length * (n + m + 1) ≤ 400000) ∧ ∀ v H', Ex H H' → FrV K H' v (weighs (rs.zip ss)) → Q v H'
/-- what a sum tells at a row -/
def spTells (K : PySem.W.Frag) : Sp := fun vs H Q _ => ∃ (x y : V) (s : Sum2) (ss : List Rat) (n d m e : Nat), vs = [x, y] ∧ SumV K H x s ∧ RowV K H y ss ∧ s.1.length = ss.length ∧ SzL n d s.1 ∧ Sz n d s.2 ∧ SzL m e ss ∧
  (0 < d ∧ 0 < e ∧ d ≤ n ∧ e ≤ m ∧ 1 + s.1.length * (d + e) + d ≤ 8900 ∧ 1 + s.1.length * (n + m + 1) ≤ 400000 ∧ n ≤ 400000) ∧ ∀ v H', Ex H H' → FrV K H' v (tells s ss) → Q v H'
/-- a module's constant that is a fraction -/
structure Cst (K : PySem.W.Frag) (mg : Str → Option Value) (x : Str) (r : Rat) : Prop where
  ex : ∃ a, mg x = some (.ref a) ∧ ∀ H, FrV K H (.ref a) r
end Nc
end
section
set_option maxRecDepth 100000
set_option maxHeartbeats 4000000
namespace Nc
open PySem PySem.Spec PyProof.Rows L2
theorem tuple_mul1 (l : Addr) (items : Array Value) (n : Nat) (dd : Option Addr) (sl : Array (Option Value)) (u : Tok) :
    Meets (Builtin.«tuple.__mul__» ⟨[.ref l, .int 1 u], []⟩) (fun _ R s => s.heap.get? l = some { cls := .type "tuple", dict := dd, data := .seq items n, slots := sl } ∧
      R (.ok (.ret (Value.ref l))) s) :=
  .of_wp fun prog w A R s h => by
    obtain ⟨hp, g, d, tk, os⟩ := s
    obtain ⟨hl, h⟩ := h
    have f1 := AutoSeq1.idx_int
    wp_walk using wpAny_loadPart' hl
    repeat (first
      | (refine wpAny_ite_true (by simp) ?_; wp_walk using wpAny_loadPart' hl)
      | (refine wpAny_ite_false (by simp) ?_; wp_walk using wpAny_loadPart' hl))
    exact ⟨_, rfl, h⟩
theorem tuple_mul0 (l : Addr) (items : Array Value) (n : Nat) (dd : Option Addr) (sl : Array (Option Value)) (u : Tok) (c1 : items.isEmpty = false) :
    Meets (Builtin.«tuple.__mul__» ⟨[.ref l, .int 0 u], []⟩) (fun _ R s => s.heap.get? l = some { cls := .type "tuple", dict := dd, data := .seq items n, slots := sl } ∧
      R (.ok (.ret (Value.ref s.heap.objs.size))) { s with heap := s.heap.push { cls := Value.type "tuple", data := Data.seq #[] }, toks := s.toks }) :=
  .of_wp fun prog w A R s h => by
    obtain ⟨hp, g, d, tk, os⟩ := s
    obtain ⟨hl, h⟩ := h
    have f1 := AutoSeq1.idx_int
    wp_walk using wpAny_loadPart' hl
    repeat (first
      | (refine wpAny_ite_true (by simp) ?_; wp_walk using wpAny_loadPart' hl)
      | (refine wpAny_ite_false (by simp [c1]) ?_; wp_walk using wpAny_loadPart' hl))
    exact ⟨_, rfl, h⟩
def rRepA (K : PySem.W.Frag) : R2 := fun x y H Q => ∃ l k xs, x = .ref l ∧ y = .int k ∧ SqT K H l xs ∧ xs ≠ [] ∧ 0 ≤ k ∧ k ≤ 1000 ∧ xs.length ≤ 1000 ∧ ∀ p H', Evl.Ex H H' → SqT K H' p (List.replicate k.toNat xs).flatten → Q (.ref p) H'
theorem op_repA {X : Cx} : OpR X (binaryOp .Mult) (rRepA X.K) := by
  intro pins s σ H x y v u Q I rx ry h
  obtain ⟨l, k, xs, rfl, rfl, hT, hne, h1, h2, hz, q⟩ := h
  by_cases h3 : 2 ≤ k
  · exact op_repT pins s σ H _ _ v u Q I rx ry ⟨l, k, xs, rfl, rfl, hT, hne, h3, h2, hz, fun p hp => q p _ (Evl.Ex.new hp) (Evl.st_of upd_same)⟩
  cases rx
  obtain ⟨t, rfl⟩ := ry
  obtain ⟨its, r, ⟨⟨cls, dd, data, sl⟩, ho, hc, n, hd⟩, hs⟩ := I.tuple hT
  simp only at hc hd
  subst hc hd
  have hle : its.length = xs.length := r.length.symm
  have hn : its ≠ [] := fun e => hne (by
    rw [e] at hle
    exact List.eq_nil_of_length_eq_zero hle.symm)
  have hi : its.toArray.isEmpty = false := by
    cases its with
    | nil => exact absurd rfl hn
    | cons a b => rfl
  by_cases h4 : k = 1
  · subst h4
    refine wpAny_binaryOp_repeat_ref (T := "tuple") (U := "int") (by decide) ⟨_, ho, rfl⟩ (fun s' => typeIs_int s' 1 t) noFill_tuple_mul F.fills_int_mul F.slot_int_rmul repeat_tuple F.slot_int_index.lookup
      (call_meets F.slot_int_rmul (typeIs_int s 1 t) F.entry_int_rmul (F.args_int_rmul_2 _ _) (int_rmul_tuple 1 t l its.toArray n dd sl)
        ⟨ho, rfl, ⟨_, ho, rfl⟩, call_meets F.slot_tuple_mul ⟨_, ho, rfl⟩ F.entry_tuple_mul (F.args_tuple_mul_2 _ _) (tuple_mul1 l its.toArray n dd sl t) ⟨ho, ?_⟩⟩)
    refine ⟨.ref l, H, I, rfl, q l H (Evl.Ex.refl H) ?_⟩
    have e : (List.replicate (1 : Int).toNat xs).flatten = xs := by simp
    rw [e]
    exact hT
  · have h5 : k = 0 := by omega
    subst h5
    refine wpAny_binaryOp_repeat_ref (T := "tuple") (U := "int") (by decide) ⟨_, ho, rfl⟩ (fun s' => typeIs_int s' 0 t) noFill_tuple_mul F.fills_int_mul F.slot_int_rmul repeat_tuple F.slot_int_index.lookup
      (call_meets F.slot_int_rmul (typeIs_int s 0 t) F.entry_int_rmul (F.args_int_rmul_2 _ _) (int_rmul_tuple 0 t l its.toArray n dd sl)
        ⟨ho, rfl, ⟨_, ho, rfl⟩, call_meets F.slot_tuple_mul ⟨_, ho, rfl⟩ F.entry_tuple_mul (F.args_tuple_mul_2 _ _) (tuple_mul0 l its.toArray n dd sl t hi) ⟨ho, ?_⟩⟩)
    refine ⟨.ref s.heap.objs.size, _, I.laid (t' := s.toks) (o := .tup []) (fun b ob q => Heap.get?_push_of_some _ q) (Nat.le_refl _) ?_, rfl, q _ _ (Evl.Ex.new (I.hok.fresh (Nat.le_refl _))) (Evl.st_of upd_same)⟩
    exact ⟨Nat.zero_le _, [], .nil, IsTup.new _ _⟩
end Nc
end
section
set_option maxRecDepth 100000
set_option maxHeartbeats 4000000
namespace Nc
open PySem PySem.Spec PyProof.Rows L2 Evl
/-- a comprehension over zip of two tuples of one length -/
theorem lc_zipT {K : PySem.W.Frag} {a b : Addr} {xs ys : List V} {g : TG} {tt : TT} {te : TE} {vs : List Nat} {σ : L2.St} {H1 : Hp} {D : Addr} {Qd : Hp → Prop} (hl : xs.length = ys.length) (Pv : Nat → Hp → Prop) (h0 : Pv 0 (upd H1 D (.lst []))) (hq : ∀ i H, Pv i H → SqT K H a xs ∧ SqT K H b ys)
    (hs : ∀ (i : Nat) (x y : V) (T : Addr) (H : Hp), xs[i]? = some x → ys[i]? = some y → Pv i H → H T = none → g (.ref T) (wipe σ vs) (upd H T (.tup [x, y])) fun σ2 H2 => wipe σ2 vs = wipe σ vs ∧ tt σ2 H2 fun b H3 =>
      if b = true then te σ2 H3 fun y H4 => ∃ acc, H4 D = some (.lst acc) ∧ acc.length < sizeLine ∧ Pv (i + 1) (upd H4 D (.lst (acc ++ [y]))) else Pv (i + 1) H3) (hd : ∀ H, Pv xs.length H → Qd H) :
    ∃ W : Nat → Nat → Hp → Prop, (∃ m, W 0 m (upd H1 D (.lst []))) ∧ ∀ i m H, W i m H →
      ((RZ.ItzT K a b).stop i H ∧ Qd H) ∨ ((RZ.ItzT K a b).go i H ∧ ∃ Nx : Hp → Prop, (∀ H', Nx H' → ∃ m', m' < m ∧ W (i + 1) m' H') ∧ ∀ x H', (RZ.ItzT K a b).yld i H x H' → g x (wipe σ vs) H' fun σ2 H2 => wipe σ2 vs = wipe σ vs ∧ tt σ2 H2 fun b H3 =>
        if b = true then te σ2 H3 fun y H4 => ∃ acc, H4 D = some (.lst acc) ∧ acc.length < sizeLine ∧ Nx (upd H4 D (.lst (acc ++ [y]))) else Nx H3) := by
  refine ⟨fun i m H => m = xs.length - i ∧ i ≤ xs.length ∧ Pv i H, ⟨xs.length, rfl, Nat.zero_le _, h0⟩, ?_⟩
  rintro i m H ⟨rfl, hi, p⟩
  obtain ⟨qx, qy⟩ := hq i H p
  by_cases hlt : i < xs.length
  · have hx : xs[i]? = some xs[i] := List.getElem?_eq_getElem hlt
    have hlt2 : i < ys.length := by omega
    have hy : ys[i]? = some ys[i] := List.getElem?_eq_getElem hlt2
    refine .inr ⟨⟨xs, ys, _, _, qx, qy, hx, hy⟩, Pv (i + 1), fun H' p' => ⟨xs.length - (i + 1), by omega, rfl, hlt, p'⟩, fun v H' y => ?_⟩
    obtain ⟨T, x', y', rfl, hT, rfl, f1, f2⟩ := y
    exact hs i x' y' T H (f1 xs qx) (f2 ys qy) p hT
  · have e : i = xs.length := by omega
    subst e
    exact .inl ⟨⟨xs, ys, qx, qy, Or.inl (Nat.le_refl _)⟩, hd H p⟩
section
variable {K : PySem.W.Frag} {H H' H1 H4 : Hp} {D : Addr}
/-- a tuple stands as it stood where a list changes -/
theorem sqt_mut {t : Addr} {xs ys : List V} {o : HO} (hD : H D = some (.lst xs)) (h : SqT K H t ys) : SqT K (upd H D o) t ys := by
  rcases h with (h | ⟨ob, h⟩) | h
  · exact .inl (.inl (by rw [upd_ne (ne_of h hD (by intro z; cases z))]; exact h))
  · exact .inl (.inr ⟨ob, by rw [upd_ne (ne_of h hD (by intro z; cases z))]; exact h⟩)
  · exact .inr h
theorem FrV.mut {xs : List V} {o : HO} {v : V} {r : Rat} (hD : H D = some (.lst xs)) (h : FrV K H v r) : FrV K (upd H D o) v r := by
  obtain ⟨t, rfl, q⟩ := h
  exact ⟨t, rfl, sqt_mut hD q⟩
theorem RowV.mut {xs : List V} {o : HO} {v : V} {r : List Rat} (hD : H D = some (.lst xs)) (h : RowV K H v r) : RowV K (upd H D o) v r := by
  obtain ⟨t, ys, rfl, q, l⟩ := h
  exact ⟨t, ys, rfl, sqt_mut hD q, pmono (fun _ _ => FrV.mut hD) l⟩
theorem SumV.mut {xs : List V} {o : HO} {v : V} {s : Sum2} (hD : H D = some (.lst xs)) (h : SumV K H v s) : SumV K (upd H D o) v s := by
  obtain ⟨t, a, b, rfl, q, l, n⟩ := h
  exact ⟨t, a, b, rfl, sqt_mut hD q, l.mut hD, n.mut hD⟩
/-- what a comprehension has built of things of a kind R behind i turns -/
def Bld {α : Type} (R : Hp → V → α → Prop) (H1 : Hp) (D : Addr) (L : List α) (i : Nat) (H' : Hp) : Prop := Ex H1 H' ∧ ∃ xs, H' D = some (.lst xs) ∧ xs.length = i ∧ Paired (R H') xs (L.take i)
/-- a kind of things that stay as they are where the heap grows, where a list changes -/
structure Stays {α : Type} (R : Hp → V → α → Prop) : Prop where
  ex : ∀ {H H' v a}, Ex H H' → R H v a → R H' v a
  mt : ∀ {H D xs o v a}, H D = some (.lst xs) → R H v a → R (upd H D o) v a
theorem stF : Stays (FrV K) := ⟨FrV.ex, FrV.mut⟩
theorem stR : Stays (RowV K) := ⟨RowV.ex, RowV.mut⟩
theorem stS : Stays (SumV K) := ⟨SumV.ex, SumV.mut⟩
theorem bld0 {α : Type} {R : Hp → V → α → Prop} {L : List α} (hD : H1 D = none) : Bld R H1 D L 0 (upd H1 D (.lst [])) := ⟨Ex.new hD, [], upd_same, rfl, .nil⟩
theorem bld_step {α : Type} {R : Hp → V → α → Prop} (S : Stays R) {L : List α} {i : Nat} {v : V} {a : α} (hD : H1 D = none) (b : Bld R H1 D L i H') (e : Ex H' H4) (hi : L[i]? = some a) (hz : i < 100000) (hv : R H4 v a) :
    ∃ acc, H4 D = some (.lst acc) ∧ acc.length < sizeLine ∧ Bld R H1 D L (i + 1) (upd H4 D (.lst (acc ++ [v]))) := by
  obtain ⟨e1, xs, hx, hl, p⟩ := b
  have h4 := e D _ hx
  refine ⟨xs, h4, sz_lt (by omega), Ex.mut (e1.trans e) hD, xs ++ [v], upd_same, by simp [hl], ?_⟩
  rw [List.take_add_one, hi]
  exact Paired.snoc (pmono (fun _ _ q => S.mt h4 (S.ex e q)) p) (S.mt h4 hv)
theorem bld_end {α : Type} {R : Hp → V → α → Prop} {L : List α} {n : Nat} (hn : n = L.length) (b : Bld R H1 D L n H') : Ex H1 H' ∧ ∃ xs, H' D = some (.lst xs) ∧ Paired (R H') xs L := by
  obtain ⟨e1, xs, hx, hl, p⟩ := b
  refine ⟨e1, xs, hx, ?_⟩
  rwa [hn, List.take_length] at p
/-- the tuple made of what was built -/
theorem bld_row {L : List Rat} {n : Nat} {l : Addr} {xs : List V} (hx : H' D = some (.lst xs)) (p : FrL K H' xs L) (hl : H' l = none) : RowV K (upd H' l (.tup xs)) (.ref l) L :=
  ⟨l, xs, rfl, st_of upd_same, FrL.ex (Ex.new hl) p⟩
end
/-! ### promises of the sums' defs -/
def spSumP (K : PySem.W.Frag) : Sp := fun vs H Q _ => ∃ (x y : V) (s t : Sum2) (n d m e : Nat), vs = [x, y] ∧ SumV K H x s ∧ SumV K H y t ∧ s.1.length = t.1.length ∧ s.1.length ≤ 100 ∧ SzL n d s.1 ∧ Sz n d s.2 ∧ SzL m e t.1 ∧ Sz m e t.2 ∧
  (0 < n ∧ 0 < d ∧ 0 < m ∧ 0 < e ∧ (d + e ≤ 8900 ∨ (d + e ≤ 13490 ∧ n + e ≤ 13490 ∧ m + d ≤ 13490 ∧ n + m ≤ 13490)) ∧ n + m + d + e ≤ 90000000) ∧ ∀ v H', Ex H H' → SumV K H' v (splus s t) → Q v H'
def spSumT (K : PySem.W.Frag) : Sp := fun vs H Q _ => ∃ (x y : V) (r : Rat) (t : Sum2) (n d m e : Nat), vs = [x, y] ∧ FrV K H x r ∧ SumV K H y t ∧ t.1.length ≤ 100 ∧ Sz n d r ∧ SzL m e t.1 ∧ Sz m e t.2 ∧
  (0 < n ∧ 0 < d ∧ 0 < m ∧ 0 < e ∧ (d + e ≤ 8900 ∨ (d + e ≤ 13490 ∧ n + e ≤ 13490 ∧ m + d ≤ 13490 ∧ n + m ≤ 13490)) ∧ n + m + d + e ≤ 90000000) ∧ ∀ v H', Ex H H' → SumV K H' v (stimes r t) → Q v H'
def spFlat (K : PySem.W.Frag) : Sp := fun vs H Q _ => ∃ (k : Nat) (y : V) (r : Rat), vs = [.int (k : Int), y] ∧ FrV K H y r ∧ k ≤ 100 ∧ ∀ v H', Ex H H' → SumV K H' v (List.replicate k 0, r) → Q v H'
/-- the row with 1 at a place -/
def unit (k p : Nat) : List Rat := (List.range k).map fun i => if i = p then 1 else 0
def spPlace (K : PySem.W.Frag) : Sp := fun vs H Q _ => ∃ (k p : Nat), vs = [.int (k : Int), .int (p : Int)] ∧ k ≤ 100 ∧ ∀ v H', Ex H H' → SumV K H' v (unit k p, 0) → Q v H'
end Nc
end
section
set_option maxRecDepth 100000
set_option maxHeartbeats 4000000
namespace Nc
open PySem PySem.Spec PyProof.Rows L2 Evl
/-! ### the stream: a list of three whole numbers at s, that alone changes -/
def Stm (s : Addr) (H : Hp) : Prop := ∃ a b c : Int, H s = some (.lst [.int a, .int b, .int c])
structure Dr (s : Addr) (H H' : Hp) : Prop where
  keep : ∀ a o, a ≠ s → H a = some o → H' a = some o
  st : Stm s H'
section
variable {K : PySem.W.Frag} {s p : Addr} {H H' H2 : Hp}
theorem Dr.refl (h : Stm s H) : Dr s H H := ⟨fun _ _ _ q => q, h⟩
theorem Dr.trans (a : Dr s H H') (b : Dr s H' H2) : Dr s H H2 := ⟨fun x o hx q => b.keep x o hx (a.keep x o hx q), b.st⟩
theorem Stm.ne (h : Stm s H) (hp : H p = none) : s ≠ p := by
  obtain ⟨a, b, c, e⟩ := h
  exact ne_of_none e hp
theorem Dr.new {o : HO} (h : Stm s H) (hp : H p = none) : Dr s H (upd H p o) := ⟨fun a u ha q => by rw [upd_ne (ne_of_none q hp)]; exact q, by
  obtain ⟨a, b, c, e⟩ := id h
  exact ⟨a, b, c, by rw [upd_ne (h.ne hp)]; exact e⟩⟩
/-- another list changes -/
theorem Dr.mut {o : HO} (d : Dr s H H') (hp : H p = none) (hs : s ≠ p) : Dr s H (upd H' p o) := ⟨fun a u ha q => by rw [upd_ne (ne_of_none q hp)]; exact d.keep a u ha q, by
  obtain ⟨a, b, c, e⟩ := d.st
  exact ⟨a, b, c, by rw [upd_ne hs]; exact e⟩⟩
theorem Dr.ex (h : Stm s H) (e : Ex H H') : Dr s H H' := ⟨fun a o _ q => e a o q, by
  obtain ⟨a, b, c, q⟩ := h
  exact ⟨a, b, c, e _ _ q⟩⟩
theorem sqt_dr {t : Addr} {xs : List V} (h : Stm s H) (d : Dr s H H') (q : SqT K H t xs) : SqT K H' t xs := by
  obtain ⟨a, b, c, e⟩ := h
  rcases q with (q | ⟨o, q⟩) | q
  · exact .inl (.inl (d.keep _ _ (ne_of q e (by intro z; cases z)) q))
  · exact .inl (.inr ⟨o, d.keep _ _ (ne_of q e (by intro z; cases z)) q⟩)
  · exact .inr q
theorem FrV.dr {v : V} {r : Rat} (h : Stm s H) (d : Dr s H H') (q : FrV K H v r) : FrV K H' v r := by
  obtain ⟨t, rfl, q⟩ := q
  exact ⟨t, rfl, sqt_dr h d q⟩
theorem FrL.dr {xs : List V} {rs : List Rat} (h : Stm s H) (d : Dr s H H') (q : FrL K H xs rs) : FrL K H' xs rs := pmono (fun _ _ => FrV.dr h d) q
theorem RowV.dr {v : V} {rs : List Rat} (h : Stm s H) (d : Dr s H H') (q : RowV K H v rs) : RowV K H' v rs := by
  obtain ⟨t, xs, rfl, q, l⟩ := q
  exact ⟨t, xs, rfl, sqt_dr h d q, FrL.dr h d l⟩
theorem SumV.dr {v : V} {z : Sum2} (h : Stm s H) (d : Dr s H H') (q : SumV K H v z) : SumV K H' v z := by
  obtain ⟨t, a, b, rfl, q, l, n⟩ := q
  exact ⟨t, a, b, rfl, sqt_dr h d q, l.dr h d, n.dr h d⟩
/-- the stream's list changes -/
theorem Dr.put {xs : List V} {a b c : Int} (h : H s = some (.lst xs)) : Dr s H (upd H s (.lst [.int a, .int b, .int c])) := ⟨fun x o hx q => by rw [upd_ne hx]; exact q, ⟨a, b, c, upd_same⟩⟩
end
theorem b01 (k : Bool) : -(2 ^ 64) < (if k = true then (1 : Int) else 0) ∧ (if k = true then (1 : Int) else 0) < 2 ^ 64 := by
  cases k <;> decide
theorem modb (x : Int) {m : Int} (h : 0 < m) (hm : m ≤ 2 ^ 64) : -(2 ^ 64) < x % m ∧ x % m < 2 ^ 64 := by
  have h1 := Int.emod_nonneg x (b := m) (by omega)
  have h2 := Int.emod_lt_of_pos x h
  omega
theorem cdivT {i m : Int} (h : 0 < m) (hm : m < 2 ^ 200) : CDivW i m := wide_div (b := 200) h (by omega) (by decide) (by decide)
/-! ### promises of what is drawn -/
def spCell (K : PySem.W.Frag) : Sp := fun vs H Q _ => ∃ (a : Addr) (ns : List Int) (k : Nat), vs = [.ref a, .int (k : Int)] ∧ SqL K H a (ns.map V.int) ∧ k ≤ 100 ∧ ∀ c : Int, Q (.int c) H
def spStream : Sp := fun vs H Q _ => ∃ c : Int, vs = [.int c] ∧ ∀ s a b d, H s = none → Q (.ref s) (upd H s (.lst [.int a, .int b, .int d]))
def spTake : Sp := fun vs H Q _ => ∃ (s : Addr) (m : Int), vs = [.ref s, .int m] ∧ Stm s H ∧ 0 < m ∧ m < 2 ^ 200 ∧ ∀ d H', 0 ≤ d → d < m → Dr s H H' → Q (.int d) H'
/-- a whole number above nought, below a bound -/
def spDraw (n : Nat) : Sp := fun vs H Q _ => ∃ s : Addr, vs = [.ref s] ∧ Stm s H ∧ ∀ d H', 0 < d → d.natAbs < 2 ^ n → Dr s H H' → Q (.int d) H'
/-- a fraction of that size -/
def spNum (K : PySem.W.Frag) (n d : Nat) : Sp := fun vs H Q _ => ∃ s : Addr, vs = [.ref s] ∧ Stm s H ∧ ∀ v r H', Dr s H H' → FrV K H' v r → Sz n d r → Q v H'
/-- a row of so many -/
def spRow (K : PySem.W.Frag) (n d : Nat) : Sp := fun vs H Q _ => ∃ (s : Addr) (k : Nat), vs = [.ref s, .int (k : Int)] ∧ Stm s H ∧ k ≤ 100 ∧ ∀ v L H', Dr s H H' → RowV K H' v L → L.length = k → SzL n d L → Q v H'
end Nc
end
section
set_option maxRecDepth 100000
set_option maxHeartbeats 4000000
namespace Nc
open PySem PySem.Spec PyProof.Rows L2 Evl
theorem depthAll_fd : ∀ rs : List Rat, PyData.depthAll (rs.map fd) ≤ 1
  | [] => Nat.zero_le _
  | r :: rs => by
    have ih := depthAll_fd rs
    show max (PyData.depth (fd r)) (PyData.depthAll (rs.map fd)) ≤ 1
    have : PyData.depth (fd r) = 1 := rfl
    omega
theorem lay_row (rs : List Rat) : (PyData.tuple (rs.map fd)).canLay0 = true := layAll_fd rs
theorem shaped_row (rs : List Rat) : SeqAt.shaped (.tuple (rs.map fd)) = true := by
  unfold SeqAt.shaped
  rw [lay_row, Bool.true_and]
  refine decide_eq_true ?_
  have := depthAll_fd rs
  show PyData.depthAll (rs.map fd) + 1 ≤ 64
  omega
theorem shaped_list (rs : List Rat) : SeqAt.shaped (.list (rs.map fd)) = true := by
  unfold SeqAt.shaped
  have h : (PyData.list (rs.map fd)).canLay0 = true := layAll_fd rs
  rw [h, Bool.true_and]
  refine decide_eq_true ?_
  have := depthAll_fd rs
  show PyData.depthAll (rs.map fd) + 1 ≤ 64
  omega
theorem shaped_fd (r : Rat) : SeqAt.shaped (fd r) = true := rfl
theorem lay_sd (s : Sum2) : (sd s).canLay0 = true := by
  show ((PyData.tuple (s.1.map fd)).canLay0 && ((fd s.2).canLay0 && true)) = true
  rw [lay_row]
  rfl
theorem shaped_sd (s : Sum2) : SeqAt.shaped (sd s) = true := by
  unfold SeqAt.shaped
  rw [lay_sd, Bool.true_and]
  refine decide_eq_true ?_
  have h1 := depthAll_fd s.1
  have h2 : PyData.depth (fd s.2) = 1 := rfl
  show max (PyData.depthAll (s.1.map fd) + 1) (max (PyData.depth (fd s.2)) 0) + 1 ≤ 64
  omega
theorem eqv_sd (s : Sum2) : PyData.eqv (sd s) (sd s) = true := SeqAt.eqv_refl _ (lay_sd s)
theorem eqv_fd (r : Rat) : PyData.eqv (fd r) (fd r) = true := SeqAt.eqv_refl _ rfl
theorem eqv_row (rs : List Rat) : PyData.eqv (.tuple (rs.map fd)) (.tuple (rs.map fd)) = true := SeqAt.eqv_refl _ (lay_row rs)
theorem eqv_list (rs : List Rat) : PyData.eqv (.list (rs.map fd)) (.list (rs.map fd)) = true := SeqAt.eqv_refl _ (layAll_fd rs)
/-- a tuple's type -/
theorem tyT {K : PySem.W.Frag} {H : Hp} {t : Addr} {xs : List V} (q : SqT K H t xs) : TyX K H (.ref t) (.type "tuple") := by
  rcases q with (q | ⟨o, q⟩) | ⟨o, its, n, h, hc, _⟩
  · exact .base (.tup q)
  · exact .fTuple q
  · exact .kTuple h hc
theorem tyI {K : PySem.W.Frag} {H : Hp} (i : Int) : TyX K H (.int i) (.type "int") := .base (.int i)
theorem sz_tells {n d m e : Nat} {s : Sum2} {row : List Rat} (hn : d ≤ n) (hm : e ≤ m) (ha : SzL n d s.1) (hb : SzL m e row) (hc : Sz n d s.2) (hl : s.1.length = row.length) : Sz (1 + s.1.length * (n + m + 1) + n + 1) (1 + s.1.length * (d + e) + d) (tells s row) := by
  have h := sz_of_weighs hn hm ha hb hl
  have le : s.1.length * (d + e) ≤ s.1.length * (n + m + 1) := Nat.mul_le_mul_left _ (by omega)
  exact sz_add (N := 1 + s.1.length * (n + m + 1) + n) h hc (by omega) (by omega)
theorem len_splus (s t : Sum2) (h : s.1.length = t.1.length) : (splus s t).1.length = s.1.length := by
  unfold splus
  simp
  omega
theorem len_stimes (q : Rat) (s : Sum2) : (stimes q s).1.length = s.1.length := by
  unfold stimes
  simp
theorem szl_splus {n d m e N : Nat} {s t : Sum2} (h1 : SzL n d s.1) (h2 : SzL m e t.1) (k1 : n + e ≤ N := by omega) (k2 : m + d ≤ N := by omega) : SzL (N + 1) (d + e) (splus s t).1 := by
  intro r hr
  unfold splus at hr
  obtain ⟨p, hp, rfl⟩ := List.mem_map.mp hr
  have := List.of_mem_zip hp
  exact sz_add (h1 _ this.1) (h2 _ this.2)
theorem szl_stimes {n d m e : Nat} {q : Rat} {s : Sum2} (h1 : Sz n d q) (h2 : SzL m e s.1) : SzL (n + m) (d + e) (stimes q s).1 := by
  intro r hr
  unfold stimes at hr
  obtain ⟨p, hp, rfl⟩ := List.mem_map.mp hr
  exact sz_mul h1 (h2 _ hp)
/-- the found sum is the due one, by its own kinds -/
def spWhole (K : PySem.W.Frag) : Sp := fun vs H Q _ => ∃ (x y : V) (s : Sum2), vs = [x, y] ∧ SumV K H x s ∧ SumV K H y s ∧ s.1.length ≤ 100 ∧ ∀ H', Ex H H' → Q (.bl true) H'
def spPlaces : Sp := fun vs H Q _ => ∃ k : Nat, vs = [.int (k : Int)] ∧ k ≤ 100 ∧ ∀ H', Ex H H' → Q (.bl true) H'
/-- all goes well, the stream alone changes -/
def spRight : Sp := fun vs H Q _ => ∃ s : Addr, vs = [.ref s] ∧ Stm s H ∧ ∀ H', (∀ a o, a ≠ s → H a = some o → H' a = some o) → Q (.bl true) H'
def spLaw (K : PySem.W.Frag) : Sp := fun vs H Q _ => ∃ (a : Addr) (ns : List Int), vs = [.ref a] ∧ SqL K H a (ns.map V.int) ∧ ns.length ≤ 63 ∧ ∀ H', Q (.bl true) H'
end Nc
end
section
set_option maxRecDepth 100000
set_option maxHeartbeats 4000000
namespace Nc
open PySem PySem.Spec PyProof.Rows L2 Evl
/-! ### a def's promise where no repr is under way around it -/
structure GOk (P : Program) (w : World) (K : PySem.W.Frag) (mg : Str → Option Value) (base : Heap) (k : Nat) (f : Addr) (fd : FuncData) (ps : List Str) (sp : Sp) : Prop where
  many : ∀ vs H Q E, sp vs H Q E → vs.length = ps.length
  go : ∀ (A : Around) (stack : List Env) (s : Shared) (H : Hp) (us : List Value) (vs : List V) (Q : VK), A.guards = some [] → Room k A → Env0 P w K mg base A stack s H →
    BindsTo s fd ⟨us, []⟩ (ps.zip us) → Vals vs us → sp vs H Q E0 → codeAny (model P w) A (.call (.ref f) ⟨us, []⟩) (CR CX0 stack P w H s Q E0) s
section
variable {P : Program} {w : World} {K : PySem.W.Frag} {mg : Str → Option Value} {base : Heap} {k : Nat} {f : Addr} {fd : FuncData} {x qual : Str} {st : Stmt} {N ps : List Str} {sp : Sp}
/-- by its body's term, which may say repr -/
theorem gok (F : Fun K x qual st f fd) (S : FnScope N ps (defScope st)) (many : ∀ vs H Q E, sp vs H Q E → vs.length = ps.length)
    (body : ∀ (cdv : Value) (A : Around) (stack : List Env) (s : Shared) (H : Hp) (vs : List V) (Q : VK) (_ : A.guards = some []) (_ : Room k (A.deeper (envOfC qual (defScope st) s.heap.objs.size f cdv))), sp vs H Q E0 →
      ∃ t, PSs (cxOf CX0 P w K mg base N qual (defScope st) f cdv A stack s H E0).nox (defBody st) t ∧ t ⟨fun _ H' => Q .non H', Q, fun _ _ => False, fun _ _ => False⟩ (start N vs) H) : GOk P w K mg base (k + 1) f fd ps sp := by
  obtain ⟨oc, od, kV, doc, pm, an, cdv, ct, osl, rfl, lk, hcd⟩ := F.ex
  constructor
  · exact many
  intro A stack s H us vs Q hG hR e0 hb rv hsp
  have sz := many _ _ _ _ hsp
  have inK : K.In s.heap := e0.mod.kin.keeps fun b o e => And.left (e0.bs b o e)
  have kinds : ∀ y ∈ ps.zip us, (defScope st).names.lookup y.1 = some .local ∨ ((defScope st).names.lookup y.1 = some .cell ∧ ((cellsFrom (s.heap.objs.size + 1) (defScope st).names []).lookup y.1).isSome = true) := by
    rintro ⟨n, v⟩ hy
    have hn := S.par n (List.of_mem_zip hy).1
    exact hn.imp id fun c => ⟨c, PySem.W.cellsFrom_some _ _ _ (.inl c)⟩
  obtain ⟨t, ht, hq⟩ := body cdv A stack s H vs Q hG (hR.deeper _) hsp
  apply codeAny_call_function (ho := inK _ _ lk) (hd' := rfl) (hco := S.co) (hgen := S.gen) (hbody := rfl) (hcd := PySem.W.codeRec_of inK hcd) hR.depth
  apply hb
  apply wpAny_newFunctionEnv_cells S.kind kinds
  rintro env rfl s1 x1
  constructor
  · exact (e0.mod.nolimit.keeps fun b o e => And.left (e0.bs b o e)).keeps x1.toInCall.keep
  apply codeAny_func
  have I := inv_start (CX := CX0) (E := E0) S hR.hd e0 sz rv x1
  refine wpAny_mono (ht.nox.run [] s1 _ H _ I hq) ?_ fun _ _ z => z
  have leave : ∀ {σ' : L2.St} {H' : Hp} {v : V} {u : Value} {s'' : Shared}, Inv (cxOf CX0 P w K mg base N qual (defScope st) f cdv A stack s H E0) [] σ' H' s'' → RelV v u → Q v H' → CE stack P w H s Q u s'' := fun J r z => ⟨_, _, J.os, J.bare, J.base, J.hok, r, z⟩
  rintro (_ | _ | _ | u) s2 hs
  all_goals first
    | (obtain ⟨_, _, J, z⟩ := hs; exact leave (v := .non) (u := .none) J rfl z)
    | (obtain ⟨_, _, _, J, r, z⟩ := hs; exact leave J r z)
    | (obtain ⟨_, _, _, z⟩ := hs; exact z.elim)
end
section
variable {X : Cx} {k : Nat} {f : Addr} {fd : FuncData} {ps : List Str} {sp : Sp} {x : Str} {e : Expr} {es : List Expr} {ta : TA} {p pos : Pos}
/-- a call of such a def, from where no repr is under way -/
theorem clG (F : GOk X.prog X.w X.K X.mg X.base k f fd ps sp) (hG : X.A.guards = some []) (hR : Room k X.A) (hm : X.mg x = some (.ref f)) (hk : PySem.W.keepIn X.K (.ref f) = true) (hb : Binds X.K fd ps []) (ha : PA X (e :: es) ta)
    (hg : Gl X x := by rfl) (hdb : (x == ("__debug__" : Str)) = false := by decide) (he : starEach (e :: es) X.env = (false, eval e X.env) :: starEach es X.env := by rfl) (hpl : (backTo pos (starEach es X.env)).any (·.1) = false := by rfl) :
    PE X (.Call (.Name x p) (e :: es) [] pos) (tCall sp [] E0 ta) := by
  constructor
  intro pins s σ H Q I h
  apply wpAny_Call_Name_kw
  apply ld_glob I hg hm (hd := hdb)
  apply PySem.W.callWith_K (h₀ := X.base) I.ok.mod.kin hk (he := he) (hplain := hpl)
  refine thn (ha.run pos pins s σ H _ I h) ?_
  rintro us s1 ⟨vs, H1, J, rv, z⟩
  refine ⟨J.kIn, ?_⟩
  have z' : sp vs H1 Q E0 := by simpa using z
  have sz : us.length = ps.length := by rw [← rv.length]; exact F.many _ _ _ _ z'
  have hb' := hb s1 us J.kIn (by simpa using sz)
  simp only [List.append_nil] at hb'
  apply wpAny_call
  refine codeAny_mono (F.go X.A X.stack s1 H1 us vs Q hG hR J.env0 hb' rv z') ?_
  rintro (_ | (_ | _ | _ | u)) s2 hr
  all_goals first
    | exact J.after hr
    | exact hr.elim
/-- repr of data -/
def rRepr (K : PySem.W.Frag) : List V → Hp → VK → Prop := fun vs H Q => ∃ v d, vs = [v] ∧ Dp K H v d ∧ (∃ a, v = .ref a) ∧ d.showable = true ∧ d.hasDict = false ∧ d.depth ≤ 60 ∧ d.shown.length ≤ sizeLine ∧ Q (.str d.shown) H
theorem call_reprD (hG : X.A.guards = some []) (hu : X.A.units + 64 < cLine) : CallR X (.builtin "repr") (rRepr X.K) := by
  intro pins s σ H vs us Q I rv h
  obtain ⟨v, d, rfl, hd, ⟨a, rfl⟩, h1, h2, h3, h4, q⟩ := h
  cases rv with
  | cons r rr =>
    cases rr
    cases r
    obtain ⟨as, R⟩ := Dp.reads I d _ _ hd rfl
    exact repr_of_reads' R h1 (fun z => by rw [h2] at z; cases z) hG (by omega) (fun _ _ z => z) (fun h' u tk kp => ⟨.str d.shown, H, I.kept (t' := tk) kp, ⟨u, rfl⟩, q⟩) h4
end
/-! ### the law's own call -/
/-- the script alone is tracked, and it only where the module doesn't write it -/
noncomputable def onlyA (K : PySem.W.Frag) (a : Addr) (ob : Obj) (xs : List V) : Hp := open Classical in fun b => if b = a ∧ K.lookup a = none then some (.frz ob (.lst xs)) else none
theorem onlyA_some {K : PySem.W.Frag} {a b : Addr} {ob : Obj} {xs : List V} {u : HO} (h : onlyA K a ob xs b = some u) : b = a ∧ K.lookup a = none ∧ u = .frz ob (.lst xs) := by
  unfold onlyA at h
  split at h
  · rename_i c
    exact ⟨c.1, c.2, (Option.some.inj h).symm⟩
  · cases h
theorem gcall {P : Program} {w : World} {K : PySem.W.Frag} {mg mb : Str → Option Value} {k : Nat} {fa a : Addr} {fd : FuncData} {x : Str} {sp : Sp} {s1 : Shared} {us : List Value} {ns : List Int} (inK : K.In s1.heap) (gl : s1.heap.Ns mainGlobals mg) (bl : s1.heap.Ns builtinsNs mb)
    (bb : ∀ y : Str, y ≠ "__name__" → mb y = bootBuiltins y) (nl : s1.heap.NoLimit) (ng : s1.gens = #[]) (at_ : s1.heap.get? a = some { cls := .type "list", data := .seq us.toArray }) (hints : IntsAre us ns) (sz : ns.length ≤ sizeLine) (hR : Room k callerA)
    (F : ∀ base : Heap, K.In base → base.Ns mainGlobals mg → GOk P w K mg base k fa fd [x] sp) (binds : ∀ (s : Shared) (u : Value), BindsTo s fd ⟨[u], []⟩ [(x, u)]) (hsp : ∀ H : Hp, SqL K H a (ns.map V.int) → sp [.ref a] H (fun v _ => v = .bl true) E0) :
    codeAny (model P w) callerA (.call (.ref fa) ⟨[.ref a], []⟩) (fun r s' => r = .ok (.ret (.bool true)) ∧ OldK s1.heap s'.heap ∧ s'.os = s1.os ∧ AllBare s'.gens) s1 := by
  have rv := vals_ints hints
  have ln := hints.length
  have okA : ObjOk P w (onlyA K a { cls := .type "list", data := .seq us.toArray } (ns.map V.int)) s1.heap a (.frz { cls := .type "list", data := .seq us.toArray } (.lst (ns.map V.int))) := ⟨at_, by simpa using sz, us, _, rv, at_⟩
  generalize hobj : ({ cls := .type "list", data := .seq us.toArray } : Obj) = ob at at_ okA
  generalize hH : onlyA K a ob (ns.map V.int) = H0 at okA
  have only : ∀ {b u}, H0 b = some u → b = a ∧ K.lookup a = none ∧ u = .frz ob (.lst (ns.map V.int)) := by
    subst hH
    exact onlyA_some
  have seq : SqL K H0 a (ns.map V.int) := by
    cases hk : K.lookup a with
    | none =>
      refine .inl (.inr ⟨ob, ?_⟩)
      rw [← hH]
      unfold onlyA
      rw [if_pos ⟨rfl, hk⟩]
    | some o =>
      have e := inK a o hk
      rw [at_] at e
      cases e
      subst hobj
      exact .inr ⟨_, us.toArray, _, hk, rfl, rfl, rfl, by rw [List.size_toArray, ln]; exact sz, by simpa using rv⟩
  have unseen : ∀ {b : Addr} {o : Obj}, s1.heap.get? b = some o → (b = a → False) → H0 b = none := by
    intro b o hb hn
    cases q : H0 b with
    | none => rfl
    | some u => exact (hn (only q).1).elim
  have kept : ∀ {b : Addr} {m : Str → Option Value}, s1.heap.Ns b m → (hidT s1.heap H0).Ns b m := by
    rintro b m ⟨o, es, ep, hb, hd, r⟩
    refine ⟨o, es, ep, hidT_get hb (unseen hb fun z => ?_), hd, r⟩
    rw [z, at_] at hb
    cases hb
    rw [← hobj] at hd
    cases hd
  have kIn : K.In (hidT s1.heap H0) := fun b o hb => hidT_get (inK b o hb) (by
    cases q : H0 b with
    | none => rfl
    | some u =>
      obtain ⟨rfl, n, _⟩ := only q
      rw [n] at hb
      cases hb)
  have limit : (hidT s1.heap H0).NoLimit := by
    obtain ⟨mc, h1, h2⟩ := nl
    exact ⟨mc, kept h1, h2⟩
  have hok : HOk P w H0 s1.heap := by
    intro b u hb
    obtain ⟨rfl, _, rfl⟩ := only hb
    exact okA
  have e0 : Env0 P w K mg (hidT s1.heap H0) callerA [] s1 H0 := by
    refine ⟨rfl, ⟨kIn, kept gl, ⟨mb, kept bl, bb⟩, limit⟩, fun b o e => of_hidT e, Nat.le_of_eq (hidT_size _ _), trivial, fun b hb => ?_, hok, .of_eq ng⟩
    cases hb
  refine codeAny_mono ((F _ kIn (kept gl)).go callerA [] s1 H0 [.ref a] [.ref a] _ rfl hR e0 (binds s1 (.ref a)) (.cons rfl .nil) (hsp H0 seq)) ?_
  rintro (_ | (_ | _ | _ | u)) s2 hr
  all_goals first
    | (obtain ⟨v, H2, os, bare, un, ok2, r2, rfl⟩ := hr
       obtain rfl : u = Value.bool true := r2
       refine ⟨rfl, OldK.of_keep fun b o hb => ?_, os, bare⟩
       cases q : H0 b with
       | none => exact un.keep b o hb q (fun z => by cases z) (by simp)
       | some y =>
         obtain ⟨rfl, _, rfl⟩ := only q
         have h3 := ok2 b _ (un.frzs b _ _ q)
         rw [at_] at hb
         cases hb
         exact h3.1)
    | exact hr.elim
theorem gwalk {l : PySem.W.OpenLaw} {n k : Nat} {q : Program} {loose : List Str} {XP : (Str → Option Value) → Heap → Prop} {YP : World → Heap → Prop} {d : DefRec} {K : Params → PySem.W.Frag} {sp : PySem.W.Frag → Sp} {x : Str} (most : l.most = some n) (sz : n ≤ sizeLine) (nodef : d.params.defaults = []) (hR : Room k callerA)
    (inK : ∀ (w : World) (h : Heap), YP w h → (K w.params).In h)
    (F : ∀ (w : World) (mg : Str → Option Value) (fa : Addr) (h : Heap), (K w.params).In h → h.Ns mainGlobals mg → mg d.name = some (.ref fa) →
      ∃ fd : FuncData, (∀ (s : Shared) (u : Value), BindsTo s fd ⟨[u], []⟩ [(x, u)]) ∧ ∀ base : Heap, (K w.params).In base → base.Ns mainGlobals mg → GOk l.prog w (K w.params) mg base k fa fd [x] (sp (K w.params)))
    (hsp : ∀ (K : PySem.W.Frag) (H : Hp) (a : Addr) (ns : List Int), ns.length ≤ n → SqL K H a (ns.map V.int) → sp K [.ref a] H (fun v _ => v = .bl true) E0) : PySem.W.WalkO q loose XP YP l.row.toRowW d [] (fun f vs => PySem.call f vs) := by
  apply Att.attach_call most nodef
  intro w s0 s1 mg mb fa o pm cd doc a us ns G Y ho hd hcd hmg hobj hints hl hg
  obtain ⟨fd, hb, hF⟩ := F w mg fa _ (inK w _ Y) G.T.g hmg
  exact gcall (inK w _ Y) G.T.g G.T.b G.T.builtins G.T.nolimit hg hobj hints (Nat.le_trans hl sz) hR hF hb fun H hS => hsp _ H a ns hl hS
end Nc
end
section
set_option maxRecDepth 100000
set_option maxHeartbeats 4000000
namespace Nc
open PySem PySem.Spec PyProof.Rows L2 Evl
/-! ### bottoms of either sign -/
theorem gcdI_dvd_left (t b : Int) : ((Nat.gcd t.natAbs b.natAbs : Nat) : Int) ∣ t := Int.ofNat_dvd_left.mpr (Nat.gcd_dvd_left _ _)
theorem gcdI_dvd_right (t b : Int) : ((Nat.gcd t.natAbs b.natAbs : Nat) : Int) ∣ b := Int.ofNat_dvd_left.mpr (Nat.gcd_dvd_right _ _)
theorem gcd_posZ {t b : Int} (hb : b ≠ 0) : (0 : Int) < ((Nat.gcd t.natAbs b.natAbs : Nat) : Int) := by
  have := Nat.gcd_pos_of_pos_right t.natAbs (n := b.natAbs) (by omega)
  omega
theorem gcd_leZ {t b : Int} (hb : b ≠ 0) : ((Nat.gcd t.natAbs b.natAbs : Nat) : Int).natAbs ≤ b.natAbs := by
  rw [Int.natAbs_natCast]
  exact Nat.gcd_le_right t.natAbs (n := b.natAbs) (by omega)
theorem num_neg {t b : Int} (hb : b < 0) : t.fdiv (-((Nat.gcd t.natAbs b.natAbs : Nat) : Int)) = (Rat.divInt t b).num := by
  rw [Int.fdiv_eq_ediv_of_dvd (Int.neg_dvd.mpr (gcdI_dvd_left t b)), Int.ediv_neg, Rat.num_divInt, Int.sign_eq_neg_one_of_neg hb, Int.gcd_comm]
  have : -1 * t = -t := by omega
  rw [this]
  exact (Int.neg_ediv_of_dvd (gcdI_dvd_left t b)).symm
theorem den_neg {t b : Int} (hb : b < 0) : b.fdiv (-((Nat.gcd t.natAbs b.natAbs : Nat) : Int)) = ((Rat.divInt t b).den : Int) := by
  rw [Int.fdiv_eq_ediv_of_dvd (Int.neg_dvd.mpr (gcdI_dvd_right t b)), Int.ediv_neg, Rat.den_divInt, if_neg (by omega), Int.gcd_comm]
  have e : ((b.natAbs : Nat) : Int) = -b := by omega
  rw [Int.natCast_ediv, e]
  exact (Int.neg_ediv_of_dvd (gcdI_dvd_right t b)).symm
theorem num_pos {t b : Int} (hb : 0 < b) : t.fdiv ((Nat.gcd t.natAbs b.natAbs : Nat) : Int) = (Rat.divInt t b).num := by
  rw [Int.fdiv_eq_ediv_of_dvd (gcdI_dvd_left t b)]
  exact num_div hb
theorem den_posI {t b : Int} (hb : 0 < b) : b.fdiv ((Nat.gcd t.natAbs b.natAbs : Nat) : Int) = ((Rat.divInt t b).den : Int) := by
  rw [Int.fdiv_eq_ediv_of_dvd (gcdI_dvd_right t b)]
  exact den_div hb
theorem sz_divZ {t b : Int} {n d : Nat} (hb : b ≠ 0) (ht : t.natAbs < 2 ^ n) (hz : b.natAbs < 2 ^ d) : Sz n d (Rat.divInt t b) := by
  by_cases h : 0 < b
  · exact sz_div h ht hz
  · have h2 : (0 : Int) < -b := by omega
    have e : Rat.divInt t b = Rat.divInt (-t) (-b) := by
      rw [Rat.divInt_eq_divInt_iff hb (by omega)]
      rw [Int.mul_neg, Int.neg_mul]
    rw [e]
    exact sz_div h2 (by omega) (by omega)
theorem cross {t b : Int} (hb : b ≠ 0) : (Rat.divInt t b).num * b = t * ((Rat.divInt t b).den : Int) := by
  have h := Rat.num_divInt_den (Rat.divInt t b)
  have hd := den_pos (Rat.divInt t b)
  rwa [Rat.divInt_eq_divInt_iff (by omega) hb] at h
theorem sub_is (r s : Rat) : Rat.divInt (r.num * (s.den : Int) - s.num * (r.den : Int)) ((r.den : Int) * (s.den : Int)) = r - s := by
  have h1 := den_pos r
  have h2 := den_pos s
  rw [← Rat.divInt_sub_divInt r.num s.num (by omega) (by omega), Rat.num_divInt_den, Rat.num_divInt_den]
theorem lt_sub {n : Nat} {i j : Int} (ha : i.natAbs < 2 ^ n) (hb : j.natAbs < 2 ^ n) : (i - j).natAbs < 2 ^ (n + 1) := by
  rw [Nat.pow_succ]
  omega
theorem weighs_comm : ∀ (a b : List Rat), weighs (a.zip b) = weighs (b.zip a)
  | [], b => by cases b <;> rfl
  | x :: a, [] => rfl
  | x :: a, y :: b => by
    simp only [List.zip_cons_cons, weighs_cons]
    rw [weighs_comm a b, Rat.mul_comm]
/-! ### // by any divisor below 2 ^ 9000; a text so many times -/
def CDivZ (_ j : Int) : Prop := j ≠ 0 ∧ j.natAbs.log2 < 9000
theorem op_fdivZ {X : Cx} : OpR X (binaryOp .FloorDiv) (rI CDivZ fun i j => .int (i.fdiv j)) := opI fun i j _ _ _ _ _ hc q => floordiv_int hc.1 q (.inl (PyProof.noPylong_of_log2 hc.2))
theorem cdivZ {i j : Int} {b : Nat} (h : j ≠ 0) (hb : j.natAbs < 2 ^ b) (h0 : 0 < b) (h9 : b ≤ 9000) : CDivZ i j := ⟨h, Nat.lt_of_lt_of_le (PySem.Flt.log2_lt_of h0 hb) h9⟩
theorem op_mulStr {X : Cx} {x : Str} {n : Int} (hr : (decide (n < -(2 ^ 63 : Int)) || decide (n ≥ 2 ^ 63)) = false) (h1 : ¬ n < 1) (h2 : (n == 1 || x.length == 0) = false)
    (hb : ¬ ((x.length : Int) > (2 ^ 63 - 1) / n)) (hl : Builtin.Str.tooLong (x.length * n.toNat) = false) :
    OpR X (binaryOp .Mult) (fun a b H Q => a = .str x ∧ b = .int n ∧ (⟨(List.replicate n.toNat x.cps).foldl (· ++ ·) #[]⟩ : Str).length ≤ sizeLine ∧ Q (.str ⟨(List.replicate n.toNat x.cps).foldl (· ++ ·) #[]⟩) H) := by
  intro pins s σ H a b v u Q I ra rb h
  obtain ⟨rfl, rfl, hz, q⟩ := h
  obtain ⟨t, rfl⟩ := ra
  obtain ⟨t2, rfl⟩ := rb
  refine PySem.P.mul_str hr (fun _ _ => hb) (fun _ _ => hl) ?_
  rw [if_neg h1, if_neg (by rw [h2]; decide)]
  exact ⟨hz, ⟨.str _, H, I.tok _, ⟨_, rfl⟩, q⟩⟩
end Nc
end
section
set_option maxRecDepth 100000
set_option maxHeartbeats 4000000
namespace Nc
open PySem PySem.Spec PyProof.Rows L2 Evl
/-! ### promises of k02's defs -/
def spPartZ (K : PySem.W.Frag) : Sp := fun vs H Q _ => ∃ (t b : Int) (n : Nat), vs = [.int t, .int b] ∧ b ≠ 0 ∧ b.natAbs < 2 ^ n ∧ 0 < n ∧ (n ≤ 9000 ∨ (n ≤ 13500 ∧ t.natAbs < 2 ^ 13500)) ∧ ∀ v H', Ex H H' → FrV K H' v (Rat.divInt t b) → Q v H'
theorem Ok.imp {P : Program} {w : World} {K : PySem.W.Frag} {mg : Str → Option Value} {base : Heap} {k : Nat} {x : Str} {ps : List Str} {sp sp' : Sp} (D : Ok P w K mg base k x ps sp) (h : ∀ vs H Q E, sp' vs H Q E → sp vs H Q E) : Ok P w K mg base k x ps sp' := by
  obtain ⟨f, fd, g, kp, F, b⟩ := D.ex
  exact ⟨f, fd, g, kp, F.imp h, b⟩
theorem part_imp {K : PySem.W.Frag} : ∀ vs H Q E, spPart K vs H Q E → spPartZ K vs H Q E := by
  rintro vs H Q E ⟨t, b, n, h1, h2, h3, h4, h5, q⟩
  exact ⟨t, b, n, h1, by omega, h3, h4, h5, q⟩
abbrev spMinus := sp2 (· - ·)
def spRatio (K : PySem.W.Frag) : Sp := fun vs H Q _ => ∃ (x y : V) (r s : Rat) (n d m e : Nat), vs = [x, y] ∧ FrV K H x r ∧ FrV K H y s ∧ Sz n d r ∧ Sz m e s ∧ s.num ≠ 0 ∧ (0 < n ∧ 0 < d ∧ 0 < m ∧ 0 < e ∧ d + m ≤ 8900 ∧ n + m + d + e ≤ 90000000) ∧
  ∀ v H', Ex H H' → FrV K H' v (Rat.divInt (r.num * (s.den : Int)) ((r.den : Int) * s.num)) → Q v H'
def spLess (K : PySem.W.Frag) : Sp := fun vs H Q _ => ∃ (x y : V) (r s : Rat) (n d m e : Nat), vs = [x, y] ∧ FrV K H x r ∧ FrV K H y s ∧ Sz n d r ∧ Sz m e s ∧ (0 < n ∧ 0 < d ∧ 0 < m ∧ 0 < e ∧ n + m + d + e ≤ 90000000) ∧ Q (.bl (decide (r.num * (s.den : Int) < s.num * (r.den : Int)))) H
/-- the greatest shared divisor -/
def spCommon : Sp := fun vs H Q _ => ∃ a b : Int, vs = [.int a, .int b] ∧ 0 ≤ a ∧ 0 < b ∧ Q (.int ((Nat.gcd a.natAbs b.natAbs : Nat) : Int)) H
/-- a whole number of so many bits at most -/
def spInt (n : Nat) : Sp := fun vs H Q _ => ∃ s : Addr, vs = [.ref s] ∧ Stm s H ∧ ∀ d H', d.natAbs < 2 ^ n → Dr s H H' → Q (.int d) H'
/-- the found fraction is that of a top and a bottom -/
def spIs (K : PySem.W.Frag) : Sp := fun vs H Q _ => ∃ (x : V) (t b : Int) (n : Nat), vs = [x, .int t, .int b] ∧ b ≠ 0 ∧ FrV K H x (Rat.divInt t b) ∧ t.natAbs < 2 ^ n ∧ b.natAbs < 2 ^ n ∧ 0 < n ∧ n ≤ 400000 ∧ ∀ H', Ex H H' → Q (.bl true) H'
def spPair (K : PySem.W.Frag) : Sp := fun vs H Q _ => ∃ (x y : V) (r s : Rat), vs = [x, y] ∧ FrV K H x r ∧ FrV K H y s ∧ Sz 2700 200 r ∧ Sz 2700 200 s ∧ ∀ H', Ex H H' → Q (.bl true) H'
/-- a row of at most six long ones, or of at most thirty-one short ones -/
def SzR (L : List Rat) : Prop := (L.length ≤ 6 ∧ SzL 1330 100 L) ∨ (L.length ≤ 31 ∧ SzL 4 4 L)
def spRow2 (K : PySem.W.Frag) : Sp := fun vs H Q _ => ∃ (s : Addr) (k : Nat), vs = [.ref s, .int (k : Int)] ∧ Stm s H ∧ k ≤ 31 ∧ ∀ v L H', Dr s H H' → RowV K H' v L → L.length = k → SzR L → (6 < k → SzL 4 4 L) → Q v H'
/-- what two rows come to, not divided -/
def spDue (K : PySem.W.Frag) : Sp := fun vs H Q _ => ∃ (x y : V) (a b : List Rat), vs = [x, y] ∧ RowV K H x a ∧ RowV K H y b ∧ a.length = b.length ∧ SzR a ∧ SzR b ∧ a.length ≤ 31 ∧
  ∀ (p : Addr) (t u : Int) H', Ex H H' → SqT K H' p [.int t, .int u] → 0 < u → weighs (a.zip b) = Rat.divInt t u → t.natAbs < 2 ^ 90000 → u.natAbs < 2 ^ 90000 → Q (.ref p) H'
end Nc
end
section
set_option maxRecDepth 100000
set_option maxHeartbeats 4000000
namespace Nc
open PySem PySem.Spec PyProof.Rows L2 Evl
/-! ### coarser rules: a new object by what it holds -/
def tTupE (t : TA) : TE := fun σ H Q => t σ H fun xs H1 => xs.length ≤ sizeLine ∧ ∀ p H2, H1 p = none → Ex H1 H2 → H2 p = some (.tup xs) → Q (.ref p) H2
def tLstE (t : TA) : TE := fun σ H Q => t σ H fun xs H1 => xs.length ≤ sizeLine ∧ ∀ p H2, H1 p = none → Ex H1 H2 → H2 p = some (.lst xs) → Q (.ref p) H2
def tDicE : TE := fun _ H Q => ∀ p H2, H p = none → Ex H H2 → H2 p = some (.dK []) → Q (.ref p) H2
section
variable {X : Cx} {es : List Expr} {t : TA} {pos : Pos}
theorem pe_tupE {x1} (h : PA X es t) : PE X (.Tuple es x1 pos) (tTupE t) := by
  constructor
  intro pins s σ H Q I hq
  refine wpAny_Tuple_spliced (thn (h.run _ pins s σ H _ I hq) ?_)
  rintro us s2 ⟨vs, H2, J, rv, sz, k⟩
  have fr := J.fresh
  refine ⟨rv.length ▸ sz, .ref _, _, J.laid (o := .tup vs) (t' := s2.toks) (fun _ _ => Heap.get?_push_of_some _) (Nat.le_refl _) ⟨sz, us, rv, _, Heap.get?_push_size _ rfl, rfl, _, rfl⟩, rfl, k _ _ fr (Ex.new fr) upd_same⟩
theorem pe_lstE (h : PA X es t) : PE X (.List es pos) (tLstE t) := by
  constructor
  intro pins s σ H Q I hq
  refine wpAny_List_spliced (thn (h.run _ pins s σ H _ I hq) ?_)
  rintro us s2 ⟨vs, H2, J, rv, sz, k⟩
  have fr := J.fresh
  refine ⟨rv.length ▸ sz, .ref _, _, J.laid (o := .lst vs) (t' := s2.toks) (fun _ _ => Heap.get?_push_of_some _) (Nat.le_refl _) ⟨sz, us, 0, rv, Heap.get?_push_size _ rfl⟩, rfl, k _ _ fr (Ex.new fr) upd_same⟩
theorem pe_dicE : PE X (.Dict [] [] pos) tDicE := ⟨fun pins s σ H Q I h => pe_dnewK.run pins s σ H Q I fun p hp => h p _ hp (Ex.new hp) upd_same⟩
def rCatE : R2 := fun x y H Q => ∃ l b xs zs, x = .ref l ∧ y = .ref b ∧ H l = some (.lst xs) ∧ H b = some (.lst zs) ∧ xs.length + zs.length ≤ sizeLine ∧ ∀ p H2, H p = none → Ex H H2 → H2 p = some (.lst (xs ++ zs)) → Q (.ref p) H2
theorem op_catE : OpR X (binaryOp .Add) rCatE := by
  intro pins s σ H x y v u Q I rx ry h
  obtain ⟨l, b, xs, zs, e1, e2, hH, hB, hz, q⟩ := h
  exact op_cat pins s σ H x y v u Q I rx ry ⟨l, b, xs, zs, e1, e2, hH, hB, hz, fun p hp => q p _ hp (Ex.new hp) upd_same⟩
def rSlE (K : PySem.W.Frag) : V → Option Int → Option Int → Hp → VK → Prop := fun x lo hi H Q => ∃ a xs, x = .ref a ∧ SqL K H a xs ∧ ∀ p H2, H p = none → Ex H H2 → H2 p = some (.lst (cutV xs lo hi)) → Q (.ref p) H2
theorem sl_listE : SlR X (rSlE X.K) := by
  intro pins s σ H x v vl vu lo hi sl Q I rx hs pl pu h
  obtain ⟨a, xs, e, hx, q⟩ := h
  exact sl_list pins s σ H x v vl vu lo hi sl Q I rx hs pl pu ⟨a, xs, e, hx, fun p hp => q p _ hp (Ex.new hp) upd_same⟩
def rTupE (K : PySem.W.Frag) : List V → Hp → VK → Prop := fun vs H Q => ∃ p ys, vs = [.ref p] ∧ SqL K H p ys ∧ ∀ l H2, H l = none → Ex H H2 → H2 l = some (.tup ys) → Q (.ref l) H2
theorem call_tupE : CallR X (.type "tuple") (rTupE X.K) := by
  intro pins s σ H vs us Q I r h
  obtain ⟨p, ys, e, hq, q⟩ := h
  exact call_tuple_of pins s σ H vs us Q I r ⟨p, ys, e, .inl ⟨hq, fun p hp => q p _ hp (Ex.new hp) upd_same⟩⟩
def rLstE (K : PySem.W.Frag) : List V → Hp → VK → Prop := fun vs H Q => ∃ p ys, vs = [.ref p] ∧ SqL K H p ys ∧ ∀ l H2, H l = none → Ex H H2 → H2 l = some (.lst ys) → Q (.ref l) H2
theorem call_lstE : CallR X (.type "list") (rLstE X.K) := by
  intro pins s σ H vs us Q I r h
  obtain ⟨p, ys, e, hq, q⟩ := h
  exact call_list_of pins s σ H vs us Q I r ⟨p, ys, e, .inl hq, fun p hp => q p _ hp (Ex.new hp) upd_same⟩
/-! ### a list == [] -/
def rEqNil (K : PySem.W.Frag) : R2 := fun x y H Q => ∃ a b xs, x = .ref a ∧ y = .ref b ∧ SqL K H a xs ∧ SqL K H b [] ∧ Q (.bl xs.isEmpty) H
theorem op_eqNil (hu : X.A.units + 64 < cLine) : OpR X (compareOp .Eq) (rEqNil X.K) := by
  intro pins s σ H x y v u Q I rx ry h
  obtain ⟨a, b, xs, rfl, rfl, ha, hb, q⟩ := h
  cases rx
  cases ry
  obtain ⟨its, r1, p1, _⟩ := I.list ha
  obtain ⟨its2, r2, p2, _⟩ := I.list hb
  cases r2
  cases r1 with
  | nil =>
    refine SeqAt.eq_listAt (e := fun _ => true) p1.isList p2.isList rfl (by omega) (fun j h1 _ => absurd h1 (Nat.not_lt_zero j)) ?_
    exact ⟨.bl true, H, I, rfl, q⟩
  | cons h1 h2 =>
    refine SeqAt.eq_list_lengthsAt p1.isList p2.isList (by simp) (by omega) ?_
    exact ⟨.bl false, H, I, rfl, q⟩
end
/-! ### a def of the top whose promise holds where no repr is under way -/
structure GO (P : Program) (w : World) (K : PySem.W.Frag) (mg : Str → Option Value) (base : Heap) (k : Nat) (x : Str) (ps : List Str) (sp : Sp) : Prop where
  ex : ∃ f fd, mg x = some (.ref f) ∧ PySem.W.keepIn K (.ref f) = true ∧ GOk P w K mg base k f fd ps sp ∧ Binds K fd ps []
theorem Df.go {P : Program} {w : World} {K : PySem.W.Frag} {mg : Str → Option Value} {base : Heap} {k : Nat} {x : Str} {st : Stmt} {ps : List Str} {sp : Sp} (D : Df K mg x st ps)
    (h : ∀ f fd, Fun K x x st f fd → GOk P w K mg base k f fd ps sp) : GO P w K mg base k x ps sp := by
  obtain ⟨f, fd, g, F, b⟩ := D.ex
  exact ⟨f, fd, g, F.kp, h f fd F, b⟩
section
variable {X : Cx} {k : Nat} {x : Str} {ps : List Str} {sp : Sp} {e : Expr} {es : List Expr} {t : TA} {p pos : Pos}
theorem clg (D : GO X.prog X.w X.K X.mg X.base k x ps sp) (hG : X.A.guards = some []) (hr : Room k X.A) (ha : PA X (e :: es) t) (hg : Gl X x := by rfl) (hdb : (x == ("__debug__" : Str)) = false := by decide)
    (he : starEach (e :: es) X.env = (false, eval e X.env) :: starEach es X.env := by rfl) (hpl : (backTo pos (starEach es X.env)).any (·.1) = false := by rfl) : PE X (.Call (.Name x p) (e :: es) [] pos) (tCall sp [] E0 t) := by
  obtain ⟨f, fd, g, kp, F, b⟩ := D.ex
  exact clG F hG hr g kp b ha hg hdb he hpl
end
/-! ### kinds -/
inductive Kn where
  | non | bl | int | str | tup | lst | dic
  deriving DecidableEq
def Kn.nm : Kn → String
  | .non => "NoneType" | .bl => "bool" | .int => "int" | .str => "str" | .tup => "tuple" | .lst => "list" | .dic => "dict"
def KdV (K : PySem.W.Frag) (H : Hp) (v : V) (k : Kn) : Prop := TyX K H v (.type k.nm) ∧ (k = .int → ∃ i, v = .int i)
theorem kd_int (k : Kn) : kitB k.nm "int" = some (decide (k = .int) || decide (k = .bl)) := by cases k <;> decide +kernel
theorem kd_bool (k : Kn) : kitB k.nm "bool" = some (decide (k = .bl)) := by cases k <;> decide +kernel
theorem kd_tup (k : Kn) : kitB k.nm "tuple" = some (decide (k = .tup)) := by cases k <;> decide +kernel
section
variable {K : PySem.W.Frag} {H H' : Hp} {s : Addr}
theorem tyL {t : Addr} {xs : List V} (q : SqL K H t xs) : TyX K H (.ref t) (.type "list") := by
  rcases q with (q | ⟨o, q⟩) | ⟨o, us, n, hk, hc, _⟩
  · exact .base (.lst q)
  · exact .base (.frz q)
  · exact .kList hk (by assumption)
/-- a small thing -/
inductive Lf : V → Prop
  | non : Lf .non
  | bl (b : Bool) : Lf (.bl b)
  | int (i : Int) (h : i.natAbs < 2 ^ 250) : Lf (.int i)
  | str (x : Str) (h : x ∈ [("1" : Str), "1/2", "", "a", "a b", "late", "b", "c"]) : Lf (.str x)
theorem Lf.kd {v : V} (h : Lf v) : ∃ k, KdV K H v k ∧ k ≠ .tup := by
  cases h with
  | non => exact ⟨.non, ⟨.base .non, fun z => by cases z⟩, by decide⟩
  | bl b => exact ⟨.bl, ⟨.base (.bl b), fun z => by cases z⟩, by decide⟩
  | int i h => exact ⟨.int, ⟨.base (.int i), fun _ => ⟨i, rfl⟩⟩, by decide⟩
  | str x h => exact ⟨.str, ⟨.base (.str x), fun z => by cases z⟩, by decide⟩
/-- a thing as the law draws it: s is the stream -/
inductive Bt (K : PySem.W.Frag) (s : Addr) (H : Hp) : V → Prop
  | leaf {v} (h : Lf v) : Bt K s H v
  | tup {t xs} (q : SqT K H t xs) (h : ∀ x ∈ xs, Lf x) (n : xs.length ≤ 3) : Bt K s H (.ref t)
  | lst {a xs} (q : H a = some (.lst xs)) (e : a ≠ s) (h : ∀ x ∈ xs, Lf x) (n : xs.length ≤ 3) : Bt K s H (.ref a)
  | dic {a} (q : H a = some (.dK [])) : Bt K s H (.ref a)
  | two {t u xs} (q : SqT K H t [.ref u, .ref u]) (p : SqT K H u xs) (h : ∀ x ∈ xs, Lf x) (n : xs.length ≤ 3) : Bt K s H (.ref t)
theorem Bt.ex {v : V} (e : Ex H H') (h : Bt K s H v) : Bt K s H' v := by
  cases h with
  | leaf h => exact .leaf h
  | tup q h n => exact .tup (ex_t e q) h n
  | lst q d h n => exact .lst (e _ _ q) d h n
  | dic q => exact .dic (e _ _ q)
  | two q p h n => exact .two (ex_t e q) (ex_t e p) h n
theorem Bt.dr {v : V} (hs : Stm s H) (d : Dr s H H') (h : Bt K s H v) : Bt K s H' v := by
  cases h with
  | leaf h => exact .leaf h
  | tup q h n => exact .tup (sqt_dr hs d q) h n
  | lst q e h n => exact .lst (d.keep _ _ e q) e h n
  | dic q =>
    obtain ⟨a, b, c, e⟩ := id hs
    exact .dic (d.keep _ _ (ne_of q e (by intro z; cases z)) q)
  | two q p h n => exact .two (sqt_dr hs d q) (sqt_dr hs d p) h n
theorem FrV.bt {v : V} {r : Rat} (h : FrV K H v r) (z : Sz 250 250 r) : Bt K s H v := by
  obtain ⟨t, rfl, q⟩ := h
  refine .tup q (fun x hx => ?_) (by show 2 ≤ 3; decide)
  simp only [List.mem_cons, List.not_mem_nil, or_false] at hx
  rcases hx with rfl | rfl
  · exact .int _ z.1
  · exact .int _ z.den
/-- whether a thing is a fraction -/
inductive Th (K : PySem.W.Frag) (H : Hp) : V → Bool → Prop
  | oth {v k} (h : KdV K H v k) (n : k ≠ .tup) : Th K H v false
  | tupN {t xs} (q : SqT K H t xs) (n : xs.length ≠ 2) : Th K H (.ref t) false
  | two {t x y kx ky} (q : SqT K H t [x, y]) (hx : KdV K H x kx) (hy : KdV K H y ky) (n : ¬ (kx = .int ∧ ky = .int)) : Th K H (.ref t) false
  | nums {t a b} (q : SqT K H t [.int a, .int b]) : Th K H (.ref t) (decide (0 < b) && decide (Nat.gcd a.natAbs b.natAbs = 1))
theorem th_tup {t : Addr} {xs : List V} (q : SqT K H t xs) (h : ∀ x ∈ xs, ∃ k, KdV K H x k) : ∃ b, Th K H (.ref t) b := by
  match xs, q, h with
  | [], q, _ => exact ⟨_, .tupN q (by simp)⟩
  | [_], q, _ => exact ⟨_, .tupN q (by simp)⟩
  | _ :: _ :: _ :: _, q, _ => exact ⟨_, .tupN q (by simp)⟩
  | [x, y], q, h =>
    obtain ⟨kx, hx⟩ := h x (by simp)
    obtain ⟨ky, hy⟩ := h y (by simp)
    by_cases e : kx = .int ∧ ky = .int
    · obtain ⟨a, rfl⟩ := hx.2 e.1
      obtain ⟨b, rfl⟩ := hy.2 e.2
      exact ⟨_, .nums q⟩
    · exact ⟨_, .two q hx hy e⟩
theorem Bt.th {v : V} (h : Bt K s H v) : ∃ b, Th K H v b := by
  cases h with
  | leaf h =>
    obtain ⟨k, hk, n⟩ := h.kd (K := K) (H := H)
    exact ⟨_, .oth hk n⟩
  | tup q h n => exact th_tup q fun x hx => (h x hx).kd.imp fun _ => And.left
  | lst q e h n => exact ⟨_, .oth (k := .lst) ⟨tyL (sq_of q), fun z => by cases z⟩ (by decide)⟩
  | dic q => exact ⟨_, .oth (k := .dic) ⟨.base (.dK q), fun z => by cases z⟩ (by decide)⟩
  | two q p h n =>
    refine th_tup q fun x hx => ?_
    simp only [List.mem_cons, List.not_mem_nil, or_false, or_self] at hx
    subst hx
    exact ⟨.tup, tyT p, fun z => by cases z⟩
theorem Bt.kd {v : V} (h : Bt K s H v) : ∃ k, KdV K H v k := by
  cases h with
  | leaf h => exact h.kd.imp fun _ => And.left
  | tup q h n => exact ⟨.tup, tyT q, fun z => by cases z⟩
  | lst q e h n => exact ⟨.lst, tyL (sq_of q), fun z => by cases z⟩
  | dic q => exact ⟨.dic, .base (.dK q), fun z => by cases z⟩
  | two q p h n => exact ⟨.tup, tyT q, fun z => by cases z⟩
end
/-! ### repr of such things -/
/-- what repr of v tells here -/
inductive Rp (K : PySem.W.Frag) (H : Hp) : V → Str → Prop
  | non : Rp K H .non "None"
  | bl (b : Bool) : Rp K H (.bl b) (if b then "True" else "False")
  | int (i : Int) (h : i.natAbs.log2 < 1920) : Rp K H (.int i) (toString i)
  | str (x : Str) (h : (reprText x).length ≤ sizeLine) : Rp K H (.str x) (reprText x)
  | dat {a d} (h : Dp K H (.ref a) d) (h1 : d.showable = true) (h2 : d.hasDict = false) (h3 : d.depth ≤ 60) (h4 : d.shown.length ≤ sizeLine) : Rp K H (.ref a) d.shown
  | dic {a} (q : H a = some (.dK [])) : Rp K H (.ref a) (PyData.dict []).shown
def rRp (K : PySem.W.Frag) : List V → Hp → VK → Prop := fun vs H Q => ∃ v x, vs = [v] ∧ Rp K H v x ∧ Q (.str x) H
theorem room {u : Nat} (hu : u + 64 < cLine) : u + ((PyData.dict []).depth + 1) < cLine := by
  have : (PyData.dict []).depth ≤ 2 := by decide
  omega
theorem call_rp {X : Cx} (hG : X.A.guards = some []) (hu : X.A.units + 64 < cLine) : CallR X (.builtin "repr") (rRp X.K) := by
  intro pins s σ H xs us Q I r h
  obtain ⟨v, x, rfl, h, q⟩ := h
  cases h with
  | non =>
    obtain ⟨u, rfl, rx⟩ := vals1 r
    cases (show u = Value.none from rx)
    exact PySem.P.repr_of_none ⟨.str _, H, I.tok _, ⟨_, rfl⟩, q⟩
  | bl b =>
    obtain ⟨u, rfl, rx⟩ := vals1 r
    cases (show u = Value.bool b from rx)
    exact PySem.P.repr_of_bool ⟨.str _, H, I.tok _, ⟨_, rfl⟩, q⟩
  | int i hz =>
    obtain ⟨u, rfl, t, rfl⟩ := vals1 r
    exact PySem.P.repr_of_int hz ⟨.str _, H, I.tok _, ⟨_, rfl⟩, q⟩
  | str x hz =>
    obtain ⟨u, rfl, t, rfl⟩ := vals1 r
    exact PySem.P.repr_of_str ⟨.str _, H, I.tok _, ⟨_, rfl⟩, q⟩ hz
  | dat h h1 h2 h3 h4 => exact call_reprD hG hu pins s σ H _ us Q I r ⟨_, _, rfl, h, ⟨_, rfl⟩, h1, h2, h3, h4, q⟩
  | @dic a hq =>
    obtain ⟨u, rfl, rx⟩ := vals1 r
    cases (show u = Value.ref a from rx)
    obtain ⟨_, ya, va, ra, o, es, ep, g1, g2, g3, g4⟩ := (show ObjOk X.prog X.w H s.heap a (.dK []) from I.hok a _ hq)
    cases ra
    have he : es.toList = [] := by
      have hp := g4.2.1
      generalize es.toList = l at hp
      cases hp
      rfl
    have R : Reads s.heap (.ref a) (.dict []) ([a] ++ [] ++ []) := by
      refine Reads.dict g1 g2.1 g3 ?_ ?_
      · rw [he]
        exact .nil
      · rw [he]
        exact .nil
    refine repr_of_reads' R rfl (fun _ hm => ?_) hG (room hu) (fun _ _ z => z) (fun h' u tk kp => ⟨.str _, H, I.kept (t' := tk) kp, ⟨u, rfl⟩, q⟩) (by decide)
    simp only [List.append_nil, List.mem_singleton] at hm
    subst hm
    simp at ya
/-! ### data of such things -/
def lfD : V → PyData
  | .bl b => .bool b
  | .int i => .int i
  | .str x => .str x
  | _ => .none
section
variable {K : PySem.W.Frag} {H : Hp} {s : Addr}
theorem Lf.dp {v : V} (h : Lf v) : Dp K H v (lfD v) := by
  cases h with
  | non => exact .non
  | bl b => exact .bl b
  | int i h => exact .int i
  | str x h => exact .str x
theorem lfs_dp : ∀ {xs : List V}, (∀ x ∈ xs, Lf x) → DpAll K H xs (xs.map lfD)
  | [], _ => .nil
  | x :: xs, h => .cons (h x (by simp)).dp (lfs_dp fun y hy => h y (by simp [hy]))
theorem log2_lt {i : Int} (h : i.natAbs < 2 ^ 250) : i.natAbs.log2 < 1920 := Nat.lt_of_lt_of_le (PySem.Flt.log2_lt_of (by decide) h) (by decide)
theorem Lf.sh {v : V} (h : Lf v) : (lfD v).showable = true ∧ (lfD v).hasDict = false ∧ (lfD v).depth = 0 ∧ (lfD v).leavesShort 92 = true ∧ (lfD v).bulk ≤ 4 := by
  cases h with
  | non => exact ⟨rfl, rfl, rfl, rfl, by decide⟩
  | bl b => exact ⟨rfl, rfl, rfl, rfl, by show 0 ≤ 4; decide⟩
  | int i h =>
    refine ⟨decide_eq_true (log2_lt h), rfl, rfl, decide_eq_true ?_, by show 0 ≤ 4; decide⟩
    have h10 : i.natAbs < 10 ^ 91 := Nat.lt_of_lt_of_le h (by decide +kernel)
    have := int_text_length_le10 (k := 91) (by decide) h10
    show (Str.ofString (toString i)).length ≤ 92
    rw [PySem.ofString_length]
    exact this
  | str x h =>
    simp only [List.mem_cons, List.not_mem_nil, or_false] at h
    rcases h with rfl | rfl | rfl | rfl | rfl | rfl | rfl | rfl <;> exact ⟨rfl, rfl, rfl, by decide, by decide⟩
theorem lfs_sh : ∀ {xs : List V}, (∀ x ∈ xs, Lf x) → PyData.showableAll (xs.map lfD) = true ∧ PyData.hasDictAll (xs.map lfD) = false ∧ PyData.depthAll (xs.map lfD) = 0 ∧ PyData.leavesShortAll 92 (xs.map lfD) = true ∧ PyData.bulkAll (xs.map lfD) ≤ 5 * xs.length
  | [], _ => ⟨rfl, rfl, rfl, rfl, Nat.le_refl _⟩
  | x :: xs, h => by
    obtain ⟨a1, a2, a3, a4, a5⟩ := (h x (by simp)).sh
    obtain ⟨b1, b2, b3, b4, b5⟩ := lfs_sh (xs := xs) fun y hy => h y (by simp [hy])
    simp only [List.map_cons, PyData.showableAll, PyData.hasDictAll, PyData.depthAll, PyData.leavesShortAll, PyData.bulkAll, a1, a2, a3, a4, b1, b2, b3, b4, Bool.and_self, Bool.or_self, List.length_cons, Nat.max_self, true_and]
    omega
theorem shown_fits {d : PyData} (h : d.leavesShort 92 = true) (hb : d.bulk ≤ 60) : d.shown.length ≤ sizeLine := by
  have h1 := PyData.shown_le_bulk 92 (by decide) d h
  have h2 : (92 + 2) * d.bulk + 92 ≤ 10000 := by omega
  have h3 : 10000 ≤ sizeLine := by decide
  omega
theorem Bt.rp {v : V} (h : Bt K s H v) : ∃ x, Rp K H v x := by
  cases h with
  | leaf h =>
    cases h with
    | non => exact ⟨_, .non⟩
    | bl b => exact ⟨_, .bl b⟩
    | int i h => exact ⟨_, .int i (log2_lt h)⟩
    | str x h =>
      refine ⟨_, .str x ?_⟩
      obtain ⟨_, _, _, a4, a5⟩ := (Lf.str x h).sh
      have z := shown_fits a4 (by omega)
      simpa only [lfD, PyData.shown] using z
  | tup q h n =>
    obtain ⟨b1, b2, b3, b4, b5⟩ := lfs_sh h
    refine ⟨_, .dat (.tup q (lfs_dp h)) b1 b2 ?_ (shown_fits b4 ?_)⟩
    · show PyData.depthAll _ + 1 ≤ 60
      omega
    · show PyData.bulkAll _ ≤ 60
      omega
  | lst q e h n =>
    obtain ⟨b1, b2, b3, b4, b5⟩ := lfs_sh h
    refine ⟨_, .dat (.lst (sq_of q) (lfs_dp h)) b1 b2 ?_ (shown_fits b4 ?_)⟩
    · show PyData.depthAll _ + 1 ≤ 60
      omega
    · show PyData.bulkAll _ ≤ 60
      omega
  | dic q => exact ⟨_, .dic q⟩
  | @two t u xs q p h n =>
    obtain ⟨b1, b2, b3, b4, b5⟩ := lfs_sh h
    have hd : Dp K H (.ref u) (.tuple (xs.map lfD)) := .tup p (lfs_dp h)
    refine ⟨_, .dat (d := .tuple [.tuple (xs.map lfD), .tuple (xs.map lfD)]) (.tup q (.cons hd (.cons hd .nil))) ?_ ?_ ?_ (shown_fits ?_ ?_)⟩
    · simp only [PyData.showable, PyData.showableAll, b1, Bool.and_self]
    · simp only [PyData.hasDict, PyData.hasDictAll, b2, Bool.or_self]
    · simp only [PyData.depth, PyData.depthAll, b3]
      decide
    · simp only [PyData.leavesShort, PyData.leavesShortAll, b4, Bool.and_self]
    · simp only [PyData.bulk, PyData.bulkAll]
      omega
end
end Nc
end
set_option maxRecDepth 100000
set_option maxHeartbeats 4000000
namespace Nc
open PySem PySem.Spec PyProof.Rows L2 Evl
section
variable {K : PySem.W.Frag} {H H' : Hp}
/-! ### nodes, layers -/
def NodesV (K : PySem.W.Frag) (H : Hp) (v : V) (zs : List Sum2) : Prop := ∃ t xs, v = .ref t ∧ SqT K H t xs ∧ Paired (SumV K H) xs zs
theorem NodesV.ex {v : V} {zs : List Sum2} (e : Ex H H') (h : NodesV K H v zs) : NodesV K H' v zs := by
  obtain ⟨t, xs, rfl, q, l⟩ := h
  exact ⟨t, xs, rfl, ex_t e q, pmono (fun _ _ => SumV.ex e) l⟩
def NodeOk (n : Nat) (zs : List Sum2) : Prop := ∀ z ∈ zs, z.1.length = n ∧ SzL 100 100 z.1 ∧ Sz 100 100 z.2
def LayerAt (C : Addr) (H : Hp) (p : Addr) (v : V) : Prop := ∃ dx, H p = some (.ins C dx [(("_nodes" : Str), v)])
theorem LayerAt.ex {C p : Addr} {v : V} (e : Ex H H') (h : LayerAt C H p v) : LayerAt C H' p v := by
  obtain ⟨dx, h⟩ := h
  exact ⟨dx, e _ _ h⟩
def cutR (r : Rat) : Rat := if r.num < 0 then 0 else r
def passR (c : Bool) (l : List Rat) : List Rat := if c = true then l.map cutR else l
/-! ### methods -/
structure Md (K : PySem.W.Frag) (C : Addr) (m qual : Str) (st : Stmt) (ps : List Str) : Prop where
  ex : ∃ f fd, Meth K C m f ∧ Fun K m qual st f fd ∧ Binds K fd ps []
structure MOk (P : Program) (w : World) (K : PySem.W.Frag) (mg : Str → Option Value) (base : Heap) (k : Nat) (C : Addr) (m : Str) (ps : List Str) (sp : Sp) : Prop where
  ex : ∃ f fd, Meth K C m f ∧ FnOk P w K mg base CX0 k f fd ps sp ∧ Binds K fd ps []
theorem Md.ok {P : Program} {w : World} {mg : Str → Option Value} {base : Heap} {k : Nat} {C : Addr} {m qual : Str} {st : Stmt} {ps : List Str} {sp : Sp} (D : Md K C m qual st ps)
    (h : ∀ f fd, Fun K m qual st f fd → FnOk P w K mg base CX0 k f fd ps sp) : MOk P w K mg base k C m ps sp := by
  obtain ⟨f, fd, g, F, b⟩ := D.ex
  exact ⟨f, fd, g, h f fd F, b⟩
/-! ### promises -/
def spReck (K : PySem.W.Frag) : Sp := fun vs H Q _ => ∃ (x y : V) (zs : List Sum2) (L : List Rat), vs = [x, y] ∧ NodesV K H x zs ∧ RowV K H y L ∧ NodeOk L.length zs ∧ L.length ≤ 20 ∧ zs.length ≤ 50 ∧ SzL 100 100 L ∧ ∀ v H', Ex H H' → RowV K H' v (zs.map fun z => tells z L) → Q v H'
def spCutN (K : PySem.W.Frag) : Sp := fun vs H Q _ => ∃ (x : V) (r : Rat), vs = [x] ∧ FrV K H x r ∧ ∀ v, FrV K H v (cutR r) → Q v H
def spInitL (K : PySem.W.Frag) (C : Addr) : Sp := fun vs H Q _ => ∃ (p dx a : Addr) (xs : List V) (zs : List Sum2), vs = [.ref p, .ref a] ∧ H p = some (.ins C dx []) ∧ (SqL K H a xs ∨ SqT K H a xs) ∧ Paired (SumV K H) xs zs ∧
  ∀ H' v, (∀ b o, b ≠ p → H b = some o → H' b = some o) → LayerAt C H' p v → NodesV K H' v zs → Q .non H'
def spToldL (C : Addr) : Sp := fun vs H Q _ => ∃ (p : Addr) (v : V), vs = [.ref p] ∧ LayerAt C H p v ∧ Q v H
def spPass (K : PySem.W.Frag) (C : Addr) (c : Bool) : Sp := fun vs H Q _ => ∃ (p : Addr) (v y : V) (zs : List Sum2) (L : List Rat), vs = [.ref p, y] ∧ LayerAt C H p v ∧ NodesV K H v zs ∧ RowV K H y L ∧ NodeOk L.length zs ∧ L.length ≤ 20 ∧ zs.length ≤ 50 ∧ SzL 100 100 L ∧
  ∀ v H', Ex H H' → RowV K H' v (passR c (zs.map fun z => tells z L)) → Q v H'
def spIsRow (K : PySem.W.Frag) : Sp := fun vs H Q _ => ∃ (x y : V) (L : List Rat), vs = [x, y] ∧ RowV K H x L ∧ RowV K H y L ∧ L.length ≤ 100 ∧ ∀ H', Ex H H' → Q (.bl true) H'
def spNode (K : PySem.W.Frag) : Sp := fun vs H Q _ => ∃ (s : Addr) (k : Nat), vs = [.ref s, .int (k : Int)] ∧ Stm s H ∧ k ≤ 20 ∧ ∀ v z H', Dr s H H' → SumV K H' v z → z.1.length = k → SzL 100 100 z.1 → Sz 100 100 z.2 → Q v H'
def spOne (K : PySem.W.Frag) (C : Addr) (c : Bool) : Sp := fun vs H Q _ => ∃ (p an ar : Addr) (v : V) (xs ys : List V) (zs : List Sum2) (Ls : List (List Rat)) (n : Nat), vs = [.ref p, .bl c, .ref an, .ref ar] ∧ LayerAt C H p v ∧ NodesV K H v zs ∧ SqL K H an xs ∧ Paired (SumV K H) xs zs ∧
  SqL K H ar ys ∧ Paired (RowV K H) ys Ls ∧ NodeOk n zs ∧ (∀ L ∈ Ls, L.length = n ∧ SzL 100 100 L) ∧ n ≤ 20 ∧ zs.length ≤ 50 ∧ ∀ H', Ex H H' → Q (.bl true) H'
/-! ### data of nodes -/
theorem sums_dp : ∀ {xs : List V} {zs : List Sum2}, Paired (SumV K H) xs zs → DpAll K H xs (zs.map sd)
  | _, _, .nil => .nil
  | _, _, .cons a t => .cons a.dp (sums_dp t)
end
theorem lay_sds : ∀ zs : List Sum2, PyData.canLayAll0 (zs.map sd) = true
  | [] => rfl
  | z :: zs => by
    show ((sd z).canLay0 && PyData.canLayAll0 (zs.map sd)) = true
    rw [lay_sd, lay_sds zs]
    rfl
theorem depth_sds : ∀ zs : List Sum2, PyData.depthAll (zs.map sd) ≤ 4
  | [] => Nat.zero_le _
  | z :: zs => by
    have ih := depth_sds zs
    have h1 := depthAll_fd z.1
    have h2 : PyData.depth (fd z.2) = 1 := rfl
    show max (max (PyData.depthAll (z.1.map fd) + 1) (max (PyData.depth (fd z.2)) 0) + 1) (PyData.depthAll (zs.map sd)) ≤ 4
    omega
theorem shaped_sds (zs : List Sum2) : SeqAt.shaped (.tuple (zs.map sd)) = true := by
  unfold SeqAt.shaped
  have h : (PyData.tuple (zs.map sd)).canLay0 = true := lay_sds zs
  rw [h, Bool.true_and]
  refine decide_eq_true ?_
  have := depth_sds zs
  show PyData.depthAll (zs.map sd) + 1 ≤ 64
  omega
theorem eqv_sds (zs : List Sum2) : PyData.eqv (.tuple (zs.map sd)) (.tuple (zs.map sd)) = true := SeqAt.eqv_refl _ (lay_sds zs)
theorem sz_cut {r : Rat} : cutR r = 0 ∨ cutR r = r := by
  unfold cutR
  split
  · exact .inl rfl
  · exact .inr rfl
end Nc
section
namespace Nc
/-! ### bottoms that divide a shared number -/
theorem den_of_div {k : Int} {D : Nat} (hD : 0 < D) : (Rat.divInt k (D : Int)).den ∣ D := by
  rw [Rat.den_divInt, if_neg (by omega)]
  exact Nat.div_dvd_of_dvd (Nat.gcd_dvd_left _ _)
theorem div_of_den {r : Rat} {D : Nat} (hD : 0 < D) (h : r.den ∣ D) : ∃ k : Int, r = Rat.divInt k (D : Int) := by
  obtain ⟨c, rfl⟩ := h
  have hc : 0 < c := Nat.pos_of_ne_zero fun z => by
    rw [z, Nat.mul_zero] at hD
    omega
  refine ⟨r.num * (c : Int), ?_⟩
  rw [Int.natCast_mul, Rat.divInt_mul_right (by omega), Rat.num_divInt_den]
/-- a top below 2 ^ n, a bottom that divides D -/
def Sv (n D : Nat) (r : Rat) : Prop := r.num.natAbs < 2 ^ n ∧ r.den ∣ D
def SvL (n D : Nat) (l : List Rat) : Prop := ∀ r ∈ l, Sv n D r
theorem Sv.mono {n m D E : Nat} {r : Rat} (h : Sv n D r) (hn : n ≤ m) (hD : D ∣ E) : Sv m E r := ⟨lt_mono h.1 hn, Nat.dvd_trans h.2 hD⟩
theorem SvL.mono {n m D E : Nat} {l : List Rat} (h : SvL n D l) (hn : n ≤ m) (hD : D ∣ E) : SvL m E l := fun r hr => (h r hr).mono hn hD
theorem Sv.sz {n D d : Nat} {r : Rat} (h : Sv n D r) (hD : 0 < D) (hd : D < 2 ^ d) : Sz n d r := ⟨h.1, Nat.lt_of_le_of_lt (Nat.le_of_dvd hD h.2) hd⟩
theorem den_add {r s : Rat} {D : Nat} (hD : 0 < D) (hr : r.den ∣ D) (hs : s.den ∣ D) : (r + s).den ∣ D := by
  obtain ⟨a, rfl⟩ := div_of_den hD hr
  obtain ⟨b, rfl⟩ := div_of_den hD hs
  have e : Rat.divInt a (D : Int) + Rat.divInt b (D : Int) = Rat.divInt (a + b) (D : Int) := by
    rw [Rat.divInt_add_divInt _ _ (by omega) (by omega), ← Int.add_mul, Rat.divInt_mul_right (by omega)]
  rw [e]
  exact den_of_div hD
theorem den_mul (r s : Rat) : (r * s).den ∣ r.den * s.den := by
  have h1 := r.den_nz
  have h2 := s.den_nz
  have e := mul_is r s
  rw [← Int.natCast_mul] at e
  rw [← e]
  exact den_of_div (Nat.mul_pos (by omega) (by omega))
theorem sv_mul {n m D E : Nat} {r s : Rat} (hr : Sv n D r) (hs : Sv m E s) : Sv (n + m) (D * E) (r * s) := by
  refine ⟨?_, Nat.dvd_trans (den_mul r s) (Nat.mul_dvd_mul hr.2 hs.2)⟩
  rw [← mul_is]
  have h1 := den_pos r
  have h2 := den_pos s
  rw [← num_div (Int.mul_pos h1 h2)]
  exact Nat.lt_of_le_of_lt (natAbs_ediv_le _ _) (lt_mul hr.1 hs.1)
theorem sv_add {n m D d N : Nat} {r s : Rat} (hD : 0 < D) (hd : D < 2 ^ d) (hr : Sv n D r) (hs : Sv m D s) (h1 : n + d ≤ N := by omega) (h2 : m + d ≤ N := by omega) : Sv (N + 1) D (r + s) :=
  ⟨(sz_add (hr.sz hD hd) (hs.sz hD hd) h1 h2).1, den_add hD hr.2 hs.2⟩
theorem sv_zero {n D : Nat} (h : 0 < n) : Sv n D 0 := ⟨Nat.two_pow_pos n, Nat.one_dvd D⟩
theorem sv_weighs {n m W D d : Nat} (hWD : 0 < W * D) (hd : W * D < 2 ^ d) : ∀ (i : Nat) (l : List (Rat × Rat)), i ≤ l.length → (∀ p ∈ l, Sv n W p.1 ∧ Sv m D p.2) → Sv (1 + i * (n + m + d + 1)) (W * D) (weighs (l.take i))
  | 0, l, _, _ => by simpa [weighs] using (sv_zero (n := 1) (D := W * D) (by decide))
  | i + 1, l, h, hl => by
    have ih := sv_weighs hWD hd i l (by omega) hl
    have e1 : l[i]? = some l[i] := List.getElem?_eq_getElem (by omega)
    rw [weighs_take e1]
    have hp := hl l[i] (List.getElem_mem _)
    have := sv_add (N := i * (n + m + d + 1) + (n + m + d + 1)) hWD hd ih (sv_mul hp.1 hp.2) (by omega) (by omega)
    exact this.mono (by rw [Nat.add_mul]; omega) (Nat.dvd_refl _)
theorem sv_of_weighs {n m W D d : Nat} {a b : List Rat} (hWD : 0 < W * D) (hd : W * D < 2 ^ d) (ha : SvL n W a) (hb : SvL m D b) (hl : a.length = b.length) : Sv (1 + a.length * (n + m + d + 1)) (W * D) (weighs (a.zip b)) := by
  have h := sv_weighs hWD hd a.length (a.zip b) (by rw [List.length_zip]; omega) (fun p hp => ⟨ha _ (List.of_mem_zip hp).1, hb _ (List.of_mem_zip hp).2⟩)
  rwa [List.take_of_length_le (by rw [List.length_zip]; omega)] at h
theorem sv_tells {n m W D d : Nat} {s : Sum2} {row : List Rat} (hWD : 0 < W * D) (hd : W * D < 2 ^ d) (ha : SvL n W s.1) (hc : Sv n W s.2) (hb : SvL m D row) (hl : s.1.length = row.length) : Sv (1 + s.1.length * (n + m + d + 1) + n + d + 1) (W * D) (tells s row) :=
  sv_add (N := 1 + s.1.length * (n + m + d + 1) + n + d) hWD hd (sv_of_weighs hWD hd ha hb hl) (hc.mono (Nat.le_refl _) (Nat.dvd_mul_right _ _)) (by omega) (by omega)
/-! ### nets -/
def cutQ (r : Rat) : Rat := if r.num < 0 then 0 else r
theorem sv_cutQ {n D : Nat} {r : Rat} (h : Sv n D r) : Sv n D (cutQ r) := by
  unfold cutQ
  split
  · exact ⟨Nat.lt_of_le_of_lt (Nat.zero_le _) h.1, Nat.one_dvd D⟩
  · exact h
/-- what the nodes of all layers come to -/
def rowsAt : List (List Sum2) → List Rat → List (List Rat)
  | [], _ => []
  | l :: ls, x => (l.map fun z => tells z x) :: rowsAt ls ((l.map fun z => tells z x).map cutQ)
/-- the layers stand upon one another, the first over n things -/
def Over : Nat → List (List Sum2) → Prop
  | _, [] => True
  | n, l :: ls => (∀ z ∈ l, z.1.length = n) ∧ (1 ≤ l.length ∧ l.length ≤ 4) ∧ Over l.length ls
/-- all numbers of the layers: tops below 2 ^ n, bottoms dividing W -/
def Num (n : Nat) (W : Nat → Nat) (ls : List (List Sum2)) : Prop := ∀ (i : Nat) (l : List Sum2), ls[i]? = some l → ∀ z ∈ l, SvL n (W i) z.1 ∧ Sv n (W i) z.2
/-- the layers' bottoms together, those ahead of layer i -/
def pw (W : Nat → Nat) : Nat → Nat
  | 0 => 1
  | i + 1 => W i * pw W i
theorem pw_pos {W : Nat → Nat} (h : ∀ i, 0 < W i) : ∀ i, 0 < pw W i
  | 0 => Nat.one_pos
  | i + 1 => Nat.mul_pos (h i) (pw_pos h i)
theorem pw_mono {W : Nat → Nat} (h : ∀ i, 0 < W i) : ∀ {i j : Nat}, i ≤ j → pw W i ≤ pw W j
  | i, 0, hij => by
    have : i = 0 := by omega
    subst this
    exact Nat.le_refl _
  | i, j + 1, hij => by
    by_cases e : i = j + 1
    · subst e
      exact Nat.le_refl _
    · exact Nat.le_trans (pw_mono h (show i ≤ j by omega)) (Nat.le_mul_of_pos_left _ (h j))
theorem pw_const {W : Nat} : ∀ i, pw (fun _ => W) i = W ^ i
  | 0 => rfl
  | i + 1 => by
    show W * pw (fun _ => W) i = _
    rw [pw_const i, Nat.pow_succ, Nat.mul_comm]
/-- the tops' bits behind i layers -/
def tb : Nat → Nat
  | 0 => 1500
  | i + 1 => 1 + 4 * (1500 + tb i + 1601) + 3102
theorem tb_le : ∀ i, i ≤ 4 → tb i ≤ 1800000
  | 0, _ => by decide
  | 1, _ => by decide
  | 2, _ => by decide
  | 3, _ => by decide
  | 4, _ => by decide
theorem tb_le3 : ∀ i, i ≤ 3 → tb i ≤ 430000
  | 0, _ => by decide
  | 1, _ => by decide
  | 2, _ => by decide
  | 3, _ => by decide
end Nc
end
section
set_option maxRecDepth 100000
set_option maxHeartbeats 4000000
namespace Nc
open PySem PySem.Spec PyProof.Rows L2 Evl
/-! ### kinds of things -/
def spWh (K : PySem.W.Frag) : Sp := fun vs H Q _ => ∃ v k, vs = [v] ∧ KdV K H v k ∧ Q (.bl (decide (k = .int))) H
def spFr (K : PySem.W.Frag) : Sp := fun vs H Q _ => ∃ v b, vs = [v] ∧ Th K H v b ∧ Q (.bl b) H
def spTold : Sp := fun vs H Q _ => ∃ a : Bool, vs = [.bl a, .bl a] ∧ Q (.bl true) H
/-- a row as the law draws it -/
inductive Rw (K : PySem.W.Frag) (H : Hp) : V → Option (List Bool) → Prop
  | oth {v k} (h : KdV K H v k) (n : k ≠ .tup) : Rw K H v none
  | tup {t xs bs} (q : SqT K H t xs) (p : Paired (Th K H) xs bs) (z : xs.length ≤ 100) : Rw K H (.ref t) (some bs)
def rwB : Option (List Bool) → Int → Bool
  | none, _ => false
  | some bs, k => decide ((bs.length : Int) = k) && bs.all id
def spIsRw (K : PySem.W.Frag) : Sp := fun vs H Q _ => ∃ (v : V) (k : Int) (f : Option (List Bool)), vs = [v, .int k] ∧ Rw K H v f ∧ ∀ H', Ex H H' → Q (.bl (rwB f k)) H'
theorem ifB {b : Bool} {A B : Prop} (h1 : b = true → A) (h2 : b = false → B) : if b = true then A else B := by
  cases b
  · exact iteF (h2 rfl)
  · exact iteT (h1 rfl)
theorem th_ex {K : PySem.W.Frag} {H H' : Hp} {v : V} {b : Bool} (kd : ∀ {v k}, KdV K H v k → KdV K H' v k) (e : Ex H H') (h : Th K H v b) : Th K H' v b := by
  cases h with
  | oth h n => exact .oth (kd h) n
  | tupN q n => exact .tupN (ex_t e q) n
  | two q hx hy n => exact .two (ex_t e q) (kd hx) (kd hy) n
  | nums q => exact .nums (ex_t e q)
theorem tyx_ex {K : PySem.W.Frag} {H H' : Hp} {v : V} {t : Value} (e : Ex H H') (h : TyX K H v t) : TyX K H' v t := by
  cases h with
  | base h =>
    cases h with
    | non => exact .base .non
    | bl x => exact .base (.bl x)
    | int x => exact .base (.int x)
    | str x => exact .base (.str x)
    | flt x => exact .base (.flt x)
    | lst q => exact .base (.lst (e _ _ q))
    | frz q => exact .base (.frz (e _ _ q))
    | tup q => exact .base (.tup (e _ _ q))
    | dK q => exact .base (.dK (e _ _ q))
    | dT q => exact .base (.dT (e _ _ q))
    | ins q cl ha hn htk hm => exact .base (.ins (e _ _ q) cl ha hn htk hm)
  | byt b => exact .byt b
  | set q => exact .set (e _ _ q)
  | kList q c => exact .kList q c
  | kTuple q c => exact .kTuple q c
  | kDict q c => exact .kDict q c
  | fTuple q => exact .fTuple (e _ _ q)
  | fDict q => exact .fDict (e _ _ q)
theorem kd_ex {K : PySem.W.Frag} {H H' : Hp} {v : V} {k : Kn} (e : Ex H H') (h : KdV K H v k) : KdV K H' v k := ⟨tyx_ex e h.1, h.2⟩
theorem th_exx {K : PySem.W.Frag} {H H' : Hp} {v : V} {b : Bool} (e : Ex H H') (h : Th K H v b) : Th K H' v b := th_ex (kd_ex e) e h
theorem eq_of_nd {a b : Int} (e : (!decide (V.int a = V.int b)) = false) : a = b := by
  by_cases h : V.int a = V.int b
  · exact V.int.inj h
  · rw [decide_eq_false h] at e
    cases e
theorem dec_int (n : Nat) : decide (V.int (n : Int) = V.int 1) = decide (n = 1) := by
  by_cases h : n = 1
  · rw [decide_eq_true h, h]
    decide
  · rw [decide_eq_false h]
    refine decide_eq_false fun z => h ?_
    have := V.int.inj z
    omega
theorem q_bl {a b : Bool} {Q : VK} {H : Hp} (q : Q (.bl b) H) (e : a = b) : Q (.bl a) H := by
  rw [e]
  exact q
theorem ne_of_nd {a b : Int} (e : (!decide (V.int a = V.int b)) = true) : decide (a = b) = false := by
  by_cases h : a = b
  · rw [decide_eq_true (congrArg V.int h)] at e
    cases e
  · exact decide_eq_false h
theorem of_nd {p : Prop} [Decidable p] (e : (!decide p) = false) : p := by
  by_cases h : p
  · exact h
  · rw [decide_eq_false h] at e
    cases e

section
variable {X : Cx} {e : Expr} {t1 t2 : TE}
/-- a term that is read in one of two ways -/
def tOr (t1 t2 : TE) : TE := fun σ H Q => t1 σ H Q ∨ t2 σ H Q
theorem pe_or (h1 : PE X e t1) (h2 : PE X e t2) : PE X e (tOr t1 t2) := ⟨fun pins s σ H Q I h => h.elim (h1.run pins s σ H Q I) (h2.run pins s σ H Q I)⟩
end
/-! ### the stream: a list, the last item of which tells how many long numbers are left -/
def Lst (s : Addr) (H : Hp) : Prop := ∃ xs, H s = some (.lst xs)
structure Dk (s : Addr) (H H' : Hp) : Prop where
  keep : ∀ a o, a ≠ s → H a = some o → H' a = some o
  st : Lst s H'
def St4 (s : Addr) (k : Nat) (H : Hp) : Prop := ∃ a b c : Int, H s = some (.lst [.int a, .int b, .int c, .int (k : Int)])
section
variable {K : PySem.W.Frag} {s p : Addr} {H H' H2 : Hp} {k : Nat}
theorem St4.lst (h : St4 s k H) : Lst s H := by
  obtain ⟨a, b, c, e⟩ := h
  exact ⟨_, e⟩
theorem Lst.ne (h : Lst s H) (hp : H p = none) : s ≠ p := by
  obtain ⟨xs, e⟩ := h
  exact ne_of_none e hp
theorem Lst.ex (h : Lst s H) (e : Ex H H') : Lst s H' := by
  obtain ⟨xs, q⟩ := h
  exact ⟨xs, e _ _ q⟩
theorem St4.ex (h : St4 s k H) (e : Ex H H') : St4 s k H' := by
  obtain ⟨a, b, c, q⟩ := h
  exact ⟨a, b, c, e _ _ q⟩
theorem St4.new {o : HO} (h : St4 s k H) (hp : H p = none) : St4 s k (upd H p o) := h.ex (Ex.new hp)
theorem St4.mut {o : HO} (h : St4 s k H) (hs : s ≠ p) : St4 s k (upd H p o) := by
  obtain ⟨a, b, c, q⟩ := h
  exact ⟨a, b, c, by rw [upd_ne hs]; exact q⟩
theorem Dk.refl (h : Lst s H) : Dk s H H := ⟨fun _ _ _ q => q, h⟩
theorem Dk.trans (a : Dk s H H') (b : Dk s H' H2) : Dk s H H2 := ⟨fun x o hx q => b.keep x o hx (a.keep x o hx q), b.st⟩
theorem Dk.ex (h : Lst s H) (e : Ex H H') : Dk s H H' := ⟨fun a o _ q => e a o q, h.ex e⟩
theorem Dk.new {o : HO} (h : Lst s H) (hp : H p = none) : Dk s H (upd H p o) := Dk.ex h (Ex.new hp)
theorem Dk.then (a : Dk s H H') (e : Ex H' H2) : Dk s H H2 := a.trans (Dk.ex a.st e)
theorem Dk.mut {o : HO} (d : Dk s H H') (hp : H p = none) (hs : s ≠ p) : Dk s H (upd H' p o) := ⟨fun a u ha q => by rw [upd_ne (ne_of_none q hp)]; exact d.keep a u ha q, by
  obtain ⟨xs, e⟩ := d.st
  exact ⟨xs, by rw [upd_ne hs]; exact e⟩⟩
theorem Dk.put {xs ys : List V} (h : H s = some (.lst xs)) : Dk s H (upd H s (.lst ys)) := ⟨fun x o hx q => by rw [upd_ne hx]; exact q, ⟨ys, upd_same⟩⟩
theorem sqt_dk {t : Addr} {xs : List V} (h : Lst s H) (d : Dk s H H') (q : SqT K H t xs) : SqT K H' t xs := by
  obtain ⟨ys, e⟩ := h
  rcases q with (q | ⟨o, q⟩) | q
  · exact .inl (.inl (d.keep _ _ (ne_of q e (by intro z; cases z)) q))
  · exact .inl (.inr ⟨o, d.keep _ _ (ne_of q e (by intro z; cases z)) q⟩)
  · exact .inr q
theorem FrV.dk {v : V} {r : Rat} (h : Lst s H) (d : Dk s H H') (q : FrV K H v r) : FrV K H' v r := by
  obtain ⟨t, rfl, q⟩ := q
  exact ⟨t, rfl, sqt_dk h d q⟩
theorem RowV.dk {v : V} {rs : List Rat} (h : Lst s H) (d : Dk s H H') (q : RowV K H v rs) : RowV K H' v rs := by
  obtain ⟨t, xs, rfl, q, l⟩ := q
  exact ⟨t, xs, rfl, sqt_dk h d q, pmono (fun _ _ => FrV.dk h d) l⟩
theorem SumV.dk {v : V} {z : Sum2} (h : Lst s H) (d : Dk s H H') (q : SumV K H v z) : SumV K H' v z := by
  obtain ⟨t, a, b, rfl, q, l, n⟩ := q
  exact ⟨t, a, b, rfl, sqt_dk h d q, l.dk h d, n.dk h d⟩
theorem NodesV.dk {v : V} {zs : List Sum2} (h : Lst s H) (d : Dk s H H') (q : NodesV K H v zs) : NodesV K H' v zs := by
  obtain ⟨t, xs, rfl, q, l⟩ := q
  exact ⟨t, xs, rfl, sqt_dk h d q, pmono (fun _ _ => SumV.dk h d) l⟩
theorem NodesV.mut {D : Addr} {xs : List V} {o : HO} {v : V} {zs : List Sum2} (hD : H D = some (.lst xs)) (h : NodesV K H v zs) : NodesV K (upd H D o) v zs := by
  obtain ⟨t, us, rfl, qt, lu⟩ := h
  exact ⟨t, us, rfl, sqt_mut hD qt, pmono (fun _ _ => SumV.mut hD) lu⟩
end
/-! ### layers as lists of lists -/
def LyV (K : PySem.W.Frag) (H : Hp) (v : V) (l : List Sum2) : Prop := ∃ a xs, v = .ref a ∧ SqL K H a xs ∧ Paired (SumV K H) xs l
def LayI (K : PySem.W.Frag) (H : Hp) (v : V) (ls : List (List Sum2)) : Prop := ∃ D ys, v = .ref D ∧ SqL K H D ys ∧ Paired (LyV K H) ys ls
/-- the same, lists that are no stream -/
def LyS (K : PySem.W.Frag) (s : Addr) (H : Hp) (v : V) (l : List Sum2) : Prop := ∃ a xs, v = .ref a ∧ a ≠ s ∧ H a = some (.lst xs) ∧ Paired (SumV K H) xs l
def LayS (K : PySem.W.Frag) (s : Addr) (H : Hp) (D : Addr) (ls : List (List Sum2)) : Prop := D ≠ s ∧ ∃ ys, H D = some (.lst ys) ∧ Paired (LyS K s H) ys ls
section
variable {K : PySem.W.Frag} {s p D : Addr} {H H' H2 : Hp} {k : Nat} {v : V} {l : List Sum2} {ls : List (List Sum2)}
theorem LyV.ex (e : Ex H H') (h : LyV K H v l) : LyV K H' v l := by
  obtain ⟨a, xs, rfl, q, p⟩ := h
  exact ⟨a, xs, rfl, ex_l e q, pmono (fun _ _ => SumV.ex e) p⟩
theorem LayI.ex (e : Ex H H') (h : LayI K H v ls) : LayI K H' v ls := by
  obtain ⟨D, ys, rfl, q, p⟩ := h
  exact ⟨D, ys, rfl, ex_l e q, pmono (fun _ _ => LyV.ex e) p⟩
theorem LyS.ex (e : Ex H H') (h : LyS K s H v l) : LyS K s H' v l := by
  obtain ⟨a, xs, rfl, n, q, p⟩ := h
  exact ⟨a, xs, rfl, n, e _ _ q, pmono (fun _ _ => SumV.ex e) p⟩
theorem LyS.dk (h0 : Lst s H) (d : Dk s H H') (h : LyS K s H v l) : LyS K s H' v l := by
  obtain ⟨a, xs, rfl, n, q, p⟩ := h
  exact ⟨a, xs, rfl, n, d.keep _ _ n q, pmono (fun _ _ => SumV.dk h0 d) p⟩
theorem LyS.toV (h : LyS K s H v l) : LyV K H v l := by
  obtain ⟨a, xs, rfl, n, q, p⟩ := h
  exact ⟨a, xs, rfl, sq_of q, p⟩
theorem LayS.ex (e : Ex H H') (h : LayS K s H D ls) : LayS K s H' D ls := by
  obtain ⟨n, ys, q, p⟩ := h
  exact ⟨n, ys, e _ _ q, pmono (fun _ _ => LyS.ex e) p⟩
theorem LayS.dk (h0 : Lst s H) (d : Dk s H H') (h : LayS K s H D ls) : LayS K s H' D ls := by
  obtain ⟨n, ys, q, p⟩ := h
  exact ⟨n, ys, d.keep _ _ n q, pmono (fun _ _ => LyS.dk h0 d) p⟩
theorem LayS.i (h : LayS K s H D ls) : LayI K H (.ref D) ls := by
  obtain ⟨n, ys, q, p⟩ := h
  exact ⟨D, ys, rfl, sq_of q, pmono (fun _ _ => LyS.toV) p⟩
end
/-! ### nets -/
def LayV (K : PySem.W.Frag) (CL CC : Addr) (H : Hp) (v : V) (l : List Sum2) : Prop := ∃ p C nv, v = .ref p ∧ (C = CL ∨ C = CC) ∧ LayerAt C H p nv ∧ NodesV K H nv l
def NetV (K : PySem.W.Frag) (CN CL CC : Addr) (H : Hp) (p : Addr) (n : Nat) (ls : List (List Sum2)) : Prop := ∃ dx t ps, H p = some (.ins CN dx [(("_ins" : Str), .int (n : Int)), (("_layers" : Str), .ref t)]) ∧ SqT K H t ps ∧ Paired (LayV K CL CC H) ps ls
/-- what a net tells -/
def TdV (K : PySem.W.Frag) (H : Hp) (v : V) (n : Nat) (ls : List (List Sum2)) : Prop := ∃ t u ys, v = .ref t ∧ SqT K H t [.int (n : Int), .ref u] ∧ SqT K H u ys ∧ Paired (NodesV K H) ys ls
def nd (ls : List (List Sum2)) : List PyData := ls.map fun l => .tuple (l.map sd)
section
variable {K : PySem.W.Frag} {s p D CN CL CC : Addr} {H H' H2 : Hp} {k n : Nat} {v : V} {l : List Sum2} {ls : List (List Sum2)}
theorem LayV.ex (e : Ex H H') (h : LayV K CL CC H v l) : LayV K CL CC H' v l := by
  obtain ⟨p, C, nv, rfl, c, la, nn⟩ := h
  exact ⟨p, C, nv, rfl, c, la.ex e, nn.ex e⟩
theorem LayV.mut {xs : List V} {o : HO} (hD : H D = some (.lst xs)) (h : LayV K CL CC H v l) : LayV K CL CC (upd H D o) v l := by
  obtain ⟨p, C, nv, rfl, c, ⟨dx, la⟩, nn⟩ := h
  exact ⟨p, C, nv, rfl, c, ⟨dx, by rw [upd_ne (ne_of la hD (by intro z; cases z))]; exact la⟩, nn.mut hD⟩
theorem LayV.dk (h0 : Lst s H) (d : Dk s H H') (h : LayV K CL CC H v l) : LayV K CL CC H' v l := by
  obtain ⟨p, C, nv, rfl, c, ⟨dx, la⟩, nn⟩ := h
  obtain ⟨xs, hx⟩ := id h0
  exact ⟨p, C, nv, rfl, c, ⟨dx, d.keep _ _ (ne_of la hx (by intro z; cases z)) la⟩, nn.dk h0 d⟩
theorem stL : Stays (LayV K CL CC) := ⟨LayV.ex, LayV.mut⟩
theorem NetV.ex (e : Ex H H') (h : NetV K CN CL CC H p n ls) : NetV K CN CL CC H' p n ls := by
  obtain ⟨dx, t, ps, hp, q, l⟩ := h
  exact ⟨dx, t, ps, e _ _ hp, ex_t e q, pmono (fun _ _ => LayV.ex e) l⟩
theorem NetV.dk (h0 : Lst s H) (d : Dk s H H') (h : NetV K CN CL CC H p n ls) : NetV K CN CL CC H' p n ls := by
  obtain ⟨dx, t, ps, hp, q, l⟩ := h
  obtain ⟨xs, hx⟩ := id h0
  exact ⟨dx, t, ps, d.keep _ _ (ne_of hp hx (by intro z; cases z)) hp, sqt_dk h0 d q, pmono (fun _ _ => LayV.dk h0 d) l⟩
theorem TdV.ex (e : Ex H H') (h : TdV K H v n ls) : TdV K H' v n ls := by
  obtain ⟨t, u, ys, rfl, q, q2, l⟩ := h
  exact ⟨t, u, ys, rfl, ex_t e q, ex_t e q2, pmono (fun _ _ => NodesV.ex e) l⟩
theorem TdV.dk (h0 : Lst s H) (d : Dk s H H') (h : TdV K H v n ls) : TdV K H' v n ls := by
  obtain ⟨t, u, ys, rfl, q, q2, l⟩ := h
  exact ⟨t, u, ys, rfl, sqt_dk h0 d q, sqt_dk h0 d q2, pmono (fun _ _ => NodesV.dk h0 d) l⟩
theorem NodesV.dp (h : NodesV K H v l) : Dp K H v (.tuple (l.map sd)) := by
  obtain ⟨t, xs, rfl, q, p⟩ := h
  exact .tup q (sums_dp p)
theorem nds_dp : ∀ {xs : List V} {ls : List (List Sum2)}, Paired (NodesV K H) xs ls → DpAll K H xs (nd ls)
  | _, _, .nil => .nil
  | _, _, .cons a t => .cons a.dp (nds_dp t)
theorem TdV.dp (h : TdV K H v n ls) : Dp K H v (.tuple [.int (n : Int), .tuple (nd ls)]) := by
  obtain ⟨t, u, ys, rfl, q, q2, l⟩ := h
  exact .tup q (.cons (.int _) (.cons (.tup q2 (nds_dp l)) .nil))
end
theorem lay_nd : ∀ ls : List (List Sum2), PyData.canLayAll0 (nd ls) = true
  | [] => rfl
  | z :: zs => by
    show (PyData.canLayAll0 (z.map sd) && PyData.canLayAll0 (nd zs)) = true
    rw [lay_sds, lay_nd zs]
    rfl
theorem depth_nd : ∀ ls : List (List Sum2), PyData.depthAll (nd ls) ≤ 5
  | [] => Nat.zero_le _
  | z :: zs => by
    have ih := depth_nd zs
    have h1 := depth_sds z
    show max (PyData.depthAll (z.map sd) + 1) (PyData.depthAll (nd zs)) ≤ 5
    omega
theorem lay_td (n : Nat) (ls : List (List Sum2)) : (PyData.tuple [.int (n : Int), .tuple (nd ls)]).canLay0 = true := by
  show (true && (PyData.canLayAll0 (nd ls) && true)) = true
  rw [lay_nd]
  rfl
theorem shaped_td (n : Nat) (ls : List (List Sum2)) : SeqAt.shaped (.tuple [.int (n : Int), .tuple (nd ls)]) = true := by
  unfold SeqAt.shaped
  rw [lay_td, Bool.true_and]
  refine decide_eq_true ?_
  have := depth_nd ls
  show max 0 (max (PyData.depthAll (nd ls) + 1) 0) + 1 ≤ 64
  omega
theorem eqv_td (n : Nat) (ls : List (List Sum2)) : PyData.eqv (.tuple [.int (n : Int), .tuple (nd ls)]) (.tuple [.int (n : Int), .tuple (nd ls)]) = true := SeqAt.eqv_refl _ (lay_td n ls)
/-- a list of rows -/
def rd (rs : List (List Rat)) : List PyData := rs.map fun r => .tuple (r.map fd)
theorem rows_dp {K : PySem.W.Frag} {H : Hp} : ∀ {xs : List V} {rs : List (List Rat)}, Paired (RowV K H) xs rs → DpAll K H xs (rd rs)
  | _, _, .nil => .nil
  | _, _, .cons a t => .cons a.dp (rows_dp t)
theorem lay_rd : ∀ rs : List (List Rat), PyData.canLayAll0 (rd rs) = true
  | [] => rfl
  | r :: rs => by
    show (PyData.canLayAll0 (r.map fd) && PyData.canLayAll0 (rd rs)) = true
    rw [layAll_fd, lay_rd rs]
    rfl
theorem depth_rd : ∀ rs : List (List Rat), PyData.depthAll (rd rs) ≤ 2
  | [] => Nat.zero_le _
  | z :: zs => by
    have ih := depth_rd zs
    have h1 := depthAll_fd z
    show max (PyData.depthAll (z.map fd) + 1) (PyData.depthAll (rd zs)) ≤ 2
    omega
theorem shaped_rd (rs : List (List Rat)) : SeqAt.shaped (.list (rd rs)) = true := by
  unfold SeqAt.shaped
  have h : (PyData.list (rd rs)).canLay0 = true := lay_rd rs
  rw [h, Bool.true_and]
  refine decide_eq_true ?_
  have := depth_rd rs
  show PyData.depthAll (rd rs) + 1 ≤ 64
  omega
theorem eqv_rd (rs : List (List Rat)) : PyData.eqv (.list (rd rs)) (.list (rd rs)) = true := SeqAt.eqv_refl _ (lay_rd rs)
/-! ### what is known of a net's numbers -/
structure NetOk (n : Nat) (ls : List (List Sum2)) (W : Nat → Nat) : Prop where
  n1 : 1 ≤ n
  n3 : n ≤ 3
  over : Over n ls
  l1 : 1 ≤ ls.length
  l4 : ls.length ≤ 4
  num : Num 1500 W ls
  w0 : ∀ i, 0 < W i
/-- a spot's common bottom fits beside it -/
structure Fits (W : Nat → Nat) (D : Nat) : Prop where
  d0 : 0 < D
  lt : pw W 4 * D < 2 ^ 1600
theorem Fits.at {W : Nat → Nat} {D : Nat} (hW : ∀ i, 0 < W i) (h : Fits W D) {i : Nat} (hi : i ≤ 3) : 0 < W i * (pw W i * D) ∧ W i * (pw W i * D) < 2 ^ 1600 := by
  have h1 : W i * (pw W i * D) = pw W (i + 1) * D := (Nat.mul_assoc _ _ _).symm
  rw [h1]
  exact ⟨Nat.mul_pos (pw_pos hW _) h.d0, Nat.lt_of_le_of_lt (Nat.mul_le_mul_right D (pw_mono hW (by omega))) h.lt⟩
theorem Fits.dlt {W : Nat → Nat} {D : Nat} (hW : ∀ i, 0 < W i) (h : Fits W D) : D < 2 ^ 1600 := Nat.lt_of_le_of_lt (Nat.le_mul_of_pos_left D (pw_pos hW 4)) h.lt
/-! ### promises -/
def spTake4 : Sp := fun vs H Q _ => ∃ (s : Addr) (m : Int) (k : Nat), vs = [.ref s, .int m] ∧ St4 s k H ∧ 0 < m ∧ m < 2 ^ 200 ∧ ∀ d H', 0 ≤ d → d < m → Dk s H H' → St4 s k H' → Q (.int d) H'
def spStream4 : Sp := fun vs H Q _ => ∃ c : Int, vs = [.int c] ∧ ∀ s, H s = none → ∀ H', Ex H H' → St4 s 2 H' → Q (.ref s) H'
def spDraw4 : Sp := fun vs H Q _ => ∃ (s : Addr) (k : Nat), vs = [.ref s] ∧ St4 s k H ∧ ∀ d H', 0 < d → d.natAbs < 2 ^ 100 → Dk s H H' → St4 s k H' → Q (.int d) H'
/-- so many long numbers were drawn, their bottoms' product is M -/
structure Used (k k' M : Nat) : Prop where
  le : k' ≤ k
  pos : 0 < M
  lt : M ≤ 2 ^ (100 * (k - k'))
theorem Used.refl (k : Nat) : Used k k 1 := ⟨Nat.le_refl _, Nat.one_pos, by rw [Nat.sub_self]; decide⟩
theorem Used.trans {k k1 k2 M N : Nat} (a : Used k k1 M) (b : Used k1 k2 N) : Used k k2 (M * N) := by
  refine ⟨Nat.le_trans b.le a.le, Nat.mul_pos a.pos b.pos, Nat.le_trans (Nat.mul_le_mul a.lt b.lt) ?_⟩
  rw [← Nat.pow_add]
  have h1 := a.le
  have h2 := b.le
  exact Nat.pow_le_pow_right (by decide) (by omega)
theorem sv_l {n M N : Nat} {r : Rat} (h : Sv n (6 * M) r) : Sv n (6 * (M * N)) r := h.mono (Nat.le_refl _) (Nat.mul_dvd_mul_left 6 (Nat.dvd_mul_right _ _))
theorem sv_r {n M N : Nat} {r : Rat} (h : Sv n (6 * N) r) : Sv n (6 * (M * N)) r := h.mono (Nat.le_refl _) (Nat.mul_dvd_mul_left 6 (Nat.dvd_mul_left _ _))
def spNum4 (K : PySem.W.Frag) : Sp := fun vs H Q _ => ∃ (s : Addr) (k : Nat), vs = [.ref s] ∧ St4 s k H ∧ ∀ v r H' k' M, Dk s H H' → St4 s k' H' → Used k k' M → FrV K H' v r → Sv 1500 (6 * M) r → Q v H'
def spNode4 (K : PySem.W.Frag) : Sp := fun vs H Q _ => ∃ (s : Addr) (k n : Nat), vs = [.ref s, .int (n : Int)] ∧ St4 s k H ∧ n ≤ 20 ∧ ∀ v z H' k' M, Dk s H H' → St4 s k' H' → Used k k' M → SumV K H' v z → z.1.length = n → SvL 1500 (6 * M) z.1 → Sv 1500 (6 * M) z.2 → Q v H'
def spSpot4 (K : PySem.W.Frag) : Sp := fun vs H Q _ => ∃ (s : Addr) (k n : Nat), vs = [.ref s, .int (n : Int)] ∧ St4 s k H ∧ n ≤ 20 ∧ ∀ v L H' k' M, Dk s H H' → St4 s k' H' → Used k k' M → RowV K H' v L → L.length = n → SvL 1500 (6 * M) L → Q v H'
def spSize4 : Sp := fun vs H Q _ => ∃ (s : Addr) (m k : Nat), vs = [.ref s, .int (m : Int)] ∧ St4 s k H ∧ 2 ≤ m ∧ m ≤ 10 ∧ ∀ (d : Nat) H', 1 ≤ d → d ≤ m → Dk s H H' → St4 s k H' → Q (.int (d : Int)) H'
def spLays4 (K : PySem.W.Frag) : Sp := fun vs H Q _ => ∃ (s : Addr) (n k : Nat), vs = [.ref s, .int (n : Int)] ∧ St4 s k H ∧ 1 ≤ n ∧ n ≤ 3 ∧ ∀ D ls H' k' M, H D = none → Dk s H H' → St4 s k' H' → Used k k' M → LayS K s H' D ls → NetOk n ls (fun _ => 6 * M) → Q (.ref D) H'
def spWeighD (K : PySem.W.Frag) : Sp := fun vs H Q _ => ∃ (x y : V) (rs ss : List Rat) (m W D : Nat), vs = [x, y] ∧ RowV K H x rs ∧ RowV K H y ss ∧ rs.length = ss.length ∧ rs.length ≤ 4 ∧ SvL 1500 W rs ∧ SvL m D ss ∧ m ≤ 430000 ∧ 0 < W * D ∧ W * D < 2 ^ 1600 ∧ ∀ v H', Ex H H' → FrV K H' v (weighs (rs.zip ss)) → Q v H'
def spTellsD (K : PySem.W.Frag) : Sp := fun vs H Q _ => ∃ (x y : V) (z : Sum2) (ss : List Rat) (m W D : Nat), vs = [x, y] ∧ SumV K H x z ∧ RowV K H y ss ∧ z.1.length = ss.length ∧ z.1.length ≤ 4 ∧ SvL 1500 W z.1 ∧ Sv 1500 W z.2 ∧ SvL m D ss ∧ m ≤ 430000 ∧ 0 < W * D ∧ W * D < 2 ^ 1600 ∧ ∀ v H', Ex H H' → FrV K H' v (tells z ss) → Q v H'
def NodesOk (n W : Nat) (l : List Sum2) : Prop := ∀ z ∈ l, z.1.length = n ∧ SvL 1500 W z.1 ∧ Sv 1500 W z.2
/-- the facts of a reckoning: nodes, a row -/
structure Rk (l : List Sum2) (L : List Rat) (m W D : Nat) : Prop where
  nodes : NodesOk L.length W l
  len : L.length ≤ 4
  many : l.length ≤ 4
  row : SvL m D L
  top : m ≤ 430000
  pos : 0 < W * D
  lt : W * D < 2 ^ 1600
def spReckD (K : PySem.W.Frag) : Sp := fun vs H Q _ => ∃ (x y : V) (l : List Sum2) (L : List Rat) (m W D : Nat), vs = [x, y] ∧ NodesV K H x l ∧ RowV K H y L ∧ Rk l L m W D ∧ ∀ v H', Ex H H' → RowV K H' v (l.map fun z => tells z L) → Q v H'
def spPassD (K : PySem.W.Frag) (C : Addr) : Sp := fun vs H Q _ => ∃ (p : Addr) (nv y : V) (l : List Sum2) (L : List Rat) (m W D : Nat), vs = [.ref p, y] ∧ LayerAt C H p nv ∧ NodesV K H nv l ∧ RowV K H y L ∧ Rk l L m W D ∧ ∀ v H', Ex H H' → RowV K H' v (l.map fun z => tells z L) → Q v H'
def spCutQ (K : PySem.W.Frag) : Sp := fun vs H Q _ => ∃ (x : V) (r : Rat), vs = [x] ∧ FrV K H x r ∧ ∀ v, FrV K H v (cutQ r) → Q v H
def spCutRow (K : PySem.W.Frag) : Sp := fun vs H Q _ => ∃ (x : V) (L : List Rat), vs = [x] ∧ RowV K H x L ∧ L.length ≤ 100 ∧ ∀ v H', Ex H H' → RowV K H' v (L.map cutQ) → Q v H'
def spRowsD (K : PySem.W.Frag) : Sp := fun vs H Q _ => ∃ (x y : V) (ls : List (List Sum2)) (L : List Rat) (W : Nat → Nat) (D : Nat), vs = [x, y] ∧ LayI K H x ls ∧ RowV K H y L ∧ NetOk L.length ls W ∧ SvL 1500 D L ∧ Fits W D ∧
  ∀ F rs H', H F = none → Ex H H' → H' F = some (.lst rs) → Paired (RowV K H') rs (rowsAt ls L) → Q (.ref F) H'
def spSumsAt (K : PySem.W.Frag) (CN CL CC : Addr) : Sp := fun vs H Q _ => ∃ (p : Addr) (y : V) (ls : List (List Sum2)) (L : List Rat) (W : Nat → Nat) (D : Nat), vs = [.ref p, y] ∧ NetV K CN CL CC H p L.length ls ∧ RowV K H y L ∧ NetOk L.length ls W ∧ SvL 1500 D L ∧ Fits W D ∧
  ∀ F rs H', H F = none → Ex H H' → H' F = some (.lst rs) → Paired (RowV K H') rs (rowsAt ls L) → Q (.ref F) H'
def spOutsAt (K : PySem.W.Frag) (CN CL CC : Addr) : Sp := fun vs H Q _ => ∃ (p : Addr) (y : V) (ls : List (List Sum2)) (L : List Rat) (W : Nat → Nat) (D : Nat), vs = [.ref p, y] ∧ NetV K CN CL CC H p L.length ls ∧ RowV K H y L ∧ NetOk L.length ls W ∧ SvL 1500 D L ∧ Fits W D ∧
  ∀ v o H', Ex H H' → (rowsAt ls L)[ls.length - 1]? = some o → RowV K H' v o → Q v H'
def spToldN (K : PySem.W.Frag) (CN CL CC : Addr) : Sp := fun vs H Q _ => ∃ (p : Addr) (n : Nat) (ls : List (List Sum2)), vs = [.ref p] ∧ NetV K CN CL CC H p n ls ∧ ls.length ≤ 100 ∧ ∀ v H', Ex H H' → TdV K H' v n ls → Q v H'
def spInsN (K : PySem.W.Frag) (CN CL CC : Addr) : Sp := fun vs H Q _ => ∃ (p : Addr) (n : Nat) (ls : List (List Sum2)), vs = [.ref p] ∧ NetV K CN CL CC H p n ls ∧ Q (.int (n : Int)) H
def spLaysTold (K : PySem.W.Frag) (CN CL CC : Addr) : Sp := fun vs H Q _ => ∃ (p : Addr) (n : Nat) (ls : List (List Sum2)), vs = [.ref p] ∧ NetV K CN CL CC H p n ls ∧ ls.length ≤ 100 ∧ (∀ l ∈ ls, l.length ≤ 100) ∧
  ∀ F ys H', H F = none → Ex H H' → H' F = some (.lst ys) → Paired (fun v l => ∃ a xs, v = .ref a ∧ H a = none ∧ a ≠ F ∧ H' a = some (.lst xs) ∧ Paired (SumV K H') xs l) ys ls → Q (.ref F) H'
/-- the making of a net -/
def spInitN (K : PySem.W.Frag) (CN CL CC : Addr) : Sp := fun vs H Q _ => ∃ (p dx : Addr) (x : V) (n : Nat) (ls : List (List Sum2)) (W : Nat → Nat), vs = [.ref p, .int (n : Int), x] ∧ H p = some (.ins CN dx []) ∧ LayI K H x ls ∧ NetOk n ls W ∧
  ∀ H', (∀ b o, b ≠ p → H b = some o → H' b = some o) → NetV K CN CL CC H' p n ls → Q .non H'
def spIsSum (K : PySem.W.Frag) : Sp := fun vs H Q _ => ∃ (x : V) (z : Sum2), vs = [x, .int (z.1.length : Int)] ∧ SumV K H x z ∧ z.1.length ≤ 100 ∧ ∀ H', Ex H H' → Q (.bl true) H'
def spAreIns : Sp := fun vs H Q _ => ∃ n : Nat, vs = [.int (n : Int)] ∧ 1 ≤ n ∧ n ≤ 3 ∧ Q (.bl true) H
def spAreLays (K : PySem.W.Frag) : Sp := fun vs H Q _ => ∃ (x : V) (n : Nat) (ls : List (List Sum2)) (W : Nat → Nat), vs = [x, .int (n : Int)] ∧ LayI K H x ls ∧ NetOk n ls W ∧ ∀ H', Ex H H' → Q (.bl true) H'
/-- a good row, a good fraction -/
theorem FrV.th {K : PySem.W.Frag} {H : Hp} {v : V} {r : Rat} (h : FrV K H v r) : Th K H v true := by
  obtain ⟨t, rfl, q⟩ := h
  have e := Th.nums q
  have e1 : decide ((0 : Int) < (r.den : Int)) = true := decide_eq_true (den_pos r)
  have e2 : decide (Nat.gcd r.num.natAbs ((r.den : Int)).natAbs = 1) = true := decide_eq_true (by rw [Int.natAbs_natCast]; exact r.reduced)
  rw [e1, e2] at e
  exact e
theorem frl_th {K : PySem.W.Frag} {H : Hp} : ∀ {xs : List V} {rs : List Rat}, FrL K H xs rs → Paired (Th K H) xs (List.replicate rs.length true)
  | _, _, .nil => .nil
  | _, _, .cons a t => .cons a.th (frl_th t)
theorem RowV.rw {K : PySem.W.Frag} {H : Hp} {v : V} {rs : List Rat} (h : RowV K H v rs) (hl : rs.length ≤ 100) : Rw K H v (some (List.replicate rs.length true)) := by
  obtain ⟨t, xs, rfl, q, l⟩ := h
  exact .tup q (frl_th l) (by rw [Paired.length l]; exact hl)
theorem rwB_rep (n : Nat) : rwB (some (List.replicate n true)) (n : Int) = true := by
  show (decide (((List.replicate n true).length : Int) = (n : Int)) && (List.replicate n true).all id) = true
  rw [List.length_replicate, decide_eq_true rfl, Bool.true_and]
  simp
/-! ### a step of the reckoning -/
theorem rk_next {l : List Sum2} {A : List Rat} {i D : Nat} {W : Nat → Nat} (k : Rk l A (tb i) (W i) (pw W i * D)) : SvL (tb (i + 1)) (pw W (i + 1) * D) ((l.map fun z => tells z A).map cutQ) := by
  intro r hr
  obtain ⟨u, hu, rfl⟩ := List.mem_map.mp hr
  obtain ⟨z, hz, rfl⟩ := List.mem_map.mp hu
  obtain ⟨h1, h2, h3⟩ := k.nodes z hz
  have h := sv_tells k.pos k.lt h2 h3 k.row h1
  have hl : z.1.length ≤ 4 := by
    rw [h1]
    exact k.len
  have hb : z.1.length * (1500 + tb i + 1600 + 1) ≤ 4 * (1500 + tb i + 1600 + 1) := Nat.mul_le_mul_right _ hl
  have e : pw W (i + 1) * D = W i * (pw W i * D) := Nat.mul_assoc _ _ _
  rw [e]
  refine sv_cutQ (h.mono ?_ (Nat.dvd_refl _))
  show _ ≤ 1 + 4 * (1500 + tb i + 1601) + 3102
  omega
theorem drop_at {α : Type} {ls : List α} {i : Nat} {l : α} (h : ls[i]? = some l) : ls.drop i = l :: ls.drop (i + 1) := by
  obtain ⟨h1, h2⟩ := List.getElem?_eq_some_iff.mp h
  rw [List.drop_eq_getElem_cons h1, h2]
theorem rk_of {ls : List (List Sum2)} {n D i : Nat} {W : Nat → Nat} {l : List Sum2} {A : List Rat} (ok : NetOk n ls W) (f : Fits W D) (hi : ls[i]? = some l) (ov : Over A.length (ls.drop i)) (hA : SvL (tb i) (pw W i * D) A) (h4 : A.length ≤ 4) :
    Rk l A (tb i) (W i) (pw W i * D) ∧ Over l.length (ls.drop (i + 1)) ∧ l.length ≤ 4 ∧ 1 ≤ l.length ∧ i ≤ 3 := by
  have hi1 := (List.getElem?_eq_some_iff.mp hi).1
  have hl4 := ok.l4
  have hi3 : i ≤ 3 := by omega
  rw [drop_at hi] at ov
  obtain ⟨o1, o2, o3⟩ := ov
  have hm := List.mem_of_getElem? hi
  exact ⟨⟨fun z hz => ⟨o1 z hz, ok.num i l hi z hz⟩, h4, o2.2, hA, tb_le3 i hi3, (f.at ok.w0 hi3).1, (f.at ok.w0 hi3).2⟩, o3, o2.2, o2.1, hi3⟩
theorem rowsAt_cons {ls : List (List Sum2)} {i : Nat} {l : List Sum2} {A : List Rat} (hi : ls[i]? = some l) : rowsAt (ls.drop i) A = (l.map fun z => tells z A) :: rowsAt (ls.drop (i + 1)) ((l.map fun z => tells z A).map cutQ) := by
  rw [drop_at hi]
  rfl
/-- what stands behind i layers: the rows told, the row ahead -/
structure Mid (ls : List (List Sum2)) (L : List Rat) (W : Nat → Nat) (D i : Nat) (dn : List (List Rat)) (A : List Rat) : Prop where
  len : dn.length = i
  eq : rowsAt ls L = dn ++ rowsAt (ls.drop i) A
  over : Over A.length (ls.drop i)
  row : SvL (tb i) (pw W i * D) A
  a4 : A.length ≤ 4
theorem mid0 {ls : List (List Sum2)} {L : List Rat} {W : Nat → Nat} {D : Nat} (ok : NetOk L.length ls W) (h : SvL 1500 D L) : Mid ls L W D 0 [] L := by
  have := ok.n3
  refine ⟨rfl, rfl, ok.over, ?_, by omega⟩
  rw [show pw W 0 = 1 from rfl, Nat.one_mul]
  exact h
theorem mid_step {ls : List (List Sum2)} {L A : List Rat} {n D i : Nat} {W : Nat → Nat} {dn : List (List Rat)} {l : List Sum2} (ok : NetOk n ls W) (f : Fits W D) (m : Mid ls L W D i dn A) (hi : ls[i]? = some l) :
    Rk l A (tb i) (W i) (pw W i * D) ∧ Mid ls L W D (i + 1) (dn ++ [l.map fun z => tells z A]) ((l.map fun z => tells z A).map cutQ) ∧ l.length ≤ 4 := by
  obtain ⟨k, o, l4, l1, i3⟩ := rk_of ok f hi m.over m.row m.a4
  refine ⟨k, ⟨by simp [m.len], ?_, ?_, rk_next k, by simpa using l4⟩, l4⟩
  · rw [m.eq, rowsAt_cons hi, List.append_assoc]
    rfl
  · simpa using o
theorem mid_end {ls : List (List Sum2)} {L A : List Rat} {W : Nat → Nat} {D : Nat} {dn : List (List Rat)} (m : Mid ls L W D ls.length dn A) : dn = rowsAt ls L := by
  rw [m.eq, List.drop_length]
  show dn = dn ++ []
  rw [List.append_nil]
theorem rowsAt_length : ∀ (ls : List (List Sum2)) (L : List Rat), (rowsAt ls L).length = ls.length
  | [], _ => rfl
  | l :: ls, L => by
    show (rowsAt ls _).length + 1 = _
    rw [rowsAt_length ls]
    rfl
/-! ### layers that grow -/
def lastN : Nat → List (List Sum2) → Nat
  | n, [] => n
  | _, l :: ls => lastN l.length ls
theorem over_snoc : ∀ {n : Nat} {ls : List (List Sum2)} {l : List Sum2}, Over n ls → (∀ z ∈ l, z.1.length = lastN n ls) → 1 ≤ l.length → l.length ≤ 4 → Over n (ls ++ [l]) ∧ lastN n (ls ++ [l]) = l.length
  | n, [], l, _, h, h1, h4 => ⟨⟨h, ⟨h1, h4⟩, trivial⟩, rfl⟩
  | n, a :: ls, l, o, h, h1, h4 => by
    obtain ⟨o1, o2, o3⟩ := o
    obtain ⟨i1, i2⟩ := over_snoc (n := a.length) (ls := ls) o3 h h1 h4
    exact ⟨⟨o1, o2, i1⟩, i2⟩
theorem sv_div {t b : Int} {n : Nat} (hb : 0 < b) (ht : t.natAbs < 2 ^ n) : Sv n b.toNat (Rat.divInt t b) := by
  constructor
  · rw [← num_div hb]
    exact Nat.lt_of_le_of_lt (natAbs_ediv_le _ _) ht
  · have h := den_of_div (k := t) (D := b.toNat) (by omega)
    rwa [Int.toNat_of_nonneg (by omega)] at h
theorem stN {K : PySem.W.Frag} : Stays (NodesV K) := ⟨NodesV.ex, NodesV.mut⟩
/-- a turn of the drawing of a row -/
theorem row_turn4 {K : PySem.W.Frag} {s D : Addr} {H H' H4 : Hp} {i k k2 N : Nat} {v : V} {r : Rat} (hS : Lst s H) (hD : H D = none) (hi : i < 1000)
    (h : ∃ L xs k' M, H' D = some (.lst xs) ∧ FrL K H' xs L ∧ L.length = i ∧ SvL 1500 (6 * M) L ∧ Dk s H H' ∧ St4 s k' H' ∧ Used k k' M ∧ Used k' k2 N) (r4 : Dk s H' H4) (t4 : St4 s k2 H4) (hv : FrV K H4 v r) (hs : Sv 1500 (6 * N) r) :
    ∃ acc, H4 D = some (.lst acc) ∧ acc.length < sizeLine ∧ ∃ L xs k' M, upd H4 D (.lst (acc ++ [v])) D = some (.lst xs) ∧ FrL K (upd H4 D (.lst (acc ++ [v]))) xs L ∧ L.length = i + 1 ∧ SvL 1500 (6 * M) L ∧ Dk s H (upd H4 D (.lst (acc ++ [v]))) ∧ St4 s k' (upd H4 D (.lst (acc ++ [v]))) ∧ Used k k' M := by
  obtain ⟨L, xs, k', M, hx, hl, hn, hz, r1, t1, u1, u2⟩ := h
  have hsD := hS.ne hD
  have h4 := r4.keep D _ (Ne.symm hsD) hx
  have hln := Paired.length hl
  refine ⟨xs, h4, sz_lt (by omega), L ++ [r], xs ++ [v], k2, M * N, upd_same, ?_, by simp [hn], ?_, (r1.trans r4).mut hD hsD, t4.mut hsD, u1.trans u2⟩
  · exact Paired.snoc (pmono (fun _ _ q => FrV.mut h4 (FrV.dk r1.st r4 q)) hl) (FrV.mut h4 hv)
  · intro a ha
    rcases List.mem_append.mp ha with ha | ha
    · exact sv_l (hz a ha)
    · rw [List.mem_singleton.mp ha]
      exact sv_r hs
end Nc
end
section
set_option maxRecDepth 100000
set_option maxHeartbeats 4000000
namespace Nc
open PySem PySem.Spec PyProof.Rows L2 Evl
theorem ite_t {b : Bool} {A B : Prop} (h : b = true) (x : A) : if b = true then A else B := by
  rw [if_pos h]
  exact x
theorem ite_f {b : Bool} {A B : Prop} (h : b = false) (x : B) : if b = true then A else B := by
  rw [if_neg (by rw [h]; decide)]
  exact x
theorem ite_nt {b : Bool} {A B : Prop} (h : b = true) (x : B) : if (!b) = true then A else B := by
  rw [if_neg (by rw [h]; decide)]
  exact x
theorem ite_nf {b : Bool} {A B : Prop} (h : b = false) (x : A) : if (!b) = true then A else B := by
  rw [if_pos (by rw [h]; decide)]
  exact x
theorem kitLT {K : PySem.W.Frag} : PySem.W.kitAny K (.type "list") [.type "list", .type "tuple"] = some true := by
  simp [PySem.W.kitAny, kit_ty (K := K) (a := "list") (b := "list") (r := true) (by decide +kernel)]
theorem kitTT {K : PySem.W.Frag} : PySem.W.kitAny K (.type "tuple") [.type "list", .type "tuple"] = some true := by
  simp [PySem.W.kitAny, kit_ty (K := K) (a := "tuple") (b := "list") (r := false) (by decide +kernel), kit_ty (K := K) (a := "tuple") (b := "tuple") (r := true) (by decide +kernel)]
theorem cut_init {ys : List V} (h : ys ≠ []) : cutV ys none (some (-1)) = ys.dropLast := by
  have : ys.length ≠ 0 := fun z => h (List.eq_nil_of_length_eq_zero z)
  unfold cutV
  simp [HT.sIx, List.dropLast_eq_take]
  omega
theorem cut_to {ys : List V} {i : Nat} (h : i ≤ ys.length) : cutV ys none (some (i : Int)) = ys.take i := by
  unfold cutV
  simp only [HT.sIx]
  rw [if_neg (by omega), List.drop_zero, Int.toNat_natCast, Nat.min_eq_left h, Nat.sub_zero]
theorem cut_from {ys : List V} {i : Nat} (h : i ≤ ys.length) : cutV ys (some (i : Int)) none = ys.drop i := by
  unfold cutV
  simp only [HT.sIx]
  rw [if_neg (by omega), Int.toNat_natCast, Nat.min_eq_left h]
  exact List.take_of_length_le (by rw [List.length_drop]; omega)
theorem at_last {ys : List V} {v : V} (h : ys[ys.length - 1]? = some v) : atI ys (-1) = some v := by
  have hn : ys ≠ [] := fun z => by
    rw [z] at h
    cases h
  have e := List.dropLast_concat_getLast hn
  have hl : ys.getLast hn = v := by
    rw [List.getLast_eq_getElem]
    rw [List.getElem?_eq_getElem (by have := List.length_pos_iff.mpr hn; omega)] at h
    exact Option.some.inj h
  rw [hl] at e
  rw [← e]
  exact atI_last _ _
/-! ### where one object changes that is no list and no tuple -/
def Ch (p : Addr) (H H' : Hp) : Prop := ∀ b o, b ≠ p → H b = some o → H' b = some o
section
variable {K : PySem.W.Frag} {H H' H2 : Hp} {p C dx : Addr} {fs : List (Str × V)}
theorem Ch.trans (a : Ch p H H') (b : Ch p H' H2) : Ch p H H2 := fun x o hx q => b x o hx (a x o hx q)
theorem Ch.ex (e : Ex H H') : Ch p H H' := fun x o _ q => e x o q
theorem Ch.put {o : HO} : Ch p H (upd H p o) := fun x u hx q => by
  rw [upd_ne hx]
  exact q
theorem sqt_ch {t : Addr} {xs : List V} (hp : H p = some (.ins C dx fs)) (c : Ch p H H') (q : SqT K H t xs) : SqT K H' t xs := by
  rcases q with (q | ⟨o, q⟩) | q
  · exact .inl (.inl (c _ _ (ne_of q hp (by intro z; cases z)) q))
  · exact .inl (.inr ⟨o, c _ _ (ne_of q hp (by intro z; cases z)) q⟩)
  · exact .inr q
theorem sql_ch {t : Addr} {xs : List V} (hp : H p = some (.ins C dx fs)) (c : Ch p H H') (q : SqL K H t xs) : SqL K H' t xs := by
  rcases q with (q | ⟨o, q⟩) | q
  · exact .inl (.inl (c _ _ (ne_of q hp (by intro z; cases z)) q))
  · exact .inl (.inr ⟨o, c _ _ (ne_of q hp (by intro z; cases z)) q⟩)
  · exact .inr q
theorem FrV.ch {v : V} {r : Rat} (hp : H p = some (.ins C dx fs)) (c : Ch p H H') (q : FrV K H v r) : FrV K H' v r := by
  obtain ⟨t, rfl, q⟩ := q
  exact ⟨t, rfl, sqt_ch hp c q⟩
theorem RowV.ch {v : V} {rs : List Rat} (hp : H p = some (.ins C dx fs)) (c : Ch p H H') (q : RowV K H v rs) : RowV K H' v rs := by
  obtain ⟨t, xs, rfl, q, l⟩ := q
  exact ⟨t, xs, rfl, sqt_ch hp c q, pmono (fun _ _ => FrV.ch hp c) l⟩
theorem SumV.ch {v : V} {z : Sum2} (hp : H p = some (.ins C dx fs)) (c : Ch p H H') (q : SumV K H v z) : SumV K H' v z := by
  obtain ⟨t, a, b, rfl, q, l, n⟩ := q
  exact ⟨t, a, b, rfl, sqt_ch hp c q, l.ch hp c, n.ch hp c⟩
theorem LyV.ch {v : V} {l : List Sum2} (hp : H p = some (.ins C dx fs)) (c : Ch p H H') (q : LyV K H v l) : LyV K H' v l := by
  obtain ⟨a, xs, rfl, q, l⟩ := q
  exact ⟨a, xs, rfl, sql_ch hp c q, pmono (fun _ _ => SumV.ch hp c) l⟩
theorem LayI.ch {v : V} {ls : List (List Sum2)} (hp : H p = some (.ins C dx fs)) (c : Ch p H H') (q : LayI K H v ls) : LayI K H' v ls := by
  obtain ⟨D, ys, rfl, q, l⟩ := q
  exact ⟨D, ys, rfl, sql_ch hp c q, pmono (fun _ _ => LyV.ch hp c) l⟩
theorem NodesV.ch {v : V} {l : List Sum2} (hp : H p = some (.ins C dx fs)) (c : Ch p H H') (q : NodesV K H v l) : NodesV K H' v l := by
  obtain ⟨a, xs, rfl, q, l⟩ := q
  exact ⟨a, xs, rfl, sqt_ch hp c q, pmono (fun _ _ => SumV.ch hp c) l⟩
theorem LayV.ch {CL CC : Addr} {v : V} {l : List Sum2} {n : Int} (hp : H p = some (.ins C dx [(("_ins" : Str), .int n)])) (c : Ch p H H') (q : LayV K CL CC H v l) : LayV K CL CC H' v l := by
  obtain ⟨a, D, nv, rfl, hc, ⟨dy, la⟩, nn⟩ := q
  refine ⟨a, D, nv, rfl, hc, ⟨dy, c _ _ (fun z => ?_) la⟩, nn.ch hp c⟩
  subst z
  rw [hp] at la
  have h1 := Option.some.inj la
  injection h1 with _ _ h2
  have h3 := congrArg (List.map Prod.fst) h2
  have h4 : (("_ins" : Str) == ("_nodes" : Str)) = true := by
    have h5 : [("_ins" : Str)] = [("_nodes" : Str)] := h3
    have h6 := List.head_eq_of_cons_eq h5
    rw [h6]
    exact beq_self_eq_true _
  exact absurd h4 (by decide +kernel)
end
theorem pair_init {α β : Type} {R : α → β → Prop} : ∀ {xs : List α} {ys : List β}, Paired R xs ys → Paired R xs.dropLast ys.dropLast
  | _, _, .nil => .nil
  | _, _, .cons a .nil => .nil
  | _, _, .cons a (.cons b t) => .cons a (pair_init (.cons b t))
theorem pair_app {α β : Type} {R : α → β → Prop} : ∀ {xs us : List α} {ys vs : List β}, Paired R xs ys → Paired R us vs → Paired R (xs ++ us) (ys ++ vs)
  | _, _, _, _, .nil, h => h
  | _, _, _, _, .cons a t, h => .cons a (pair_app t h)
theorem init_last {α : Type} {l : List α} {a : α} (h : l[l.length - 1]? = some a) : l.dropLast ++ [a] = l := by
  have hn : l ≠ [] := fun z => by
    rw [z] at h
    cases h
  have e := List.dropLast_concat_getLast hn
  have hl : l.getLast hn = a := by
    rw [List.getLast_eq_getElem]
    rw [List.getElem?_eq_getElem (by have := List.length_pos_iff.mpr hn; omega)] at h
    exact Option.some.inj h
  rwa [hl] at e
/-! ### rules with K written out, for the blocks of comprehensions -/
def rTupK (K : PySem.W.Frag) : List V → Hp → VK → Prop := fun xs H Q => ∃ p ys, xs = [.ref p] ∧ ((SqL K H p ys ∧ ∀ l, H l = none → Q (.ref l) (upd H l (.tup ys))) ∨ (SqT K H p ys ∧ Q (.ref p) H))
theorem call_tupK {X : Cx} (K : PySem.W.Frag) (h : X.K = K := by rfl) : CallR X (.type "tuple") (rTupK K) := by
  subst h
  exact call_tuple_of
def rLstK (K : PySem.W.Frag) : List V → Hp → VK → Prop := fun xs H Q => ∃ p ys, xs = [.ref p] ∧ (SqL K H p ys ∨ SqT K H p ys) ∧ ∀ l, H l = none → Q (.ref l) (upd H l (.lst ys))
theorem call_lstK {X : Cx} (K : PySem.W.Frag) (h : X.K = K := by rfl) : CallR X (.type "list") (rLstK K) := by
  subst h
  exact call_list_of
/-- the classes of layers and nets -/
structure NDefs (P : Program) (w : World) (K : PySem.W.Frag) (mg : Str → Option Value) (base : Heap) (CN CL CC : Addr) : Prop where
  tN : Cls K CN
  nI : NoAttr K CN "_ins"
  nL : NoAttr K CN "_layers"
  tL : Cls K CL
  tC : Cls K CC
  toldL : MOk P w K mg base 1 CL "told" ["self"] (spToldL CL)
  toldC : MOk P w K mg base 1 CC "told" ["self"] (spToldL CC)
  sumsL : MOk P w K mg base 6 CL "sums" ["self", "ahead"] (spPassD K CL)
  sumsC : MOk P w K mg base 6 CC "sums" ["self", "ahead"] (spPassD K CC)
theorem no_m {v : V} {m : Str} (h : ¬ m = "_nodes") : List.lookup m [(("_nodes" : Str), v)] = none := by
  have qw : (m == ("_nodes" : Str)) = false := by simpa using h
  simp [List.lookup, qw]
theorem no_n {v w : V} {m : Str} (h : ¬ m = "_ins") (h2 : ¬ m = "_layers") : List.lookup m [(("_ins" : Str), v), (("_layers" : Str), w)] = none := by
  have qw : (m == ("_ins" : Str)) = false := by simpa using h
  have qw2 : (m == ("_layers" : Str)) = false := by simpa using h2
  simp [List.lookup, qw, qw2]
end Nc
end
section
set_option maxRecDepth 100000
set_option maxHeartbeats 4000000
namespace Nc
open PySem PySem.Spec PyProof.Rows L2 Evl
/-! ### tuples put together, cut, of any length -/
def rCatTE (K : PySem.W.Frag) : R2 := fun x y H Q => ∃ a b xs ys, x = .ref a ∧ y = .ref b ∧ SqT K H a xs ∧ SqT K H b ys ∧ xs.length + ys.length ≤ sizeLine ∧ ∀ p H2, Ex H H2 → SqT K H2 p (xs ++ ys) → Q (.ref p) H2
theorem op_catTE {X : Cx} (K : PySem.W.Frag) (h : X.K = K := by rfl) : OpR X (binaryOp .Add) (rCatTE K) := by
  subst h
  intro pins s σ H x y v u Q I rx ry h
  obtain ⟨a, b, xs, ys, e1, e2, hx, hy, hz, q⟩ := h
  refine op_catA pins s σ H x y v u Q I rx ry ⟨a, b, xs, ys, e1, e2, hx, hy, hz, fun e => ?_, fun _ e => ?_, fun _ _ p hp => q p _ (Ex.new hp) (st_of upd_same)⟩
  · subst e
    exact q b H (Ex.refl H) hy
  · subst e
    exact q a H (Ex.refl H) (by rw [List.append_nil]; exact hx)
def rSlTE (K : PySem.W.Frag) : V → Option Int → Option Int → Hp → VK → Prop := fun x lo hi H Q => ∃ a xs, x = .ref a ∧ SqT K H a xs ∧ ∀ p H2, Ex H H2 → SqT K H2 p (cutV xs lo hi) → Q (.ref p) H2
theorem sl_tupE {X : Cx} (K : PySem.W.Frag) (h : X.K = K := by rfl) : SlR X (rSlTE K) := by
  subst h
  intro pins s σ H x v vl vu lo hi sl Q I rx hs pl pu h
  obtain ⟨a, xs, e, hx, q⟩ := h
  refine sl_tupA pins s σ H x v vl vu lo hi sl Q I rx hs pl pu ⟨a, xs, e, hx, fun hw => ?_, fun _ p hp => q p _ (Ex.new hp) (st_of upd_same)⟩
  refine q a H (Ex.refl H) ?_
  have : cutV xs lo hi = xs := by
    unfold cutV
    rw [hw.1, hw.2, List.drop_zero, Nat.sub_zero, List.take_length]
  rw [this]
  exact hx
theorem mem_cut {xs : List V} {lo hi : Option Int} {v : V} (h : v ∈ cutV xs lo hi) : v ∈ xs := List.mem_of_mem_drop (List.mem_of_mem_take h)
/-! ### the net of a node -/
theorem over_take : ∀ {n : Nat} {ls : List (List Sum2)} {i : Nat} {l : List Sum2}, Over n ls → ls[i]? = some l → Over n (ls.take i) ∧ ∀ z ∈ l, z.1.length = lastN n (ls.take i)
  | n, [], i, l, _, h => by simp at h
  | n, a :: ls, 0, l, o, h => by
    simp at h
    subst h
    exact ⟨trivial, o.1⟩
  | n, a :: ls, i + 1, l, o, h => by
    obtain ⟨o1, o2, o3⟩ := o
    obtain ⟨h1, h2⟩ := over_take (n := a.length) (ls := ls) (i := i) (l := l) o3 (by simpa using h)
    exact ⟨⟨o1, o2, h1⟩, h2⟩
def nodeNet (ls : List (List Sum2)) (i : Nat) (z : Sum2) : List (List Sum2) := ls.take i ++ [[z]]
theorem netok_node {n : Nat} {W : Nat → Nat} {ls : List (List Sum2)} {i : Nat} {l : List Sum2} {z : Sum2} (ok : NetOk n ls W) (hl : ls[i]? = some l) (hz : z ∈ l) : NetOk n (nodeNet ls i z) W := by
  obtain ⟨o1, o2⟩ := over_take ok.over hl
  have hi := (List.getElem?_eq_some_iff.mp hl).1
  have h4 := ok.l4
  have hm := List.mem_of_getElem? hl
  obtain ⟨o3, _⟩ := over_snoc o1 (l := [z]) (fun a ha => by rw [List.mem_singleton.mp ha]; exact o2 z hz) (by simp) (by simp)
  refine ⟨ok.n1, ok.n3, o3, ?_, ?_, ?_, ok.w0⟩
  · simp [nodeNet]
  · simp [nodeNet]
    omega
  · intro k a ha b hb
    unfold nodeNet at ha
    by_cases hk : k < i
    · rw [List.getElem?_append_left (by rw [List.length_take]; omega), List.getElem?_take_of_lt hk] at ha
      exact ok.num k a ha b hb
    · rw [List.getElem?_append_right (by rw [List.length_take]; omega), List.length_take, Nat.min_eq_left (by omega)] at ha
      have hk0 : k - i = 0 := by
        have := (List.getElem?_eq_some_iff.mp ha).1
        simp at this
        omega
      rw [hk0] at ha
      have e : [z] = a := Option.some.inj ha
      subst e
      have e2 : k = i := by omega
      subst e2
      rw [List.mem_singleton.mp hb]
      exact ok.num k l hl z hz
theorem node_len {ls : List (List Sum2)} {i : Nat} {l : List Sum2} {z : Sum2} (hl : ls[i]? = some l) : (nodeNet ls i z).length = i + 1 := by
  have hi := (List.getElem?_eq_some_iff.mp hl).1
  simp [nodeNet]
  omega
theorem node_last {ls : List (List Sum2)} {i : Nat} {l : List Sum2} {z : Sum2} (hl : ls[i]? = some l) : (nodeNet ls i z)[(nodeNet ls i z).length - 1]? = some [z] := by
  have hi := (List.getElem?_eq_some_iff.mp hl).1
  have h : (ls.take i).length = i := by
    rw [List.length_take]
    omega
  rw [node_len hl]
  unfold nodeNet
  rw [show i + 1 - 1 = (ls.take i).length by omega]
  exact List.getElem?_concat_length
theorem rows_node : ∀ {ls : List (List Sum2)} {i j : Nat} {L : List Rat} {l : List Sum2} {z : Sum2}, ls[i]? = some l → l[j]? = some z → ∃ r x, (rowsAt ls L)[i]? = some r ∧ r[j]? = some x ∧ (rowsAt (nodeNet ls i z) L)[i]? = some [x]
  | [], i, j, L, l, z, h, _ => by simp at h
  | a :: ls, 0, j, L, l, z, h, hz => by
    simp at h
    subst h
    refine ⟨_, tells z L, rfl, ?_, rfl⟩
    rw [List.getElem?_map, hz]
    rfl
  | a :: ls, i + 1, j, L, l, z, h, hz => rows_node (ls := ls) (i := i) (L := (a.map fun z => tells z L).map cutQ) (by simpa using h) hz
theorem pair_take {α β : Type} {R : α → β → Prop} : ∀ {xs : List α} {ys : List β} {i : Nat}, Paired R xs ys → Paired R (xs.take i) (ys.take i)
  | _, _, 0, _ => .nil
  | _, _, i + 1, .nil => .nil
  | _, _, i + 1, .cons a t => .cons a (pair_take t)
/-! ### promises -/
def spCheckN (K : PySem.W.Frag) (CN CL CC : Addr) : Sp := fun vs H Q _ => ∃ (p : Addr) (n i j : Nat) (ls : List (List Sum2)) (l : List Sum2) (z : Sum2), vs = [.ref p, .int (i : Int), .int (j : Int)] ∧ NetV K CN CL CC H p n ls ∧ ls.length ≤ 100 ∧ (∀ l ∈ ls, l.length ≤ 100) ∧ ls[i]? = some l ∧ l[j]? = some z ∧ ∀ H', Ex H H' → Q .non H'
def spNodeNet (K : PySem.W.Frag) (CN CL CC : Addr) : Sp := fun vs H Q _ => ∃ (p : Addr) (n i j : Nat) (W : Nat → Nat) (ls : List (List Sum2)) (l : List Sum2) (z : Sum2), vs = [.ref p, .int (i : Int), .int (j : Int)] ∧ NetV K CN CL CC H p n ls ∧ NetOk n ls W ∧ ls[i]? = some l ∧ l[j]? = some z ∧ ∀ q' H', Ex H H' → NetV K CN CL CC H' q' n (nodeNet ls i z) → Q (.ref q') H'
def spOutsN (K : PySem.W.Frag) (CN CL CC : Addr) : Sp := fun vs H Q _ => ∃ (p : Addr) (n : Nat) (ls : List (List Sum2)) (l : List Sum2), vs = [.ref p] ∧ NetV K CN CL CC H p n ls ∧ ls[ls.length - 1]? = some l ∧ Q (.int (l.length : Int)) H
theorem over_len : ∀ {n : Nat} {ls : List (List Sum2)}, Over n ls → ∀ l ∈ ls, l.length ≤ 4
  | _, [], _, l, h => by cases h
  | n, a :: ls, o, l, h => by
    rcases List.mem_cons.mp h with rfl | h
    · exact o.2.1.2
    · exact over_len o.2.2 l h
theorem ex_none {H H' : Hp} {p : Addr} (e : Ex H H') (h : H' p = none) : H p = none := Option.eq_none_iff_forall_ne_some.mpr fun o ho => by
  rw [e _ _ ho] at h
  cases h
end Nc
end
section
set_option maxRecDepth 100000
set_option maxHeartbeats 4000000
namespace Nc
open PySem PySem.Spec PyProof.Rows L2 Evl
/-! ### patterns -/
def pstep (pw : Int × Int) (r : Rat) : Int × Int := (if 0 < r.num then pw.1 + pw.2 else pw.1, 2 * pw.2)
def pfold (rows : List (List Rat)) : Int × Int := rows.flatten.foldl pstep (0, 1)
def patR (rows : List (List Rat)) : Int := (pfold rows.dropLast).1
theorem pfold_take {rows : List (List Rat)} {i : Nat} {r : List Rat} (h : rows[i]? = some r) : pfold (rows.take (i + 1)) = r.foldl pstep (pfold (rows.take i)) := by
  unfold pfold
  rw [List.take_add_one, h, List.flatten_append, List.foldl_append]
  simp
theorem fold_take {r : List Rat} {j : Nat} {x : Rat} {st : Int × Int} (h : r[j]? = some x) : (r.take (j + 1)).foldl pstep st = pstep ((r.take j).foldl pstep st) x := by
  rw [List.take_add_one, h, List.foldl_append]
  rfl
def spPatAt (K : PySem.W.Frag) (CN CL CC : Addr) : Sp := fun vs H Q _ => ∃ (p : Addr) (y : V) (ls : List (List Sum2)) (L : List Rat) (W : Nat → Nat) (D : Nat), vs = [.ref p, y] ∧ NetV K CN CL CC H p L.length ls ∧ RowV K H y L ∧ NetOk L.length ls W ∧ SvL 1500 D L ∧ Fits W D ∧ ∀ H', Ex H H' → Q (.int (patR (rowsAt ls L))) H'
def spPatL (K : PySem.W.Frag) : Sp := fun vs H Q _ => ∃ (F : Addr) (rs : List V) (rows : List (List Rat)), vs = [.ref F] ∧ SqL K H F rs ∧ Paired (RowV K H) rs rows ∧ rows ≠ [] ∧ ∀ H', Ex H H' → Q (.int (patR rows)) H'
/-! ### short numbers -/
def short (r : Rat) : Bool := decide (((r.num.natAbs : Nat) : Int) < 100) && decide ((r.den : Int) < 100)
theorem short_sz {r : Rat} (h : short r = true) : Sz 7 7 r := by
  unfold short at h
  rw [Bool.and_eq_true] at h
  have h1 := of_decide_eq_true h.1
  have h2 := of_decide_eq_true h.2
  exact ⟨by omega, by omega⟩
def spShort (K : PySem.W.Frag) : Sp := fun vs H Q _ => ∃ (x : V) (L : List Rat), vs = [x] ∧ RowV K H x L ∧ L.length ≤ 100 ∧ ∀ H', Ex H H' → Q (.bl ((L.map short).all id)) H'
theorem all_short {L : List Rat} (h : (L.map short).all id = true) : SzL 7 7 L := by
  intro r hr
  rw [List.all_map] at h
  have := List.all_eq_true.mp h r hr
  exact short_sz this
theorem pair_drop {α β : Type} {R : α → β → Prop} : ∀ {xs : List α} {ys : List β} {i : Nat}, Paired R xs ys → Paired R (xs.drop i) (ys.drop i)
  | _, _, 0, h => h
  | _, _, i + 1, .nil => .nil
  | _, _, i + 1, .cons a t => pair_drop (i := i) t
def spNought (K : PySem.W.Frag) : Sp := fun vs H Q _ => ∃ (x y : V) (ls : List (List Sum2)) (L : List Rat) (W : Nat → Nat) (D : Nat), vs = [x, y] ∧ LayI K H x ls ∧ RowV K H y L ∧ NetOk L.length ls W ∧ SvL 1500 D L ∧ 0 < D ∧ (∀ i, W i ≤ 2 ^ 203) ∧ D ≤ 2 ^ 203 ∧
  ∀ v L' D' H', Ex H H' → RowV K H' v L' → L'.length = L.length → SvL 1500 D' L' → Fits W D' → Q v H'
def spPlain (K : PySem.W.Frag) : Sp := fun vs H Q _ => ∃ (x : V) (L : List Rat), vs = [x] ∧ RowV K H x L ∧ Q (.bl true) H
/-- a spot put so -/
def putAt (L : List Rat) (i : Nat) (r : Rat) : List Rat := L.take i ++ [r] ++ L.drop (i + 1)
theorem len_put {L : List Rat} {i : Nat} {r : Rat} (h : i < L.length) : (putAt L i r).length = L.length := by
  simp [putAt]
  omega
theorem sv_put {n D E : Nat} {L : List Rat} {i : Nat} {r : Rat} (h : SvL n D L) (hr : Sv n E r) (hD : D ∣ E) : SvL n E (putAt L i r) := by
  intro a ha
  rcases List.mem_append.mp ha with ha | ha
  · rcases List.mem_append.mp ha with ha | ha
    · exact (h a (List.mem_of_mem_take ha)).mono (Nat.le_refl _) hD
    · rw [List.mem_singleton.mp ha]
      exact hr
  · exact (h a (List.mem_of_mem_drop ha)).mono (Nat.le_refl _) hD
theorem sz_put {n d : Nat} {L : List Rat} {i : Nat} {r : Rat} (h : SzL n d L) (hr : Sz n d r) : SzL n d (putAt L i r) := by
  intro a ha
  rcases List.mem_append.mp ha with ha | ha
  · rcases List.mem_append.mp ha with ha | ha
    · exact h a (List.mem_of_mem_take ha)
    · rw [List.mem_singleton.mp ha]
      exact hr
  · exact h a (List.mem_of_mem_drop ha)
theorem fits_put {W : Nat → Nat} {D E : Nat} (hW : ∀ i, W i ≤ 2 ^ 203) (hD : D ≤ 2 ^ 203) (d0 : 0 < D) (e0 : 0 < E) (hE : E ≤ 2 ^ 70) : Fits W (D * E) := by
  refine ⟨Nat.mul_pos d0 e0, ?_⟩
  have h3 : pw W 4 * (D * E) ≤ (2 ^ 203 * (2 ^ 203 * (2 ^ 203 * (2 ^ 203 * 1)))) * (2 ^ 203 * 2 ^ 70) := Nat.mul_le_mul (Nat.mul_le_mul (hW 3) (Nat.mul_le_mul (hW 2) (Nat.mul_le_mul (hW 1) (Nat.mul_le_mul (hW 0) (Nat.le_refl 1))))) (Nat.mul_le_mul hD hE)
  exact Nat.lt_of_le_of_lt h3 (by decide +kernel)
end Nc
end
section
set_option maxRecDepth 100000
set_option maxHeartbeats 4000000
namespace Nc
open PySem PySem.Spec PyProof.Rows L2
/-- an iterator at it over what stands at l: J its place, C what stands -/
structure Itr (it l : Addr) (J : Heap → Nat → Prop) (C : Heap → Array Value → Prop) : Prop where
  keepJ : ∀ {h h' : Heap} {k : Nat}, J h k → h'.get? it = h.get? it → J h' k
  keepC : ∀ {h h' : Heap} {xs : Array Value}, C h xs → h'.get? l = h.get? l → C h' xs
  item : ∀ {prog : Program} {w : World} {A : Around} {E : Value → Shared → Prop} {s : Shared} {k : Nat} {xs : Array Value} {x : Value} {Q : Value → Shared → Prop}, J s.heap k → C s.heap xs → xs[k]? = some x → (∀ h' : Heap, J h' (k + 1) → Heap.SameBut it s.heap h' → Q x { heap := h', gens := s.gens, drawn := s.drawn, toks := s.toks, os := s.os }) → wpAny (model prog w) A (Builtin.SmallTypes.nextOf (Value.ref it)) Q E s
  stop : ∀ {prog : Program} {w : World} {A : Around} {E : Value → Shared → Prop} {s : Shared} {k : Nat} {xs : Array Value} {Q : Value → Shared → Prop}, A.handled = none → J s.heap k → C s.heap xs → xs[k]? = none → (∀ (h' : Heap) (e : Addr), Heap.ExtBut it s.heap h' → (∃ o, h'.get? e = some o ∧ o.cls = Value.type "StopIteration") → E (Value.ref e) { heap := h', gens := s.gens, drawn := s.drawn, toks := s.toks, os := s.os }) → wpAny (model prog w) A (Builtin.SmallTypes.nextOf (Value.ref it)) Q E s
theorem itrL {it l : Addr} : Itr it l (fun h k => h.IsListIter it l k) (fun h xs => h.IsList l xs) :=
  ⟨fun ⟨o, h, r⟩ e => ⟨o, by rw [e]; exact h, r⟩, fun ⟨o, h, r⟩ e => ⟨o, by rw [e]; exact h, r⟩, fun a b c d => wpAny_nextOf_list_item a b c d, fun z a b c d => wpAny_nextOf_list_end z a b c d⟩
theorem itrT {it l : Addr} : Itr it l (fun h k => h.IsTupleIter it l k) (fun h xs => h.IsTuple l xs) :=
  ⟨fun ⟨o, h, r⟩ e => ⟨o, by rw [e]; exact h, r⟩, fun ⟨o, h, r⟩ e => ⟨o, by rw [e]; exact h, r⟩, fun a b c d => RZ.nextOf_tuple_item a b c d, fun z a b c d => RZ.nextOf_tuple_end z a b c d⟩
theorem push_ne {h : Heap} {o : Obj} {c : Addr} (hc : c < h.objs.size) : (h.push o).get? c = h.get? c := by
  cases e : h.get? c with
  | some u => exact Heap.get?_push_of_some _ e
  | none =>
    unfold Heap.get? Heap.push at *
    simp only [Array.getElem?_push] at *
    rw [if_neg (by exact Nat.ne_of_lt hc)]
    exact e
theorem zipG_next_item {J1 J2 : Heap → Nat → Prop} {C1 C2 : Heap → Array Value → Prop} {prog : Program} {w : World} {A : Around} {E : Value → Shared → Prop} {s : Shared} {z TI TO i1 i2 l1 l2 : Addr} {k1 k2 : Nat} {xs ys : Array Value} {x y a b : Value} {Q : Value → Shared → Prop}
    (ap : ZipApart z TI TO i1 i2 l1 l2) (hz : IsZip s.heap z TI TO Value.none) (hI : IsPair s.heap TI (Value.ref i1) (Value.ref i2)) (hO : IsPair s.heap TO a b) (I1 : Itr i1 l1 J1 C1) (I2 : Itr i2 l2 J2 C2) (h1 : J1 s.heap k1) (h2 : J2 s.heap k2) (t1 : C1 s.heap xs) (t2 : C2 s.heap ys)
    (li1 : i1 < s.heap.objs.size) (li2 : i2 < s.heap.objs.size) (x1 : xs[k1]? = some x) (x2 : ys[k2]? = some y)
    (q : ∀ h' : Heap, IsZip h' z TI TO (rawInt ↑s.heap.objs.size) → IsPair h' TO x y → J1 h' (k1 + 1) → J2 h' (k2 + 1) → IsPair h' s.heap.objs.size x y → h'.objs.size = s.heap.objs.size + 1 → (∀ (c : Addr) (o : Obj), c ≠ z → c ≠ TO → c ≠ i1 → c ≠ i2 → s.heap.get? c = some o → h'.get? c = some o) → Q (Value.ref s.heap.objs.size) { heap := h', gens := s.gens, drawn := s.drawn, toks := s.toks, os := s.os }) :
    wpAny (model prog w) A (Builtin.«zip.__next__» { pos := [Value.ref z] }) (fun fin s' => ∃ v, fin = Fin.done (Flow.ret v) ∧ Q v s') E s := by
  obtain ⟨hp, g, d, tk, os⟩ := s
  simp only at hz hI hO q li1 li2
  have ap0 := ap
  obtain ⟨a1, a2, a3, a4, a5, a6, a7, a8, a9, a10, b1, b2, b3, b4, b5, b6, b7, b8⟩ := ap
  wp_walk
  show wpAny (model prog w) A (((Builtin.SmallTypes.nextOf (Value.ref i1)).bind fun x => Sem.pure (some x)).onRaise fun _ => setField (Value.ref z) 0 Value.none) _ _ _
  refine wpAny_onRaise (wpAny_bind ?_)
  refine I1.item (k := k1) (xs := xs) (x := x) ?_ ?_ x1 fun h' t' sb => ?_
  · exact I1.keepJ h1 (Heap.get?_update_ne _ _ _ _ a3)
  · exact I1.keepC t1 (Heap.get?_update_ne _ _ _ _ b1)
  · have hO' : IsPair h' TO a b := by
      show h'.get? TO = _
      rw [sb.2 TO a8]
      show (hp.update z _).get? TO = _
      heap_get
    have h2' : J2 h' k2 := I2.keepJ h2 ((sb.2 i2 (Ne.symm a10)).trans (Heap.get?_update_ne _ _ _ _ a4))
    have t2' : C2 h' ys := I2.keepC t2 ((sb.2 l2 b7).trans (Heap.get?_update_ne _ _ _ _ b5))
    have hz' : h'.get? z = some { cls := Value.type "zip", data := Data.fields #[Value.ellipsis, Value.bool false, Value.bool false, Value.ref TI, Value.ref TO] } := by
      rw [sb.2 z (Ne.symm a3)]
      exact Heap.get?_update_self _ hz rfl
    refine wpAny_pure ?_
    wp_walk
    show wpAny (model prog w) A (((Builtin.SmallTypes.nextOf (Value.ref i2)).bind fun x => Sem.pure (some x)).onRaise fun _ => setField (Value.ref z) 0 Value.none) _ _ _
    refine wpAny_onRaise (wpAny_bind ?_)
    refine I2.item (k := k2) (xs := ys) (x := y) ?_ ?_ x2 fun h'' t'' sb2 => ?_
    · exact I2.keepJ h2' (Heap.get?_update_ne _ _ _ _ (Ne.symm a9))
    · exact I2.keepC t2' (Heap.get?_update_ne _ _ _ _ b6)
    · have hO2 : h''.get? TO = some { cls := Value.type "tuple", data := Data.seq #[x, b] } := by
        rw [sb2.2 TO a9]
        exact Heap.get?_update_self _ hO' rfl
      have hz2 : h''.get? z = some { cls := Value.type "zip", data := Data.fields #[Value.ellipsis, Value.bool false, Value.bool false, Value.ref TI, Value.ref TO] } := by
        rw [sb2.2 z (Ne.symm a4)]
        show (h'.update TO _).get? z = _
        heap_get
      refine wpAny_pure ?_
      wp_walk
      have es : (h''.update TO (Obj.mapSeq fun x => x.setIfInBounds (0 + 1) y)).objs.size = hp.objs.size := by
        rw [Heap.size_update, sb2.1]
        show (h'.update TO _).objs.size = _
        rw [Heap.size_update, sb.1]
        exact Heap.size_update _ _ _
      have k1' : ∀ (c : Addr) (o : Obj), c ≠ z → c ≠ TO → c ≠ i1 → c ≠ i2 → hp.get? c = some o → (h''.update TO (Obj.mapSeq fun x => x.setIfInBounds (0 + 1) y)).get? c = some o := by
        intro c o n1 n2 n3 n4 hc
        rw [Heap.get?_update_ne _ _ _ _ n2, sb2.2 c n4]
        show (h'.update TO _).get? c = some o
        rw [Heap.get?_update_ne _ _ _ _ n2, sb.2 c n3]
        show (hp.update z _).get? c = some o
        rw [Heap.get?_update_ne _ _ _ _ n1]
        exact hc
      have kTO : (h''.update TO (Obj.mapSeq fun x => x.setIfInBounds (0 + 1) y)).get? TO = some { cls := Value.type "tuple", data := Data.seq #[x, y] } := Heap.get?_update_self _ hO2 rfl
      have kz : (h''.update TO (Obj.mapSeq fun x => x.setIfInBounds (0 + 1) y)).get? z = some { cls := Value.type "zip", data := Data.fields #[Value.ellipsis, Value.bool false, Value.bool false, Value.ref TI, Value.ref TO] } := by
        rw [Heap.get?_update_ne _ _ _ _ (Ne.symm a2)]
        exact hz2
      have ki1 : J1 (h''.update TO (Obj.mapSeq fun x => x.setIfInBounds (0 + 1) y)) (k1 + 1) := I1.keepJ t' ((Heap.get?_update_ne _ _ _ _ (Ne.symm a8)).trans ((sb2.2 i1 a10).trans (Heap.get?_update_ne _ _ _ _ (Ne.symm a8))))
      have ki2 : J2 (h''.update TO (Obj.mapSeq fun x => x.setIfInBounds (0 + 1) y)) (k2 + 1) := I2.keepJ t'' (Heap.get?_update_ne _ _ _ _ (Ne.symm a9))
      rw [es]
      generalize h''.update TO (Obj.mapSeq fun x => x.setIfInBounds (0 + 1) y) = hu at es k1' kTO kz ki1 ki2 ⊢
      have up : ∀ {c : Addr} {o : Obj} {t f g}, c ≠ z → hu.get? c = some o → (((hu.push t).update z f).update z g).get? c = some o := fun n hc => by
        rw [Heap.get?_update_ne _ _ _ _ n, Heap.get?_update_ne _ _ _ _ n]
        exact Heap.get?_push_of_some _ hc
      refine ⟨_, rfl, q _ ?_ ?_ ?_ ?_ ?_ ?_ fun c o n1 n2 n3 n4 hc => up n1 (k1' c o n1 n2 n3 n4 hc)⟩
      · exact Heap.get?_update_self _ (Heap.get?_update_self _ (Heap.get?_push_of_some _ kz) rfl) rfl
      · exact up a2 kTO
      · refine I1.keepJ ki1 ?_
        rw [Heap.get?_update_ne _ _ _ _ a3, Heap.get?_update_ne _ _ _ _ a3]
        exact push_ne (by rw [es]; exact li1)
      · refine I2.keepJ ki2 ?_
        rw [Heap.get?_update_ne _ _ _ _ a4, Heap.get?_update_ne _ _ _ _ a4]
        exact push_ne (by rw [es]; exact li2)
      · have nz : hp.objs.size ≠ z := fun e => by
          exact absurd e (Nat.ne_of_gt (Heap.lt_size hz))
        show Heap.get? _ _ = _
        rw [Heap.get?_update_ne _ _ _ _ nz, Heap.get?_update_ne _ _ _ _ nz]
        rw [← es]; exact Heap.get?_push_size _ rfl
      · rw [Heap.size_update, Heap.size_update]
        show (hu.objs.push _).size = _
        rw [Array.size_push, es]
end Nc
end
section
set_option maxRecDepth 100000
set_option maxHeartbeats 4000000
namespace Nc
open PySem PySem.Spec PyProof.Rows L2
theorem zipG_next_end {J1 J2 : Heap → Nat → Prop} {C1 C2 : Heap → Array Value → Prop} {prog : Program} {w : World} {A : Around} {E : Value → Shared → Prop} {s : Shared} {z TI TO i1 i2 l1 l2 : Addr} {k1 k2 : Nat} {xs ys : Array Value} {a b : Value} {Q : PySem.Fin → Shared → Prop}
    (hA : A.handled = none) (ap : ZipApart z TI TO i1 i2 l1 l2) (hz : IsZip s.heap z TI TO Value.none) (hI : IsPair s.heap TI (Value.ref i1) (Value.ref i2)) (hO : IsPair s.heap TO a b) (I1 : Itr i1 l1 J1 C1) (I2 : Itr i2 l2 J2 C2) (h1 : J1 s.heap k1) (h2 : J2 s.heap k2) (t1 : C1 s.heap xs) (t2 : C2 s.heap ys)
    (x12 : xs[k1]? = none ∨ ys[k2]? = none)
    (q : ∀ (h' : Heap) (e : Addr), (∀ (c : Addr) (o : Obj), c ≠ z → c ≠ TO → c ≠ i1 → c ≠ i2 → s.heap.get? c = some o → h'.get? c = some o) → (∃ o, h'.get? e = some o ∧ o.cls = Value.type "StopIteration") → E (Value.ref e) { heap := h', gens := s.gens, drawn := s.drawn, toks := s.toks, os := s.os }) :
    wpAny (model prog w) A (Builtin.«zip.__next__» { pos := [Value.ref z] }) Q E s := by
  obtain ⟨hp, g, d, tk, os⟩ := s
  simp only at hz hI hO q
  obtain ⟨a1, a2, a3, a4, a5, a6, a7, a8, a9, a10, b1, b2, b3, b4, b5, b6, b7, b8⟩ := ap
  have fin : ∀ (h' : Heap) (e : Addr), (∀ (c : Addr) (o : Obj), c ≠ z → c ≠ TO → c ≠ i1 → c ≠ i2 → hp.get? c = some o → h'.get? c = some o) → (∃ o, h'.get? e = some o ∧ o.cls = Value.type "StopIteration") → h'.get? z = some { cls := Value.type "zip", data := Data.fields #[Value.ellipsis, Value.bool false, Value.bool false, Value.ref TI, Value.ref TO] } → E (Value.ref e) { heap := h'.update z (Obj.mapFields fun x => x.setIfInBounds 0 Value.none), gens := g, drawn := d, toks := tk, os := os } := by
    intro h' e kp se hz'
    refine q _ e (fun c o n1 n2 n3 n4 hc => by rw [Heap.get?_update_ne _ _ _ _ n1]; exact kp c o n1 n2 n3 n4 hc) ?_
    obtain ⟨o, ho, hc⟩ := se
    have ne : e ≠ z := fun eq => by
      rw [eq, hz'] at ho
      rw [← Option.some.inj ho] at hc
      have := Value.type.inj hc
      exact absurd this (by decide)
    exact ⟨o, by rw [Heap.get?_update_ne _ _ _ _ ne]; exact ho, hc⟩
  cases x1 : xs[k1]? with
  | none =>
    wp_walk
    show wpAny (model prog w) A (((Builtin.SmallTypes.nextOf (Value.ref i1)).bind fun x => Sem.pure (some x)).onRaise fun _ => setField (Value.ref z) 0 Value.none) _ _ _
    refine wpAny_onRaise (wpAny_bind ?_)
    refine I1.stop (k := k1) (xs := xs) hA ?_ ?_ x1 fun h' e ex se => ?_
    · exact I1.keepJ h1 (Heap.get?_update_ne _ _ _ _ a3)
    · exact I1.keepC t1 (Heap.get?_update_ne _ _ _ _ b1)
    · have hz' : h'.get? z = some { cls := Value.type "zip", data := Data.fields #[Value.ellipsis, Value.bool false, Value.bool false, Value.ref TI, Value.ref TO] } := ex z _ (Ne.symm a3) (Heap.get?_update_self _ hz rfl)
      wp_walk
      exact fin h' e (fun c o n1 n2 n3 n4 hc => ex c o n3 ((Heap.get?_update_ne _ _ _ _ n1).trans hc)) se hz'
  | some x =>
    have x2 : ys[k2]? = none := by
      rcases x12 with h | h
      · rw [x1] at h
        cases h
      · exact h
    wp_walk
    show wpAny (model prog w) A (((Builtin.SmallTypes.nextOf (Value.ref i1)).bind fun x => Sem.pure (some x)).onRaise fun _ => setField (Value.ref z) 0 Value.none) _ _ _
    refine wpAny_onRaise (wpAny_bind ?_)
    refine I1.item (k := k1) (xs := xs) (x := x) ?_ ?_ x1 fun h' t' sb => ?_
    · exact I1.keepJ h1 (Heap.get?_update_ne _ _ _ _ a3)
    · exact I1.keepC t1 (Heap.get?_update_ne _ _ _ _ b1)
    · have hO' : IsPair h' TO a b := by
        show h'.get? TO = _
        rw [sb.2 TO a8]
        show (hp.update z _).get? TO = _
        heap_get
      have h2' : J2 h' k2 := I2.keepJ h2 ((sb.2 i2 (Ne.symm a10)).trans (Heap.get?_update_ne _ _ _ _ a4))
      have t2' : C2 h' ys := I2.keepC t2 ((sb.2 l2 b7).trans (Heap.get?_update_ne _ _ _ _ b5))
      have hz' : h'.get? z = some { cls := Value.type "zip", data := Data.fields #[Value.ellipsis, Value.bool false, Value.bool false, Value.ref TI, Value.ref TO] } := by
        rw [sb.2 z (Ne.symm a3)]
        exact Heap.get?_update_self _ hz rfl
      refine wpAny_pure ?_
      wp_walk
      show wpAny (model prog w) A (((Builtin.SmallTypes.nextOf (Value.ref i2)).bind fun x => Sem.pure (some x)).onRaise fun _ => setField (Value.ref z) 0 Value.none) _ _ _
      refine wpAny_onRaise (wpAny_bind ?_)
      refine I2.stop (k := k2) (xs := ys) hA ?_ ?_ x2 fun h'' e ex se => ?_
      · exact I2.keepJ h2' (Heap.get?_update_ne _ _ _ _ (Ne.symm a9))
      · exact I2.keepC t2' (Heap.get?_update_ne _ _ _ _ b6)
      · have hz2 : h''.get? z = some { cls := Value.type "zip", data := Data.fields #[Value.ellipsis, Value.bool false, Value.bool false, Value.ref TI, Value.ref TO] } := ex z _ (Ne.symm a4) ((Heap.get?_update_ne _ _ _ _ (Ne.symm a2)).trans hz')
        wp_walk
        refine fin h'' e (fun c o n1 n2 n3 n4 hc => ex c o n4 ((Heap.get?_update_ne _ _ _ _ n2).trans ?_)) se hz2
        rw [sb.2 c n3]
        exact (Heap.get?_update_ne _ _ _ _ n1).trans hc
end Nc
end
section
set_option maxRecDepth 100000
set_option maxHeartbeats 4000000
namespace Nc
open PySem PySem.Spec PyProof.Rows L2
/-! zip of any two kinds of sequences: true a tuple, false a list -/
def SqX (K : PySem.W.Frag) : Bool → Hp → Addr → List V → Prop
  | true => fun H a xs => SqT K H a xs
  | false => fun H a xs => SqL K H a xs
def JX : Bool → Addr → Addr → Heap → Nat → Prop
  | true => fun it l h k => h.IsTupleIter it l k
  | false => fun it l h k => h.IsListIter it l k
def CX : Bool → Addr → Heap → Array Value → Prop
  | true => fun l h xs => h.IsTuple l xs
  | false => fun l h xs => h.IsList l xs
def itN : Bool → String
  | true => "tuple_iterator"
  | false => "list_iterator"
theorem itrX {it l : Addr} : (c : Bool) → Itr it l (JX c it l) (CX c l)
  | true => itrT
  | false => itrL
theorem JX.lt {it l : Addr} {h : Heap} {k : Nat} : {c : Bool} → JX c it l h k → it < h.objs.size
  | true, ⟨_, e, _⟩ => Heap.lt_size e
  | false, ⟨_, e, _⟩ => Heap.lt_size e
theorem JX.at' {it l : Addr} {h h' : Heap} {k : Nat} : {c : Bool} → JX c it l h k → (∀ o, h.get? it = some o → h'.get? it = some o) → JX c it l h' k
  | true, j, f => Heap.IsTupleIter.at j f
  | false, j, f => Heap.IsListIter.at j f
theorem CX.lt {l : Addr} {h : Heap} {xs : Array Value} : {c : Bool} → CX c l h xs → l < h.objs.size
  | true, ⟨_, e, _⟩ => Heap.lt_size e
  | false, ⟨_, e, _⟩ => Heap.lt_size e
theorem CX.push {l : Addr} {h : Heap} {xs : Array Value} {o : Obj} : {c : Bool} → CX c l h xs → CX c l (h.push o) xs
  | true, ⟨o', e, r⟩ => ⟨o', Heap.get?_push_of_some _ e, r⟩
  | false, ⟨o', e, r⟩ => ⟨o', Heap.get?_push_of_some _ e, r⟩
theorem invX {X : Cx} {pins : List (Addr × Obj)} {σ : L2.St} {H : Hp} {s : Shared} (I : Inv X pins σ H s) {a : Addr} {xs : List V} : {c : Bool} → SqX X.K c H a xs → ∃ its, Vals xs its ∧ CX c a s.heap its.toArray
  | true, q => by obtain ⟨its, r, p, _⟩ := I.tuple q; exact ⟨its, r, p⟩
  | false, q => by obtain ⟨its, r, p, _⟩ := I.list q; exact ⟨its, r, p.isList⟩
theorem injX {X : Cx} {pins : List (Addr × Obj)} {σ : L2.St} {H : Hp} {s : Shared} (I : Inv X pins σ H s) {a : Addr} {xs ys : List V} : {c : Bool} → SqX X.K c H a xs → SqX X.K c H a ys → xs = ys
  | true, q, r => I.tuple_inj q r
  | false, q, r => I.list_inj q r
section
variable {prog : Program} {w : World} {A : Around} {E : Value → Shared → Prop} {s : Shared}
theorem pyNext_zipX_item {c1 c2 : Bool} {z TI TO i1 i2 l1 l2 : Addr} {k1 k2 : Nat} {xs ys : Array Value} {x y a b : Value} {Q : Option Value → Shared → Prop} (D : ZipApart z TI TO i1 i2 l1 l2)
    (hz : IsZip s.heap z TI TO .none) (hTI : IsPair s.heap TI (.ref i1) (.ref i2)) (hTO : IsPair s.heap TO a b)
    (h1 : JX c1 i1 l1 s.heap k1) (h2 : JX c2 i2 l2 s.heap k2) (hl1 : CX c1 l1 s.heap xs) (hl2 : CX c2 l2 s.heap ys) (hx : xs[k1]? = some x) (hy : ys[k2]? = some y)
    (hQ : ∀ h', IsZip h' z TI TO (rawInt s.heap.objs.size) → IsPair h' TO x y → JX c1 i1 l1 h' (k1 + 1) → JX c2 i2 l2 h' (k2 + 1) → IsPair h' s.heap.objs.size x y → h'.objs.size = s.heap.objs.size + 1 →
      (∀ c o, c ≠ z → c ≠ TO → c ≠ i1 → c ≠ i2 → s.heap.get? c = some o → h'.get? c = some o) → Q (some (.ref s.heap.objs.size)) { s with heap := h' }) :
    wpAny (model prog w) A (pyNext (.ref z)) Q E s := by
  have hT : s.TypeIs (.ref z) "zip" := ⟨_, hz, rfl⟩
  unfold pyNext
  exact wpAny_bind (wpAny_attempt (wpAny_callSpecial?_slot (name := Str.ofString "__next__") hT F.slot_zip_next
    (wpAny_call_entry F.slot_zip_next hT F.entry_zip_next
      (zipG_next_item D hz hTI hTO (itrX c1) (itrX c2) h1 h2 hl1 hl2 h1.lt h2.lt hx hy fun h' a1 a2 a3 a4 a5 a6 a7 => wpAny_pure (hQ h' a1 a2 a3 a4 a5 a6 a7)) (F.args_zip_next_1 _))))
theorem pyNext_zipX_end {c1 c2 : Bool} {z TI TO i1 i2 l1 l2 : Addr} {k1 k2 : Nat} {xs ys : Array Value} {a b : Value} {Q : Option Value → Shared → Prop} (hh : A.handled = none) (D : ZipApart z TI TO i1 i2 l1 l2)
    (hz : IsZip s.heap z TI TO .none) (hTI : IsPair s.heap TI (.ref i1) (.ref i2)) (hTO : IsPair s.heap TO a b)
    (h1 : JX c1 i1 l1 s.heap k1) (h2 : JX c2 i2 l2 s.heap k2) (hl1 : CX c1 l1 s.heap xs) (hl2 : CX c2 l2 s.heap ys) (hend : xs[k1]? = none ∨ ys[k2]? = none)
    (hQ : ∀ h', (∀ c o, c ≠ z → c ≠ TO → c ≠ i1 → c ≠ i2 → s.heap.get? c = some o → h'.get? c = some o) → Q none { s with heap := h' }) : wpAny (model prog w) A (pyNext (.ref z)) Q E s := by
  have hT : s.TypeIs (.ref z) "zip" := ⟨_, hz, rfl⟩
  unfold pyNext
  refine wpAny_bind (wpAny_attempt (wpAny_callSpecial?_slot (name := Str.ofString "__next__") hT F.slot_zip_next
    (wpAny_call_entry F.slot_zip_next hT F.entry_zip_next (zipG_next_end hh D hz hTI hTO (itrX c1) (itrX c2) h1 h2 hl1 hl2 hend fun h' e hk he => ?_) (F.args_zip_next_1 _))))
  obtain ⟨o, ho, hc⟩ := he
  refine wpAny_bind (wpAny_isInstance (T := "StopIteration") (b := true) ⟨o, ho, hc⟩ isSubtype_stop ?_)
  exact wpAny_pure (hQ _ hk)
end
/-- the sequences at a and b as they stand at each turn, the items in new pairs -/
def ItzX (K : PySem.W.Frag) (c1 c2 : Bool) (a b : Addr) : It :=
  ⟨fun i H => ∃ (xs ys : List V) (x y : V), SqX K c1 H a xs ∧ SqX K c2 H b ys ∧ xs[i]? = some x ∧ ys[i]? = some y,
    fun i H v H' => ∃ T x y, v = .ref T ∧ H T = none ∧ H' = upd H T (.tup [x, y]) ∧ (∀ xs, SqX K c1 H a xs → xs[i]? = some x) ∧ ∀ ys, SqX K c2 H b ys → ys[i]? = some y,
    fun i H => ∃ xs ys : List V, SqX K c1 H a xs ∧ SqX K c2 H b ys ∧ (xs.length ≤ i ∨ ys.length ≤ i)⟩
theorem turn_zipX {c1 c2 : Bool} {P : Program} {w : World} {K : PySem.W.Frag} {elts : List Expr} {kk : Nat} {tpos : Pos} {a b z TI TO i1 i2 : Addr} (D : ZipApart z TI TO i1 i2 a b) :
    Turn P w K (.Tuple elts kk tpos) (ItzX K c1 c2 a b) [z, TI, TO, i1, i2] z (fun i h => IsZip h z TI TO .none ∧ IsPair h TI (.ref i1) (.ref i2) ∧ (∃ x y, IsPair h TO x y) ∧ JX c1 i1 a h i ∧ JX c2 i2 b h i) where
  mem := by simp
  obj := fun i h st c hc => by
    obtain ⟨hz, hTI, ⟨x, y, hTO⟩, h1, h2⟩ := st
    have e' : c = z ∨ c = TI ∨ c = TO ∨ c = i1 ∨ c = i2 := by simpa using hc
    rcases e' with q | q | q | q | q
    · rw [q]; exact ⟨_, hz, fun v q => nomatch q⟩
    · rw [q]; exact ⟨_, hTI, fun v q => nomatch q⟩
    · rw [q]; exact ⟨_, hTO, fun v q => nomatch q⟩
    · rw [q]
      cases c1
      · obtain ⟨o1, e1, _, d1⟩ := h1
        exact ⟨o1, e1, fun v q => by rw [d1] at q; cases q⟩
      · obtain ⟨o1, e1, _, d1⟩ := h1
        exact ⟨o1, e1, fun v q => by rw [d1] at q; cases q⟩
    · rw [q]
      cases c2
      · obtain ⟨o1, e1, _, d1⟩ := h2
        exact ⟨o1, e1, fun v q => by rw [d1] at q; cases q⟩
      · obtain ⟨o1, e1, _, d1⟩ := h2
        exact ⟨o1, e1, fun v q => by rw [d1] at q; cases q⟩
  keep := fun i h h' st k => by
    obtain ⟨hz, hTI, ⟨x, y, hTO⟩, h1, h2⟩ := st
    exact ⟨k z (by simp) _ hz, k TI (by simp) _ hTI, ⟨x, y, k TO (by simp) _ hTO⟩, h1.at' fun o q => k i1 (by simp) o q, h2.at' fun o q => k i2 (by simp) o q⟩
  item := by
    intro X hP hw hK hc i pins s σ H E I hf st hg
    subst hP hw hK
    obtain ⟨hz, hTI, ⟨x0, y0, hTO⟩, h1, h2⟩ := st
    obtain ⟨xs, ys, x, y, hqx, hqy, hx, hy⟩ := hg
    obtain ⟨its, rv, p⟩ := invX I hqx
    obtain ⟨its2, rv2, p2⟩ := invX I hqy
    obtain ⟨u, hu, ru⟩ := rv.get hx
    obtain ⟨u2, hu2, ru2⟩ := rv2.get hy
    have hzl : z < s.heap.objs.size := Heap.lt_size hz
    refine pyNext_zipX_item D hz hTI hTO h1 h2 p p2 (x := u) (y := u2) (by simpa using hu) (by simpa using hu2) fun h' z' TO' h1' h2' hT hsz hk => ?_
    refine ⟨_, rfl, wpAny_letOwnedTupleGo_zip (s := { s with heap := h' }) z' fun h'' z'' sb => ?_⟩
    have hT2 : h''.get? s.heap.objs.size = some { cls := .type "tuple", data := .seq #[u, u2] } := (sb.2 _ (Nat.ne_of_gt hzl)).trans hT
    have new : ObjOk X.prog X.w (upd H s.heap.objs.size (.tup [x, y])) h'' s.heap.objs.size (.tup [x, y]) :=
      ⟨by show 2 ≤ sizeLine; decide, [u, u2], .cons ru (.cons ru2 .nil), ⟨_, hT2, rfl, _, rfl⟩⟩
    have I1 : Inv X pins σ (upd H s.heap.objs.size (.tup [x, y])) { s with heap := h'' } :=
      I.turnedNew (t' := s.toks) (ch := [z, TI, TO, i1, i2]) (fun c o hb q => (sb.2 c (fun q' => hb (by simp [q']))).trans (hk c o (fun q' => hb (by simp [q'])) (fun q' => hb (by simp [q'])) (fun q' => hb (by simp [q'])) (fun q' => hb (by simp [q'])) q)) hf (Nat.le_refl _) new
    refine ⟨.ref s.heap.objs.size, _, I1, rfl, ⟨_, x, y, rfl, I.hok.fresh (Nat.le_refl _), rfl, fun l hl => by rw [injX I hl hqx]; exact hx, fun l hl => by rw [injX I hl hqy]; exact hy⟩, ⟨z'', ?_, ⟨u, u2, ?_⟩, ?_, ?_⟩, fun c hcm => ?_⟩
    · exact (sb.2 _ D.TIz).trans (hk _ _ D.TIz D.TITO D.TIi1 D.TIi2 hTI)
    · exact (sb.2 _ D.TOz).trans TO'
    · exact h1'.at' fun o q => (sb.2 _ D.i1z).trans q
    · exact h2'.at' fun o q => (sb.2 _ D.i2z).trans q
    · have hlt : c < s.heap.objs.size := by
        have e' : c = z ∨ c = TI ∨ c = TO ∨ c = i1 ∨ c = i2 := by simpa using hcm
        rcases e' with q | q | q | q | q
        · rw [q]; exact hzl
        · rw [q]; exact Heap.lt_size hTI
        · rw [q]; exact Heap.lt_size hTO
        · rw [q]; exact h1.lt
        · rw [q]; exact h2.lt
      rw [upd_ne (Nat.ne_of_lt hlt)]
      exact (hf c hcm).1
  done := by
    intro X hP hw hK hc i pins s σ H E I hf st hg
    subst hP hw hK
    obtain ⟨hz, hTI, ⟨x0, y0, hTO⟩, h1, h2⟩ := st
    obtain ⟨xs, ys, hqx, hqy, hend⟩ := hg
    obtain ⟨its, rv, p⟩ := invX I hqx
    obtain ⟨its2, rv2, p2⟩ := invX I hqy
    have l1 := rv.length
    have l2 := rv2.length
    have he : its.toArray[i]? = none ∨ its2.toArray[i]? = none := by
      rcases hend with q | q
      · exact .inl (by simp; omega)
      · exact .inr (by simp; omega)
    exact pyNext_zipX_end (I.ok.hd hc) D hz hTI hTO h1 h2 p p2 he fun h' hk => ⟨rfl, I.turnedL (t' := s.toks) (ch := [z, TI, TO, i1, i2]) (fun c o hb q =>
      hk c o (fun q' => hb (by simp [q'])) (fun q' => hb (by simp [q'])) (fun q' => hb (by simp [q'])) (fun q' => hb (by simp [q'])) q) hf⟩
  self := fun A i s Q E st h => wpAny_pyIter_zip st.1 h
end Nc
end
section
set_option maxRecDepth 100000
set_option maxHeartbeats 4000000
namespace Nc
open PySem PySem.Spec PyProof.Rows L2
abbrev zh1 (c : Bool) (h : Heap) (l1 : Addr) : Heap := h.push { cls := .type (itN c), data := .fields #[.ref l1, .int 0 0] }
abbrev zh2 (c c' : Bool) (h : Heap) (l1 l2 : Addr) : Heap := (zh1 c h l1).push { cls := .type (itN c'), data := .fields #[.ref l2, .int 0 0] }
abbrev zh3 (c c' : Bool) (h : Heap) (l1 l2 : Addr) : Heap := (zh2 c c' h l1 l2).push { cls := .type "tuple", data := .seq #[.ref h.objs.size, .ref (zh1 c h l1).objs.size] }
abbrev zh4 (c c' : Bool) (h : Heap) (l1 l2 : Addr) : Heap := (zh3 c c' h l1 l2).push { cls := .type "tuple", data := .seq #[.none, .none] }
abbrev zh5 (c c' : Bool) (h : Heap) (l1 l2 : Addr) : Heap := (zh4 c c' h l1 l2).push { cls := .type "zip", data := .fields #[.none, .bool false, .bool false, .ref (zh2 c c' h l1 l2).objs.size, .ref (zh3 c c' h l1 l2).objs.size] }
theorem pyIterX {c : Bool} {prog : Program} {w : World} {A : Around} {E : Value → Shared → Prop} {s : Shared} {l : Addr} {items : Array Value} {Q : Value → Shared → Prop} (h : CX c l s.heap items)
    (q : Q (Value.ref s.heap.objs.size) { heap := s.heap.push { cls := .type (itN c), data := .fields #[.ref l, .int 0 0] }, gens := s.gens, drawn := s.drawn, toks := s.toks, os := s.os }) : wpAny (model prog w) A (pyIter (Value.ref l)) Q E s := by
  cases c
  · exact wpAny_pyIter_list h q
  · exact wpAny_pyIter_tuple h q
theorem meets_zipX_new (c c' : Bool) (l1 l2 : Addr) (xs ys : Array Value) :
    Meets (Builtin.«zip.__new__» ⟨[.type "zip", .ref l1, .ref l2], []⟩) (fun _ R s => CX c l1 s.heap xs ∧ CX c' l2 s.heap ys ∧
      R (.ok (.ret (.ref (zh4 c c' s.heap l1 l2).objs.size))) { s with heap := zh5 c c' s.heap l1 l2 }) :=
  .of_wp fun prog w A R s h => by
    obtain ⟨hp, g, d, tk, os⟩ := s; obtain ⟨hl1, hl2, h⟩ := h
    have hsub := sub_zip
    have hL1 : CX c l1 (Shared.heap ⟨hp, g, d, tk, os⟩) xs := hl1
    have hL2 : CX c' l2 (Shared.heap ⟨hp.push { cls := .type (itN c), data := .fields #[.ref l1, .int 0 0] }, g, d, tk, os⟩) ys := CX.push hl2
    wp_walk using pyIterX hL1, pyIterX hL2
    exact ⟨_, rfl, h⟩
theorem JX.new {c : Bool} {h : Heap} {it l : Addr} (e : h.get? it = some { cls := .type (itN c), data := .fields #[.ref l, .int 0 0] }) : JX c it l h 0 := by
  cases c
  · exact ⟨_, e, rfl, rfl⟩
  · exact ⟨_, e, rfl, rfl⟩
theorem call_zipX {c c' : Bool} {prog : Program} {w : World} {A : Around} {E : Value → Shared → Prop} {s : Shared} {l1 l2 : Addr} {xs ys : Array Value} {Q : Value → Shared → Prop} (hl1 : CX c l1 s.heap xs) (hl2 : CX c' l2 s.heap ys)
    (h : ∀ h', IsZip h' (s.heap.objs.size + 4) (s.heap.objs.size + 2) (s.heap.objs.size + 3) .none → IsPair h' (s.heap.objs.size + 2) (.ref s.heap.objs.size) (.ref (s.heap.objs.size + 1)) →
      IsPair h' (s.heap.objs.size + 3) .none .none → JX c s.heap.objs.size l1 h' 0 → JX c' (s.heap.objs.size + 1) l2 h' 0 → h'.objs.size = s.heap.objs.size + 5 →
      (∀ c o, s.heap.get? c = some o → h'.get? c = some o) → Q (.ref (s.heap.objs.size + 4)) { s with heap := h' }) :
    wpAny (model prog w) A (call (.type "zip") [.ref l1, .ref l2]) Q E s := by
  refine callType_new F.called_zip (by decide) (F.typeCall_zip_2 _ _) (F.newCall_zip_2 _ _) (fun obj => F.args_object_init_3 obj _ _) F.entry_zip_new
    (meets_zipX_new c c' l1 l2 xs ys) ⟨hl1, hl2, ?_⟩
  have z1 : (zh1 c s.heap l1).objs.size = s.heap.objs.size + 1 := Heap.size_push ..
  have z2 : (zh2 c c' s.heap l1 l2).objs.size = s.heap.objs.size + 2 := by rw [Heap.size_push, z1]
  have z3 : (zh3 c c' s.heap l1 l2).objs.size = s.heap.objs.size + 3 := by rw [Heap.size_push, z2]
  have z4 : (zh4 c c' s.heap l1 l2).objs.size = s.heap.objs.size + 4 := by rw [Heap.size_push, z3]
  have z5 : (zh5 c c' s.heap l1 l2).objs.size = s.heap.objs.size + 5 := by rw [Heap.size_push, z4]
  have g5 : (zh5 c c' s.heap l1 l2).get? (zh4 c c' s.heap l1 l2).objs.size = some _ := Heap.get?_push_size _ rfl
  have g4 : (zh5 c c' s.heap l1 l2).get? (zh3 c c' s.heap l1 l2).objs.size = some _ := Heap.get?_push_of_some _ (Heap.get?_push_size _ rfl)
  have g3 : (zh5 c c' s.heap l1 l2).get? (zh2 c c' s.heap l1 l2).objs.size = some _ := Heap.get?_push_of_some _ (Heap.get?_push_of_some _ (Heap.get?_push_size _ rfl))
  have g2 : (zh5 c c' s.heap l1 l2).get? (zh1 c s.heap l1).objs.size = some _ := Heap.get?_push_of_some _ (Heap.get?_push_of_some _ (Heap.get?_push_of_some _ (Heap.get?_push_size _ rfl)))
  have g1 : (zh5 c c' s.heap l1 l2).get? s.heap.objs.size = some _ := Heap.get?_push_of_some _ (Heap.get?_push_of_some _ (Heap.get?_push_of_some _ (Heap.get?_push_of_some _ (Heap.get?_push_size _ rfl))))
  show _ ∧ _
  rw [z2, z3, z4] at g5
  rw [z1, z2] at g3
  rw [z3] at g4
  rw [z1] at g2
  rw [z4]
  exact ⟨⟨_, g5, rfl⟩, h _ g5 g3 g4 (JX.new g1) (JX.new g2) z5 fun c o x =>
    Heap.get?_push_of_some _ (Heap.get?_push_of_some _ (Heap.get?_push_of_some _ (Heap.get?_push_of_some _ (Heap.get?_push_of_some _ x))))⟩
def iZipX (K : PySem.W.Frag) (ta : TA) : TI := fun σ H R => ta σ H fun vs H1 => ∃ (c c' : Bool) (a b : Addr) (xs ys : List V), vs = [.ref a, .ref b] ∧ SqX K c H1 a xs ∧ SqX K c' H1 b ys ∧ R (ItzX K c c' a b) H1
/-- zip of any two: .. in zip(e, e2) -/
theorem pi_zipX {X : Cx} {e e2 : Expr} {ta : TA} {p pos tpos : Pos} {elts : List Expr} {kk : Nat} (hg : Gl X "zip") (hm : X.mg "zip" = none) (ha : PA X [e, e2] ta)
    (hs : starEach [e, e2] X.env = (false, eval e X.env) :: starEach [e2] X.env := by rfl) (hpl : (backTo pos (starEach [e2] X.env)).any (·.1) = false := by rfl) :
    PI X (.Tuple elts kk tpos) (.Call (.Name "zip" p) [e, e2] [] pos) (iZipX X.K ta) := by
  refine ⟨fun pins s σ H R I h => ?_⟩
  refine Call_ (ld_blt I hg hm PyProof.Rows.boot_zip (PyProof.Rows.callWith_type1 (thn (ha.run pos pins s σ H _ I h) fun us s1 ⟨vs, H1, I1, r1, q1⟩ => ?_) hs hpl))
  obtain ⟨c, c', a, b, xs, ys, ex, hqx, hqy, q⟩ := q1
  subst ex
  cases r1 with
  | cons r rr =>
    cases rr with
    | cons r' rr =>
      cases rr
      cases r
      cases r'
      obtain ⟨its, rv, p1⟩ := invX I1 hqx
      obtain ⟨its2, rv2, p2⟩ := invX I1 hqy
      refine call_zipX p1 p2 fun h' hz hTI hTO h1 h2 hsz hk => wpAny_pyIter_zip hz ?_
      have I2 : Inv X pins σ H1 { s1 with heap := h' } := I1.kept (t' := s1.toks) hk
      refine ⟨s1.heap.objs.size + 4, [s1.heap.objs.size + 4, s1.heap.objs.size + 2, s1.heap.objs.size + 3, s1.heap.objs.size, s1.heap.objs.size + 1], _, _, H1, rfl, I2, turn_zipX (PySem.W.ktu_apart s1.heap.objs.size a b p1.lt p2.lt), ⟨hz, hTI, ⟨_, _, hTO⟩, h1, h2⟩, fun c hcm => ?_, q⟩
      have e' : c = s1.heap.objs.size + 4 ∨ c = s1.heap.objs.size + 2 ∨ c = s1.heap.objs.size + 3 ∨ c = s1.heap.objs.size ∨ c = s1.heap.objs.size + 1 := by simpa using hcm
      have hle : s1.heap.objs.size ≤ c := by
        rcases e' with z | z | z | z | z
        · rw [z]; exact Nat.le_add_right _ _
        · rw [z]; exact Nat.le_add_right _ _
        · rw [z]; exact Nat.le_add_right _ _
        · rw [z]; exact Nat.le_refl _
        · rw [z]; exact Nat.le_add_right _ _
      exact I1.fpOk hle (I1.hok.fresh hle)
/-- a loop over zip of two of one length -/
theorem for_zipX {c c' : Bool} {K : PySem.W.Frag} {a b : Addr} {xs ys : List V} {g : TG} {tb : TS} {D : Ends} {σ : L2.St} {H : Hp} (hl : xs.length = ys.length) (Pv : Nat → L2.St → Hp → Prop) (h0 : Pv 0 σ H) (hq : ∀ i σ H, Pv i σ H → SqX K c H a xs ∧ SqX K c' H b ys)
    (hs : ∀ (i : Nat) (x y : V) (T : Addr) (σ : L2.St) (H : Hp), xs[i]? = some x → ys[i]? = some y → Pv i σ H → H T = none → g (.ref T) σ (upd H T (.tup [x, y])) fun σ2 H2 => tb { D with nx := Pv (i + 1), ct := Pv (i + 1), bk := D.nx } σ2 H2) (hd : ∀ σ H, Pv xs.length σ H → D.nx σ H) :
    ∃ W : Nat → Nat → L2.St → Hp → Prop, (∃ m, W 0 m σ H) ∧ ∀ i m σ H, W i m σ H →
      ((ItzX K c c' a b).stop i H ∧ D.nx σ H) ∨ ((ItzX K c c' a b).go i H ∧ ∃ N : L2.St → Hp → Prop, (∀ σ' H', N σ' H' → ∃ m', m' < m ∧ W (i + 1) m' σ' H') ∧ ∀ v H', (ItzX K c c' a b).yld i H v H' → g v σ H' fun σ2 H2 => tb { D with nx := N, ct := N, bk := D.nx } σ2 H2) := by
  refine ⟨fun i m σ H => m = xs.length - i ∧ i ≤ xs.length ∧ Pv i σ H, ⟨xs.length, rfl, Nat.zero_le _, h0⟩, ?_⟩
  rintro i m σ H ⟨rfl, hi, p⟩
  obtain ⟨qx, qy⟩ := hq i σ H p
  by_cases hlt : i < xs.length
  · have hx : xs[i]? = some xs[i] := List.getElem?_eq_getElem hlt
    have hlt2 : i < ys.length := by omega
    have hy : ys[i]? = some ys[i] := List.getElem?_eq_getElem hlt2
    refine .inr ⟨⟨xs, ys, _, _, qx, qy, hx, hy⟩, Pv (i + 1), fun σ' H' p' => ⟨xs.length - (i + 1), by omega, rfl, hlt, p'⟩, fun v H' y => ?_⟩
    obtain ⟨T, x', y', rfl, hT, rfl, f1, f2⟩ := y
    exact hs i x' y' T σ H (f1 xs qx) (f2 ys qy) p hT
  · have e : i = xs.length := by omega
    subst e
    exact .inl ⟨⟨xs, ys, qx, qy, Or.inl (Nat.le_refl _)⟩, hd σ H p⟩
/-- a comprehension over zip of two of one length -/
theorem lc_zipX {c c' : Bool} {K : PySem.W.Frag} {a b : Addr} {xs ys : List V} {g : TG} {tt : TT} {te : TE} {vs : List Nat} {σ : L2.St} {H1 : Hp} {D : Addr} {Qd : Hp → Prop} (hl : xs.length = ys.length) (Pv : Nat → Hp → Prop) (h0 : Pv 0 (upd H1 D (.lst []))) (hq : ∀ i H, Pv i H → SqX K c H a xs ∧ SqX K c' H b ys)
    (hs : ∀ (i : Nat) (x y : V) (T : Addr) (H : Hp), xs[i]? = some x → ys[i]? = some y → Pv i H → H T = none → g (.ref T) (wipe σ vs) (upd H T (.tup [x, y])) fun σ2 H2 => wipe σ2 vs = wipe σ vs ∧ tt σ2 H2 fun b H3 =>
      if b = true then te σ2 H3 fun y H4 => ∃ acc, H4 D = some (.lst acc) ∧ acc.length < sizeLine ∧ Pv (i + 1) (upd H4 D (.lst (acc ++ [y]))) else Pv (i + 1) H3) (hd : ∀ H, Pv xs.length H → Qd H) :
    ∃ W : Nat → Nat → Hp → Prop, (∃ m, W 0 m (upd H1 D (.lst []))) ∧ ∀ i m H, W i m H →
      ((ItzX K c c' a b).stop i H ∧ Qd H) ∨ ((ItzX K c c' a b).go i H ∧ ∃ Nx : Hp → Prop, (∀ H', Nx H' → ∃ m', m' < m ∧ W (i + 1) m' H') ∧ ∀ x H', (ItzX K c c' a b).yld i H x H' → g x (wipe σ vs) H' fun σ2 H2 => wipe σ2 vs = wipe σ vs ∧ tt σ2 H2 fun b H3 =>
        if b = true then te σ2 H3 fun y H4 => ∃ acc, H4 D = some (.lst acc) ∧ acc.length < sizeLine ∧ Nx (upd H4 D (.lst (acc ++ [y]))) else Nx H3) := by
  refine ⟨fun i m H => m = xs.length - i ∧ i ≤ xs.length ∧ Pv i H, ⟨xs.length, rfl, Nat.zero_le _, h0⟩, ?_⟩
  rintro i m H ⟨rfl, hi, p⟩
  obtain ⟨qx, qy⟩ := hq i H p
  by_cases hlt : i < xs.length
  · have hx : xs[i]? = some xs[i] := List.getElem?_eq_getElem hlt
    have hlt2 : i < ys.length := by omega
    have hy : ys[i]? = some ys[i] := List.getElem?_eq_getElem hlt2
    refine .inr ⟨⟨xs, ys, _, _, qx, qy, hx, hy⟩, Pv (i + 1), fun H' p' => ⟨xs.length - (i + 1), by omega, rfl, hlt, p'⟩, fun v H' y => ?_⟩
    obtain ⟨T, x', y', rfl, hT, rfl, f1, f2⟩ := y
    exact hs i x' y' T H (f1 xs qx) (f2 ys qy) p hT
  · have e : i = xs.length := by omega
    subst e
    exact .inl ⟨⟨xs, ys, qx, qy, Or.inl (Nat.le_refl _)⟩, hd H p⟩
end Nc
end
section
set_option maxRecDepth 100000
set_option maxHeartbeats 4000000
namespace Nc
open PySem PySem.Spec PyProof.Rows L2
/-! ### bounds handed on: mathematics -/
abbrev Span := Rat × Rat
def pickB (p : Span) (b : Bool) : Rat := if b = true then p.2 else p.1
def picks (sp : List Span) (bs : List Bool) : List Rat := List.zipWith pickB sp bs
def lowB (z : Sum2) : List Bool := z.1.map fun w => decide (w.num < 0)
def highB (z : Sum2) : List Bool := z.1.map fun w => decide (0 < w.num)
def lowT (z : Sum2) (sp : List Span) : Rat := tells z (picks sp (lowB z))
def highT (z : Sum2) (sp : List Span) : Rat := tells z (picks sp (highB z))
def bnd (sp : List Span) (z : Sum2) : Span := (lowT z sp, highT z sp)
def cutS (p : Span) : Span := (cutQ p.1, cutQ p.2)
def boundsAt : List (List Sum2) → List Span → List (List Span)
  | [], _ => []
  | l :: ls, sp => (l.map (bnd sp)) :: boundsAt ls ((l.map (bnd sp)).map cutS)
/-- a row within spans -/
abbrev Within : List Rat → List Span → Prop := Paired fun r p => p.1 ≤ r ∧ r ≤ p.2
theorem num_lt {r : Rat} : r.num < 0 ↔ r < 0 := by
  have h := Rat.num_nonneg (q := r)
  constructor
  · intro a
    refine Rat.not_le.mp fun z => ?_
    have := h.mpr z
    omega
  · intro a
    refine Int.not_le.mp fun z => ?_
    exact Rat.not_le.mpr a (h.mp z)
theorem numPos {r : Rat} : 0 < r.num ↔ 0 < r := by
  have h := Rat.num_nonneg (q := -r)
  rw [Rat.neg_num] at h
  constructor
  · intro a
    refine Rat.not_le.mp fun z => ?_
    have := h.mpr (by grind)
    omega
  · intro a
    refine Int.not_le.mp fun z => ?_
    have := h.mp (by omega)
    exact absurd a (Rat.not_lt.mpr (by grind))
theorem cutQ_mono {a b : Rat} (h : a ≤ b) : cutQ a ≤ cutQ b := by
  unfold cutQ
  split
  · rename_i ha
    split
    · exact Rat.le_refl
    · rename_i hb
      exact Rat.not_lt.mp fun z => hb (num_lt.mpr z)
  · rename_i ha
    have ha' : ¬ a < 0 := fun z => ha (num_lt.mpr z)
    rw [if_neg (fun z => ha' (by have := num_lt.mp z; grind))]
    exact h
theorem low_le : ∀ {ws : List Rat} {x : List Rat} {sp : List Span}, Within x sp → ws.length = x.length → weighs (ws.zip (picks sp (ws.map fun w => decide (w.num < 0)))) ≤ weighs (ws.zip x) ∧ weighs (ws.zip x) ≤ weighs (ws.zip (picks sp (ws.map fun w => decide (0 < w.num))))
  | [], _, _, _, _ => ⟨Rat.le_refl, Rat.le_refl⟩
  | w :: ws, r :: x, p :: sp, .cons h t, hl => by
    have ih := low_le (ws := ws) t (by simpa using hl)
    simp only [List.map_cons, picks, List.zipWith_cons_cons, List.zip_cons_cons, weighs_cons] at ih ⊢
    have h1 : w * pickB p (decide (w.num < 0)) ≤ w * r := by
      unfold pickB
      by_cases c : w.num < 0
      · rw [if_pos (decide_eq_true c)]
        have := Rat.mul_le_mul_of_nonneg_left h.2 (c := -w) (by have := num_lt.mp c; grind)
        grind
      · rw [if_neg (by simpa using c)]
        exact Rat.mul_le_mul_of_nonneg_left h.1 (Rat.num_nonneg.mp (by omega))
    have h2 : w * r ≤ w * pickB p (decide (0 < w.num)) := by
      unfold pickB
      by_cases c : 0 < w.num
      · rw [if_pos (decide_eq_true c)]
        exact Rat.mul_le_mul_of_nonneg_left h.2 (Rat.num_nonneg.mp (by omega))
      · rw [if_neg (by simpa using c)]
        have := Rat.mul_le_mul_of_nonneg_left h.1 (c := -w) (by have := (numPos (r := w)); grind)
        grind
    obtain ⟨i1, i2⟩ := ih
    constructor
    · grind
    · grind
theorem within_tells {z : Sum2} {x : List Rat} {sp : List Span} (h : Within x sp) (hl : z.1.length = x.length) : (bnd sp z).1 ≤ tells z x ∧ tells z x ≤ (bnd sp z).2 := by
  obtain ⟨h1, h2⟩ := low_le (ws := z.1) h hl
  unfold bnd lowT highT tells lowB highB
  constructor
  · grind
  · grind
theorem within_map : ∀ {l : List Sum2} {x : List Rat} {sp : List Span}, Within x sp → (∀ z ∈ l, z.1.length = x.length) → Within (l.map fun z => tells z x) (l.map (bnd sp))
  | [], _, _, _, _ => .nil
  | z :: l, x, sp, h, hl => .cons (within_tells h (hl z (by simp))) (within_map h fun y hy => hl y (by simp [hy]))
theorem within_cut : ∀ {x : List Rat} {sp : List Span}, Within x sp → Within (x.map cutQ) (sp.map cutS)
  | _, _, .nil => .nil
  | _, _, .cons h t => .cons ⟨cutQ_mono h.1, cutQ_mono h.2⟩ (within_cut t)
/-- all nodes come to what lies within their bounds -/
theorem within_all : ∀ {ls : List (List Sum2)} {x : List Rat} {sp : List Span}, Within x sp → Over x.length ls → Paired Within (rowsAt ls x) (boundsAt ls sp)
  | [], _, _, _, _ => .nil
  | l :: ls, x, sp, h, ⟨o1, o2, o3⟩ => .cons (within_map h o1) (within_all (within_cut (within_map h o1)) (by simpa using o3))
/-! ### sizes -/
def SpSv (n D : Nat) (sp : List Span) : Prop := ∀ p ∈ sp, Sv n D p.1 ∧ Sv n D p.2
theorem picks_mem {n D : Nat} : ∀ {sp : List Span} {bs : List Bool}, SpSv n D sp → SvL n D (picks sp bs)
  | [], _, _ => by
    intro r hr
    cases hr
  | _ :: _, [], _ => by
    intro r hr
    cases hr
  | p :: sp, b :: bs, h => by
    intro r hr
    rcases List.mem_cons.mp hr with rfl | hr
    · unfold pickB
      split
      · exact (h p (by simp)).2
      · exact (h p (by simp)).1
    · exact picks_mem (fun q hq => h q (by simp [hq])) r hr
theorem picks_len {sp : List Span} {bs : List Bool} (h : bs.length = sp.length) : (picks sp bs).length = sp.length := by
  unfold picks
  rw [List.length_zipWith]
  omega
theorem lowB_len (z : Sum2) : (lowB z).length = z.1.length := List.length_map ..
theorem highB_len (z : Sum2) : (highB z).length = z.1.length := List.length_map ..
/-- the facts of a layer over spans -/
structure RkS (l : List Sum2) (A : List Span) (m W D : Nat) : Prop where
  nodes : NodesOk A.length W l
  len : A.length ≤ 4
  many : l.length ≤ 4
  sp : SpSv m D A
  top : m ≤ 430000
  pos : 0 < W * D
  lt : W * D < 2 ^ 1600
theorem RkS.row {l : List Sum2} {A : List Span} {m W D : Nat} (k : RkS l A m W D) {bs : List Bool} (h : bs.length = A.length) : Rk l (picks A bs) m W D :=
  ⟨by rw [picks_len h]; exact k.nodes, by rw [picks_len h]; exact k.len, k.many, picks_mem k.sp, k.top, k.pos, k.lt⟩
theorem sv_node {l : List Sum2} {A : List Rat} {i D : Nat} {W : Nat → Nat} (k : Rk l A (tb i) (W i) (pw W i * D)) {z : Sum2} (hz : z ∈ l) : Sv (tb (i + 1)) (pw W (i + 1) * D) (tells z A) := by
  obtain ⟨h1, h2, h3⟩ := k.nodes z hz
  have h := sv_tells k.pos k.lt h2 h3 k.row h1
  have hl : z.1.length ≤ 4 := by
    rw [h1]
    exact k.len
  have hb : z.1.length * (1500 + tb i + 1600 + 1) ≤ 4 * (1500 + tb i + 1600 + 1) := Nat.mul_le_mul_right _ hl
  have e : pw W (i + 1) * D = W i * (pw W i * D) := Nat.mul_assoc _ _ _
  rw [e]
  refine h.mono ?_ (Nat.dvd_refl _)
  show _ ≤ 1 + 4 * (1500 + tb i + 1601) + 3102
  omega
theorem sp_node {l : List Sum2} {A : List Span} {i D : Nat} {W : Nat → Nat} (k : RkS l A (tb i) (W i) (pw W i * D)) {z : Sum2} (hz : z ∈ l) : Sv (tb (i + 1)) (pw W (i + 1) * D) (bnd A z).1 ∧ Sv (tb (i + 1)) (pw W (i + 1) * D) (bnd A z).2 := by
  have h1 := (k.nodes z hz).1
  exact ⟨sv_node (k.row (by rw [lowB_len, h1])) hz, sv_node (k.row (by rw [highB_len, h1])) hz⟩
theorem rkS_of {ls : List (List Sum2)} {n D i : Nat} {W : Nat → Nat} {l : List Sum2} {A : List Span} (ok : NetOk n ls W) (f : Fits W D) (hi : ls[i]? = some l) (ov : Over A.length (ls.drop i)) (hA : SpSv (tb i) (pw W i * D) A) (h4 : A.length ≤ 4) :
    RkS l A (tb i) (W i) (pw W i * D) ∧ Over l.length (ls.drop (i + 1)) ∧ l.length ≤ 4 ∧ 1 ≤ l.length ∧ i ≤ 3 := by
  have hi1 := (List.getElem?_eq_some_iff.mp hi).1
  have hl4 := ok.l4
  have hi3 : i ≤ 3 := by omega
  rw [drop_at hi] at ov
  obtain ⟨o1, o2, o3⟩ := ov
  have hm := List.mem_of_getElem? hi
  exact ⟨⟨fun z hz => ⟨o1 z hz, ok.num i l hi z hz⟩, h4, o2.2, hA, tb_le3 i hi3, (f.at ok.w0 hi3).1, (f.at ok.w0 hi3).2⟩, o3, o2.2, o2.1, hi3⟩
/-- what handed_on tells of a node: low, high, corners -/
abbrev Four := Span × (List Bool × List Bool)
def four (sp : List Span) (z : Sum2) : Four := (bnd sp z, lowB z, highB z)
def foursAt : List (List Sum2) → List Span → List (List Four)
  | [], _ => []
  | l :: ls, sp => (l.map (four sp)) :: foursAt ls ((l.map (bnd sp)).map cutS)
theorem fours_bounds : ∀ (ls : List (List Sum2)) (sp : List Span), (foursAt ls sp).map (fun l => l.map (·.1)) = boundsAt ls sp
  | [], _ => rfl
  | l :: ls, sp => by
    show ((l.map (four sp)).map (·.1)) :: _ = _ :: _
    rw [fours_bounds ls, List.map_map]
    rfl
theorem four_1 (sp : List Span) (l : List Sum2) : (l.map (four sp)).map (fun f => cutS f.1) = (l.map (bnd sp)).map cutS := by
  rw [List.map_map, List.map_map]
  rfl
theorem foursAt_cons {ls : List (List Sum2)} {i : Nat} {l : List Sum2} {A : List Span} (hi : ls[i]? = some l) : foursAt (ls.drop i) A = (l.map (four A)) :: foursAt (ls.drop (i + 1)) ((l.map (bnd A)).map cutS) := by
  rw [drop_at hi]
  rfl
theorem boundsAt_cons {ls : List (List Sum2)} {i : Nat} {l : List Sum2} {A : List Span} (hi : ls[i]? = some l) : boundsAt (ls.drop i) A = (l.map (bnd A)) :: boundsAt (ls.drop (i + 1)) ((l.map (bnd A)).map cutS) := by
  rw [drop_at hi]
  rfl
/-- what stands behind i layers: the bounds told, the spans ahead -/
structure MidS (ls : List (List Sum2)) (L : List Span) (W : Nat → Nat) (D i : Nat) (dn : List (List Four)) (A : List Span) : Prop where
  len : dn.length = i
  eq : foursAt ls L = dn ++ foursAt (ls.drop i) A
  over : Over A.length (ls.drop i)
  sp : SpSv (tb i) (pw W i * D) A
  a4 : A.length ≤ 4
theorem midS0 {ls : List (List Sum2)} {L : List Span} {W : Nat → Nat} {D : Nat} (ok : NetOk L.length ls W) (h : SpSv 1500 D L) : MidS ls L W D 0 [] L := by
  have := ok.n3
  refine ⟨rfl, rfl, ok.over, ?_, by omega⟩
  rw [show pw W 0 = 1 from rfl, Nat.one_mul]
  exact h
theorem midS_step {ls : List (List Sum2)} {L A : List Span} {n D i : Nat} {W : Nat → Nat} {dn : List (List Four)} {l : List Sum2} (ok : NetOk n ls W) (f : Fits W D) (m : MidS ls L W D i dn A) (hi : ls[i]? = some l) :
    RkS l A (tb i) (W i) (pw W i * D) ∧ MidS ls L W D (i + 1) (dn ++ [l.map (four A)]) ((l.map (bnd A)).map cutS) ∧ l.length ≤ 4 := by
  obtain ⟨k, o, l4, l1, i3⟩ := rkS_of ok f hi m.over m.sp m.a4
  refine ⟨k, ⟨by simp [m.len], ?_, ?_, ?_, by simpa using l4⟩, l4⟩
  · rw [m.eq, foursAt_cons hi, List.append_assoc]
    rfl
  · simpa using o
  · intro p hp
    obtain ⟨u, hu, rfl⟩ := List.mem_map.mp hp
    obtain ⟨z, hz, rfl⟩ := List.mem_map.mp hu
    obtain ⟨h1, h2⟩ := sp_node k hz
    exact ⟨sv_cutQ h1, sv_cutQ h2⟩
theorem midS_end {ls : List (List Sum2)} {L A : List Span} {W : Nat → Nat} {D : Nat} {dn : List (List Four)} (m : MidS ls L W D ls.length dn A) : dn = foursAt ls L := by
  rw [m.eq, List.drop_length]
  show dn = dn ++ []
  rw [List.append_nil]
theorem boundsAt_length : ∀ (ls : List (List Sum2)) (L : List Span), (boundsAt ls L).length = ls.length
  | [], _ => rfl
  | l :: ls, L => by
    show (boundsAt ls _).length + 1 = _
    rw [boundsAt_length ls]
    rfl
theorem foursAt_length : ∀ (ls : List (List Sum2)) (L : List Span), (foursAt ls L).length = ls.length
  | [], _ => rfl
  | l :: ls, L => by
    show (foursAt ls _).length + 1 = _
    rw [foursAt_length ls]
    rfl
/-! ### as the law sums: from the number on, the high by the other end -/
def lawLow (z : Sum2) (sp : List Span) (i : Nat) : Rat := z.2 + weighs ((z.1.zip (picks sp (lowB z))).take i)
def lawHigh (z : Sum2) (sp : List Span) (i : Nat) : Rat := z.2 + weighs ((z.1.zip (picks sp ((lowB z).map (!·)))).take i)
theorem high_same : ∀ {ws : List Rat} {sp : List Span}, ws.length = sp.length → weighs (ws.zip (picks sp ((ws.map fun w => decide (w.num < 0)).map (!·)))) = weighs (ws.zip (picks sp (ws.map fun w => decide (0 < w.num))))
  | [], _, _ => rfl
  | w :: ws, p :: sp, hl => by
    have ih := high_same (ws := ws) (sp := sp) (by simpa using hl)
    simp only [List.map_cons, picks, List.zipWith_cons_cons, List.zip_cons_cons, weighs_cons] at ih ⊢
    rw [ih]
    congr 1
    unfold pickB
    by_cases c : w.num < 0
    · rw [if_neg (by simp [c]), if_neg (by simp; omega)]
    · by_cases c2 : 0 < w.num
      · rw [if_pos (by simpa using c), if_pos (by simpa using c2)]
      · have : w = 0 := Rat.num_eq_zero.mp (by omega)
        rw [this, Rat.zero_mul, Rat.zero_mul]
theorem lawLow_end {z : Sum2} {sp : List Span} (h : z.1.length = sp.length) : lawLow z sp z.1.length = lowT z sp := by
  unfold lawLow lowT tells
  rw [List.take_of_length_le (by rw [List.length_zip]; omega), Rat.add_comm]
theorem lawHigh_end {z : Sum2} {sp : List Span} (h : z.1.length = sp.length) : lawHigh z sp z.1.length = highT z sp := by
  unfold lawHigh highT tells
  rw [List.take_of_length_le (by rw [List.length_zip]; omega), Rat.add_comm]
  congr 1
  exact high_same h
end Nc
end
section
set_option maxRecDepth 100000
set_option maxHeartbeats 4000000
namespace Nc
open PySem PySem.Spec PyProof.Rows L2
/-! ### values and bottoms -/
/-- between -v and v, a bottom that divides D -/
def Bd (v D : Nat) (r : Rat) : Prop := (-(v : Rat) ≤ r ∧ r ≤ (v : Rat)) ∧ r.den ∣ D
def BdL (v D : Nat) (l : List Rat) : Prop := ∀ r ∈ l, Bd v D r
theorem Bd.mono {v u D E : Nat} {r : Rat} (h : Bd v D r) (hv : v ≤ u) (hD : D ∣ E) : Bd u E r := by
  have k : (v : Rat) ≤ (u : Rat) := Rat.natCast_le_natCast.mpr hv
  obtain ⟨⟨h1, h2⟩, h3⟩ := h
  exact ⟨⟨by grind, by grind⟩, Nat.dvd_trans h3 hD⟩
theorem BdL.mono {v u D E : Nat} {l : List Rat} (h : BdL v D l) (hv : v ≤ u) (hD : D ∣ E) : BdL u E l := fun r hr => (h r hr).mono hv hD
theorem Bd.num {v D : Nat} {r : Rat} (h : Bd v D r) : r.num.natAbs ≤ v * r.den := by
  obtain ⟨⟨h1, h2⟩, _⟩ := h
  have a := (Rat.le_iff r v).mp h2
  have b := (Rat.le_iff (-(v : Rat)) r).mp h1
  rw [Rat.num_natCast, Rat.den_natCast] at a
  rw [Rat.neg_num, Rat.neg_den, Rat.num_natCast, Rat.den_natCast] at b
  have e : ((v * r.den : Nat) : Int) = (v : Int) * (r.den : Int) := Int.natCast_mul ..
  have e2 : -(v : Int) * (r.den : Int) = -((v : Int) * (r.den : Int)) := Int.neg_mul ..
  rw [e2] at b
  generalize (v : Int) * (r.den : Int) = P at a b e
  omega
theorem Bd.sz {v D k b : Nat} {r : Rat} (h : Bd v D r) (D0 : 0 < D) (hD : D < 2 ^ b) (hv : v ≤ 2 ^ k) : Sz (k + b) b r := by
  have d := Nat.lt_of_le_of_lt (Nat.le_of_dvd D0 h.2) hD
  refine ⟨Nat.lt_of_le_of_lt h.num ?_, d⟩
  rw [Nat.pow_add]
  exact Nat.lt_of_le_of_lt (Nat.mul_le_mul_right _ hv) (Nat.mul_lt_mul_of_pos_left d (Nat.two_pow_pos k))
theorem Bd.sv {v D n : Nat} {r : Rat} (h : Bd v D r) (D0 : 0 < D) (hn : v * D < 2 ^ n) : Sv n D r :=
  ⟨Nat.lt_of_le_of_lt h.num (Nat.lt_of_le_of_lt (Nat.mul_le_mul_left v (Nat.le_of_dvd D0 h.2)) hn), h.2⟩
theorem Bd.add {v u D : Nat} {r s : Rat} (D0 : 0 < D) (h : Bd v D r) (g : Bd u D s) : Bd (v + u) D (r + s) := by
  have e := Rat.natCast_add v u
  obtain ⟨⟨h1, h2⟩, h3⟩ := h
  obtain ⟨⟨g1, g2⟩, g3⟩ := g
  exact ⟨⟨by grind, by grind⟩, den_add D0 h3 g3⟩
theorem Bd.neg {v D : Nat} {r : Rat} (h : Bd v D r) : Bd v D (-r) := by
  obtain ⟨⟨h1, h2⟩, h3⟩ := h
  exact ⟨⟨by grind, by grind⟩, by rw [Rat.neg_den]; exact h3⟩
theorem Bd.sub {v u D : Nat} {r s : Rat} (D0 : 0 < D) (h : Bd v D r) (g : Bd u D s) : Bd (v + u) D (r - s) := by
  rw [Rat.sub_eq_add_neg]
  exact h.add D0 g.neg
theorem Bd.mul {v u D E : Nat} {r s : Rat} (h : Bd v D r) (g : Bd u E s) : Bd (v * u) (D * E) (r * s) := by
  have e := Rat.natCast_mul v u
  obtain ⟨⟨h1, h2⟩, h3⟩ := h
  obtain ⟨⟨g1, g2⟩, g3⟩ := g
  refine ⟨?_, Nat.dvd_trans (den_mul r s) (Nat.mul_dvd_mul h3 g3)⟩
  rw [e]
  generalize (v : Rat) = v at *
  generalize (u : Rat) = u at *
  have a := Rat.mul_nonneg (a := v - r) (b := u + s) (by grind) (by grind)
  have b := Rat.mul_nonneg (a := v + r) (b := u - s) (by grind) (by grind)
  have c := Rat.mul_nonneg (a := v - r) (b := u - s) (by grind) (by grind)
  have d := Rat.mul_nonneg (a := v + r) (b := u + s) (by grind) (by grind)
  exact ⟨by grind, by grind⟩
theorem bd_zero (v D : Nat) : Bd v D 0 := by
  have : (0 : Rat) ≤ (v : Rat) := Rat.natCast_nonneg
  exact ⟨⟨by grind, by grind⟩, Nat.one_dvd D⟩
theorem bdl_snoc {v D : Nat} {L : List Rat} {r : Rat} (h : BdL v D L) (hr : Bd v D r) : BdL v D (L ++ [r]) := by
  intro a ha
  rcases List.mem_append.mp ha with ha | ha
  · exact h a ha
  · rw [List.mem_singleton.mp ha]
    exact hr
theorem bd_weighs {v u D E : Nat} (D0 : 0 < D * E) : ∀ {l : List (Rat × Rat)}, (∀ p ∈ l, Bd v D p.1 ∧ Bd u E p.2) → Bd (l.length * (v * u)) (D * E) (weighs l)
  | [], _ => bd_zero _ _
  | p :: l, h => by
    rw [weighs_cons]
    have ih := bd_weighs D0 (l := l) fun q hq => h q (by simp [hq])
    have hp := h p (by simp)
    refine ((hp.1.mul hp.2).add D0 ih).mono ?_ (Nat.dvd_refl _)
    rw [List.length_cons, Nat.add_mul]
    omega
theorem bd_tells {v c u D E F : Nat} {s : Sum2} {x : List Rat} (D0 : 0 < D * E) (F0 : 0 < F) (hD : D * E ∣ F) (h : BdL v D s.1) (hc : Bd c F s.2) (hx : BdL u E x) (hl : s.1.length = x.length) : Bd (s.1.length * (v * u) + c) F (tells s x) := by
  have a := bd_weighs (v := v) (u := u) D0 (l := s.1.zip x) fun p hp => ⟨h _ (List.of_mem_zip hp).1, hx _ (List.of_mem_zip hp).2⟩
  rw [List.length_zip, ← hl, Nat.min_self] at a
  exact (a.mono (Nat.le_refl _) hD).add F0 hc
/-! ### a node taken through sums -/
def stp (t : Sum2) (p : Rat × Sum2 × Sum2) : Sum2 := if 0 < p.1.num then splus t (stimes p.1 p.2.1) else if p.1.num < 0 then splus t (stimes p.1 p.2.2) else t
def thrL (n : Nat) (c : Rat) (ps : List (Rat × Sum2 × Sum2)) : Sum2 := ps.foldl stp (List.replicate n 0, c)
def thr (z : Sum2) (A B : List Sum2) (n : Nat) : Sum2 := thrL n z.2 (z.1.zip (A.zip B))
theorem thrL_take {n i : Nat} {c : Rat} {ps : List (Rat × Sum2 × Sum2)} {p : Rat × Sum2 × Sum2} (h : ps[i]? = some p) : thrL n c (ps.take (i + 1)) = stp (thrL n c (ps.take i)) p := by
  unfold thrL
  rw [List.take_add_one, h, List.foldl_append]
  rfl
/-- a sum over n things, all its fractions small -/
structure BdS (n v Dc Dn : Nat) (s : Sum2) : Prop where
  len : s.1.length = n
  row : BdL v Dc s.1
  num : Bd v Dn s.2
theorem BdS.mono {n v u Dc Dn Ec En : Nat} {s : Sum2} (h : BdS n v Dc Dn s) (hv : v ≤ u) (hc : Dc ∣ Ec) (hn : Dn ∣ En) : BdS n u Ec En s := ⟨h.len, h.row.mono hv hc, h.num.mono hv hn⟩
theorem bds_plus {n v u Dc Dn : Nat} {s t : Sum2} (c0 : 0 < Dc) (n0 : 0 < Dn) (h : BdS n v Dc Dn s) (g : BdS n u Dc Dn t) : BdS n (v + u) Dc Dn (splus s t) := by
  refine ⟨?_, ?_, h.num.add n0 g.num⟩
  · unfold splus
    rw [List.length_map, List.length_zip, h.len, g.len, Nat.min_self]
  · intro r hr
    unfold splus at hr
    obtain ⟨p, hp, rfl⟩ := List.mem_map.mp hr
    exact (h.row _ (List.of_mem_zip hp).1).add c0 (g.row _ (List.of_mem_zip hp).2)
theorem bds_times {n v u D Dc Dn : Nat} {q : Rat} {s : Sum2} (hq : Bd v D q) (h : BdS n u Dc Dn s) : BdS n (v * u) (D * Dc) (D * Dn) (stimes q s) := by
  refine ⟨?_, ?_, hq.mul h.num⟩
  · unfold stimes
    rw [List.length_map, h.len]
  · intro r hr
    unfold stimes at hr
    obtain ⟨p, hp, rfl⟩ := List.mem_map.mp hr
    exact hq.mul (h.row _ hp)
theorem bds_flat (n : Nat) {v Dc Dn : Nat} {c : Rat} (h : Bd v Dn c) : BdS n v Dc Dn (List.replicate n 0, c) := by
  refine ⟨List.length_replicate .., fun r hr => ?_, h⟩
  rw [List.eq_of_mem_replicate hr]
  exact bd_zero _ _
/-- what a step puts to the total -/
theorem bds_stp {n a v u D Dc Dn : Nat} {t : Sum2} {p : Rat × Sum2 × Sum2} (c0 : 0 < D * Dc) (n0 : 0 < D * Dn) (ht : BdS n a (D * Dc) (D * Dn) t) (hw : Bd v D p.1) (h1 : BdS n u Dc Dn p.2.1) (h2 : BdS n u Dc Dn p.2.2) : BdS n (a + v * u) (D * Dc) (D * Dn) (stp t p) := by
  unfold stp
  split
  · exact bds_plus c0 n0 ht (bds_times hw h1)
  · split
    · exact bds_plus c0 n0 ht (bds_times hw h2)
    · exact ht.mono (Nat.le_add_right _ _) (Nat.dvd_refl _) (Nat.dvd_refl _)
theorem bds_thrL {n a v u D Dc Dn : Nat} {c : Rat} (c0 : 0 < D * Dc) (n0 : 0 < D * Dn) (hc : Bd a (D * Dn) c) {ps : List (Rat × Sum2 × Sum2)} (hp : ∀ p ∈ ps, Bd v D p.1 ∧ BdS n u Dc Dn p.2.1 ∧ BdS n u Dc Dn p.2.2) :
    ∀ i, i ≤ ps.length → BdS n (a + i * (v * u)) (D * Dc) (D * Dn) (thrL n c (ps.take i))
  | 0, _ => by
    have := bds_flat n (Dc := D * Dc) hc
    simpa [thrL] using this
  | i + 1, h => by
    have e : ps[i]? = some ps[i] := List.getElem?_eq_getElem (by omega)
    rw [thrL_take e]
    have ih := bds_thrL c0 n0 hc hp i (by omega)
    obtain ⟨h1, h2, h3⟩ := hp ps[i] (List.getElem_mem _)
    refine (bds_stp c0 n0 ih h1 h2 h3).mono ?_ (Nat.dvd_refl _) (Nat.dvd_refl _)
    rw [Nat.add_mul]
    omega
theorem zip3_mem {w : List Rat} {A B : List Sum2} {p : Rat × Sum2 × Sum2} (h : p ∈ w.zip (A.zip B)) : p.1 ∈ w ∧ p.2.1 ∈ A ∧ p.2.2 ∈ B :=
  ⟨(List.of_mem_zip h).1, List.of_mem_zip (List.of_mem_zip h).2⟩
theorem bds_thr {n a v u D Dc Dn : Nat} {z : Sum2} {A B : List Sum2} (c0 : 0 < D * Dc) (n0 : 0 < D * Dn) (hz : BdL v D z.1) (hc : Bd a (D * Dn) z.2) (hA : ∀ s ∈ A, BdS n u Dc Dn s) (hB : ∀ s ∈ B, BdS n u Dc Dn s) (h1 : z.1.length = A.length) (h2 : A.length = B.length) :
    BdS n (a + z.1.length * (v * u)) (D * Dc) (D * Dn) (thr z A B n) := by
  have hl : (z.1.zip (A.zip B)).length = z.1.length := by rw [List.length_zip, List.length_zip]; omega
  have h := bds_thrL c0 n0 hc (ps := z.1.zip (A.zip B)) (fun p hp => ⟨hz _ (zip3_mem hp).1, hA _ (zip3_mem hp).2.1, hB _ (zip3_mem hp).2.2⟩) z.1.length (by omega)
  rw [List.take_of_length_le (by omega)] at h
  exact h
/-! ### what it tells -/
theorem weighs_reps : ∀ (n : Nat) (x : List Rat), weighs ((List.replicate n (0 : Rat)).zip x) = 0
  | 0, x => by simp [weighs]
  | n + 1, [] => by simp [weighs]
  | n + 1, y :: x => by
    rw [List.replicate_succ, List.zip_cons_cons, weighs_cons, weighs_reps n x]
    grind
theorem tells_flat (n : Nat) (c : Rat) (x : List Rat) : tells (List.replicate n 0, c) x = c := by
  unfold tells
  simp only
  rw [weighs_reps]
  grind
theorem tells_stp {n : Nat} {t : Sum2} {p : Rat × Sum2 × Sum2} {x : List Rat} (ht : t.1.length = n) (h1 : p.2.1.1.length = n) (h2 : p.2.2.1.length = n) :
    (stp t p).1.length = n ∧ tells (stp t p) x = tells t x + p.1 * (if 0 < p.1.num then tells p.2.1 x else tells p.2.2 x) := by
  have pl : ∀ s : Sum2, s.1.length = n → (splus t (stimes p.1 s)).1.length = n ∧ tells (splus t (stimes p.1 s)) x = tells t x + p.1 * tells s x := fun s hs => by
    refine ⟨?_, ?_⟩
    · unfold splus stimes
      rw [List.length_map, List.length_zip, List.length_map]
      omega
    · rw [tells_splus _ _ _ (by unfold stimes; rw [List.length_map]; omega), tells_stimes]
  unfold stp
  split
  · exact pl _ h1
  · split
    · exact pl _ h2
    · have : p.1 = 0 := Rat.num_eq_zero.mp (by omega)
      rw [this, Rat.zero_mul, Rat.add_zero]
      exact ⟨ht, rfl⟩
/-- no more than the node at what lies between -/
theorem thrL_le {n : Nat} {x : List Rat} : ∀ {ps : List (Rat × Sum2 × Sum2)} {y : List Rat} {c : Rat}, Paired (fun (p : Rat × Sum2 × Sum2) (r : Rat) => p.2.1.1.length = n ∧ p.2.2.1.length = n ∧ tells p.2.1 x ≤ r ∧ r ≤ tells p.2.2 x) ps y →
    ∀ {t : Sum2}, t.1.length = n → (ps.foldl stp t).1.length = n ∧ tells (ps.foldl stp t) x ≤ tells t x + weighs ((ps.map (·.1)).zip y)
  | [], _, _, _, t, ht => by
    refine ⟨ht, ?_⟩
    simp [weighs]
    rw [Rat.add_zero]
    exact Rat.le_refl
  | p :: ps, r :: y, c, .cons h hp, t, ht => by
    obtain ⟨h1, h2, h3, h4⟩ := h
    obtain ⟨k1, k2⟩ := tells_stp (x := x) ht h1 h2
    obtain ⟨i1, i2⟩ := thrL_le (c := c) hp k1
    refine ⟨i1, ?_⟩
    rw [List.foldl_cons]
    rw [List.map_cons, List.zip_cons_cons, weighs_cons]
    have : p.1 * (if 0 < p.1.num then tells p.2.1 x else tells p.2.2 x) ≤ p.1 * r := by
      split
      · rename_i c0
        have := Rat.mul_le_mul_of_nonneg_left h3 (c := p.1) (by have := numPos.mp c0; grind)
        exact this
      · rename_i c0
        have := Rat.mul_le_mul_of_nonneg_left h4 (c := -p.1) (by have := (numPos (r := p.1)); grind)
        grind
    show tells (List.foldl stp (stp t p) ps) x ≤ _
    grind
theorem thrL_ge {n : Nat} {x : List Rat} : ∀ {ps : List (Rat × Sum2 × Sum2)} {y : List Rat} {c : Rat}, Paired (fun (p : Rat × Sum2 × Sum2) (r : Rat) => p.2.1.1.length = n ∧ p.2.2.1.length = n ∧ tells p.2.2 x ≤ r ∧ r ≤ tells p.2.1 x) ps y →
    ∀ {t : Sum2}, t.1.length = n → (ps.foldl stp t).1.length = n ∧ tells t x + weighs ((ps.map (·.1)).zip y) ≤ tells (ps.foldl stp t) x
  | [], _, _, _, t, ht => by
    refine ⟨ht, ?_⟩
    simp [weighs]
    rw [Rat.add_zero]
    exact Rat.le_refl
  | p :: ps, r :: y, c, .cons h hp, t, ht => by
    obtain ⟨h1, h2, h3, h4⟩ := h
    obtain ⟨k1, k2⟩ := tells_stp (x := x) ht h1 h2
    obtain ⟨i1, i2⟩ := thrL_ge (c := c) hp k1
    refine ⟨i1, ?_⟩
    rw [List.foldl_cons]
    rw [List.map_cons, List.zip_cons_cons, weighs_cons]
    have : p.1 * r ≤ p.1 * (if 0 < p.1.num then tells p.2.1 x else tells p.2.2 x) := by
      split
      · rename_i c0
        have := Rat.mul_le_mul_of_nonneg_left h4 (c := p.1) (by have := numPos.mp c0; grind)
        exact this
      · rename_i c0
        have := Rat.mul_le_mul_of_nonneg_left h3 (c := -p.1) (by have := (numPos (r := p.1)); grind)
        grind
    show _ ≤ tells (List.foldl stp (stp t p) ps) x
    grind
end Nc
end
section
set_option maxRecDepth 100000
set_option maxHeartbeats 4000000
namespace Nc
open PySem PySem.Spec PyProof.Rows L2
/-! ### tighter sums -/
/-- under, over; low, high -/
abbrev Tg := (Sum2 × Sum2) × (Rat × Rat)
def maxQ (a b : Rat) : Rat := if a < b then b else a
def minQ (a b : Rat) : Rat := if b < a then b else a
def tgt (box : List Span) (n : Nat) (U O : List Sum2) (A : List Span) (z : Sum2) : Tg :=
  ((thr z U O n, thr z O U n), (maxQ (lowT (thr z U O n) box) (bnd A z).1, minQ (highT (thr z O U n) box) (bnd A z).2))
def flat0 (n : Nat) : Sum2 := (List.replicate n 0, 0)
def uPass (n : Nat) (t : Tg) : Sum2 := if 0 < (t.2.1 + t.2.2).num then t.1.1 else flat0 n
def oPass (n : Nat) (t : Tg) : Sum2 := if t.2.2.num ≤ 0 then flat0 n else if 0 ≤ t.2.1.num then t.1.2 else stimes (t.2.2 / (t.2.2 - t.2.1)) (t.1.2.1, t.1.2.2 - t.2.1)
def tightAt (box : List Span) (n : Nat) : List (List Sum2) → List Span → List Sum2 → List Sum2 → List (List Tg)
  | [], _, _, _ => []
  | l :: ls, A, U, O => (l.map (tgt box n U O A)) :: tightAt box n ls ((l.map (bnd A)).map cutS) ((l.map (tgt box n U O A)).map (uPass n)) ((l.map (tgt box n U O A)).map (oPass n))
theorem tightAt_cons {box : List Span} {n : Nat} {ls : List (List Sum2)} {i : Nat} {l : List Sum2} {A : List Span} {U O : List Sum2} (hi : ls[i]? = some l) :
    tightAt box n (ls.drop i) A U O = (l.map (tgt box n U O A)) :: tightAt box n (ls.drop (i + 1)) ((l.map (bnd A)).map cutS) ((l.map (tgt box n U O A)).map (uPass n)) ((l.map (tgt box n U O A)).map (oPass n)) := by
  rw [drop_at hi]
  rfl
theorem tightAt_length : ∀ {box : List Span} {n : Nat} (ls : List (List Sum2)) (A : List Span) (U O : List Sum2), (tightAt box n ls A U O).length = ls.length
  | _, _, [], _, _, _ => rfl
  | box, n, l :: ls, A, U, O => by
    show (tightAt box n ls _ _ _).length + 1 = _
    rw [tightAt_length ls]
    rfl
/-! ### they hold -/
/-- what the ins, or nodes, come to lies between two sums -/
abbrev Btw (n : Nat) (x : List Rat) (U O : List Sum2) (y : List Rat) : Prop := Paired (fun (p : Sum2 × Sum2) (r : Rat) => p.1.1.length = n ∧ p.2.1.length = n ∧ tells p.1 x ≤ r ∧ r ≤ tells p.2 x) (U.zip O) y
theorem btw_pair {n : Nat} {x : List Rat} : ∀ {w : List Rat} {U O : List Sum2} {y : List Rat}, w.length = U.length → U.length = O.length → Btw n x U O y →
    Paired (fun (p : Rat × Sum2 × Sum2) (r : Rat) => p.2.1.1.length = n ∧ p.2.2.1.length = n ∧ tells p.2.1 x ≤ r ∧ r ≤ tells p.2.2 x) (w.zip (U.zip O)) y ∧
    Paired (fun (p : Rat × Sum2 × Sum2) (r : Rat) => p.2.1.1.length = n ∧ p.2.2.1.length = n ∧ tells p.2.2 x ≤ r ∧ r ≤ tells p.2.1 x) (w.zip (O.zip U)) y
  | [], [], [], _, _, _, .nil => ⟨.nil, .nil⟩
  | a :: w, u :: U, o :: O, _, h1, h2, .cons ⟨k1, k2, k3, k4⟩ t => by
    obtain ⟨i1, i2⟩ := btw_pair (w := w) (by simpa using h1) (by simpa using h2) t
    exact ⟨.cons ⟨k1, k2, k3, k4⟩ i1, .cons ⟨k2, k1, k3, k4⟩ i2⟩
theorem map_zip3 {w : List Rat} {U O : List Sum2} (h1 : w.length = U.length) (h2 : U.length = O.length) : (w.zip (U.zip O)).map (·.1) = w := by
  rw [← List.unzip_fst, List.unzip_zip (by rw [List.length_zip]; omega)]
theorem btw_len {n : Nat} {x : List Rat} {U O : List Sum2} {y : List Rat} (h : Btw n x U O y) (hl : U.length = O.length) : y.length = U.length := by
  have := Paired.length h
  rw [List.length_zip] at this
  omega
theorem tells_swap (z : Sum2) (y : List Rat) : tells z y = z.2 + weighs (z.1.zip y) := by
  unfold tells
  grind
/-- the node lies between its two sums -/
theorem node_btw {n : Nat} {x y : List Rat} {U O : List Sum2} {z : Sum2} (hb : Btw n x U O y) (hl : U.length = O.length) (hz : z.1.length = U.length) :
    (thr z U O n).1.length = n ∧ (thr z O U n).1.length = n ∧ tells (thr z U O n) x ≤ tells z y ∧ tells z y ≤ tells (thr z O U n) x := by
  obtain ⟨p1, p2⟩ := btw_pair hz hl hb
  have f : (List.replicate n (0 : Rat), z.2).1.length = n := List.length_replicate ..
  obtain ⟨a1, a2⟩ := thrL_le (c := z.2) p1 (t := (List.replicate n 0, z.2)) f
  obtain ⟨b1, b2⟩ := thrL_ge (c := z.2) p2 (t := (List.replicate n 0, z.2)) f
  rw [map_zip3 hz hl, tells_flat, ← tells_swap] at a2
  rw [map_zip3 (by omega) (by omega), tells_flat, ← tells_swap] at b2
  exact ⟨a1, b1, a2, b2⟩
theorem maxQ_le {a b c : Rat} (h1 : a ≤ c) (h2 : b ≤ c) : maxQ a b ≤ c := by
  unfold maxQ
  split
  · exact h2
  · exact h1
theorem le_minQ {a b c : Rat} (h1 : c ≤ a) (h2 : c ≤ b) : c ≤ minQ a b := by
  unfold minQ
  split
  · exact h2
  · exact h1
theorem le_maxQ (a b : Rat) : b ≤ maxQ a b := by
  unfold maxQ
  split
  · exact Rat.le_refl
  · rename_i h
    exact Rat.not_lt.mp h
theorem minQ_le (a b : Rat) : minQ a b ≤ b := by
  unfold minQ
  split
  · exact Rat.le_refl
  · rename_i h
    exact Rat.not_lt.mp h
theorem cutQ_eq (r : Rat) : cutQ r = if r < 0 then 0 else r := by
  unfold cutQ
  by_cases h : r < 0
  · rw [if_pos (num_lt.mpr h), if_pos h]
  · rw [if_neg (fun z => h (num_lt.mp z)), if_neg h]
theorem flat0_tells (n : Nat) (x : List Rat) : tells (flat0 n) x = 0 := tells_flat n 0 x
theorem flat0_len (n : Nat) : (flat0 n).1.length = n := List.length_replicate ..
theorem div_line {h l t : Rat} (hl : l < 0) (hh : 0 < h) (h1 : l ≤ t) (h2 : t ≤ h) : 0 ≤ h / (h - l) * (t - l) ∧ t ≤ h / (h - l) * (t - l) := by
  have d : 0 < h - l := by grind
  have dn : h - l ≠ 0 := by grind
  have iv : 0 ≤ (h - l)⁻¹ := Rat.not_lt.mp fun z => by
    have := Rat.mul_inv_cancel (h - l) dn
    have k := Rat.mul_nonneg (a := h - l) (b := -(h - l)⁻¹) (by grind) (by grind)
    grind
  rw [Rat.div_def]
  have e := Rat.mul_inv_cancel (h - l) dn
  generalize (h - l)⁻¹ = i at iv e
  have a1 := Rat.mul_nonneg (a := h * (t - l)) (b := i) (Rat.mul_nonneg (by grind) (by grind)) iv
  have a2 := Rat.mul_nonneg (a := (h - t) * (-l)) (b := i) (Rat.mul_nonneg (by grind) (by grind)) iv
  have e2 : t * ((h - l) * i) = t := by rw [e, Rat.mul_one]
  have e3 : h * i * (t - l) = h * (t - l) * i := by grind
  have e4 : h * (t - l) * i = t * ((h - l) * i) + (h - t) * -l * i := by grind
  rw [e3]
  refine ⟨a1, ?_⟩
  rw [e4, e2]
  generalize (h - t) * -l * i = q at a2
  grind
/-- what is passed on lies between what is passed on of the sums -/
theorem pass_btw {n : Nat} {x : List Rat} {t : Tg} {r : Rat} (l1 : t.1.1.1.length = n) (l2 : t.1.2.1.length = n) (h1 : tells t.1.1 x ≤ r) (h2 : r ≤ tells t.1.2 x) (h3 : t.2.1 ≤ r) (h4 : r ≤ t.2.2) :
    (uPass n t).1.length = n ∧ (oPass n t).1.length = n ∧ tells (uPass n t) x ≤ cutQ r ∧ cutQ r ≤ tells (oPass n t) x := by
  obtain ⟨⟨u, o⟩, ⟨lo, hi⟩⟩ := t
  simp only at l1 l2 h1 h2 h3 h4
  have hc : (r < 0 ∧ cutQ r = 0) ∨ (0 ≤ r ∧ cutQ r = r) := by
    rw [cutQ_eq]
    by_cases h : r < 0
    · rw [if_pos h]
      exact .inl ⟨h, rfl⟩
    · rw [if_neg h]
      exact .inr ⟨Rat.not_lt.mp h, rfl⟩
  generalize cutQ r = c at hc
  have cu : tells (uPass n ((u, o), (lo, hi))) x ≤ c ∧ (uPass n ((u, o), (lo, hi))).1.length = n := by
    unfold uPass
    split
    · exact ⟨by simp only; grind, l1⟩
    · rw [flat0_tells]
      exact ⟨by grind, flat0_len n⟩
  have co : c ≤ tells (oPass n ((u, o), (lo, hi))) x ∧ (oPass n ((u, o), (lo, hi))).1.length = n := by
    unfold oPass
    simp only
    by_cases c1 : hi.num ≤ 0
    · rw [if_pos c1, flat0_tells]
      have : hi ≤ 0 := Rat.not_lt.mp fun z => by have := numPos.mpr z; omega
      exact ⟨by grind, flat0_len n⟩
    · rw [if_neg c1]
      have hp : 0 < hi := numPos.mp (by omega)
      by_cases c2 : 0 ≤ lo.num
      · rw [if_pos c2]
        have : 0 ≤ lo := Rat.num_nonneg.mp c2
        exact ⟨by grind, l2⟩
      · rw [if_neg c2]
        have hl : lo < 0 := num_lt.mp (by omega)
        have e : tells (o.1, o.2 - lo) x = tells o x - lo := by
          unfold tells
          grind
        rw [tells_stimes, e]
        obtain ⟨d1, d2⟩ := div_line hl hp h3 h4
        have q0 : 0 ≤ hi / (hi - lo) := by
          have dn : hi - lo ≠ 0 := by grind
          rw [Rat.div_def]
          have e := Rat.mul_inv_cancel (hi - lo) dn
          generalize (hi - lo)⁻¹ = i at *
          have k : 0 ≤ i := Rat.not_lt.mp fun z => by
            have k := Rat.mul_nonneg (a := hi - lo) (b := -i) (by grind) (by grind)
            grind
          exact Rat.mul_nonneg (by grind) k
        have d3 := Rat.mul_le_mul_of_nonneg_left (show r - lo ≤ tells o x - lo by grind) q0
        refine ⟨by grind, ?_⟩
        unfold stimes
        rw [List.length_map]
        exact l2
  exact ⟨cu.2, co.2, cu.1, co.1⟩
/-- a spot's row of what nodes come to, and all four of each node -/
def Holds (n : Nat) (x : List Rat) (t : Tg) (r : Rat) : Prop := t.1.1.1.length = n ∧ t.1.2.1.length = n ∧ tells t.1.1 x ≤ r ∧ r ≤ tells t.1.2 x ∧ t.2.1 ≤ r ∧ r ≤ t.2.2
theorem tgt_holds {box A : List Span} {n : Nat} {x y : List Rat} {U O : List Sum2} {z : Sum2} (hx : Within x box) (hn : n = box.length) (hy : Within y A) (hb : Btw n x U O y) (hl : U.length = O.length) (hz : z.1.length = U.length) : Holds n x (tgt box n U O A z) (tells z y) := by
  have hyl := btw_len hb hl
  have hxl := Paired.length hx
  obtain ⟨a, b, c, d⟩ := node_btw hb hl hz
  have w1 := within_tells hy (z := z) (by omega)
  have w2 := within_tells hx (z := thr z U O n) (by omega)
  have w3 := within_tells hx (z := thr z O U n) (by omega)
  refine ⟨a, b, c, d, maxQ_le ?_ w1.1, le_minQ ?_ w1.2⟩
  · exact Rat.le_trans w2.1 c
  · exact Rat.le_trans d w3.2
theorem holds_map {box A : List Span} {n : Nat} {x y : List Rat} {U O : List Sum2} (hx : Within x box) (hn : n = box.length) (hy : Within y A) (hb : Btw n x U O y) (hl : U.length = O.length) : ∀ {l : List Sum2}, (∀ z ∈ l, z.1.length = U.length) → Paired (Holds n x) (l.map (tgt box n U O A)) (l.map fun z => tells z y)
  | [], _ => .nil
  | z :: l, h => .cons (tgt_holds hx hn hy hb hl (h z (by simp))) (holds_map hx hn hy hb hl fun q hq => h q (by simp [hq]))
theorem pass_map {n : Nat} {x : List Rat} : ∀ {ts : List Tg} {rs : List Rat}, Paired (Holds n x) ts rs → Btw n x (ts.map (uPass n)) (ts.map (oPass n)) (rs.map cutQ)
  | _, _, .nil => .nil
  | _, _, .cons ⟨a, b, c, d, e, f⟩ t => .cons (pass_btw a b c d e f) (pass_map t)
/-- at every spot in the box each node lies between its four -/
theorem tight_all {box : List Span} {n : Nat} {x : List Rat} (hx : Within x box) (hn : n = box.length) : ∀ {ls : List (List Sum2)} {y : List Rat} {A : List Span} {U O : List Sum2}, Within y A → Btw n x U O y → U.length = O.length → Over y.length ls → Paired (Paired (Holds n x)) (tightAt box n ls A U O) (rowsAt ls y)
  | [], _, _, _, _, _, _, _, _ => .nil
  | l :: ls, y, A, U, O, hy, hb, hl, ⟨o1, o2, o3⟩ => by
    have hyl := btw_len hb hl
    have h := holds_map hx hn hy hb hl (l := l) fun z hz => by rw [o1 z hz]; exact hyl
    exact .cons h (tight_all hx hn (within_cut (within_map hy o1)) (pass_map h) (by rw [List.length_map, List.length_map, List.length_map, List.length_map]) (by simpa using o3))
/-- the ins' own sums -/
def units (n : Nat) : List Sum2 := (List.range n).map fun p => (unit n p, 0)
end Nc
end
section
set_option maxRecDepth 100000
set_option maxHeartbeats 4000000
namespace Nc
open PySem PySem.Spec PyProof.Rows L2
/-! ### the ins' own sums -/
theorem weighs_unit (p : Nat) : ∀ (k s : Nat) (x : List Rat), x.length = k → weighs (((List.range' s k).map fun i => if i = p then (1 : Rat) else 0).zip x) = if s ≤ p then x.getD (p - s) 0 else 0
  | 0, s, [], _ => by simp [weighs]
  | k + 1, s, y :: x, h => by
    have ih := weighs_unit p k (s + 1) x (by simpa using h)
    rw [List.range'_succ, List.map_cons, List.zip_cons_cons, weighs_cons, ih]
    by_cases e : s = p
    · subst e
      rw [if_pos rfl, if_neg (by omega), if_pos (Nat.le_refl _), Nat.sub_self]
      show 1 * y + 0 = y
      grind
    · rw [if_neg e]
      by_cases l : s ≤ p
      · rw [if_pos (by omega), if_pos l, show p - s = (p - (s + 1)) + 1 by omega]
        show 0 * y + _ = (y :: x).getD (p - (s + 1) + 1) 0
        rw [List.getD_cons_succ]
        grind
      · rw [if_neg (by omega), if_neg l]
        show 0 * y + 0 = 0
        grind
theorem tells_unit {n p : Nat} {x : List Rat} (h : x.length = n) : tells (unit n p, 0) x = x.getD p 0 := by
  have e := weighs_unit p n 0 x h
  unfold tells unit
  simp only
  rw [List.range_eq_range', e, if_pos (Nat.zero_le _), Nat.sub_zero]
  grind
theorem unit_len (n p : Nat) : (unit n p).length = n := by
  unfold unit
  rw [List.length_map, List.length_range]
theorem units_len (n : Nat) : (units n).length = n := by
  unfold units
  rw [List.length_map, List.length_range]
theorem pairs_at {α β : Type} {R : α → β → Prop} : ∀ {xs : List α} {ys : List β}, xs.length = ys.length → (∀ (k : Nat) x y, xs[k]? = some x → ys[k]? = some y → R x y) → Paired R xs ys
  | [], [], _, _ => .nil
  | x :: xs, y :: ys, h, f => .cons (f 0 x y rfl rfl) (pairs_at (by simpa using h) fun k a b h1 h2 => f (k + 1) a b (by simpa using h1) (by simpa using h2))
theorem btw_units {n : Nat} {x : List Rat} (h : x.length = n) : Btw n x (units n) (units n) x := by
  refine pairs_at (by rw [List.length_zip, units_len]; omega) fun k p r hp hr => ?_
  rw [List.getElem?_zip_eq_some] at hp
  obtain ⟨h1, h2⟩ := hp
  have hk := (List.getElem?_eq_some_iff.mp hr).1
  have e : (units n)[k]? = some (unit n k, 0) := by
    unfold units
    rw [List.getElem?_map, List.getElem?_range (by omega)]
    rfl
  rw [e] at h1 h2
  obtain ⟨p1, p2⟩ := p
  cases h1
  cases h2
  have v : tells (unit n k, 0) x = r := by
    rw [tells_unit h, List.getD_eq_getElem?_getD, hr]
    rfl
  exact ⟨unit_len n k, unit_len n k, by rw [v]; exact Rat.le_refl, by rw [v]; exact Rat.le_refl⟩
theorem unit_get {n i p : Nat} (hp : p < n) : (unit n i)[p]? = some (if p = i then 1 else 0) := by
  unfold unit
  rw [List.getElem?_map, List.getElem?_range hp]
  rfl
/-- a node taken through the ins themselves is itself -/
theorem thr_units_take {n : Nat} {z : Sum2} (hz : z.1.length = n) : ∀ i, i ≤ n → (thrL n z.2 ((z.1.zip ((units n).zip (units n))).take i)).1.length = n ∧ (thrL n z.2 ((z.1.zip ((units n).zip (units n))).take i)).2 = z.2 ∧
    ∀ p, p < n → (thrL n z.2 ((z.1.zip ((units n).zip (units n))).take i)).1[p]? = some (if p < i then z.1.getD p 0 else 0)
  | 0, _ => by
    refine ⟨by simp [thrL], by simp [thrL], fun p hp => ?_⟩
    simp [thrL, hp]
  | i + 1, h => by
    obtain ⟨a, b, c⟩ := thr_units_take hz i (by omega)
    have hi : i < z.1.length := by omega
    have hw : z.1[i]? = some z.1[i] := List.getElem?_eq_getElem hi
    have hu : (units n)[i]? = some (unit n i, 0) := by
      unfold units
      rw [List.getElem?_map, List.getElem?_range (by omega)]
      rfl
    have e : (z.1.zip ((units n).zip (units n)))[i]? = some (z.1[i], ((unit n i, 0), (unit n i, 0))) := by
      rw [List.getElem?_zip_eq_some, List.getElem?_zip_eq_some]
      exact ⟨hw, hu, hu⟩
    rw [thrL_take e]
    generalize thrL n z.2 ((z.1.zip ((units n).zip (units n))).take i) = t at a b c
    have hd : z.1.getD i 0 = z.1[i] := by
      rw [List.getD_eq_getElem?_getD, hw]
      rfl
    have pl : (splus t (stimes z.1[i] (unit n i, 0))).1.length = n ∧ (splus t (stimes z.1[i] (unit n i, 0))).2 = z.2 ∧ ∀ p, p < n → (splus t (stimes z.1[i] (unit n i, 0))).1[p]? = some (if p < i + 1 then z.1.getD p 0 else 0) := by
      refine ⟨?_, ?_, fun p hp => ?_⟩
      · unfold splus stimes
        rw [List.length_map, List.length_zip, List.length_map, unit_len]
        omega
      · show t.2 + z.1[i] * 0 = z.2
        rw [b]
        grind
      · unfold splus stimes
        simp only
        have k2 : ((unit n i).map fun x => z.1[i] * x)[p]? = some (z.1[i] * (if p = i then 1 else 0)) := by
          rw [List.getElem?_map, unit_get hp]
          rfl
        have kz : (t.1.zip ((unit n i).map fun x => z.1[i] * x))[p]? = some ((if p < i then z.1.getD p 0 else 0), z.1[i] * (if p = i then 1 else 0)) := by
          rw [List.getElem?_zip_eq_some]
          exact ⟨c p hp, k2⟩
        rw [List.getElem?_map, kz]
        show some (_ + _) = _
        congr 1
        by_cases e1 : p = i
        · subst e1
          rw [if_neg (by omega), if_pos rfl, if_pos (by omega), hd]
          grind
        · rw [if_neg e1]
          by_cases e2 : p < i
          · rw [if_pos e2, if_pos (by omega)]
            grind
          · rw [if_neg e2, if_neg (by omega)]
            grind
    unfold stp
    split
    · exact pl
    · split
      · exact pl
      · rename_i c1 c2
        have z0 : z.1[i] = 0 := Rat.num_eq_zero.mp (by
          have c1' : ¬ 0 < z.1[i].num := c1
          have c2' : ¬ z.1[i].num < 0 := c2
          omega)
        refine ⟨a, b, fun p hp => ?_⟩
        rw [c p hp]
        congr 1
        by_cases e2 : p < i
        · rw [if_pos e2, if_pos (by omega)]
        · rw [if_neg e2]
          by_cases e1 : p = i
          · subst e1
            rw [if_pos (by omega), hd, z0]
          · rw [if_neg (by omega)]
theorem thr_units {n : Nat} {z : Sum2} (hz : z.1.length = n) : thr z (units n) (units n) n = z := by
  obtain ⟨a, b, c⟩ := thr_units_take hz n (Nat.le_refl n)
  rw [List.take_of_length_le (by rw [List.length_zip, hz]; omega)] at a b c
  refine Prod.ext (List.ext_getElem? fun p => ?_) b
  by_cases hp : p < n
  · show (thrL n z.2 _).1[p]? = _
    rw [c p hp, if_pos hp, List.getD_eq_getElem?_getD, List.getElem?_eq_getElem (by omega)]
    rfl
  · have e : (thr z (units n) (units n) n).1.length = n := a
    rw [List.getElem?_eq_none (by omega), List.getElem?_eq_none (by omega)]
/-! ### spreads and values of what is handed on -/
def va : Nat → Nat
  | 0 => 21
  | i + 1 => 16 * va i + 10
def sa : Nat → Nat
  | 0 => 18
  | i + 1 => 16 * sa i
/-- spans ahead: how large, how wide, their bottoms -/
structure SpB (v s D : Nat) (A : List Span) : Prop where
  bd : ∀ p ∈ A, Bd v D p.1 ∧ Bd v D p.2
  le : ∀ p ∈ A, p.1 ≤ p.2
  wide : ∀ p ∈ A, p.2 - p.1 ≤ (s : Rat)
theorem spread_w {u s : Nat} : ∀ {ws : List Rat} {A : List Span}, (∀ w ∈ ws, -(u : Rat) ≤ w ∧ w ≤ (u : Rat)) → (∀ p ∈ A, p.1 ≤ p.2 ∧ p.2 - p.1 ≤ (s : Rat)) → ws.length = A.length →
    weighs (ws.zip (picks A (ws.map fun w => decide (w.num < 0)))) ≤ weighs (ws.zip (picks A (ws.map fun w => decide (0 < w.num)))) ∧
    weighs (ws.zip (picks A (ws.map fun w => decide (0 < w.num)))) - weighs (ws.zip (picks A (ws.map fun w => decide (w.num < 0)))) ≤ ((ws.length * (u * s) : Nat) : Rat)
  | [], A, _, _, _ => by
    refine ⟨Rat.le_refl, ?_⟩
    rw [List.length_nil, Nat.zero_mul]
    show (0 : Rat) - 0 ≤ 0
    grind
  | w :: ws, p :: A, hw, hA, hl => by
    obtain ⟨i1, i2⟩ := spread_w (ws := ws) (A := A) (fun a ha => hw a (by simp [ha])) (fun a ha => hA a (by simp [ha])) (by simpa using hl)
    obtain ⟨w1, w2⟩ := hw w (by simp)
    obtain ⟨p1, p2⟩ := hA p (by simp)
    simp only [List.map_cons, picks, List.zipWith_cons_cons, List.zip_cons_cons, weighs_cons, List.length_cons] at i1 i2 ⊢
    have e : (((ws.length + 1) * (u * s) : Nat) : Rat) = ((ws.length * (u * s) : Nat) : Rat) + (u : Rat) * (s : Rat) := by
      rw [Nat.add_mul, Nat.one_mul, Rat.natCast_add, Rat.natCast_mul u s]
    rw [e]
    generalize ((ws.length * (u * s) : Nat) : Rat) = T at i2
    generalize (u : Rat) = U at w1 w2
    generalize (s : Rat) = S at p2
    have key : w * pickB p (decide (w.num < 0)) ≤ w * pickB p (decide (0 < w.num)) ∧ w * pickB p (decide (0 < w.num)) - w * pickB p (decide (w.num < 0)) ≤ U * S := by
      unfold pickB
      by_cases c1 : w.num < 0
      · have c1' := num_lt.mp c1
        rw [if_pos (by simpa using c1), if_neg (by simp; omega)]
        have k1 := Rat.mul_nonneg (a := -w) (b := p.2 - p.1) (by grind) (by grind)
        have k2 := Rat.mul_nonneg (a := U + w) (b := p.2 - p.1) (by grind) (by grind)
        have k3 := Rat.mul_nonneg (a := U) (b := S - (p.2 - p.1)) (by grind) (by grind)
        exact ⟨by grind, by grind⟩
      · by_cases c2 : 0 < w.num
        · have c2' := numPos.mp c2
          rw [if_neg (by simpa using c1), if_pos (by simpa using c2)]
          have k1 := Rat.mul_nonneg (a := w) (b := p.2 - p.1) (by grind) (by grind)
          have k2 := Rat.mul_nonneg (a := U - w) (b := p.2 - p.1) (by grind) (by grind)
          have k3 := Rat.mul_nonneg (a := U) (b := S - (p.2 - p.1)) (by grind) (by grind)
          exact ⟨by grind, by grind⟩
        · have z : w = 0 := Rat.num_eq_zero.mp (by omega)
          subst z
          rw [Rat.zero_mul, Rat.zero_mul]
          have k3 := Rat.mul_nonneg (a := U) (b := S) (by grind) (by grind)
          exact ⟨Rat.le_refl, by grind⟩
    exact ⟨by grind, by grind⟩
/-- the bounds of a node over such spans -/
theorem spb_node {v s D w : Nat} {A : List Span} {z : Sum2} (D0 : 0 < w * D) (h : SpB v s D A) (h4 : A.length ≤ 4) (hz : z.1.length = A.length) (hw : BdL 4 w z.1) (hc : Bd 10 w z.2) :
    (Bd (16 * v + 10) (w * D) (bnd A z).1 ∧ Bd (16 * v + 10) (w * D) (bnd A z).2) ∧ (bnd A z).1 ≤ (bnd A z).2 ∧ (bnd A z).2 - (bnd A z).1 ≤ ((16 * s : Nat) : Rat) := by
  have pk : ∀ bs : List Bool, bs.length = A.length → Bd (16 * v + 10) (w * D) (tells z (picks A bs)) := fun bs hb => by
    have hp : BdL v D (picks A bs) := fun r hr => by
      unfold picks at hr
      obtain ⟨i, hi⟩ := List.mem_iff_getElem?.mp hr
      rw [List.getElem?_zipWith] at hi
      cases h1 : A[i]? with
      | none => rw [h1] at hi; cases hb' : bs[i]? <;> (rw [hb'] at hi; cases hi)
      | some p =>
        rw [h1] at hi
        cases h2 : bs[i]? with
        | none => rw [h2] at hi; cases hi
        | some b =>
          rw [h2] at hi
          have e : pickB p b = r := Option.some.inj hi
          rw [← e]
          unfold pickB
          obtain ⟨k1, k2⟩ := h.bd p (List.mem_of_getElem? h1)
          split
          · exact k2
          · exact k1
    have t := bd_tells (v := 4) (u := v) D0 D0 (Nat.dvd_refl _) hw (hc.mono (Nat.le_refl _) (Nat.dvd_mul_right w D)) hp (by rw [picks_len hb, hz])
    have : z.1.length * (4 * v) ≤ 4 * (4 * v) := Nat.mul_le_mul_right _ (by omega)
    exact t.mono (by omega) (Nat.dvd_refl _)
  obtain ⟨s1, s2⟩ := spread_w (u := 4) (s := s) (ws := z.1) (A := A) (fun a ha => (hw a ha).1) (fun p hp => ⟨h.le p hp, h.wide p hp⟩) hz
  refine ⟨⟨pk _ (by rw [lowB_len, hz]), pk _ (by rw [highB_len, hz])⟩, ?_, ?_⟩
  · unfold bnd lowT highT tells lowB highB
    grind
  · have m : ((z.1.length * (4 * s) : Nat) : Rat) ≤ ((16 * s : Nat) : Rat) := by
      refine Rat.natCast_le_natCast.mpr ?_
      have : z.1.length * (4 * s) ≤ 4 * (4 * s) := Nat.mul_le_mul_right _ (by omega)
      omega
    unfold bnd lowT highT tells lowB highB
    grind
theorem bd_cut {v D : Nat} {r : Rat} (h : Bd v D r) : Bd v D (cutQ r) := by
  unfold cutQ
  split
  · exact bd_zero v D
  · exact h
theorem spb_cut {v s D : Nat} {A : List Span} (h : SpB v s D A) : SpB v s D (A.map cutS) := by
  refine ⟨fun p hp => ?_, fun p hp => ?_, fun p hp => ?_⟩ <;> obtain ⟨q, hq, rfl⟩ := List.mem_map.mp hp
  · exact ⟨bd_cut (h.bd q hq).1, bd_cut (h.bd q hq).2⟩
  · exact cutQ_mono (h.le q hq)
  · have a := h.le q hq
    have b := h.wide q hq
    have s0 : (0 : Rat) ≤ (s : Rat) := Rat.natCast_nonneg
    show cutQ q.2 - cutQ q.1 ≤ _
    rw [cutQ_eq, cutQ_eq]
    generalize (s : Rat) = S at *
    by_cases c1 : q.1 < 0
    · rw [if_pos c1]
      by_cases c2 : q.2 < 0
      · rw [if_pos c2]
        grind
      · rw [if_neg c2]
        grind
    · rw [if_neg c1, if_neg (by grind)]
      exact b
end Nc
end
section
set_option maxRecDepth 100000
set_option maxHeartbeats 4000000
namespace Nc
open PySem PySem.Spec PyProof.Rows L2
/-! ### tighter sums: sizes -/
def M0 : Nat := 10 ^ 29 + 1000
def wN (g M i j : Nat) : Nat := if i = g ∧ j = 0 then 6 * M else 6
def wL (g M i : Nat) : Nat := if i = g then 6 * M else 6
theorem wN_dvd (g M i j : Nat) : wN g M i j ∣ wL g M i := by
  unfold wN wL
  by_cases h : i = g
  · rw [if_pos h]
    split
    · exact Nat.dvd_refl _
    · exact Nat.dvd_mul_right 6 M
  · rw [if_neg h, if_neg (fun z => h z.1)]
    exact Nat.dvd_refl _
theorem wN_pos {g M i j : Nat} (h : 0 < M) : 0 < wN g M i j := by
  unfold wN
  split <;> omega
theorem wL_pos {g M i : Nat} (h : 0 < M) : 0 < wL g M i := by
  unfold wL
  split <;> omega
/-- one number at most of the layers is long: that of the first node of layer g, its bottom M -/
structure GrB (g M : Nat) (ls : List (List Sum2)) : Prop where
  m0 : 0 < M
  mle : M ≤ M0
  num : ∀ (i : Nat) (l : List Sum2), ls[i]? = some l → ∀ (j : Nat) (z : Sum2), l[j]? = some z → BdL 4 (wN g M i j) z.1 ∧ Bd 10 (wN g M i j) z.2
def pr (c : Nat → Nat) : Nat → Nat
  | 0 => 1
  | j + 1 => c j * pr c j
theorem pr_pos {c : Nat → Nat} : ∀ {m : Nat}, (∀ j, j < m → 0 < c j) → 0 < pr c m
  | 0, _ => Nat.one_pos
  | m + 1, h => Nat.mul_pos (h m (by omega)) (pr_pos fun j hj => h j (by omega))
theorem pr_dvd {c : Nat → Nat} : ∀ {m j : Nat}, j < m → c j ∣ pr c m
  | m + 1, j, h => by
    by_cases e : j = m
    · subst e
      exact Nat.dvd_mul_right _ _
    · exact Nat.dvd_trans (pr_dvd (by omega)) (Nat.dvd_mul_left _ _)
theorem pr_le {c b : Nat → Nat} : ∀ {m : Nat}, (∀ j, j < m → c j ≤ b j) → pr c m ≤ pr b m
  | 0, _ => Nat.le_refl _
  | m + 1, h => Nat.mul_le_mul (h m (by omega)) (pr_le fun j hj => h j (by omega))
theorem pr_more {b : Nat → Nat} (h : ∀ j, 0 < b j) : ∀ {m k : Nat}, m ≤ k → pr b m ≤ pr b k
  | m, 0, hk => by
    have : m = 0 := by omega
    subst this
    exact Nat.le_refl _
  | m, k + 1, hk => by
    by_cases e : m = k + 1
    · subst e
      exact Nat.le_refl _
    · exact Nat.le_trans (pr_more h (show m ≤ k by omega)) (Nat.le_mul_of_pos_left _ (h k))
def ubs : Nat → Nat × Nat
  | 0 => (1, 26)
  | i + 1 => let u := (ubs i).2 + (64 * (ubs i).2 + va (i + 1)); (u, 10 + 16 * u)
/-- how large the sums ahead are, the nodes' own, what they tell in the box -/
def ub (i : Nat) : Nat := (ubs i).1
def vs (i : Nat) : Nat := (ubs i).2
def vl (i : Nat) : Nat := 64 * vs i + va (i + 1)
theorem vs_eq : ∀ i, vs i = 10 + 16 * ub i
  | 0 => rfl
  | _ + 1 => rfl
theorem ub_step (i : Nat) : ub (i + 1) = vs i + vl i := rfl
theorem vl_lt : ∀ i, i ≤ 3 → vl i ≤ 2 ^ 44 ∧ vs i ≤ 2 ^ 40 ∧ ub i ≤ 2 ^ 40 ∧ va (i + 1) ≤ 2 ^ 24 ∧ sa (i + 1) ≤ 2 ^ 24
  | 0, _ => by decide
  | 1, _ => by decide
  | 2, _ => by decide
  | 3, _ => by decide
def rb (g : Nat) : Nat → Nat
  | 0 => 1
  | i + 1 => 6 * rb g i * (sa (i + 1) * 36 * rb g i) ^ 4 * (if i = g then M0 * M0 else 1)
theorem rb_far {g : Nat} (h : 4 ≤ g) : ∀ i, i ≤ 4 → rb g i = rb 4 i
  | 0, _ => rfl
  | i + 1, hi => by
    show 6 * rb g i * (sa (i + 1) * 36 * rb g i) ^ 4 * (if i = g then M0 * M0 else 1) = 6 * rb 4 i * (sa (i + 1) * 36 * rb 4 i) ^ 4 * (if i = 4 then M0 * M0 else 1)
    rw [rb_far h i (by omega), if_neg (by omega), if_neg (by omega)]
theorem rb_lt {g i : Nat} (hi : i ≤ 3) : (if i = g then 6 * M0 else 6) * (6 * rb g i) < 2 ^ 6672 := by
  have d : ∀ g, g ≤ 4 → ∀ i, i ≤ 3 → (if i = g then 6 * M0 else 6) * (6 * rb g i) < 2 ^ 6672 := by decide +kernel
  by_cases h : g ≤ 4
  · exact d g h i hi
  · rw [rb_far (by omega) i (by omega), if_neg (by omega)]
    have := d 4 (by omega) i hi
    rwa [if_neg (by omega)] at this
/-! ### the ratio's bottom -/
def cI (t : Tg) (E : Nat) : Nat := if t.2.1 < 0 ∧ 0 < t.2.2 then (t.2.2 - t.2.1).num.natAbs * (E / (t.2.2 - t.2.1).den) else 1
theorem ratio_facts {h l : Rat} {E s : Nat} (E0 : 0 < E) (hl : l < 0) (hh : 0 < h) (dh : h.den ∣ E) (dl : l.den ∣ E) (hs : h - l ≤ (s : Rat)) :
    0 < (h - l).num.natAbs * (E / (h - l).den) ∧ Bd 1 ((h - l).num.natAbs * (E / (h - l).den)) (h / (h - l)) ∧ (h - l).num.natAbs * (E / (h - l).den) ≤ s * E := by
  have dq : (h - l).den ∣ E := by
    rw [Rat.sub_eq_add_neg]
    exact den_add E0 dh (by rw [Rat.neg_den]; exact dl)
  have q0 : 0 < h - l := by grind
  generalize hq : h - l = q at *
  have nq : 0 < q.num := numPos.mpr q0
  obtain ⟨m, hm⟩ := dq
  have dp := den_pos q
  have dn : 0 < q.den := by omega
  have m0 : 0 < m := Nat.pos_of_ne_zero fun z => by rw [z, Nat.mul_zero] at hm; omega
  have em : E / q.den = m := by rw [hm, Nat.mul_div_cancel_left _ dn]
  rw [em]
  have c0 : 0 < q.num.natAbs * m := Nat.mul_pos (by omega) m0
  have ec : ((q.num.natAbs * m : Nat) : Int) = q.num * (m : Int) := by
    rw [Int.natCast_mul, Int.natAbs_of_nonneg (by omega)]
  have eq : q = Rat.divInt ((q.num.natAbs * m : Nat) : Int) (E : Int) := by
    rw [ec, hm, Int.natCast_mul, Rat.divInt_mul_right (by omega), Rat.num_divInt_den]
  clear ec em
  generalize q.num.natAbs * m = c at c0 eq ⊢
  obtain ⟨k, hk⟩ := div_of_den E0 dh
  have eh : Rat.divInt k (c : Int) * q = h := by
    rw [hk, eq, Rat.divInt_mul_divInt, show (c : Int) * (E : Int) = (E : Int) * c from Int.mul_comm .., Rat.divInt_mul_right (by omega)]
  have er : h / q = Rat.divInt k (c : Int) := by
    rw [Rat.div_def, ← eh, Rat.mul_assoc, Rat.mul_inv_cancel q (by grind), Rat.mul_one]
  refine ⟨c0, ⟨?_, ?_⟩, ?_⟩
  · rw [er]
    generalize Rat.divInt k (c : Int) = r at eh
    have one : ((1 : Nat) : Rat) = 1 := rfl
    rw [one]
    constructor
    · refine Rat.not_lt.mp fun z => ?_
      have := Rat.mul_nonneg (a := -r) (b := q) (by grind) (by grind)
      grind
    · refine Rat.not_lt.mp fun z => ?_
      have := Rat.mul_nonneg (a := r - 1) (b := q) (by grind) (by grind)
      grind
  · rw [er]
    exact den_of_div c0
  · refine Rat.natCast_le_natCast.mp ?_
    rw [Rat.natCast_mul s E]
    have e0 : (0 : Rat) ≤ (E : Rat) := Rat.natCast_nonneg
    have eE : (E : Rat) ≠ 0 := fun z => by
      have : ((E : Nat) : Rat) ≤ ((0 : Nat) : Rat) := by
        rw [z]
        exact Rat.le_refl
      have := Rat.natCast_le_natCast.mp this
      omega
    have ev : (c : Rat) = q * (E : Rat) := by
      have e1 : q = (c : Rat) / (E : Rat) := by
        rw [eq, Rat.divInt_eq_div]
        rfl
      rw [e1, Rat.div_def, Rat.mul_assoc, Rat.inv_mul_cancel _ eE, Rat.mul_one]
    rw [ev]
    have := Rat.mul_nonneg (a := (s : Rat) - q) (b := (E : Rat)) (by grind) e0
    grind
/-- a node's four: sums over n things, low and high, how far apart -/
structure TgB (n v w s Dc E : Nat) (t : Tg) : Prop where
  u : BdS n v Dc E t.1.1
  o : BdS n v Dc E t.1.2
  lo : Bd w E t.2.1
  hi : Bd w E t.2.2
  wide : t.2.2 - t.2.1 ≤ (s : Rat)
theorem bds_flat0 (n v Dc E : Nat) : BdS n v Dc E (flat0 n) := bds_flat n (bd_zero v E)
theorem uPass_b {n v w s Dc E : Nat} {t : Tg} (h : TgB n v w s Dc E t) : BdS n v Dc E (uPass n t) := by
  unfold uPass
  split
  · exact h.u
  · exact bds_flat0 n v Dc E
theorem oPass_b {n v w s Dc E : Nat} {t : Tg} (E0 : 0 < E) (h : TgB n v w s Dc E t) (s1 : 1 ≤ s) : 0 < cI t E ∧ cI t E ≤ s * E ∧ BdS n (v + w) (cI t E * Dc) (cI t E * E) (oPass n t) := by
  unfold cI oPass
  by_cases c : t.2.1 < 0 ∧ 0 < t.2.2
  · obtain ⟨r0, r1, r2⟩ := ratio_facts E0 c.1 c.2 h.hi.2 h.lo.2 h.wide
    rw [if_pos c, if_neg (by have := numPos.mpr c.2; omega), if_neg (by have := num_lt.mpr c.1; omega)]
    refine ⟨r0, r2, ?_⟩
    have b : BdS n (v + w) Dc E (t.1.2.1, t.1.2.2 - t.2.1) := ⟨h.o.len, h.o.row.mono (Nat.le_add_right _ _) (Nat.dvd_refl _), h.o.num.sub E0 h.lo⟩
    have := bds_times r1 b
    rwa [Nat.one_mul] at this
  · rw [if_neg c]
    have sE : 1 ≤ s * E := Nat.mul_pos s1 E0
    refine ⟨Nat.one_pos, sE, ?_⟩
    rw [Nat.one_mul, Nat.one_mul]
    by_cases c1 : t.2.2.num ≤ 0
    · rw [if_pos c1]
      exact bds_flat0 n _ Dc E
    · rw [if_neg c1]
      have hp : 0 < t.2.2 := numPos.mp (by omega)
      rw [if_pos (Rat.num_nonneg.mpr (Rat.not_lt.mp fun z => c ⟨z, hp⟩))]
      exact h.o.mono (Nat.le_add_right _ _) (Nat.dvd_refl _) (Nat.dvd_refl _)
theorem bd_max {v u D : Nat} {a b : Rat} (ha : Bd v D a) (hb : Bd u D b) : Bd (v + u) D (maxQ a b) ∧ Bd (v + u) D (minQ a b) := by
  have h1 := ha.mono (Nat.le_add_right v u) (Nat.dvd_refl D)
  have h2 := hb.mono (Nat.le_add_left u v) (Nat.dvd_refl D)
  unfold maxQ minQ
  constructor
  · split
    · exact h2
    · exact h1
  · split
    · exact h2
    · exact h1
theorem bd_picks {v D : Nat} {A : List Span} (h : ∀ p ∈ A, Bd v D p.1 ∧ Bd v D p.2) (bs : List Bool) : BdL v D (picks A bs) := fun r hr => by
  unfold picks at hr
  obtain ⟨i, hi⟩ := List.mem_iff_getElem?.mp hr
  rw [List.getElem?_zipWith] at hi
  cases h1 : A[i]? with
  | none => rw [h1] at hi; cases hb' : bs[i]? <;> (rw [hb'] at hi; cases hi)
  | some p =>
    rw [h1] at hi
    cases h2 : bs[i]? with
    | none => rw [h2] at hi; cases hi
    | some b =>
      rw [h2] at hi
      have e : pickB p b = r := Option.some.inj hi
      rw [← e]
      unfold pickB
      obtain ⟨k1, k2⟩ := h p (List.mem_of_getElem? h1)
      split
      · exact k2
      · exact k1
theorem lt_of_rb {g M i R : Nat} (i3 : i ≤ 3) (mle : M ≤ M0) (rle : R ≤ rb g i) (j : Nat) : wN g M i j * (6 * R) < 2 ^ 6672 := by
  refine Nat.lt_of_le_of_lt ?_ (rb_lt (g := g) i3)
  refine Nat.mul_le_mul ?_ (Nat.mul_le_mul_left 6 rle)
  have m1 : 1 ≤ M0 := by decide
  unfold wN
  by_cases h : i = g
  · rw [if_pos h]
    split <;> omega
  · rw [if_neg h, if_neg (fun z => h z.1)]
    exact Nat.le_refl _
/-- a layer's facts: its nodes, what is ahead -/
structure Lk (D : Nat) (box : List Span) (n g M i : Nat) (l : List Sum2) (A : List Span) (U O : List Sum2) (R : Nat) : Prop where
  nodes : ∀ (j : Nat) (z : Sum2), l[j]? = some z → z.1.length = A.length ∧ BdL 4 (wN g M i j) z.1 ∧ Bd 10 (wN g M i j) z.2
  many : l.length ≤ 4
  a4 : A.length ≤ 4
  ul : U.length = A.length
  ol : O.length = A.length
  i3 : i ≤ 3
  sp : SpB (va i) (sa i) (pw (wL g M) i * D) A
  r0 : 0 < R
  d0 : 0 < D
  ltE : ∀ j, wN g M i j * (D * R) < 2 ^ 6672
  rdv : pw (wL g M) i ∣ R
  hu : ∀ s ∈ U, BdS n (ub i) R (D * R) s
  ho : ∀ s ∈ O, BdS n (ub i) R (D * R) s
  m0 : 0 < M
  mle : M ≤ M0
  bx : SpB 21 18 D box
  nb : n = box.length
  n3 : n ≤ 3
section
variable {box A : List Span} {n g M i R D : Nat} {l : List Sum2} {U O : List Sum2}
theorem Lk.pos (k : Lk D box n g M i l A U O R) (j : Nat) : 0 < wN g M i j * R ∧ 0 < wN g M i j * (D * R) :=
  ⟨Nat.mul_pos (wN_pos k.m0) k.r0, Nat.mul_pos (wN_pos k.m0) (Nat.mul_pos k.d0 k.r0)⟩
theorem Lk.lt (k : Lk D box n g M i l A U O R) (j : Nat) : wN g M i j * (D * R) < 2 ^ 6672 := k.ltE j
theorem Lk.sums (k : Lk D box n g M i l A U O R) {j : Nat} {z : Sum2} (hz : l[j]? = some z) : BdS n (vs i) (wN g M i j * R) (wN g M i j * (D * R)) (thr z U O n) ∧ BdS n (vs i) (wN g M i j * R) (wN g M i j * (D * R)) (thr z O U n) := by
  obtain ⟨h1, h2, h3⟩ := k.nodes j z hz
  obtain ⟨p1, p2⟩ := k.pos j
  have ul := k.ul
  have ol := k.ol
  have a4 := k.a4
  have hc := h3.mono (Nat.le_refl _) (Nat.dvd_mul_right (wN g M i j) (D * R))
  have e : 10 + z.1.length * (4 * ub i) ≤ vs i := by
    rw [vs_eq]
    have : z.1.length * (4 * ub i) ≤ 4 * (4 * ub i) := Nat.mul_le_mul_right _ (by omega)
    omega
  exact ⟨(bds_thr p1 p2 h2 hc k.hu k.ho (by omega) (by omega)).mono e (Nat.dvd_refl _) (Nat.dvd_refl _), (bds_thr p1 p2 h2 hc k.ho k.hu (by omega) (by omega)).mono e (Nat.dvd_refl _) (Nat.dvd_refl _)⟩
theorem Lk.ends (k : Lk D box n g M i l A U O R) {j : Nat} {z : Sum2} (hz : l[j]? = some z) : (Bd (va (i + 1)) (wN g M i j * (D * R)) (bnd A z).1 ∧ Bd (va (i + 1)) (wN g M i j * (D * R)) (bnd A z).2) ∧ (bnd A z).1 ≤ (bnd A z).2 ∧ (bnd A z).2 - (bnd A z).1 ≤ (sa (i + 1) : Rat) := by
  obtain ⟨h1, h2, h3⟩ := k.nodes j z hz
  have p0 : 0 < wN g M i j * (pw (wL g M) i * D) := Nat.mul_pos (wN_pos k.m0) (Nat.mul_pos (pw_pos (fun _ => wL_pos k.m0) i) k.d0)
  obtain ⟨b, c, d⟩ := spb_node p0 k.sp k.a4 h1 h2 h3
  have dv : wN g M i j * (pw (wL g M) i * D) ∣ wN g M i j * (D * R) := Nat.mul_dvd_mul_left _ (by rw [Nat.mul_comm]; exact Nat.mul_dvd_mul_left D k.rdv)
  exact ⟨⟨b.1.mono (Nat.le_refl _) dv, b.2.mono (Nat.le_refl _) dv⟩, c, d⟩
/-- what a small sum tells at a corner of the box -/
theorem Lk.corner (k : Lk D box n g M i l A U O R) {j : Nat} {s : Sum2} (hs : BdS n (vs i) (wN g M i j * R) (wN g M i j * (D * R)) s) (bs : List Bool) (hb : bs.length = box.length) : Bd (64 * vs i) (wN g M i j * (D * R)) (tells s (picks box bs)) := by
  obtain ⟨p1, p2⟩ := k.pos j
  have n3 := k.n3
  have nb := k.nb
  have sl := hs.len
  have e : wN g M i j * R * D = wN g M i j * (D * R) := by rw [Nat.mul_assoc, Nat.mul_comm R]
  have h := bd_tells (v := vs i) (u := 21) (D := wN g M i j * R) (E := D) (F := wN g M i j * (D * R)) (by rw [e]; exact p2) p2 (by rw [e]; exact Nat.dvd_refl _) hs.row hs.num (bd_picks k.bx.bd bs) (by rw [picks_len hb]; omega)
  refine h.mono ?_ (Nat.dvd_refl _)
  have : s.1.length * (vs i * 21) ≤ 3 * (vs i * 21) := Nat.mul_le_mul_right _ (by omega)
  omega
theorem Lk.tg (k : Lk D box n g M i l A U O R) {j : Nat} {z : Sum2} (hz : l[j]? = some z) : TgB n (vs i) (vl i) (sa (i + 1)) (wN g M i j * R) (wN g M i j * (D * R)) (tgt box n U O A z) := by
  obtain ⟨s1, s2⟩ := k.sums hz
  obtain ⟨⟨e1, e2⟩, e3, e4⟩ := k.ends hz
  have nb := k.nb
  have c1 := k.corner s1 (lowB (thr z U O n)) (by rw [lowB_len, s1.len, nb])
  have c2 := k.corner s2 (highB (thr z O U n)) (by rw [highB_len, s2.len, nb])
  refine ⟨s1, s2, (bd_max c1 e1).1, (bd_max c2 e2).2, ?_⟩
  have m1 := le_maxQ (lowT (thr z U O n) box) (bnd A z).1
  have m2 := minQ_le (highT (thr z O U n) box) (bnd A z).2
  show minQ (highT (thr z O U n) box) (bnd A z).2 - maxQ (lowT (thr z U O n) box) (bnd A z).1 ≤ _
  grind
end
/-- what stands behind i layers -/
structure MidT (box : List Span) (n g M : Nat) (ls : List (List Sum2)) (i : Nat) (dn : List (List Tg)) (A : List Span) (U O : List Sum2) : Prop where
  len : dn.length = i
  eq : tightAt box n ls box (units n) (units n) = dn ++ tightAt box n (ls.drop i) A U O
  over : Over A.length (ls.drop i)
  a4 : A.length ≤ 4
  ul : U.length = A.length
  ol : O.length = A.length
  sp : SpB (va i) (sa i) (pw (wL g M) i * 6) A
  r : ∃ R, 0 < R ∧ R ≤ rb g i ∧ pw (wL g M) i ∣ R ∧ (∀ s ∈ U, BdS n (ub i) R (6 * R) s) ∧ ∀ s ∈ O, BdS n (ub i) R (6 * R) s
theorem units_b {n : Nat} : ∀ s ∈ units n, BdS n 1 1 6 s := by
  intro s hs
  unfold units at hs
  obtain ⟨p, _, rfl⟩ := List.mem_map.mp hs
  refine ⟨unit_len n p, fun r hr => ?_, bd_zero _ _⟩
  unfold unit at hr
  obtain ⟨q, _, rfl⟩ := List.mem_map.mp hr
  split
  · exact ⟨by decide, by decide⟩
  · exact bd_zero _ _
theorem midT0 {box : List Span} {n g M : Nat} {ls : List (List Sum2)} (hb : SpB 21 18 6 box) (hn : n = box.length) (h3 : n ≤ 3) (ov : Over n ls) : MidT box n g M ls 0 [] box (units n) (units n) := by
  refine ⟨rfl, rfl, by rw [← hn]; exact ov, by omega, by rw [units_len, hn], by rw [units_len, hn], ?_, 1, Nat.one_pos, Nat.le_refl _, Nat.dvd_refl _, units_b, units_b⟩
  rw [show pw (wL g M) 0 * 6 = 6 from rfl]
  exact hb
theorem pr_b {g M i s R : Nat} (hM : M ≤ M0) (hR : 0 < R) (s1 : 1 ≤ s) (m0 : 0 < M) : pr (fun j => s * (wN g M i j * (6 * R))) 4 ≤ (s * 36 * R) ^ 4 * (if i = g then M0 else 1) := by
  have e : pr (fun j => s * (wN g M i j * (6 * R))) 4 = (s * (wN g M i 3 * (6 * R))) * ((s * (wN g M i 2 * (6 * R))) * ((s * (wN g M i 1 * (6 * R))) * ((s * (wN g M i 0 * (6 * R))) * 1))) := rfl
  have w : ∀ j, j ≠ 0 → wN g M i j = 6 := fun j hj => by
    unfold wN
    rw [if_neg (fun z => hj z.2)]
  have t : s * (6 * (6 * R)) = s * 36 * R := by rw [← Nat.mul_assoc 6 6 R, Nat.mul_assoc s]
  rw [e, w 3 (by decide), w 2 (by decide), w 1 (by decide), t, Nat.mul_one]
  have w0 : s * (wN g M i 0 * (6 * R)) ≤ (s * 36 * R) * (if i = g then M0 else 1) := by
    unfold wN
    by_cases h : i = g
    · rw [if_pos ⟨h, rfl⟩, if_pos h]
      have a : s * (6 * M * (6 * R)) = s * 36 * R * M := by grind
      rw [a]
      exact Nat.mul_le_mul_left _ hM
    · rw [if_neg (fun z => h z.1), if_neg h, t, Nat.mul_one]
      exact Nat.le_refl _
  generalize s * 36 * R = T at w0 ⊢
  generalize (if i = g then M0 else 1) = m at w0 ⊢
  refine Nat.le_trans (Nat.mul_le_mul_left T (Nat.mul_le_mul_left T (Nat.mul_le_mul_left T w0))) (Nat.le_of_eq ?_)
  grind
theorem midT_step {box A : List Span} {n g M i : Nat} {ls : List (List Sum2)} {dn : List (List Tg)} {U O : List Sum2} {l : List Sum2} (hb : SpB 21 18 6 box) (hn : n = box.length) (h3 : n ≤ 3) (h4 : ls.length ≤ 4) (gr : GrB g M ls) (m : MidT box n g M ls i dn A U O) (hi : ls[i]? = some l) :
    ∃ R, Lk 6 box n g M i l A U O R ∧ MidT box n g M ls (i + 1) (dn ++ [l.map (tgt box n U O A)]) ((l.map (bnd A)).map cutS) ((l.map (tgt box n U O A)).map (uPass n)) ((l.map (tgt box n U O A)).map (oPass n)) := by
  have hi1 := (List.getElem?_eq_some_iff.mp hi).1
  have ov := m.over
  rw [drop_at hi] at ov
  obtain ⟨o1, o2, o3⟩ := ov
  obtain ⟨R, r0, rle, rdv, hu, ho⟩ := m.r
  have i3 : i ≤ 3 := by omega
  have k : Lk 6 box n g M i l A U O R := ⟨fun j z hz => ⟨o1 z (List.mem_of_getElem? hz), gr.num i l hi j z hz⟩, o2.2, m.a4, m.ul, m.ol, i3, m.sp, r0, by decide, fun j => lt_of_rb i3 gr.mle rle j, rdv, hu, ho, gr.m0, gr.mle, hb, hn, h3⟩
  have s1 : 1 ≤ sa (i + 1) := by
    have : ∀ i, i ≤ 4 → 1 ≤ sa i := by decide
    exact this _ (by omega)
  refine ⟨R, k, ⟨by simp [m.len], ?_, by simpa using o3, by simpa using o2.2, by simp, by simp, ?_, ?_⟩⟩
  · rw [m.eq, tightAt_cons hi, List.append_assoc]
    rfl
  · refine spb_cut ⟨fun p hp => ?_, fun p hp => ?_, fun p hp => ?_⟩ <;> obtain ⟨z, hz, rfl⟩ := List.mem_map.mp hp <;> obtain ⟨j, hj⟩ := List.mem_iff_getElem?.mp hz
    · obtain ⟨h1, h2, h3⟩ := k.nodes j z hj
      have p0 : 0 < wN g M i j * (pw (wL g M) i * 6) := Nat.mul_pos (wN_pos gr.m0) (Nat.mul_pos (pw_pos (fun _ => wL_pos gr.m0) i) (by decide))
      obtain ⟨b, _, _⟩ := spb_node p0 k.sp k.a4 h1 h2 h3
      have dv : wN g M i j * (pw (wL g M) i * 6) ∣ pw (wL g M) (i + 1) * 6 := by
        show _ ∣ wL g M i * pw (wL g M) i * 6
        rw [Nat.mul_assoc]
        exact Nat.mul_dvd_mul_right (wN_dvd g M i j) _
      exact ⟨b.1.mono (Nat.le_refl _) dv, b.2.mono (Nat.le_refl _) dv⟩
    · exact (k.ends hj).2.1
    · exact (k.ends hj).2.2
  · let c : Nat → Nat := fun j => cI (tgt box n U O A (l.getD j ([], 0))) (wN g M i j * (6 * R))
    have cj : ∀ j z, l[j]? = some z → c j = cI (tgt box n U O A z) (wN g M i j * (6 * R)) := fun j z hz => by
      show cI (tgt box n U O A (l.getD j ([], 0))) _ = _
      rw [List.getD_eq_getElem?_getD, hz]
      rfl
    have cf : ∀ j, j < l.length → 0 < c j ∧ c j ≤ sa (i + 1) * (wN g M i j * (6 * R)) := fun j hj => by
      have hz : l[j]? = some l[j] := List.getElem?_eq_getElem hj
      rw [cj j _ hz]
      obtain ⟨a, b, _⟩ := oPass_b (k.pos j).2 (k.tg hz) s1
      exact ⟨a, b⟩
    have cp := pr_pos (c := c) (m := l.length) fun j hj => (cf j hj).1
    refine ⟨wL g M i * R * pr c l.length, Nat.mul_pos (Nat.mul_pos (wL_pos gr.m0) r0) cp, ?_, ?_, fun s hs => ?_, fun s hs => ?_⟩
    · have h1 : pr c l.length ≤ (sa (i + 1) * 36 * R) ^ 4 * (if i = g then M0 else 1) := by
        refine Nat.le_trans (pr_le (b := fun j => sa (i + 1) * (wN g M i j * (6 * R))) fun j hj => (cf j hj).2) (Nat.le_trans (pr_more (fun j => Nat.mul_pos s1 (k.pos j).2) o2.2) (pr_b gr.mle r0 s1 gr.m0))
      have h2 : wL g M i ≤ 6 * (if i = g then M0 else 1) := by
        unfold wL
        have := gr.mle
        split <;> omega
      have h3 : (sa (i + 1) * 36 * R) ^ 4 ≤ (sa (i + 1) * 36 * rb g i) ^ 4 := Nat.pow_le_pow_left (Nat.mul_le_mul_left _ rle) 4
      refine Nat.le_trans (Nat.mul_le_mul (Nat.mul_le_mul h2 rle) (Nat.le_trans h1 (Nat.mul_le_mul_right _ h3))) (Nat.le_of_eq ?_)
      show _ = 6 * rb g i * (sa (i + 1) * 36 * rb g i) ^ 4 * (if i = g then M0 * M0 else 1)
      have e : (if i = g then M0 * M0 else 1) = (if i = g then M0 else 1) * (if i = g then M0 else 1) := by split <;> rfl
      rw [e]
      generalize (if i = g then M0 else 1) = q
      generalize (sa (i + 1) * 36 * rb g i) ^ 4 = p
      generalize rb g i = r
      grind
    · show wL g M i * pw (wL g M) i ∣ _
      exact Nat.dvd_trans (Nat.mul_dvd_mul_left _ rdv) (Nat.dvd_mul_right _ _)
    · rw [List.map_map] at hs
      obtain ⟨z, hz, rfl⟩ := List.mem_map.mp hs
      obtain ⟨j, hj⟩ := List.mem_iff_getElem?.mp hz
      have jl := (List.getElem?_eq_some_iff.mp hj).1
      have d : wN g M i j * R ∣ wL g M i * R * pr c l.length := Nat.dvd_trans (Nat.mul_dvd_mul_right (wN_dvd g M i j) R) (Nat.dvd_mul_right _ _)
      have d6 : wN g M i j * (6 * R) ∣ 6 * (wL g M i * R * pr c l.length) := by
        rw [show wN g M i j * (6 * R) = 6 * (wN g M i j * R) by grind]
        exact Nat.mul_dvd_mul_left 6 d
      exact (uPass_b (k.tg hj)).mono (by rw [ub_step]; omega) d d6
    · rw [List.map_map] at hs
      obtain ⟨z, hz, rfl⟩ := List.mem_map.mp hs
      obtain ⟨j, hj⟩ := List.mem_iff_getElem?.mp hz
      have jl := (List.getElem?_eq_some_iff.mp hj).1
      obtain ⟨_, _, b⟩ := oPass_b (k.pos j).2 (k.tg hj) s1
      rw [← cj j z hj] at b
      have d : c j * (wN g M i j * R) ∣ wL g M i * R * pr c l.length := by
        rw [Nat.mul_comm]
        exact Nat.mul_dvd_mul (Nat.mul_dvd_mul_right (wN_dvd g M i j) R) (pr_dvd jl)
      have d6 : c j * (wN g M i j * (6 * R)) ∣ 6 * (wL g M i * R * pr c l.length) := by
        rw [show c j * (wN g M i j * (6 * R)) = 6 * (c j * (wN g M i j * R)) by grind]
        exact Nat.mul_dvd_mul_left 6 d
      exact b.mono (by rw [ub_step]; exact Nat.le_refl _) d d6
theorem midT_end {box A : List Span} {n g M : Nat} {ls : List (List Sum2)} {dn : List (List Tg)} {U O : List Sum2} (m : MidT box n g M ls ls.length dn A U O) : dn = tightAt box n ls box (units n) (units n) := by
  rw [m.eq, List.drop_length]
  show dn = dn ++ []
  rw [List.append_nil]
/-- any walk whose layers have what their nodes need -/
structure Fam (D : Nat) (box : List Span) (n g M : Nat) (ls : List (List Sum2)) (Md : Nat → List (List Tg) → List Span → List Sum2 → List Sum2 → Prop) : Prop where
  z : Md 0 [] box (units n) (units n)
  len : ∀ {i dn A U O}, Md i dn A U O → dn.length = i
  eq : ∀ {i dn A U O}, Md i dn A U O → tightAt box n ls box (units n) (units n) = dn ++ tightAt box n (ls.drop i) A U O
  step : ∀ {i dn A U O l}, Md i dn A U O → ls[i]? = some l → ∃ R, Lk D box n g M i l A U O R ∧ Md (i + 1) (dn ++ [l.map (tgt box n U O A)]) ((l.map (bnd A)).map cutS) ((l.map (tgt box n U O A)).map (uPass n)) ((l.map (tgt box n U O A)).map (oPass n))
theorem Fam.fin {D : Nat} {box A : List Span} {n g M : Nat} {ls : List (List Sum2)} {Md : Nat → List (List Tg) → List Span → List Sum2 → List Sum2 → Prop} {dn : List (List Tg)} {U O : List Sum2} (f : Fam D box n g M ls Md) (m : Md ls.length dn A U O) : dn = tightAt box n ls box (units n) (units n) := by
  rw [f.eq m, List.drop_length]
  show dn = dn ++ []
  rw [List.append_nil]
end Nc
end
section
set_option maxRecDepth 100000
set_option maxHeartbeats 4000000
namespace Nc
open PySem PySem.Spec PyProof.Rows L2
/-! zip of any three -/
theorem drX {prog : Program} {w : World} {A : Around} (hh : A.handled = none) (it l : Addr) (hne : l ≠ it) (items : Array Value) : (c : Bool) → Draws prog w A it [it, l] items.size (fun i v => items[i]? = some v) (fun i h => JX c it l h i ∧ CX c l h items)
  | true => Draws.tuple hh it l hne items
  | false => Draws.list hh it l hne items
theorem bgX (l : Addr) (items : Array Value) : (c : Bool) → Begins (.ref l) { cls := .type (itN c), data := .fields #[.ref l, .int 0 0] } fun h => CX c l h items
  | true => begins_tuple l items
  | false => begins_list l items
theorem sep3 {n a b c : Nat} (ha : a < n) (hb : b < n) (hc : c < n) : ZipSep3 (n + 5) (n + 3) (n + 4) n (n + 1) (n + 2) [n, a] [n + 1, b] [n + 2, c] := by
  have f : ∀ {x y : Nat}, x ≠ y → ∀ z : @Eq Addr x y, False := fun h z => h z
  have g : ∀ {x y z : Nat}, x ≠ y → x ≠ z → ¬ (@Membership.mem Addr (List Addr) _ [y, z] x) := fun h1 h2 z => by
    rcases List.mem_cons.mp z with z | z
    · exact h1 z
    · exact h2 (List.mem_singleton.mp z)
  constructor
  all_goals first
    | exact f (by omega)
    | exact g (by omega) (by omega)
    | exact List.mem_cons_self ..
def Itz3 (K : PySem.W.Frag) (c1 c2 c3 : Bool) (a b c : Addr) : It :=
  ⟨fun i H => ∃ (xs ys us : List V) (x y u : V), SqX K c1 H a xs ∧ SqX K c2 H b ys ∧ SqX K c3 H c us ∧ xs[i]? = some x ∧ ys[i]? = some y ∧ us[i]? = some u,
    fun i H v H' => ∃ T x y u, v = .ref T ∧ H T = none ∧ H' = upd H T (.tup [x, y, u]) ∧ (∀ xs, SqX K c1 H a xs → xs[i]? = some x) ∧ (∀ ys, SqX K c2 H b ys → ys[i]? = some y) ∧ ∀ us, SqX K c3 H c us → us[i]? = some u,
    fun i H => ∃ xs ys us : List V, SqX K c1 H a xs ∧ SqX K c2 H b ys ∧ SqX K c3 H c us ∧ i ≤ xs.length ∧ i ≤ ys.length ∧ i ≤ us.length ∧ (i = xs.length ∨ i = ys.length ∨ i = us.length)⟩
theorem turn_zip3 {c1 c2 c3 : Bool} {P : Program} {w : World} {K : PySem.W.Frag} {elts : List Expr} {kk : Nat} {tpos : Pos} {a b c z TI TO i1 i2 i3 : Addr} (S : ZipSep3 z TI TO i1 i2 i3 [i1, a] [i2, b] [i3, c]) (n1 : a ≠ i1) (n2 : b ≠ i2) (n3 : c ≠ i3) :
    Turn P w K (.Tuple elts kk tpos) (Itz3 K c1 c2 c3 a b c) [z, TI, TO, i1, i2, i3] z (fun i h => IsZip h z TI TO .none ∧ IsTupOf3 h TI (.ref i1) (.ref i2) (.ref i3) ∧ (∃ x y u, IsTupOf3 h TO x y u) ∧ JX c1 i1 a h i ∧ JX c2 i2 b h i ∧ JX c3 i3 c h i) where
  mem := by simp
  obj := fun i h st d hd => by
    obtain ⟨hz, hTI, ⟨x, y, u, hTO⟩, h1, h2, h3⟩ := st
    have jx : ∀ {cc : Bool} {it l : Addr} {k : Nat}, JX cc it l h k → ∃ o, h.get? it = some o ∧ ∀ v, o.data ≠ .cell v := by
      intro cc it l k hj
      cases cc
      · obtain ⟨o1, e1, _, d1⟩ := hj
        exact ⟨o1, e1, fun v q => by rw [d1] at q; cases q⟩
      · obtain ⟨o1, e1, _, d1⟩ := hj
        exact ⟨o1, e1, fun v q => by rw [d1] at q; cases q⟩
    have e' : d = z ∨ d = TI ∨ d = TO ∨ d = i1 ∨ d = i2 ∨ d = i3 := by simpa using hd
    rcases e' with q | q | q | q | q | q
    · rw [q]; exact ⟨_, hz, fun v q => nomatch q⟩
    · rw [q]; exact ⟨_, hTI, fun v q => nomatch q⟩
    · rw [q]; exact ⟨_, hTO, fun v q => nomatch q⟩
    · rw [q]; exact jx h1
    · rw [q]; exact jx h2
    · rw [q]; exact jx h3
  keep := fun i h h' st k => by
    obtain ⟨hz, hTI, ⟨x, y, u, hTO⟩, h1, h2, h3⟩ := st
    exact ⟨k z (by simp) _ hz, k TI (by simp) _ hTI, ⟨x, y, u, k TO (by simp) _ hTO⟩, h1.at' fun o q => k i1 (by simp) o q, h2.at' fun o q => k i2 (by simp) o q, h3.at' fun o q => k i3 (by simp) o q⟩
  item := by
    intro X hP hw hK hc i pins s σ H E I hf st hg
    subst hP hw hK
    obtain ⟨hz, hTI, ⟨x0, y0, u0, hTO⟩, h1, h2, h3⟩ := st
    obtain ⟨xs, ys, us, x, y, u, hqx, hqy, hqu, hx, hy, hu⟩ := hg
    obtain ⟨its, rv, p⟩ := invX I hqx
    obtain ⟨its2, rv2, p2⟩ := invX I hqy
    obtain ⟨its3, rv3, p3⟩ := invX I hqu
    obtain ⟨v1, hv1, ru1⟩ := rv.get hx
    obtain ⟨v2, hv2, ru2⟩ := rv2.get hy
    obtain ⟨v3, hv3, ru3⟩ := rv3.get hu
    have hzl : z < s.heap.objs.size := Heap.lt_size hz
    have hh : X.A.in1.handled = none := I.ok.hd hc
    have g1 := (List.getElem?_eq_some_iff.mp hv1).1
    have g2 := (List.getElem?_eq_some_iff.mp hv2).1
    have g3 := (List.getElem?_eq_some_iff.mp hv3).1
    refine wpAny_pyNext_zipD3_item S (drX hh i1 a n1 its.toArray c1) (drX hh i2 b n2 its2.toArray c2) (drX hh i3 c n3 its3.toArray c3) hz hTI hTO ⟨h1, p⟩ ⟨h2, p2⟩ ⟨h3, p3⟩ (by simpa using g1) (by simpa using g2) (by simpa using g3) fun x1 x2 x3 h' tk y1 y2 y3 z' TO' s1 s2 s3 hT hsz hk => ?_
    have e1 : x1 = v1 := by
      have : its[i]? = some x1 := by simpa using y1
      rw [hv1] at this
      exact (Option.some.inj this).symm
    have e2 : x2 = v2 := by
      have : its2[i]? = some x2 := by simpa using y2
      rw [hv2] at this
      exact (Option.some.inj this).symm
    have e3 : x3 = v3 := by
      have : its3[i]? = some x3 := by simpa using y3
      rw [hv3] at this
      exact (Option.some.inj this).symm
    subst e1 e2 e3
    refine ⟨_, rfl, wpAny_letOwnedTupleGo_zip (s := { s with heap := h', toks := tk }) z' fun h'' z'' sb => ?_⟩
    have hT2 : h''.get? s.heap.objs.size = some { cls := .type "tuple", data := .seq #[x1, x2, x3] } := (sb.2 _ (Nat.ne_of_gt hzl)).trans hT
    have new : ObjOk X.prog X.w (upd H s.heap.objs.size (.tup [x, y, u])) h'' s.heap.objs.size (.tup [x, y, u]) :=
      ⟨by show 3 ≤ sizeLine; decide, [x1, x2, x3], .cons ru1 (.cons ru2 (.cons ru3 .nil)), ⟨_, hT2, rfl, _, rfl⟩⟩
    have I1 : Inv X pins σ (upd H s.heap.objs.size (.tup [x, y, u])) { s with heap := h'', toks := tk } :=
      I.turnedNew (t' := tk) (ch := [z, TI, TO, i1, i2, i3]) (fun c o hb q => (sb.2 c (fun q' => hb (by simp [q']))).trans (hk c o (fun q' => hb (by simp [q'])) (fun q' => hb (by simp [q'])) (fun q' => hb (by simp [q'])) (fun q' => hb (by simp [q'])) (fun q' => hb (by simp [q'])) q)) hf (Nat.le_refl _) new
    refine ⟨.ref s.heap.objs.size, _, I1, rfl, ⟨_, x, y, u, rfl, I.hok.fresh (Nat.le_refl _), rfl, fun l hl => by rw [injX I hl hqx]; exact hx, fun l hl => by rw [injX I hl hqy]; exact hy, fun l hl => by rw [injX I hl hqu]; exact hu⟩, ⟨z'', ?_, ⟨x1, x2, x3, ?_⟩, ?_, ?_, ?_⟩, fun d hcm => ?_⟩
    · exact (sb.2 _ S.TIz).trans (hk _ _ S.TIz S.TITO S.TIi1 S.TIi2 S.TIi3 hTI)
    · exact (sb.2 _ S.TOz).trans TO'
    · exact s1.1.at' fun o q => (sb.2 _ S.zi1.symm).trans q
    · exact s2.1.at' fun o q => (sb.2 _ S.zi2.symm).trans q
    · exact s3.1.at' fun o q => (sb.2 _ S.zi3.symm).trans q
    · have hlt : d < s.heap.objs.size := by
        have e' : d = z ∨ d = TI ∨ d = TO ∨ d = i1 ∨ d = i2 ∨ d = i3 := by simpa using hcm
        rcases e' with q | q | q | q | q | q
        · rw [q]; exact hzl
        · rw [q]; exact Heap.lt_size hTI
        · rw [q]; exact Heap.lt_size hTO
        · rw [q]; exact h1.lt
        · rw [q]; exact h2.lt
        · rw [q]; exact h3.lt
      rw [upd_ne (Nat.ne_of_lt hlt)]
      exact (hf d hcm).1
  done := by
    intro X hP hw hK hc i pins s σ H E I hf st hg
    subst hP hw hK
    obtain ⟨hz, hTI, ⟨x0, y0, u0, hTO⟩, h1, h2, h3⟩ := st
    obtain ⟨xs, ys, us, hqx, hqy, hqu, k1, k2, k3, hend⟩ := hg
    obtain ⟨its, rv, p⟩ := invX I hqx
    obtain ⟨its2, rv2, p2⟩ := invX I hqy
    obtain ⟨its3, rv3, p3⟩ := invX I hqu
    have l1 := rv.length
    have l2 := rv2.length
    have l3 := rv3.length
    have hh : X.A.in1.handled = none := I.ok.hd hc
    have m1 : its.toArray.size = its.length := rfl
    have m2 : its2.toArray.size = its2.length := rfl
    have m3 : its3.toArray.size = its3.length := rfl
    refine wpAny_pyNext_zipD3_end S (drX hh i1 a n1 its.toArray c1) (drX hh i2 b n2 its2.toArray c2) (drX hh i3 c n3 its3.toArray c3) hz hTI hTO ⟨h1, p⟩ ⟨h2, p2⟩ ⟨h3, p3⟩ (by omega) (by omega) (by omega) (by omega) fun h' tk hk => ⟨rfl, I.turnedL (t' := tk) (ch := [z, TI, TO, i1, i2, i3]) (fun c o hb q =>
      hk c o (fun q' => hb (by simp [q'])) (fun q' => hb (by simp [q'])) (fun q' => hb (by simp [q'])) (fun q' => hb (by simp [q'])) (fun q' => hb (by simp [q'])) q) hf⟩
  self := fun A i s Q E st h => wpAny_pyIter_zip st.1 h
def iZip3 (K : PySem.W.Frag) (ta : TA) : TI := fun σ H R => ta σ H fun vs H1 => ∃ (c c' c'' : Bool) (a b d : Addr) (xs ys us : List V), vs = [.ref a, .ref b, .ref d] ∧ SqX K c H1 a xs ∧ SqX K c' H1 b ys ∧ SqX K c'' H1 d us ∧ R (Itz3 K c c' c'' a b d) H1
/-- zip of any three: .. in zip(e, e2, e3) -/
theorem pi_zip3 {X : Cx} {e e2 e3 : Expr} {ta : TA} {p pos tpos : Pos} {elts : List Expr} {kk : Nat} (hg : Gl X "zip") (hm : X.mg "zip" = none) (ha : PA X [e, e2, e3] ta)
    (hs : starEach [e, e2, e3] X.env = (false, eval e X.env) :: starEach [e2, e3] X.env := by rfl) (hpl : (backTo pos (starEach [e2, e3] X.env)).any (·.1) = false := by rfl) :
    PI X (.Tuple elts kk tpos) (.Call (.Name "zip" p) [e, e2, e3] [] pos) (iZip3 X.K ta) := by
  refine ⟨fun pins s σ H R I h => ?_⟩
  refine Call_ (ld_blt I hg hm PyProof.Rows.boot_zip (PyProof.Rows.callWith_type1 (thn (ha.run pos pins s σ H _ I h) fun us s1 ⟨vs, H1, I1, r1, q1⟩ => ?_) hs hpl))
  obtain ⟨c, c', c'', a, b, d, xs, ys, zs, ex, hqx, hqy, hqz, q⟩ := q1
  subst ex
  cases r1 with
  | cons r rr =>
    cases rr with
    | cons r' rr =>
      cases rr with
      | cons r'' rr =>
        cases rr
        cases r
        cases r'
        cases r''
        obtain ⟨its, rv, p1⟩ := invX I1 hqx
        obtain ⟨its2, rv2, p2⟩ := invX I1 hqy
        obtain ⟨its3, rv3, p3⟩ := invX I1 hqz
        refine zip_begins3 (bgX a its.toArray c) (bgX b its2.toArray c') (bgX d its3.toArray c'') p1 p2 p3 fun h' hz hTI hTO g1 g2 g3 hsz hk => wpAny_pyIter_zip hz ?_
        have I2 : Inv X pins σ H1 { s1 with heap := h' } := I1.kept (t' := s1.toks) hk
        have la := p1.lt
        have lb := p2.lt
        have ld := p3.lt
        refine ⟨s1.heap.objs.size + 5, [s1.heap.objs.size + 5, s1.heap.objs.size + 3, s1.heap.objs.size + 4, s1.heap.objs.size, s1.heap.objs.size + 1, s1.heap.objs.size + 2], _, _, H1, rfl, I2, turn_zip3 (sep3 la lb ld) (Nat.ne_of_lt la) (Nat.ne_of_lt (Nat.lt_succ_of_lt lb)) (Nat.ne_of_lt (Nat.lt_succ_of_lt (Nat.lt_succ_of_lt ld))), ⟨hz, hTI, ⟨_, _, _, hTO⟩, JX.new g1, JX.new g2, JX.new g3⟩, fun c hcm => ?_, q⟩
        have e' : c = s1.heap.objs.size + 5 ∨ c = s1.heap.objs.size + 3 ∨ c = s1.heap.objs.size + 4 ∨ c = s1.heap.objs.size ∨ c = s1.heap.objs.size + 1 ∨ c = s1.heap.objs.size + 2 := by simpa using hcm
        have hle : s1.heap.objs.size ≤ c := by
          rcases e' with z | z | z | z | z | z
          · rw [z]; exact Nat.le_add_right _ _
          · rw [z]; exact Nat.le_add_right _ _
          · rw [z]; exact Nat.le_add_right _ _
          · rw [z]; exact Nat.le_refl _
          · rw [z]; exact Nat.le_add_right _ _
          · rw [z]; exact Nat.le_add_right _ _
        exact I1.fpOk hle (I1.hok.fresh hle)
/-- a loop over zip of three of one length -/
theorem for_zip3 {c c' c'' : Bool} {K : PySem.W.Frag} {a b d : Addr} {xs ys us : List V} {g : TG} {tb : TS} {D : Ends} {σ : L2.St} {H : Hp} (hl : xs.length = ys.length) (hl2 : xs.length = us.length) (Pv : Nat → L2.St → Hp → Prop) (h0 : Pv 0 σ H) (hq : ∀ i σ H, Pv i σ H → SqX K c H a xs ∧ SqX K c' H b ys ∧ SqX K c'' H d us)
    (hs : ∀ (i : Nat) (x y u : V) (T : Addr) (σ : L2.St) (H : Hp), xs[i]? = some x → ys[i]? = some y → us[i]? = some u → Pv i σ H → H T = none → g (.ref T) σ (upd H T (.tup [x, y, u])) fun σ2 H2 => tb { D with nx := Pv (i + 1), ct := Pv (i + 1), bk := D.nx } σ2 H2) (hd : ∀ σ H, Pv xs.length σ H → D.nx σ H) :
    ∃ W : Nat → Nat → L2.St → Hp → Prop, (∃ m, W 0 m σ H) ∧ ∀ i m σ H, W i m σ H →
      ((Itz3 K c c' c'' a b d).stop i H ∧ D.nx σ H) ∨ ((Itz3 K c c' c'' a b d).go i H ∧ ∃ N : L2.St → Hp → Prop, (∀ σ' H', N σ' H' → ∃ m', m' < m ∧ W (i + 1) m' σ' H') ∧ ∀ v H', (Itz3 K c c' c'' a b d).yld i H v H' → g v σ H' fun σ2 H2 => tb { D with nx := N, ct := N, bk := D.nx } σ2 H2) := by
  refine ⟨fun i m σ H => m = xs.length - i ∧ i ≤ xs.length ∧ Pv i σ H, ⟨xs.length, rfl, Nat.zero_le _, h0⟩, ?_⟩
  rintro i m σ H ⟨rfl, hi, p⟩
  obtain ⟨qx, qy, qu⟩ := hq i σ H p
  by_cases hlt : i < xs.length
  · have hx : xs[i]? = some xs[i] := List.getElem?_eq_getElem hlt
    have hlt2 : i < ys.length := by omega
    have hlt3 : i < us.length := by omega
    have hy : ys[i]? = some ys[i] := List.getElem?_eq_getElem hlt2
    have hu : us[i]? = some us[i] := List.getElem?_eq_getElem hlt3
    refine .inr ⟨⟨xs, ys, us, _, _, _, qx, qy, qu, hx, hy, hu⟩, Pv (i + 1), fun σ' H' p' => ⟨xs.length - (i + 1), by omega, rfl, hlt, p'⟩, fun v H' y => ?_⟩
    obtain ⟨T, x', y', u', rfl, hT, rfl, f1, f2, f3⟩ := y
    exact hs i x' y' u' T σ H (f1 xs qx) (f2 ys qy) (f3 us qu) p hT
  · have e : i = xs.length := by omega
    subst e
    exact .inl ⟨⟨xs, ys, us, qx, qy, qu, Nat.le_refl _, by omega, by omega, Or.inl rfl⟩, hd σ H p⟩
end Nc
end
section
set_option maxRecDepth 100000
set_option maxHeartbeats 4000000
namespace Nc
open PySem PySem.Spec PyProof.Rows L2 Evl
/-! ### boxes, spans, corners as data -/
def SpanV (K : PySem.W.Frag) (H : Hp) (v : V) (p : Span) : Prop := ∃ t a b, v = .ref t ∧ SqT K H t [a, b] ∧ FrV K H a p.1 ∧ FrV K H b p.2
def SpsV (K : PySem.W.Frag) (c : Bool) (H : Hp) (v : V) (sp : List Span) : Prop := ∃ a xs, v = .ref a ∧ SqX K c H a xs ∧ Paired (SpanV K H) xs sp
def bI (b : Bool) : Int := if b = true then 1 else 0
def CorV (K : PySem.W.Frag) (H : Hp) (v : V) (bs : List Bool) : Prop := ∃ t, v = .ref t ∧ SqT K H t (bs.map fun b => V.int (bI b))
def FourV (K : PySem.W.Frag) (H : Hp) (v : V) (f : Four) : Prop := ∃ t a b x y, v = .ref t ∧ SqT K H t [a, b, x, y] ∧ FrV K H a f.1.1 ∧ FrV K H b f.1.2 ∧ CorV K H x f.2.1 ∧ CorV K H y f.2.2
/-- a list of such, new since H0, not F -/
def FourL (K : PySem.W.Frag) (H0 : Hp) (F : Addr) (H : Hp) (v : V) (l : List Four) : Prop := ∃ a xs, v = .ref a ∧ H0 a = none ∧ a ≠ F ∧ H a = some (.lst xs) ∧ Paired (FourV K H) xs l
section
variable {K : PySem.W.Frag} {H H' H0 : Hp}
theorem sqX_ex {c : Bool} {a : Addr} {xs : List V} (e : Ex H H') (h : SqX K c H a xs) : SqX K c H' a xs := by
  cases c
  · exact ex_l e h
  · exact ex_t e h
theorem SpanV.ex {v : V} {p : Span} (e : Ex H H') (h : SpanV K H v p) : SpanV K H' v p := by
  obtain ⟨t, a, b, rfl, q, x, y⟩ := h
  exact ⟨t, a, b, rfl, ex_t e q, x.ex e, y.ex e⟩
theorem SpanV.mut {D : Addr} {xs : List V} {o : HO} {v : V} {p : Span} (hD : H D = some (.lst xs)) (h : SpanV K H v p) : SpanV K (upd H D o) v p := by
  obtain ⟨t, a, b, rfl, q, x, y⟩ := h
  exact ⟨t, a, b, rfl, sqt_mut hD q, x.mut hD, y.mut hD⟩
theorem stSp : Stays (SpanV K) := ⟨SpanV.ex, SpanV.mut⟩
theorem SpsV.ex {c : Bool} {v : V} {sp : List Span} (e : Ex H H') (h : SpsV K c H v sp) : SpsV K c H' v sp := by
  obtain ⟨a, xs, rfl, q, p⟩ := h
  exact ⟨a, xs, rfl, sqX_ex e q, pmono (fun _ _ => SpanV.ex e) p⟩
theorem CorV.ex {v : V} {bs : List Bool} (e : Ex H H') (h : CorV K H v bs) : CorV K H' v bs := by
  obtain ⟨t, rfl, q⟩ := h
  exact ⟨t, rfl, ex_t e q⟩
theorem CorV.mut {D : Addr} {xs : List V} {o : HO} {v : V} {bs : List Bool} (hD : H D = some (.lst xs)) (h : CorV K H v bs) : CorV K (upd H D o) v bs := by
  obtain ⟨t, rfl, q⟩ := h
  exact ⟨t, rfl, sqt_mut hD q⟩
theorem FourV.ex {v : V} {f : Four} (e : Ex H H') (h : FourV K H v f) : FourV K H' v f := by
  obtain ⟨t, a, b, x, y, rfl, q, h1, h2, h3, h4⟩ := h
  exact ⟨t, a, b, x, y, rfl, ex_t e q, h1.ex e, h2.ex e, h3.ex e, h4.ex e⟩
theorem FourV.mut {D : Addr} {xs : List V} {o : HO} {v : V} {f : Four} (hD : H D = some (.lst xs)) (h : FourV K H v f) : FourV K (upd H D o) v f := by
  obtain ⟨t, a, b, x, y, rfl, q, h1, h2, h3, h4⟩ := h
  exact ⟨t, a, b, x, y, rfl, sqt_mut hD q, h1.mut hD, h2.mut hD, h3.mut hD, h4.mut hD⟩
theorem stFo : Stays (FourV K) := ⟨FourV.ex, FourV.mut⟩
theorem FourL.ex {F : Addr} {v : V} {l : List Four} (e : Ex H H') (h : FourL K H0 F H v l) : FourL K H0 F H' v l := by
  obtain ⟨a, xs, rfl, n, f, q, p⟩ := h
  exact ⟨a, xs, rfl, n, f, e _ _ q, pmono (fun _ _ => FourV.ex e) p⟩
theorem FourL.putF {F : Addr} {xs : List V} {o : HO} {v : V} {l : List Four} (hF : H F = some (.lst xs)) (h : FourL K H0 F H v l) : FourL K H0 F (upd H F o) v l := by
  obtain ⟨a, us, rfl, n, f, q, p⟩ := h
  exact ⟨a, us, rfl, n, f, by rw [upd_ne f]; exact q, pmono (fun _ _ => FourV.mut hF) p⟩
theorem SpanV.rw {v : V} {p : Span} (h : SpanV K H v p) : Rw K H v (some [true, true]) := by
  obtain ⟨t, a, b, rfl, q, x, y⟩ := h
  exact RowV.rw (rs := [p.1, p.2]) ⟨t, _, rfl, q, .cons x (.cons y .nil)⟩ (by show 2 ≤ 100; decide)
end
/-! ### promises of boxes and bounds -/
def SpOk (sp : List Span) : Prop := ∀ p ∈ sp, p.1 ≤ p.2
def spCorner (K : PySem.W.Frag) (f : Rat → Bool) : Sp := fun vs H Q _ => ∃ (x : V) (z : Sum2), vs = [x] ∧ SumV K H x z ∧ z.1.length ≤ 100 ∧ ∀ v H', Ex H H' → CorV K H' v (z.1.map f) → Q v H'
def spSpotAt (K : PySem.W.Frag) : Sp := fun vs H Q _ => ∃ (c : Bool) (x y : V) (sp : List Span) (bs : List Bool), vs = [x, y] ∧ SpsV K c H x sp ∧ CorV K H y bs ∧ sp.length = bs.length ∧ sp.length ≤ 100 ∧ ∀ v H', Ex H H' → RowV K H' v (picks sp bs) → Q v H'
def spIsSpan (K : PySem.W.Frag) : Sp := fun vs H Q _ => ∃ (x : V) (p : Span), vs = [x] ∧ SpanV K H x p ∧ Sz 1600 1600 p.1 ∧ Sz 1600 1600 p.2 ∧ p.1 ≤ p.2 ∧ ∀ H', Ex H H' → Q (.bl true) H'
def spIsBox (K : PySem.W.Frag) : Sp := fun vs H Q _ => ∃ (x : V) (sp : List Span) (D : Nat), vs = [x] ∧ SpsV K true H x sp ∧ 1 ≤ sp.length ∧ sp.length ≤ 3 ∧ SpOk sp ∧ SpSv 1500 D sp ∧ 0 < D ∧ D < 2 ^ 1600 ∧ ∀ H', Ex H H' → Q (.bl true) H'
def spBoxOver (K : PySem.W.Frag) : Sp := fun vs H Q _ => ∃ (x : V) (sp : List Span) (D : Nat), vs = [x, .int (sp.length : Int)] ∧ SpsV K true H x sp ∧ 1 ≤ sp.length ∧ sp.length ≤ 3 ∧ SpOk sp ∧ SpSv 1500 D sp ∧ 0 < D ∧ D < 2 ^ 1600 ∧ ∀ H', Ex H H' → Q .non H'
def spBounds (K : PySem.W.Frag) : Sp := fun vs H Q _ => ∃ (c : Bool) (x y : V) (l : List Sum2) (z : Sum2) (A : List Span) (m W D : Nat), vs = [x, y] ∧ SumV K H x z ∧ SpsV K c H y A ∧ z ∈ l ∧ RkS l A m W D ∧ ∀ v H', Ex H H' → FourV K H' v (four A z) → Q v H'
def spHanded (K : PySem.W.Frag) (CN CL CC : Addr) : Sp := fun vs H Q _ => ∃ (p : Addr) (y : V) (ls : List (List Sum2)) (L : List Span) (W : Nat → Nat) (D : Nat), vs = [.ref p, y] ∧ NetV K CN CL CC H p L.length ls ∧ SpsV K true H y L ∧ SpOk L ∧ NetOk L.length ls W ∧ SpSv 1500 D L ∧ Fits W D ∧
  ∀ F rs H', H F = none → Ex H H' → H' F = some (.lst rs) → Paired (FourL K H F H') rs (foursAt ls L) → Q (.ref F) H'
/-- the word for a node by its bounds -/
def stateW (p : Span) : Str := if p.2.num ≤ 0 then "cut" else if 0 ≤ p.1.num then "kept" else "open"
def spState (K : PySem.W.Frag) : Sp := fun vs H Q _ => ∃ (x y : V) (p : Span), vs = [x, y] ∧ FrV K H x p.1 ∧ FrV K H y p.2 ∧ Q (.str (stateW p)) H
/-- the hidden nodes' words, in their order -/
def wordsAt (ls : List (List Sum2)) (L : List Span) : List Str := ((boundsAt ls L).dropLast.flatten).map stateW
def spStates (K : PySem.W.Frag) (CN CL CC : Addr) : Sp := fun vs H Q _ => ∃ (p : Addr) (y : V) (ls : List (List Sum2)) (L : List Span) (W : Nat → Nat) (D : Nat), vs = [.ref p, y] ∧ NetV K CN CL CC H p L.length ls ∧ SpsV K true H y L ∧ SpOk L ∧ NetOk L.length ls W ∧ SpSv 1500 D L ∧ Fits W D ∧
  ∀ F H', H F = none → Ex H H' → H' F = some (.lst ((wordsAt ls L).map fun s => V.str s)) → Q (.ref F) H'
end Nc
end
section
set_option maxRecDepth 100000
set_option maxHeartbeats 4000000
namespace Nc
open PySem PySem.Spec PyProof.Rows L2 Evl
/-! ### streams of three numbers, with Dk -/
def St3 (s : Addr) (H : Hp) : Prop := ∃ a b c : Int, H s = some (.lst [.int a, .int b, .int c])
section
variable {K : PySem.W.Frag} {H H' H1 H4 : Hp} {s p D : Addr}
theorem St3.lst (h : St3 s H) : Lst s H := by
  obtain ⟨a, b, c, q⟩ := h
  exact ⟨_, q⟩
theorem St3.ex (h : St3 s H) (e : Ex H H') : St3 s H' := by
  obtain ⟨a, b, c, q⟩ := h
  exact ⟨a, b, c, e _ _ q⟩
theorem St3.new {o : HO} (h : St3 s H) (hp : H p = none) : St3 s (upd H p o) := h.ex (Ex.new hp)
theorem St3.mut {o : HO} (h : St3 s H) (hs : s ≠ p) : St3 s (upd H p o) := by
  obtain ⟨a, b, c, q⟩ := h
  exact ⟨a, b, c, by rw [upd_ne hs]; exact q⟩
theorem SpanV.dk {v : V} {q : Span} (h : Lst s H) (d : Dk s H H') (f : SpanV K H v q) : SpanV K H' v q := by
  obtain ⟨t, a, b, rfl, qt, x, y⟩ := f
  exact ⟨t, a, b, rfl, sqt_dk h d qt, x.dk h d, y.dk h d⟩
theorem SpsV.dkT {v : V} {sp : List Span} (h : Lst s H) (d : Dk s H H') (f : SpsV K true H v sp) : SpsV K true H' v sp := by
  obtain ⟨a, xs, rfl, q, p⟩ := f
  exact ⟨a, xs, rfl, sqt_dk (K := K) h d q, pmono (fun _ _ => SpanV.dk h d) p⟩
/-- what is built in a list beside a stream: the things so far -/
def BldD {α : Type} (R : Hp → V → α → Prop) (P : List α → Prop) (s : Addr) (H1 : Hp) (D : Addr) (i : Nat) (H' : Hp) : Prop := ∃ (L : List α) (xs : List V), H' D = some (.lst xs) ∧ Paired (R H') xs L ∧ L.length = i ∧ P L ∧ Dk s H1 H' ∧ St3 s H'
structure StaysD {α : Type} (R : Hp → V → α → Prop) (s : Addr) : Prop where
  mt : ∀ {H D xs o v a}, H D = some (.lst xs) → R H v a → R (upd H D o) v a
  dk : ∀ {H H' v a}, Lst s H → Dk s H H' → R H v a → R H' v a
theorem sdF {s : Addr} : StaysD (FrV K) s := ⟨FrV.mut, FrV.dk⟩
theorem sdS {s : Addr} : StaysD (SumV K) s := ⟨SumV.mut, SumV.dk⟩
theorem sdSp {s : Addr} : StaysD (SpanV K) s := ⟨SpanV.mut, SpanV.dk⟩
theorem bdd0 {α : Type} {R : Hp → V → α → Prop} {P : List α → Prop} (hS : St3 s H1) (hD : H1 D = none) (h0 : P []) : BldD R P s H1 D 0 (upd H1 D (.lst [])) :=
  ⟨[], [], upd_same, .nil, rfl, h0, Dk.new hS.lst hD, hS.new hD⟩
theorem bdd_step {α : Type} {R : Hp → V → α → Prop} {P : List α → Prop} (S : StaysD R s) {i : Nat} {v : V} {a : α} (hS : Lst s H1) (hD : H1 D = none) (b : BldD R P s H1 D i H') (hz : i < 100000) (d : Dk s H' H4) (t : St3 s H4) (hv : R H4 v a) (hp : ∀ L, P L → L.length = i → P (L ++ [a])) :
    ∃ acc, H4 D = some (.lst acc) ∧ acc.length < sizeLine ∧ BldD R P s H1 D (i + 1) (upd H4 D (.lst (acc ++ [v]))) := by
  obtain ⟨L, xs, hx, pl, hn, hP, d1, t1⟩ := b
  have hsD := hS.ne hD
  have h4 := d.keep D _ (Ne.symm hsD) hx
  have hln := Paired.length pl
  refine ⟨xs, h4, sz_lt (by omega), L ++ [a], xs ++ [v], upd_same, Paired.snoc (pmono (fun _ _ q => S.mt h4 (S.dk t1.lst d q)) pl) (S.mt h4 hv), by simp [hn], hp L hP hn, (d1.trans d).mut hD hsD, t.mut hsD⟩
end
/-! ### promises -/
def spTake3 : Sp := fun vs H Q _ => ∃ (s : Addr) (m : Int), vs = [.ref s, .int m] ∧ St3 s H ∧ 0 < m ∧ m < 2 ^ 200 ∧ ∀ d H', 0 ≤ d → d < m → Dk s H H' → St3 s H' → Q (.int d) H'
def spStream3 : Sp := fun vs H Q _ => ∃ c : Int, vs = [.int c] ∧ ∀ s, H s = none → ∀ H', Ex H H' → St3 s H' → Q (.ref s) H'
def spShare (K : PySem.W.Frag) : Sp := fun vs H Q _ => ∃ s : Addr, vs = [.ref s] ∧ St3 s H ∧ ∀ v r H', Dk s H H' → St3 s H' → FrV K H' v r → Sv 100 6 r → Q v H'
def spNode3 (K : PySem.W.Frag) : Sp := fun vs H Q _ => ∃ (s : Addr) (n : Nat), vs = [.ref s, .int (n : Int)] ∧ St3 s H ∧ n ≤ 20 ∧ ∀ v z H', Dk s H H' → St3 s H' → SumV K H' v z → z.1.length = n → SvL 100 6 z.1 → Sv 100 6 z.2 → Q v H'
def spSize3 : Sp := fun vs H Q _ => ∃ s : Addr, vs = [.ref s] ∧ St3 s H ∧ ∀ (F : Addr) (cs : List Nat) H', H F = none → Dk s H H' → St3 s H' → H' F = some (.lst (cs.map fun (c : Nat) => V.int (c : Int))) → 1 ≤ cs.length → cs.length ≤ 4 → (∀ c ∈ cs, 1 ≤ c ∧ c ≤ 4) → Q (.ref F) H'
def spLays3 (K : PySem.W.Frag) : Sp := fun vs H Q _ => ∃ (s S : Addr) (n : Nat) (cs : List Nat), vs = [.ref s, .int (n : Int), .ref S] ∧ St3 s H ∧ S ≠ s ∧ H S = some (.lst (cs.map fun (c : Nat) => V.int (c : Int))) ∧ 1 ≤ cs.length ∧ cs.length ≤ 4 ∧ (∀ c ∈ cs, 1 ≤ c ∧ c ≤ 4) ∧ 1 ≤ n ∧ n ≤ 3 ∧
  ∀ D ls H' (W : Nat → Nat), H D = none → Dk s H H' → St3 s H' → LayS K s H' D ls → NetOk n ls W → pw W 4 ≤ 2 ^ 1350 → Q (.ref D) H'
def spBox3 (K : PySem.W.Frag) : Sp := fun vs H Q _ => ∃ (s : Addr) (n : Nat), vs = [.ref s, .int (n : Int)] ∧ St3 s H ∧ n ≤ 3 ∧ ∀ v sp H', Dk s H H' → St3 s H' → SpsV K true H' v sp → sp.length = n → SpOk sp → SpSv 20 6 sp → Q v H'
def spSpot3 (K : PySem.W.Frag) : Sp := fun vs H Q _ => ∃ (s : Addr) (x : V) (sp : List Span), vs = [.ref s, x] ∧ St3 s H ∧ SpsV K true H x sp ∧ sp.length ≤ 3 ∧ SpOk sp ∧ SpSv 20 6 sp ∧ ∀ v L H', Dk s H H' → St3 s H' → RowV K H' v L → Within L sp → SvL 1500 72 L → Q v H'
end Nc
end
section
set_option maxRecDepth 100000
set_option maxHeartbeats 4000000
namespace Nc
open PySem PySem.Spec PyProof.Rows L2 Evl
theorem extend_tuple (l : Addr) (items : Array Value) (n : Nat) (b : Addr) (items2 : Array Value) (n2 : Nat) (o : Obj) (oc : o.cls = .type "tuple") (od : o.data = .seq items2 n2) (hs0 : ¬(!items.isEmpty && Builtin.List.listTooLong (items.size + items2.size)) = true) (hs1 : items.size ≤ sizeLine) (hs2 : items.size + items2.size ≤ sizeLine + 1) :
    Meets (Builtin.«list.extend» ⟨[.ref l, .ref b], []⟩) (fun _ R s => s.heap.get? l = some { cls := .type "list", dict := none, data := .seq items n, slots := #[] } ∧ s.heap.get? b = some o ∧ R (.ok (.ret Value.none)) { s with heap := s.heap.update l (Obj.mapSeq fun x => x ++ items2), toks := s.toks }) :=
  .of_wp fun prog w A R s h => by
    obtain ⟨cls, dict, data, slots⟩ := o
    simp only at oc od
    subst oc od
    obtain ⟨hp, g, d, tk, os⟩ := s; obtain ⟨hl, hb, h⟩ := h; have f1 := AutoSeq1.idx_int; have f2 := AutoSeq1.sub_tuple_tuple; have f3 := AutoSeq1.sub_list_list; have f4 := AutoSeq1.sub_tuple_list; have f5 := AutoSeq1.sub_list_tuple;
    have hz' : (items ++ items2).size ≤ sizeLine + 1 := by rw [Array.size_append]; exact hs2
    wp_walk using (wpAny_updateSeq hl rfl (hz := hs1) (_hz' := hz')), AutoSeq1.wpAny_loadPart' hl, AutoSeq1.wpAny_loadPart' hb; exact ⟨_, rfl, h⟩
/-- xs.extend(a tuple) -/
def rExtendT (K : PySem.W.Frag) : V → List V → Hp → VK → Prop := fun x vs H Q => ∃ l b xs zs, x = .ref l ∧ vs = [.ref b] ∧ H l = some (.lst xs) ∧ SqT K H b zs ∧ xs.length + zs.length ≤ sizeLine ∧ Q .non (upd H l (.lst (xs ++ zs)))
theorem mt_extendT {X : Cx} (K : PySem.W.Frag) (hK : X.K = K := by rfl) : MtM X "list.extend" (rExtendT K) := by
  subst hK
  intro pins s σ H x vs v us Q I rx rv h
  obtain ⟨l, b, xs, zs, rfl, rfl, hH, hB, hz, q⟩ := h
  cases rx
  obtain ⟨u, rfl, ru⟩ := rv.one
  cases ru
  obtain ⟨z, its, n, r, hl, e⟩ := I.lstM hH
  obtain ⟨its2, r2, p2, _⟩ := I.tuple hB
  obtain ⟨o2, e2, hc2, n2, hd2⟩ := p2
  have hl2 := r2.length
  have hsz : its.toArray.size + its2.toArray.size ≤ sizeLine := by rw [List.size_toArray, List.size_toArray]; omega
  have hlong : ¬ (!its.toArray.isEmpty && Builtin.List.listTooLong (its.toArray.size + its2.toArray.size)) = true := by
    rw [notLongL hsz, Bool.and_false]
    exact Bool.false_ne_true
  refine call_meets F.slot_list_extend ⟨_, e, rfl⟩ F.entry_list_extend (F.args_list_extend_2 _ _)
    (extend_tuple l its.toArray n b its2.toArray _ o2 hc2 hd2 hlong (by rw [List.size_toArray]; omega) (by omega)) ⟨e, e2, ?_⟩
  refine ⟨.non, _, I.lset (its' := its ++ its2) hH e (by simp) (r.append r2) ?_, rfl, q⟩
  rw [List.length_append]
  omega
end Nc
end
section
set_option maxRecDepth 100000
set_option maxHeartbeats 4000000
namespace Nc
open PySem PySem.Spec PyProof.Rows L2 Evl
/-! ### tighter sums: what stands in the heap, promises -/
/-- values below 2 ^ k, bottoms below 2 ^ b: sums and products of two such can be reckoned -/
def Cnd (k b : Nat) : Prop := 0 < b ∧ ((2 * b ≤ 8900 ∧ k ≤ 1000000) ∨ 2 * b + 2 * k ≤ 13490)
def SmsV (K : PySem.W.Frag) (c : Bool) (H : Hp) (v : V) (zs : List Sum2) : Prop := ∃ a xs, v = .ref a ∧ SqX K c H a xs ∧ Paired (SumV K H) xs zs
def TgV (K : PySem.W.Frag) (H : Hp) (v : V) (t : Tg) : Prop := ∃ p a b x y, v = .ref p ∧ SqT K H p [a, b, x, y] ∧ SumV K H a t.1.1 ∧ SumV K H b t.1.2 ∧ FrV K H x t.2.1 ∧ FrV K H y t.2.2
def TgL (K : PySem.W.Frag) (H0 : Hp) (F : Addr) (H : Hp) (v : V) (l : List Tg) : Prop := ∃ a xs, v = .ref a ∧ H0 a = none ∧ a ≠ F ∧ H a = some (.lst xs) ∧ Paired (TgV K H) xs l
section
variable {K : PySem.W.Frag} {H H' H0 : Hp}
theorem SmsV.ex {c : Bool} {v : V} {zs : List Sum2} (e : Ex H H') (h : SmsV K c H v zs) : SmsV K c H' v zs := by
  obtain ⟨a, xs, rfl, q, p⟩ := h
  exact ⟨a, xs, rfl, sqX_ex e q, pmono (fun _ _ => SumV.ex e) p⟩
theorem TgV.ex {v : V} {t : Tg} (e : Ex H H') (h : TgV K H v t) : TgV K H' v t := by
  obtain ⟨p, a, b, x, y, rfl, q, h1, h2, h3, h4⟩ := h
  exact ⟨p, a, b, x, y, rfl, ex_t e q, h1.ex e, h2.ex e, h3.ex e, h4.ex e⟩
theorem TgV.mut {D : Addr} {xs : List V} {o : HO} {v : V} {t : Tg} (hD : H D = some (.lst xs)) (h : TgV K H v t) : TgV K (upd H D o) v t := by
  obtain ⟨p, a, b, x, y, rfl, q, h1, h2, h3, h4⟩ := h
  exact ⟨p, a, b, x, y, rfl, sqt_mut hD q, h1.mut hD, h2.mut hD, h3.mut hD, h4.mut hD⟩
theorem stTg : Stays (TgV K) := ⟨TgV.ex, TgV.mut⟩
theorem stSm : Stays (SumV K) := ⟨SumV.ex, SumV.mut⟩
theorem TgL.ex {F : Addr} {v : V} {l : List Tg} (e : Ex H H') (h : TgL K H0 F H v l) : TgL K H0 F H' v l := by
  obtain ⟨a, xs, rfl, n, f, q, p⟩ := h
  exact ⟨a, xs, rfl, n, f, e _ _ q, pmono (fun _ _ => TgV.ex e) p⟩
theorem TgL.putF {F : Addr} {xs : List V} {o : HO} {v : V} {l : List Tg} (hF : H F = some (.lst xs)) (h : TgL K H0 F H v l) : TgL K H0 F (upd H F o) v l := by
  obtain ⟨a, us, rfl, n, f, q, p⟩ := h
  exact ⟨a, us, rfl, n, f, by rw [upd_ne f]; exact q, pmono (fun _ _ => TgV.mut hF) p⟩
theorem FourV.dk {s : Addr} {v : V} {f : Four} (h : Lst s H) (d : Dk s H H') (q : FourV K H v f) : FourV K H' v f := by
  obtain ⟨t, a, b, x, y, rfl, q, h1, h2, h3, h4⟩ := q
  obtain ⟨t3, rfl, q3⟩ := h3
  obtain ⟨t4, rfl, q4⟩ := h4
  exact ⟨t, a, b, _, _, rfl, sqt_dk h d q, h1.dk h d, h2.dk h d, ⟨t3, rfl, sqt_dk h d q3⟩, ⟨t4, rfl, sqt_dk h d q4⟩⟩
end
theorem BdL.szl {v D k b : Nat} {l : List Rat} (h : BdL v D l) (D0 : 0 < D) (hD : D < 2 ^ b) (hv : v ≤ 2 ^ k) : SzL (k + b) b l := fun r hr => (h r hr).sz D0 hD hv
/-- what ratio asks and answers where the divisor is above nought -/
def spRatioP (K : PySem.W.Frag) : Sp := fun vs H Q _ => ∃ (x y : V) (r s : Rat) (k b : Nat), vs = [x, y] ∧ FrV K H x r ∧ FrV K H y s ∧ Sz (k + b) b r ∧ Sz (k + b) b s ∧ 0 < s.num ∧ 0 < b ∧ 2 * b + 2 * k ≤ 13490 ∧ ∀ v H', Ex H H' → FrV K H' v (r / s) → Q v H'
theorem ratio_is {r s : Rat} (h : 0 < s.num) : Rat.divInt (r.num * (s.den : Int)) ((r.den : Int) * s.num) = r / s := by
  rw [Rat.div_def, Rat.inv_def]
  conv => rhs; rw [← Rat.num_divInt_den r]
  rw [Rat.divInt_mul_divInt]
def spWeighB (K : PySem.W.Frag) : Sp := fun vs H Q _ => ∃ (x y : V) (rs ss : List Rat) (v D u E k b : Nat), vs = [x, y] ∧ RowV K H x rs ∧ RowV K H y ss ∧ rs.length = ss.length ∧ rs.length ≤ 4 ∧ BdL v D rs ∧ BdL u E ss ∧ 0 < D * E ∧ D * E < 2 ^ b ∧ v ≤ 2 ^ k ∧ u ≤ 2 ^ k ∧ 4 * (v * u) ≤ 2 ^ k ∧ Cnd k b ∧ ∀ w H', Ex H H' → FrV K H' w (weighs (rs.zip ss)) → Q w H'
def spTellsB (K : PySem.W.Frag) : Sp := fun vs H Q _ => ∃ (x y : V) (z : Sum2) (ss : List Rat) (v c D u E F k b : Nat), vs = [x, y] ∧ SumV K H x z ∧ RowV K H y ss ∧ z.1.length = ss.length ∧ z.1.length ≤ 4 ∧ BdL v D z.1 ∧ Bd c F z.2 ∧ BdL u E ss ∧ 0 < D * E ∧ D * E ∣ F ∧ 0 < F ∧ F < 2 ^ b ∧ v ≤ 2 ^ k ∧ u ≤ 2 ^ k ∧ 4 * (v * u) ≤ 2 ^ k ∧ c ≤ 2 ^ k ∧ Cnd k b ∧ ∀ w H', Ex H H' → FrV K H' w (tells z ss) → Q w H'
/-- the box, as these functions take it -/
def BoxV (K : PySem.W.Frag) (D : Nat) (H : Hp) (v : V) (box : List Span) : Prop := SpsV K true H v box ∧ 1 ≤ box.length ∧ box.length ≤ 3 ∧ SpB 21 18 D box ∧ 0 < D ∧ D ≤ 2 ^ 100
theorem BoxV.ex {K : PySem.W.Frag} {D : Nat} {H H' : Hp} {v : V} {box : List Span} (e : Ex H H') (h : BoxV K D H v box) : BoxV K D H' v box := ⟨h.1.ex e, h.2⟩
theorem SpB.sv {D : Nat} {box : List Span} (h : SpB 21 18 D box) (d0 : 0 < D) (dl : D ≤ 2 ^ 100) : SpSv 1500 D box := fun p hp => by
  have lt : 21 * D < 2 ^ 1500 := Nat.lt_of_le_of_lt (Nat.mul_le_mul_left 21 dl) (by decide +kernel)
  exact ⟨(h.bd p hp).1.sv d0 lt, (h.bd p hp).2.sv d0 lt⟩
theorem SpB.ok {v s D : Nat} {box : List Span} (h : SpB v s D box) : SpOk box := h.le
def spCheckBox (K : PySem.W.Frag) : Sp := fun vs H Q _ => ∃ (x : V) (DB : Nat) (box : List Span), vs = [x] ∧ BoxV K DB H x box ∧ ∀ H', Ex H H' → Q .non H'
def spCheckSum (K : PySem.W.Frag) : Sp := fun vs H Q _ => ∃ (x y : V) (DB : Nat) (box : List Span) (s : Sum2), vs = [x, y] ∧ BoxV K DB H x box ∧ SumV K H y s ∧ s.1.length = box.length ∧ ∀ H', Ex H H' → Q .non H'
def spLeastB (K : PySem.W.Frag) (f : Sum2 → List Span → Rat) : Sp := fun vs H Q _ => ∃ (x y : V) (DB : Nat) (box : List Span) (s : Sum2) (v Dc E k b : Nat), vs = [x, y] ∧ BoxV K DB H x box ∧ SumV K H y s ∧ BdS box.length v Dc E s ∧ 0 < Dc ∧ Dc * DB ∣ E ∧ 0 < E ∧ E < 2 ^ b ∧ 84 * v + 21 ≤ 2 ^ k ∧ Cnd k b ∧
  ∀ p a c H', Ex H H' → SqT K H' p [a, c] → FrV K H' a (f s box) → Q (.ref p) H'
def spThr (K : PySem.W.Frag) : Sp := fun vs H Q _ => ∃ (c c' : Bool) (x y u : V) (z : Sum2) (A B : List Sum2) (n v a m D Dc Dn k b : Nat), vs = [x, y, u, .int (n : Int)] ∧ SumV K H x z ∧ SmsV K c H y A ∧ SmsV K c' H u B ∧ z.1.length = A.length ∧ A.length = B.length ∧ A.length ≤ 4 ∧ n ≤ 100 ∧
  BdL v D z.1 ∧ Bd a (D * Dn) z.2 ∧ (∀ s ∈ A, BdS n m Dc Dn s) ∧ (∀ s ∈ B, BdS n m Dc Dn s) ∧ 0 < D ∧ 0 < Dc ∧ 0 < Dn ∧ D * Dc < 2 ^ b ∧ D * Dn < 2 ^ b ∧ v ≤ 2 ^ k ∧ m ≤ 2 ^ k ∧ a + 4 * (v * m) ≤ 2 ^ k ∧ Cnd k b ∧ ∀ w H', Ex H H' → SumV K H' w (thr z A B n) → Q w H'
/-- of a node's four: both sums, low and high -/
def four2 (box : List Span) (u o : Sum2) (bd : Span) : Tg := ((u, o), (maxQ (lowT u box) bd.1, minQ (highT o box) bd.2))
def spFour (K : PySem.W.Frag) : Sp := fun vs H Q _ => ∃ (x y u w : V) (DB : Nat) (box : List Span) (s t : Sum2) (f : Four) (v Dc E r k b : Nat), vs = [x, y, u, w] ∧ BoxV K DB H x box ∧ SumV K H y s ∧ SumV K H u t ∧ FourV K H w f ∧ BdS box.length v Dc E s ∧ BdS box.length v Dc E t ∧ Bd r E f.1.1 ∧ Bd r E f.1.2 ∧ 0 < Dc ∧ Dc * DB ∣ E ∧ 0 < E ∧ E < 2 ^ b ∧ 84 * v + 21 ≤ 2 ^ k ∧ r ≤ 2 ^ k ∧ Cnd k b ∧
  ∀ q H', Ex H H' → TgV K H' q (four2 box s t f.1) → Q q H'
def spUnderP (K : PySem.W.Frag) : Sp := fun vs H Q _ => ∃ (x : V) (t : Tg) (n w E k b : Nat), vs = [x, .int (n : Int)] ∧ TgV K H x t ∧ n ≤ 100 ∧ Bd w E t.2.1 ∧ Bd w E t.2.2 ∧ 0 < E ∧ E < 2 ^ b ∧ w ≤ 2 ^ k ∧ Cnd k b ∧ ∀ v H', Ex H H' → SumV K H' v (uPass n t) → Q v H'
def spOverP (K : PySem.W.Frag) : Sp := fun vs H Q _ => ∃ (x : V) (t : Tg) (n v w s Dc E k b : Nat), vs = [x, .int (n : Int)] ∧ TgV K H x t ∧ n ≤ 100 ∧ TgB n v w s Dc E t ∧ 0 < Dc ∧ Dc < 2 ^ b ∧ 0 < E ∧ s * E < 2 ^ b ∧ 1 ≤ s ∧ v + w ≤ 2 ^ k ∧ 2 * w ≤ 2 ^ k ∧ 0 < b ∧ 2 * b + 2 * k ≤ 13490 ∧ ∀ u H', Ex H H' → SumV K H' u (oPass n t) → Q u H'
/-- all of a net, as tightened takes it -/
def spTight (K : PySem.W.Frag) (CN CL CC : Addr) : Sp := fun vs H Q _ => ∃ (p : Addr) (y : V) (ls : List (List Sum2)) (L : List Span) (g M DB : Nat) (Md : Nat → List (List Tg) → List Span → List Sum2 → List Sum2 → Prop), vs = [.ref p, y] ∧ NetV K CN CL CC H p L.length ls ∧ BoxV K DB H y L ∧ NetOk L.length ls (wL g M) ∧ Fits (wL g M) DB ∧ GrB g M ls ∧ Fam DB L L.length g M ls Md ∧
  ∀ F rs H', H F = none → Ex H H' → H' F = some (.lst rs) → Paired (TgL K H F H') rs (tightAt L L.length ls L (units L.length) (units L.length)) → Q (.ref F) H'
end Nc
end
section
set_option maxRecDepth 100000
set_option maxHeartbeats 4000000
namespace Nc
open PySem PySem.Spec PyProof.Rows L2 Evl
/-! ### what the laws of tighter sums draw -/
theorem div_bd {t b : Int} {v : Nat} (hb : 0 < b) (h1 : -((v : Int) * b) ≤ t) (h2 : t ≤ (v : Int) * b) : -(v : Rat) ≤ Rat.divInt t b ∧ Rat.divInt t b ≤ (v : Rat) := by
  have e : (v : Rat) = Rat.divInt ((v : Int) * b) b := by
    rw [Rat.divInt_eq_div, Rat.intCast_mul, Rat.div_def, Rat.mul_assoc, Rat.mul_inv_cancel _ (by
      intro z
      have := Rat.intCast_le_intCast.mp (show ((b : Int) : Rat) ≤ ((0 : Int) : Rat) by rw [z]; exact Rat.le_refl)
      omega), Rat.mul_one]
    rfl
  have s : ∀ a c : Int, Rat.divInt a b + Rat.divInt c b = Rat.divInt (a + c) b := fun a c => by
    rw [Rat.divInt_add_divInt _ _ (by omega) (by omega), ← Int.add_mul, Rat.divInt_mul_right (by omega)]
  have n : Rat.divInt (-((v : Int) * b)) b = -(v : Rat) := by
    rw [e, Rat.neg_divInt]
  constructor
  · have a := s (-((v : Int) * b)) (t + (v : Int) * b)
    have p := Rat.divInt_nonneg (show 0 ≤ t + (v : Int) * b by omega) (Int.le_of_lt hb)
    rw [show -((v : Int) * b) + (t + (v : Int) * b) = t by omega, n] at a
    grind
  · have a := s t ((v : Int) * b - t)
    have p := Rat.divInt_nonneg (show 0 ≤ (v : Int) * b - t by omega) (Int.le_of_lt hb)
    rw [show t + ((v : Int) * b - t) = (v : Int) * b by omega, ← e] at a
    grind
theorem bd_div {t b : Int} {v D : Nat} (hb : 0 < b) (h1 : -((v : Int) * b) ≤ t) (h2 : t ≤ (v : Int) * b) (hD : b.toNat ∣ D) : Bd v D (Rat.divInt t b) := by
  refine ⟨div_bd hb h1 h2, Nat.dvd_trans ?_ hD⟩
  have := (sv_div (n := t.natAbs) hb (Nat.lt_two_pow_self)).2
  exact this
def spShareB (K : PySem.W.Frag) : Sp := fun vs H Q _ => ∃ s : Addr, vs = [.ref s] ∧ St3 s H ∧ ∀ v r H', Dk s H H' → St3 s H' → FrV K H' v r → Bd 4 6 r → Q v H'
def spNode3B (K : PySem.W.Frag) : Sp := fun vs H Q _ => ∃ (s : Addr) (n : Nat), vs = [.ref s, .int (n : Int)] ∧ St3 s H ∧ n ≤ 20 ∧ ∀ v z H', Dk s H H' → St3 s H' → SumV K H' v z → z.1.length = n → BdL 4 6 z.1 → Bd 4 6 z.2 → Q v H'
def spLays3B (K : PySem.W.Frag) : Sp := fun vs H Q _ => ∃ (s S : Addr) (n : Nat) (cs : List Nat), vs = [.ref s, .int (n : Int), .ref S] ∧ St3 s H ∧ S ≠ s ∧ H S = some (.lst (cs.map fun (c : Nat) => V.int (c : Int))) ∧ 1 ≤ cs.length ∧ cs.length ≤ 4 ∧ (∀ c ∈ cs, 1 ≤ c ∧ c ≤ 4) ∧ 1 ≤ n ∧ n ≤ 3 ∧
  ∀ D ls H' g M, H D = none → Dk s H H' → St3 s H' → LayS K s H' D ls → NetOk n ls (wL g M) → GrB g M ls → Q (.ref D) H'
def spBox3B (K : PySem.W.Frag) : Sp := fun vs H Q _ => ∃ (s : Addr) (n : Nat), vs = [.ref s, .int (n : Int)] ∧ St3 s H ∧ n ≤ 3 ∧ ∀ v sp H', Dk s H H' → St3 s H' → SpsV K true H' v sp → sp.length = n → SpB 21 18 6 sp → Q v H'
theorem spb_nil {v s D : Nat} : SpB v s D [] := ⟨(fun _ h => by cases h), (fun _ h => by cases h), (fun _ h => by cases h)⟩
theorem spb_snoc {v s D : Nat} {A : List Span} {p : Span} (h : SpB v s D A) (h1 : Bd v D p.1 ∧ Bd v D p.2) (h2 : p.1 ≤ p.2) (h3 : p.2 - p.1 ≤ (s : Rat)) : SpB v s D (A ++ [p]) := by
  have m : ∀ q, q ∈ A ++ [p] → q ∈ A ∨ q = p := fun q hq => by
    rcases List.mem_append.mp hq with h | h
    · exact .inl h
    · exact .inr (List.mem_singleton.mp h)
  refine ⟨fun q hq => ?_, fun q hq => ?_, fun q hq => ?_⟩ <;> rcases m q hq with h' | rfl
  · exact h.bd q h'
  · exact h1
  · exact h.le q h'
  · exact h2
  · exact h.wide q h'
  · exact h3
theorem M0_lt : 10 * (6 * M0) < 2 ^ 1500 := by decide +kernel
theorem netok_gr {n g M : Nat} {ls : List (List Sum2)} (h1 : 1 ≤ n) (h3 : n ≤ 3) (ov : Over n ls) (l1 : 1 ≤ ls.length) (l4 : ls.length ≤ 4) (gr : GrB g M ls) : NetOk n ls (wL g M) := by
  have m0 := gr.m0
  have ml := gr.mle
  have lt : ∀ i j, 10 * wN g M i j < 2 ^ 1500 := fun i j => by
    refine Nat.lt_of_le_of_lt (Nat.mul_le_mul_left 10 ?_) M0_lt
    have m1 : 1 ≤ M0 := by decide
    unfold wN
    split <;> omega
  refine ⟨h1, h3, ov, l1, l4, fun i l hl z hz => ?_, fun i => wL_pos m0⟩
  obtain ⟨j, hj⟩ := List.mem_iff_getElem?.mp hz
  obtain ⟨a, b⟩ := gr.num i l hl j z hj
  exact ⟨fun r hr => (((a r hr).mono (by decide) (Nat.dvd_refl _)).sv (wN_pos m0) (lt i j)).mono (Nat.le_refl _) (wN_dvd g M i j), (b.sv (wN_pos m0) (lt i j)).mono (Nat.le_refl _) (wN_dvd g M i j)⟩
theorem wL_lt {g M : Nat} (h : M ≤ M0) : ∀ i, wL g M i ≤ 2 ^ 100 := fun i => by
  have m : 6 * M0 ≤ 2 ^ 100 := by decide +kernel
  have m1 : 1 ≤ M0 := by decide
  unfold wL
  split <;> omega
theorem fits_gr {g M D : Nat} (h : M ≤ M0) (d0 : 0 < D) (hD : D ≤ 2 ^ 100) : Fits (wL g M) D := by
  refine ⟨d0, ?_⟩
  have e : pw (wL g M) 4 = wL g M 3 * (wL g M 2 * (wL g M 1 * (wL g M 0 * 1))) := rfl
  have w := wL_lt (g := g) h
  rw [e]
  refine Nat.lt_of_le_of_lt (Nat.mul_le_mul (Nat.mul_le_mul (w 3) (Nat.mul_le_mul (w 2) (Nat.mul_le_mul (w 1) (Nat.mul_le_mul (w 0) (Nat.le_refl 1))))) hD) (by decide +kernel)
/-! ### lists of whole numbers -/
def nsV (ns : List Nat) : List V := ns.map fun (n : Nat) => V.int (n : Int)
def nsD (ns : List Nat) : List PyData := ns.map fun (n : Nat) => PyData.int (n : Int)
theorem ns_dp {K : PySem.W.Frag} {H : Hp} : ∀ ns : List Nat, DpAll K H (nsV ns) (nsD ns)
  | [] => .nil
  | n :: ns => .cons (.int _) (ns_dp ns)
theorem ns_lay : ∀ ns : List Nat, PyData.canLayAll0 (nsD ns) = true
  | [] => rfl
  | n :: ns => by
    show (true && PyData.canLayAll0 (nsD ns)) = true
    rw [ns_lay ns]
    rfl
theorem ns_depth : ∀ ns : List Nat, PyData.depthAll (nsD ns) ≤ 1
  | [] => Nat.zero_le _
  | n :: ns => by
    have ih := ns_depth ns
    show max (PyData.depth (PyData.int (n : Int))) (PyData.depthAll (nsD ns)) ≤ 1
    have : PyData.depth (PyData.int (n : Int)) ≤ 1 := by simp [PyData.depth]
    omega
theorem ns_shaped (ns : List Nat) : SeqAt.shaped (.list (nsD ns)) = true := by
  unfold SeqAt.shaped
  have h : (PyData.list (nsD ns)).canLay0 = true := ns_lay ns
  rw [h, Bool.true_and]
  refine decide_eq_true ?_
  have := ns_depth ns
  show PyData.depthAll (nsD ns) + 1 ≤ 64
  omega
theorem ns_eqv (ns : List Nat) : PyData.eqv (.list (nsD ns)) (.list (nsD ns)) = true := SeqAt.eqv_refl _ (ns_lay ns)
/-- the lengths of lists, in a list of their own: what a comprehension's walk leaves -/
theorem lens_step {G : Addr} {H1 H' : Hp} {ns : List Nat} {j n : Nat} (hG : H1 G = none) (e : Ex H1 H') (k : H' G = some (.lst (nsV (ns.take j)))) (hn : ns[j]? = some n) (h100 : ns.length ≤ 100) : ∃ acc, H' G = some (.lst acc) ∧ acc.length < sizeLine ∧ Ex H1 (upd H' G (.lst (acc ++ [V.int (n : Int)]))) ∧ upd H' G (.lst (acc ++ [V.int (n : Int)])) G = some (.lst (nsV (ns.take (j + 1)))) := by
  refine ⟨_, k, sz_lt (by unfold nsV; rw [List.length_map, List.length_take]; omega), Ex.mut e hG, ?_⟩
  rw [List.take_add_one, hn]
  unfold nsV
  rw [List.map_append]
  exact upd_same
/-- a loop over enumerate of a list -/
theorem for_enumL {K : PySem.W.Frag} {a : Addr} {xs : List V} {g : TG} {tb : TS} {D : Ends} {σ : L2.St} {H : Hp} (Pv : Nat → L2.St → Hp → Prop) (h0 : Pv 0 σ H) (hq : ∀ i σ H, Pv i σ H → SqL K H a xs)
    (hs : ∀ (i : Nat) (x : V) (T : Addr) (σ : L2.St) (H : Hp), xs[i]? = some x → Pv i σ H → H T = none → g (.ref T) σ (upd H T (.tup [.int (i : Nat), x])) fun σ2 H2 => tb { D with nx := Pv (i + 1), ct := Pv (i + 1), bk := D.nx } σ2 H2) (hd : ∀ σ H, Pv xs.length σ H → D.nx σ H) :
    ∃ W : Nat → Nat → L2.St → Hp → Prop, (∃ m, W 0 m σ H) ∧ ∀ i m σ H, W i m σ H →
      ((Ite K a).stop i H ∧ D.nx σ H) ∨ ((Ite K a).go i H ∧ ∃ N : L2.St → Hp → Prop, (∀ σ' H', N σ' H' → ∃ m', m' < m ∧ W (i + 1) m' σ' H') ∧ ∀ v H', (Ite K a).yld i H v H' → g v σ H' fun σ2 H2 => tb { D with nx := N, ct := N, bk := D.nx } σ2 H2) := by
  refine ⟨fun i m σ H => m = xs.length - i ∧ i ≤ xs.length ∧ Pv i σ H, ⟨xs.length, rfl, Nat.zero_le _, h0⟩, ?_⟩
  rintro i m σ H ⟨rfl, hi, p⟩
  have qx := hq i σ H p
  by_cases hlt : i < xs.length
  · have hx : xs[i]? = some xs[i] := List.getElem?_eq_getElem hlt
    refine .inr ⟨⟨xs, _, qx, hx⟩, Pv (i + 1), fun σ' H' p' => ⟨xs.length - (i + 1), by omega, rfl, hlt, p'⟩, fun v H' y => ?_⟩
    obtain ⟨T, x', rfl, hT, rfl, f1⟩ := y
    exact hs i x' T σ H (f1 xs qx) p hT
  · have e : i = xs.length := by omega
    subst e
    exact .inl ⟨⟨xs, qx, Nat.le_refl _⟩, hd σ H p⟩
theorem call_lenK {X : Cx} (K : PySem.W.Frag) (h : X.K = K := by rfl) : CallR X (.builtin "len") fun xs H Q => ∃ p ys, xs = [V.ref p] ∧ (SqL K H p ys ∨ SqT K H p ys) ∧ Q (V.int (ys.length : Int)) H := by
  subst h
  exact call_len_seq
/-! ### a node's four as data -/
def tD (t : Tg) : PyData := .tuple [sd t.1.1, sd t.1.2, fd t.2.1, fd t.2.2]
theorem TgV.dp {K : PySem.W.Frag} {H : Hp} {v : V} {t : Tg} (h : TgV K H v t) : Dp K H v (tD t) := by
  obtain ⟨p, a, b, x, y, rfl, q, h1, h2, h3, h4⟩ := h
  exact .tup q (.cons h1.dp (.cons h2.dp (.cons h3.dp (.cons h4.dp .nil))))
theorem lay_fdv (r : Rat) : (fd r).canLay0 = true := rfl
theorem lay_sdv (z : Sum2) : (sd z).canLay0 = true := by
  have := lay_sds [z]
  have e : PyData.canLayAll0 ([z].map sd) = ((sd z).canLay0 && true) := rfl
  rw [e, Bool.and_true] at this
  exact this
theorem tD_lay (t : Tg) : (tD t).canLay0 = true := by
  show ((sd t.1.1).canLay0 && ((sd t.1.2).canLay0 && ((fd t.2.1).canLay0 && ((fd t.2.2).canLay0 && true)))) = true
  rw [lay_sdv, lay_sdv, lay_fdv, lay_fdv]
  rfl
theorem tD_shaped (t : Tg) : SeqAt.shaped (tD t) = true := by
  unfold SeqAt.shaped
  rw [tD_lay, Bool.true_and]
  refine decide_eq_true ?_
  have f : ∀ r : Rat, (fd r).depth ≤ 2 := fun r => by
    have := depthAll_fd [r]
    have e : PyData.depthAll ([r].map fd) = max (fd r).depth 0 := rfl
    omega
  have s : ∀ z : Sum2, (sd z).depth ≤ 5 := fun z => by
    have := depth_sds [z]
    have e : PyData.depthAll ([z].map sd) = max (sd z).depth 0 := rfl
    omega
  have a1 := s t.1.1
  have a2 := s t.1.2
  have a3 := f t.2.1
  have a4 := f t.2.2
  show max (sd t.1.1).depth (max (sd t.1.2).depth (max (fd t.2.1).depth (max (fd t.2.2).depth 0))) + 1 ≤ 64
  omega
theorem tD_eqv (t : Tg) : PyData.eqv (tD t) (tD t) = true := SeqAt.eqv_refl _ (tD_lay t)
end Nc
end
section
set_option maxRecDepth 100000
set_option maxHeartbeats 4000000
namespace Nc
open PySem PySem.Spec PyProof.Rows L2 Evl
/-! ### C.m(..), C an own class of the top, m a plain def of its body -/
/-- what the top has written of such a def -/
structure CFn (K : PySem.W.Frag) (mg : Str → Option Value) (x : Str) (C : Addr) (m : Str) (f : Addr) : Prop where
  gC : mg x = some (.ref C)
  rd : ClX.CRead K C (.type "type")
  at_ : PySem.W.findCls K (.ref C) (.type "type") m = some (.val (.ref f))
  kf : PySem.W.keepIn K (.ref f) = true
section
variable {X : Cx} {k : Nat} {C f : Addr} {fd : FuncData} {x m : Str} {ps : List Str} {sp : Sp} {e : Expr} {es : List Expr} {t : TA} {p1 p2 pos : Pos} {pl : Sem Bool}
theorem pe_cfn (c : CFn X.K X.mg x C m f) (F : FnOk X.prog X.w X.K X.mg X.base CX0 k f fd ps sp) (hr : Room k X.A) (hb : Binds X.K fd ps []) (ha : PA X (e :: es) t) (hgl : Gl X x := by rfl) (hdb : (x == ("__debug__" : Str)) = false := by decide)
    (ht : eval (.Call (.Attribute (.Name x p1) m p2) (e :: es) [] pos) X.env = (do
      let ov ← eval (.Name x p1) X.env
      standAt p2.atName
      let (f, first) ← holding [ov] (getMethod ov m pl)
      callWith pos f first (backTo pos (starEach (e :: es) X.env)) (backToKw pos (keywordEach [] X.env))) := by rfl)
    (hst : starEach (e :: es) X.env = (false, eval e X.env) :: starEach es X.env := by rfl) (hpl : (backTo pos (starEach es X.env)).any (·.1) = false := by rfl) :
    PE X (.Call (.Attribute (.Name x p1) m p2) (e :: es) [] pos) (tCall sp [] E0 t) := by
  constructor
  intro pins s σ H Q I h
  refine PySem.W.methodCall_KW (pl := pl) (ld_glob I hgl c.gC ?_ hdb) ht
  refine PySem.W.method_cls I.kIn c.rd.ga (ClX.getcval_ok (v := .ref f) I c.rd ⟨c.at_, rfl⟩ fun s2 J => ?_)
  refine PySem.W.callWith_K (h₀ := X.base) J.ok.mod.kin c.kf (thn (ha.run pos pins s2 σ H _ J h) ?_) hst hpl
  rintro us s3 ⟨vs, H2, J2, rv, z⟩
  exact ⟨J2.kIn, run_fn F hr hb .nil pass0 J2 rv z⟩
end
/-! ### the making of own errors -/
/-- the base's __init__(self, text) -/
def spVeI (K : PySem.W.Frag) : Sp := fun vs H Q _ => ∃ (a C : Addr) (x : Str), vs = [.ref a, .str x] ∧ OexC K C ∧ H a = some (exo a C none) ∧ Q .non H
/-- an own error's __init__(self, v): the field f is v -/
def spErI (K : PySem.W.Frag) (C : Addr) (f : Str) : Sp := fun vs H Q _ => ∃ (a : Addr) (v : V), vs = [.ref a, v] ∧ OexC K C ∧ PySem.W.findIn K (.ref C) f = some none ∧ H a = some (exo a C none) ∧
  ∀ dx, H dx = none → dx ≠ a → Q .non (upd (upd H dx (exd dx [(f, v)])) a (exo a C (some dx)))
/-! ### an own error as a value -/
/-- C(e, ..), the error stays: R is what is wanted of the arguments -/
def tErR (R : List V → Hp → VK → Prop) (ta : TA) : TE := fun σ H Q => ta σ H fun vs H1 => R vs H1 Q
section
variable {X : Cx} {k : Nat} {C fI : Addr} {fd : FuncData} {x : Str} {ps : List Str} {sp : Sp} {e : Expr} {es : List Expr} {ta : TA} {p pos : Pos} {R : List V → Hp → VK → Prop}
theorem pe_erv (T : OexC X.K C) (iC : PySem.W.findIn X.K (.ref C) "__init__" = some (some (.ref fI))) (tI : PySem.W.typeIn X.K (.ref fI) = some (.type "function")) (G : FnOk X.prog X.w X.K X.mg X.base CX0 k fI fd ps sp) (hr : Room (k + 1) X.A) (hb : Binds X.K fd ps [])
    (hm : X.mg x = some (.ref C)) (ha : PA X (e :: es) ta)
    (hR : ∀ vs H Q, R vs H Q → vs.length ≤ 1000 ∧ ∀ a, H a = none → sp (.ref a :: vs) (upd H a (exo a C none)) (fun v H2 => v = .non ∧ Q (.ref a) H2) E0) (hg : Gl X x := by rfl) (hdb : (x == ("__debug__" : Str)) = false := by decide) (he : starEach (e :: es) X.env = (false, eval e X.env) :: starEach es X.env := by rfl) (hpl : (backTo pos (starEach es X.env)).any (·.1) = false := by rfl) :
    PE X (.Call (.Name x p) (e :: es) [] pos) (tErR R ta) := by
  constructor
  intro pins s σ H Q I h
  obtain ⟨nm, q, N, bs, bm, sn, sub, ab, col, dd, k0, k1, k2, k3, k5, hC, hbm⟩ := T.cls
  refine wpAny_Call_Name_kw (ld_glob I hg hm ?_ hdb)
  refine PySem.W.callWith_K (h₀ := X.base) I.ok.mod.kin T.kC (thn (ha.run pos pins s σ H _ I h) ?_) he hpl
  rintro us s1 ⟨vs, H1, J, rv, z⟩
  obtain ⟨sz, k⟩ := hR _ _ _ z
  refine ⟨J.kIn, ?_⟩
  show wpAny _ _ (call (.ref C) us) _ _ _
  obtain ⟨hp, g, dr, tk, os⟩ := s1
  have hn : H1 (hp.objs.size + 1) = none := J.hok.fresh (Nat.le_succ _)
  have hq := k _ hn
  have hget : ((hp.push (PySem.W.kdv_tup us)).push (PySem.HandSPX.excO C hp.objs.size)).get? (hp.objs.size + 1) = some (PySem.HandSPX.excO C hp.objs.size) := by heap_get
  have J2 : Inv X pins σ (upd H1 (hp.objs.size + 1) (exo (hp.objs.size + 1) C none)) ⟨(hp.push (PySem.W.kdv_tup us)).push (PySem.HandSPX.excO C hp.objs.size), g, dr, tk, os⟩ :=
    J.laid (t' := tk) (fun b o z => Heap.get?_push_of_some _ (Heap.get?_push_of_some _ z)) (Nat.le_succ _) (exo_ok hget)
  have r2 : Vals (V.ref (hp.objs.size + 1) :: vs) (Value.ref (hp.objs.size + 1) :: us) := .cons rfl rv
  have hl : (Value.ref (hp.objs.size + 1) :: us).length = ps.length := by
    rw [← r2.length]
    exact G.len _ _ _ _ hq
  have hus : us.length ≤ sizeLine := by
    rw [← Paired.length rv, sizeLine_eq]
    omega
  have hb' := hb _ (Value.ref (hp.objs.size + 1) :: us) J2.kIn (by simpa using hl)
  simp only [List.append_nil] at hb'
  refine wpAny_call (PySem.HandSPX.call_own F.excBase_ValueError (fun Y => PySem.HandSPX.refsVE_contains Y bm hbm) (J.kIn _ _ hC) (PySem.W.looks_findIn J.kIn iC) (fun self => PySem.W.bind_fn J.kIn self tI) hus
    (codeAny_mono (G.run _ X.stack _ _ ⟨Value.ref (hp.objs.size + 1) :: us, []⟩ _ _ _ E0 (hr.make C us []) (J2.env0.make C us []) hb' r2 hq) ?_))
  rintro (_ | (_ | _ | _ | u)) s' hr'
  all_goals first
    | (obtain ⟨v, H2, J3, r3, ev, qq⟩ := J2.after hr'
       subst ev
       exact ⟨r3, .ref _, H2, J3, rfl, qq⟩)
    | exact hr'.elim
end
/-! ### isinstance of, a field of an own error -/
structure ErC (K : PySem.W.Frag) (C : Addr) : Prop where
  oex : OexC K C
  cl : (PySem.W.clsIn K C).isSome = true
  hd : PySem.W.hasDictIn K C = true
  ga : PySem.W.findIn K (.ref C) "__getattribute__" = some (some (.builtin "BaseException.__getattribute__"))
  gt : PySem.W.findIn K (.ref C) "__getattr__" = some none
  ca : PySem.W.findIn K (.ref C) "__class__" = some (some (.builtin "object.__class__"))
  cg : PySem.W.specialIn K (.builtin "object.__class__") "__get__" = some (some (.builtin "getset_descriptor.__get__"))
  ct : PySem.W.takesIn K (.builtin "object.__class__") = some true
  ob : PySem.W.mroIn K C (.type "object") = some true
/-- an own error of the class at C with the fields fs -/
def ErV (H : Hp) (a C : Addr) (fs : List (Str × V)) : Prop := ∃ d, H a = some (exo a C (some d)) ∧ H d = some (exd d fs)
def ErA (H : Hp) (a C : Addr) : Prop := H a = some (exo a C none) ∨ ∃ fs, ErV H a C fs
theorem ErV.ex {H H' : Hp} {a C : Addr} {fs : List (Str × V)} (e : Ex H H') (h : ErV H a C fs) : ErV H' a C fs := by
  obtain ⟨d, h1, h2⟩ := h
  exact ⟨d, e _ _ h1, e _ _ h2⟩
section
variable {X : Cx} {pins : List (Addr × Obj)} {σ : L2.St} {H : Hp} {s : Shared} {a C : Addr} {fs : List (Str × V)}
theorem ErV.look (I : Inv X pins σ H s) (h : ErV H a C fs) : ∃ (ox od : Obj) (mA : Str → Option Value), PySem.W.InstAt s.heap a ox C (some od) ∧ (∀ n, PySem.W.lookIn n od = some (mA n)) ∧ ∀ f, RelO (fs.lookup f) (mA f) := by
  obtain ⟨d, h1, h2⟩ := h
  obtain ⟨t1, ho⟩ := exo_at I.hok h1
  obtain ⟨mA, ns, rel⟩ := exd_at I.hok h2
  obtain ⟨od, hd, lk⟩ := lookIn_ns ns
  exact ⟨_, od, mA, ⟨ho, rfl, rfl, hd⟩, lk, rel⟩
theorem ErA.inst (I : Inv X pins σ H s) (h : ErA H a C) : ∃ ox od, PySem.W.InstAt s.heap a ox C od := by
  rcases h with h | ⟨fs, h⟩
  · obtain ⟨t1, ho⟩ := exo_at I.hok h
    exact ⟨_, none, ⟨ho, rfl, rfl, trivial⟩⟩
  · obtain ⟨ox, od, mA, J, _⟩ := h.look I
    exact ⟨ox, some od, J⟩
end
def rIsX (K : PySem.W.Frag) : List V → Hp → VK → Prop := fun xs H Q => ∃ (a C : Addr) (c : V) (u : Value) (b : Bool), xs = [.ref a, c] ∧ ClsV c u ∧ ErA H a C ∧ ErC K C ∧ PySem.W.kitOne K (.ref C) u = some b ∧ Q (.bl b) H
theorem call_isX {X : Cx} : CallR X (.builtin "isinstance") (rIsX X.K) := by
  intro pins s σ H xs us Q I r h
  obtain ⟨a, C, c, u, b, rfl, kc, ea, ec, e, q⟩ := h
  obtain ⟨u1, u2, rfl, r1, r2⟩ := vals2 r
  cases (show u1 = Value.ref a from r1)
  cases kc.eq r2
  obtain ⟨ox, od, J⟩ := ea.inst I
  exact PySem.W.kia_one (PySem.W.kitx_exc ec.cl ec.ga ec.gt ec.oex.exC ec.ca ec.cg ec.ct ec.ob) I.kIn J e (fun z => nomatch z) fun tk => ⟨.bl b, H, I.tok tk, rfl, q⟩
/-- e.f, e an own error -/
def tErF (K : PySem.W.Frag) (ta : TE) (f : Str) : TE := fun σ H Q => ta σ H fun x H1 => ∃ (a C : Addr) (fs : List (Str × V)) (v : V), x = .ref a ∧ ErV H1 a C fs ∧ ErC K C ∧ PySem.W.findIn K (.ref C) f = some none ∧ fs.lookup f = some v ∧ Q v H1
theorem pe_erf {X : Cx} {e : Expr} {f : Str} {pos : Pos} {ta : TE} (he : PE X e ta) (hb : attributeBase e f X.env (eval e X.env) = eval e X.env := by rfl) : PE X (.Attribute e f pos) (tErF X.K ta f) := by
  constructor
  intro pins s σ H Q I h
  refine attr_of hb (thn (he.run pins s σ H _ I h) ?_)
  rintro u s1 ⟨x, H1, J, rx, a, C, fs, v, ex, ev, ec, hf, lk, q⟩
  subst ex
  cases (show u = Value.ref a from rx)
  obtain ⟨ox, od, mA, K1, l1, rel⟩ := ev.look J
  have r2 := rel f
  rw [lk] at r2
  obtain ⟨y, hy, ry⟩ := r2.some_of
  refine PySem.HandSPX.exc_get J.kIn K1 ec.ga ec.gt ec.oex.exC (PySem.W.findObj_own ec.hd hf rfl (by rw [l1, hy])) (handed_of ry) ?_
  exact ⟨v, H1, J.tok _, ry, q⟩
/-- what is known of an own error's class: its name, its object, its one field, its __init__ -/
structure Er (P : Program) (w : World) (K : PySem.W.Frag) (mg : Str → Option Value) (base : Heap) (x : Str) (C : Addr) (f : Str) (ps : List Str) : Prop where
  ec : ErC K C
  no : PySem.W.findIn K (.ref C) f = some none
  gm : mg x = some (.ref C)
  ini : ∃ fI fd, PySem.W.findIn K (.ref C) "__init__" = some (some (.ref fI)) ∧ PySem.W.typeIn K (.ref fI) = some (.type "function") ∧ FnOk P w K mg base CX0 2 fI fd ps (spErI K C f) ∧ Binds K fd ps []
def rEr (C : Addr) (f : Str) : List V → Hp → VK → Prop := fun vs H Q => ∃ v, vs = [v] ∧ ∀ a H2, H a = none → Ex H H2 → ErV H2 a C [(f, v)] → Q (.ref a) H2
theorem pe_er {X : Cx} {x f : Str} {C : Addr} {ps : List Str} {e : Expr} {ta : TA} {p pos : Pos} (E : Er X.prog X.w X.K X.mg X.base x C f ps) (hr : Room 3 X.A) (ha : PA X [e] ta) (hg : Gl X x := by rfl) (hdb : (x == ("__debug__" : Str)) = false := by decide)
    (he : starEach [e] X.env = (false, eval e X.env) :: starEach [] X.env := by rfl) (hpl : (backTo pos (starEach [] X.env)).any (·.1) = false := by rfl) : PE X (.Call (.Name x p) [e] [] pos) (tErR (rEr C f) ta) := by
  obtain ⟨fI, fd, iC, tI, G, hb⟩ := E.ini
  refine pe_erv E.ec.oex iC tI G hr hb E.gm ha ?_ hg hdb he hpl
  rintro vs H Q ⟨v, rfl, q⟩
  refine ⟨by show 1 ≤ 1000; decide, fun a ha => ⟨a, v, rfl, E.ec.oex, E.no, upd_same, fun dx h1 h2 => ⟨rfl, ?_⟩⟩⟩
  have hd : H dx = none := by rwa [upd_ne h2] at h1
  refine q a _ ha (fun b o hb => ?_) ⟨dx, upd_same, by rw [upd_ne h2]; exact upd_same⟩
  rw [upd_ne (ne_of_none hb ha), upd_ne (ne_of_none hb hd), upd_ne (ne_of_none hb ha)]
  exact hb
end Nc
end
section
set_option maxRecDepth 100000
set_option maxHeartbeats 4000000
namespace Nc
open PySem PySem.Spec PyProof.Rows L2 Evl
theorem elemC (v a : Value) (l : List Value) : (a :: l).contains v = (v == a || l.contains v) := by
  show (match v == a with | true => true | false => List.elem v l) = _
  cases v == a <;> rfl
/-- an own error's class, as it stands written, bm its bases to the last -/
structure ErX (K : PySem.W.Frag) (C : Addr) (bm : List Value) : Prop where
  lk : ∃ nm q N bs sn sub ab col dd k0 k1 k2 k3 k5, K.lookup C = some (excClassObj nm q C N bs bm true sn sub ab col dd k0 k1 k2 k3 k5 "ValueError.__new__")
  ve : PySem.HandSPX.refsVE bm = true
  ty : PySem.W.typeIn K (.ref C) = some (.type "type")
section
variable {K : PySem.W.Frag} {C D : Addr} {bm bn : List Value}
theorem ErX.cls (h : ErX K C bm) : ∃ cd, PySem.W.clsIn K C = some cd ∧ cd.mro = .ref C :: bm ∧ cd.hasDict = true := by
  obtain ⟨nm, q, N, bs, sn, sub, ab, col, dd, k0, k1, k2, k3, k5, e⟩ := h.lk
  unfold PySem.W.clsIn
  rw [e]
  exact ⟨_, rfl, rfl, rfl⟩
theorem ErX.sub (h : ErX K C bm) (v : Value) : PySem.W.subIn K (.ref C) v = some ((Value.ref C :: bm).contains v) := by
  obtain ⟨cd, e, em, _⟩ := h.cls
  show PySem.W.mroIn K C v = _
  unfold PySem.W.mroIn
  rw [e, Option.bind_some, em]
  rfl
theorem ErX.kit (h : ErX K C bm) (g : ErX K D bn) : PySem.W.kitOne K (.ref C) (.ref D) = some (decide (C = D) || bm.contains (.ref D)) := by
  unfold PySem.W.kitOne
  by_cases e : C = D
  · subst e
    rw [if_pos (beq_self_eq_true _), decide_eq_true rfl, Bool.true_or]
  · have ne : (Value.ref C == Value.ref D) = false := beq_eq_false_iff_ne.mpr fun z => e (Value.ref.inj z)
    obtain ⟨cd, ec, _⟩ := g.cls
    rw [if_neg (by rw [ne]; decide)]
    show (if ((PySem.W.clsIn K D).isSome && PySem.W.typeIn K (.ref D) == some (.type "type")) = true then PySem.W.subIn K (.ref C) (.ref D) else none) = _
    rw [ec, g.ty, if_pos (by simp), h.sub, decide_eq_false e, Bool.false_or]
    have ne2 : (Value.ref D == Value.ref C) = false := beq_eq_false_iff_ne.mpr fun z => e (Value.ref.inj z).symm
    rw [elemC, ne2, Bool.false_or]
theorem ErX.kitT (h : ErX K C bm) {T : String} (m : PySem.W.kitMeta T = true) : PySem.W.kitOne K (.ref C) (.type T) = some (bm.contains (.type T)) := by
  unfold PySem.W.kitOne
  have ne : (Value.ref C == Value.type T) = false := beq_eq_false_iff_ne.mpr fun z => by cases z
  rw [if_neg (by rw [ne]; decide)]
  show (if PySem.W.kitMeta T = true then PySem.W.subIn K (.ref C) (.type T) else none) = _
  rw [if_pos m, h.sub]
  have ne2 : (Value.type T == Value.ref C) = false := beq_eq_false_iff_ne.mpr fun z => by cases z
  rw [elemC, ne2, Bool.false_or]
theorem ErX.erc (h : ErX K C bm) (sa : PySem.W.findIn K (.ref C) "__setattr__" = some (some (.builtin "object.__setattr__"))) (kc : PySem.W.keepIn K (.ref C) = true)
    (ga : PySem.W.findIn K (.ref C) "__getattribute__" = some (some (.builtin "BaseException.__getattribute__"))) (gt : PySem.W.findIn K (.ref C) "__getattr__" = some none) (ca : PySem.W.findIn K (.ref C) "__class__" = some (some (.builtin "object.__class__")))
    (cg : PySem.W.specialIn K (.builtin "object.__class__") "__get__" = some (some (.builtin "getset_descriptor.__get__"))) (ct : PySem.W.takesIn K (.builtin "object.__class__") = some true) (b1 : bm.contains (.type "BaseException") = true) (b2 : bm.contains (.type "object") = true)
    (hd : PySem.W.hasDictIn K C = true) : ErC K C := by
  have cons : ∀ v, bm.contains v = true → (Value.ref C :: bm).contains v = true := fun v hv => by
    rw [elemC, hv, Bool.or_true]
  refine ⟨⟨?_, sa, ?_, h.ty, kc⟩, ?_, hd, ga, gt, ca, cg, ct, ?_⟩
  · obtain ⟨nm, q, N, bs, sn, sub, ab, col, dd, k0, k1, k2, k3, k5, e⟩ := h.lk
    exact ⟨nm, q, N, bs, bm, sn, sub, ab, col, dd, k0, k1, k2, k3, k5, e, h.ve⟩
  · rw [h.sub, cons _ b1]
  · obtain ⟨cd, ec, _⟩ := h.cls
    rw [ec]
    rfl
  · have := h.sub (.type "object")
    rw [cons _ b2] at this
    exact this
end
/-- the bases of an error over CutError, of CutError -/
def bmB : List Value := [.type "ValueError", .type "Exception", .type "BaseException", .type "object"]
def bmE (CB : Addr) : List Value := .ref CB :: bmB
theorem bmB_ref (D : Addr) : bmB.contains (.ref D) = false := rfl
theorem bmE_ref (CB D : Addr) : (bmE CB).contains (.ref D) = decide (D = CB) := by
  show (Value.ref CB :: bmB).contains (Value.ref D) = _
  rw [elemC, bmB_ref, Bool.or_false]
  by_cases h : D = CB
  · subst h
    rw [decide_eq_true rfl]
    exact beq_self_eq_true _
  · rw [decide_eq_false h]
    exact beq_eq_false_iff_ne.mpr fun z => h (Value.ref.inj z)
theorem bmE_ty (CB : Addr) (T : String) : (bmE CB).contains (.type T) = bmB.contains (.type T) := by
  show (Value.ref CB :: bmB).contains (Value.type T) = _
  have ne2 : (Value.type T == Value.ref CB) = false := beq_eq_false_iff_ne.mpr fun z => by cases z
  rw [elemC, ne2, Bool.false_or]
end Nc
end
section
set_option maxRecDepth 100000
/-! NcTry: a try with any number of clauses, each with a name or without. -/
namespace L2
open PySem PySem.Spec PyProof.Rows
section
variable {X : Cx} {pins : List (Addr × Obj)} {σ : St} {H : Hp} {sI t : Shared} {B : Heap} {a : Addr} {cls : Value} {d : Option Addr}
/-- an error has come to the clauses: what stands then -/
structure Caught (X : Cx) (pins : List (Addr × Obj)) (σ : St) (H : Hp) (sI : Shared) (B : Heap) (a : Addr) (cls : Value) (d : Option Addr) (t : Shared) : Prop where
  inv : Inv X pins σ H sI
  near : ∀ b o, sI.heap.get? b = some o → b ∉ frs X.stack → B.get? b = some o
  upto : sI.heap.UpToSlots t.heap
  held : HandSPX.FlyingZ B (X.env :: X.outer) a (Zc cls d) t.heap
  none : H a = none
  os : t.os = sI.os
  bare : AllBare t.gens
theorem Caught.now (c : Caught X pins σ H sI B a cls d t) : Inv X pins σ H t := c.inv.landed c.near c.held.1 c.upto c.os c.bare
theorem Caught.apart (hf : X.env.frame = some X.env.locals) (c : Caught X pins σ H sI B a cls d t) : a ≠ X.env.locals ∧ a ∉ X.fs := by
  obtain ⟨o1, v1, g1, _, f1⟩ := c.held.there
  have out : a ∉ frs (X.env :: X.outer) := fun hm => by
    obtain ⟨_, o2, g2, notF⟩ := c.held.2.2.1.mem hm
    rw [g1] at g2
    cases g2
    exact notF _ f1
  refine ⟨fun z => out (List.mem_filterMap.mpr ⟨X.env, List.mem_cons_self, by rw [hf, z]⟩), fun hm => ?_⟩
  obtain ⟨e1, he1, q1⟩ := List.mem_filterMap.mp hm
  exact out (List.mem_filterMap.mpr ⟨e1, List.mem_cons_of_mem _ he1, q1⟩)
/-- the ways out of a clause with a name in slot i: the name is gone behind it -/
def Ends.off (D : Ends) (i : Nat) : Ends := { nx := fun τ G => D.nx (τ.set i .none) G, rt := D.rt, bk := fun τ G => D.bk (τ.set i .none) G, ct := fun τ G => D.ct (τ.set i .none) G }
/-- clauses, and what they wish of an error of the body -/
inductive Clauses (X : Cx) : List ExceptHandler → (Ends → WX) → Prop
  | nil {Wout : WX} (tk : Takes X Wout) : Clauses X [] fun _ => Wout
  | plain {x : Str} {c : Value} {ts : Addr → Value → Option Addr → TS} {b0 : Stmt} {rest : List Stmt} {np ps : Pos} {hds : List ExceptHandler} {W : Ends → WX} (hc : Names X x c)
      (run : ∀ (a : Addr) (o : Obj) (cls : Value) (d : Option Addr) (pn : List (Addr × Obj)), Zc cls d o → (∃ vs, o.data = .fields vs) → PSs (X.suite a ((a, o) :: pn)) (b0 :: rest) (ts a cls d)) (more : Clauses X hds W) :
      Clauses X (.ExceptHandler (some (.Name x np)) .none (b0 :: rest) ps :: hds) fun D cls d σ H => ∃ b, PySem.W.exmOne X.K cls c = some b ∧ (b = true → ∀ a, H a = .none → ts a cls d D σ H) ∧ (b = false → W D cls d σ H)
  | named {x n : Str} {c : Value} {i : Nat} {ts : Addr → Value → Option Addr → TS} {b0 : Stmt} {rest : List Stmt} {np ps : Pos} {hds : List ExceptHandler} {W : Ends → WX} (hN : X.N.Nodup) (hi : X.N[i]? = some n) (hl : X.env.kindOf n = some .local) (hc : Names X x c)
      (run : ∀ (a : Addr) (o : Obj) (cls : Value) (d : Option Addr) (pn : List (Addr × Obj)), Zc cls d o → (∃ vs, o.data = .fields vs) → PSs (X.suite a ((a, o) :: pn)) (b0 :: rest) (ts a cls d)) (more : Clauses X hds W) :
      Clauses X (.ExceptHandler (some (.Name x np)) (some n) (b0 :: rest) ps :: hds) fun D cls d σ H => ∃ b, PySem.W.exmOne X.K cls c = some b ∧ (b = true → ∀ a, H a = .none → ts a cls d (D.off i) (σ.set i (some (.ref a))) H) ∧ (b = false → W D cls d σ H)
/-- a clause's class is asked -/
theorem asked {x : Str} {c : Value} {np : Pos} {b : Bool} {α : Type} {k : Bool → Sem α} {Q : α → Shared → Prop} (hf : X.env.frame = some X.env.locals) (cc : Caught X pins σ H sI B a cls d t) (hc : Names X x c) {Qv : Value → Shared → Prop} {E : Value → Shared → Prop} (hq : Qv c t) :
    wpAny (model X.prog X.w) (X.A.mark (some (.ref a))) (eval (.Name x np) X.env) Qv E t := by
  obtain ⟨o1, v1, g1, z1, f1⟩ := cc.held.there
  have ap := cc.apart hf
  have S := cc.now.suite g1 f1 cc.none ap.1 ap.2
  obtain ⟨hg, hdb, hm | ⟨hm, hv, hnn⟩⟩ := hc
  · exact ld_glob (X := X.suite a ((a, o1) :: (X.pn ++ pins))) S hg hm hq hdb
  · exact ld_blt (X := X.suite a ((a, o1) :: (X.pn ++ pins))) S hg hm hv hq hnn hdb
theorem clauses_ok (hs : X.stack = X.env :: X.outer) (hf : X.env.frame = some X.env.locals) {D : Ends} (cc : Caught X pins σ H sI B a cls d t) {hds : List ExceptHandler} {W : Ends → WX} (hk : Clauses X hds W) (w : W D cls d σ H) :
    wpAny (model X.prog X.w) X.A (handleBy (.ref a) X.env hds) (SP X pins D) X.xe t := by
  have ok := cc.inv.ok
  have ap := cc.apart hf
  induction hk with
  | @nil Wout tk =>
    refine wpAny_handleBy_nil ?_
    obtain ⟨u1, u2, u3, o1, v1, T1, oT, tT, g1, z1, f1, r1, r2⟩ := id cc.held
    unfold PySem.passOn
    refine wpAny_bind (wpAny_field g1 f1 r1 ?_)
    rw [if_neg (show ¬ ((Value.ref T1 == Value.none) = true) from by simp)]
    have go : wpAny (model X.prog X.w) X.A (setFlight (.ref a) X.env.frame) (fun _ s4 => wpAny (model X.prog X.w) X.A (throw (.ref a) : Sem Flow) (SP X pins D) X.xe s4) X.xe t := by
      rw [hf]
      refine HandSPX.setFlight_upZ cc.held fun h4 held4 up4 => wpAny_throw (tk _ _ ?_)
      exact ⟨a, B, sI, pins, σ, H, cls, d, rfl, cc.inv, cc.near, cc.upto.trans up4, .inr (.inr (by rw [hs]; exact held4)), cc.none, cc.os, cc.bare, w⟩
    first
      | exact wpAny_bind (wpAny_pure (wpAny_bind go))
      | exact wpAny_bind go
  | @plain x c ts b0 rest np ps hds2 W2 hc run more ih =>
    obtain ⟨b, hb, yes, no⟩ := w
    obtain ⟨o1, v1, g1, z1, f1⟩ := cc.held.there
    refine wpAny_handleBy_cons (codeAny_handlers_test ?_) (by intro q; cases q)
    have cl : PySem.W.Looks (model X.prog X.w) t.heap (typeOf (.ref a)) cls := fun A' Q' E' s' k' q' => wpAny_typeOf_ref (k' _ _ g1) (by rw [z1.1]; exact q')
    have said := PySem.W.exm_one (M := model X.prog X.w) (cc.now.kIn) cl hb
    refine asked (b := b) (k := fun _ => (throw .none : Sem Unit)) (Q := fun _ _ => True) hf cc hc (said.here ?_)
    cases b with
    | true =>
      refine codeAny_handlers_suite ?_
      refine HandSPX.lands_againZ cc.held fun h4 held4 up4 => ?_
      have c4 : Caught X pins σ H sI B a cls d { t with heap := h4 } := ⟨cc.inv, cc.near, cc.upto.trans up4, held4, cc.none, cc.os, cc.bare⟩
      obtain ⟨o4, v4, g4, z4, f4⟩ := held4.there
      have S4 := c4.now.suite g4 f4 cc.none ap.1 ap.2
      refine wpAny_mono ((run a o4 cls d (X.pn ++ pins) z4 ⟨_, f4⟩).run [] _ _ H _ S4 (yes rfl a cc.none)) (fun f s6 hsp => ?_) (fun _ _ z => z.elim)
      cases f with
      | next => exact let ⟨τ, G, S6, q6⟩ := hsp; ⟨τ, G, S6.unsuite ok, q6⟩
      | brk => exact let ⟨τ, G, S6, q6⟩ := hsp; ⟨τ, G, S6.unsuite ok, q6⟩
      | cont => exact let ⟨τ, G, S6, q6⟩ := hsp; ⟨τ, G, S6.unsuite ok, q6⟩
      | ret u => exact let ⟨v6, τ, G, S6, r6, q6⟩ := hsp; ⟨v6, τ, G, S6.unsuite ok, r6, q6⟩
    | false =>
      show wpAny _ X.A (handleBy (.ref a) X.env hds2) _ _ _
      exact ih (no rfl)
  | @named x n c i ts b0 rest np ps hds2 W2 hN hi hl hc run more ih =>
    obtain ⟨b, hb, yes, no⟩ := w
    obtain ⟨o1, v1, g1, z1, f1⟩ := cc.held.there
    refine wpAny_handleBy_cons (codeAny_handlers_test ?_) (by intro q; cases q)
    have cl : PySem.W.Looks (model X.prog X.w) t.heap (typeOf (.ref a)) cls := fun A' Q' E' s' k' q' => wpAny_typeOf_ref (k' _ _ g1) (by rw [z1.1]; exact q')
    have said := PySem.W.exm_one (M := model X.prog X.w) (cc.now.kIn) cl hb
    refine asked (b := b) (k := fun _ => (throw .none : Sem Unit)) (Q := fun _ _ => True) hf cc hc (said.here ?_)
    cases b with
    | true =>
      refine codeAny_handlers_suite_as ?_
      refine HandSPX.lands_againZ cc.held fun h4 held4 up4 => ?_
      have c4 : Caught X pins σ H sI B a cls d { t with heap := h4 } := ⟨cc.inv, cc.near, cc.upto.trans up4, held4, cc.none, cc.os, cc.bare⟩
      obtain ⟨o4, v4, g4, z4, f4⟩ := held4.there
      have S4 := c4.now.suite g4 f4 cc.none ap.1 ap.2
      refine store_ok (X := X.suite a ((a, o4) :: (X.pn ++ pins))) (v := .ref a) S4 hN hi (.inl hl) rfl (fun s5 S5 => ?_) (.inr hl)
      refine wpAny_mono ((run a o4 cls d (X.pn ++ pins) z4 ⟨_, f4⟩).run [] s5 _ H _ S5 (yes rfl a cc.none)) (fun f s6 hsp => ?_) (fun _ _ z => z.elim)
      have leave : ∀ {τ : St} {G : Hp} {Q : Shared → Prop}, Inv (X.suite a ((a, o4) :: (X.pn ++ pins))) [] τ G s6 → (∀ s7, Inv X pins (τ.set i .none) G s7 → Q s7) →
          wpAny (model X.prog X.w) X.A (do bindName X.env n .none; unbindBehindTheSuite X.env n ps) (fun _ s7 => Q s7) X.xe s6 := fun {τ G Q} S6 hq => gone_ok (S6.unsuite ok) hN hi hl hq
      cases f with
      | next => exact let ⟨τ, G, S6, q6⟩ := hsp; leave S6 fun s7 J7 => ⟨_, _, J7, q6⟩
      | brk => exact let ⟨τ, G, S6, q6⟩ := hsp; leave S6 fun s7 J7 => ⟨_, _, J7, q6⟩
      | cont => exact let ⟨τ, G, S6, q6⟩ := hsp; leave S6 fun s7 J7 => ⟨_, _, J7, q6⟩
      | ret u => exact let ⟨v6, τ, G, S6, r6, q6⟩ := hsp; leave S6 fun s7 J7 => ⟨_, _, _, J7, r6, q6⟩
    | false =>
      show wpAny _ X.A (handleBy (.ref a) X.env hds2) _ _ _
      exact ih (no rfl)
/-- try: body, except clauses -/
theorem ps_tryX {body : List Stmt} {h0 : ExceptHandler} {hds : List ExceptHandler} {W : Ends → WX} {tb : WX → TS} {pos : Pos} (hs : X.stack = X.env :: X.outer) (hf : X.env.frame = some X.env.locals) (hk : Clauses X (h0 :: hds) W)
    (hb : ∀ (W : WX) (pn : List (Addr × Obj)) (xe : Value → Shared → Prop), Takes (X.tr pn xe) W → PassesOwn (model X.prog X.w) X.A X.env xe → PSs (X.tr pn xe) body (tb W)) :
    PS X (.Try body (h0 :: hds) [] [] pos) (fun D σ H => tb (W D) D σ H) := by
  refine ⟨fun pins s σ H D I h => ?_⟩
  have ok := I.ok
  have stk : X.A.frames = some (X.env :: X.outer) := by rw [ok.frames, hs]
  refine wpAny_Try_except ?_
  have caught : Takes (X.tr (X.pn ++ pins) (fun e s1 => wpAny (model X.prog X.w) X.A (noteFrame e X.env) (fun _ s2 => wpAny (model X.prog X.w) X.A (setFlight e .none) (fun _ s3 => wpAny (model X.prog X.w) X.A (handleBy e X.env (h0 :: hds)) (SP X pins D) X.xe s3) X.xe s2) X.xe s1)) (W D) := by
    rintro u s' ⟨a, B, sI, p2, τ, G, cls, d, rfl, J, nb, up, sky, na, os, ag, w⟩
    have sky2 : Sky B (X.env :: X.outer) a (Zc cls d) X.env.locals s'.heap := by rw [← hs]; exact sky
    show wpAny (model X.prog X.w) X.A (noteFrame (.ref a) X.env) _ _ _
    refine Sky.land Zc.steady stk hf sky2 fun h3 held3 up3 => ?_
    exact clauses_ok (t := { s' with heap := h3 }) hs hf ⟨J.ofTry ok, nb, up.trans up3, held3, na, os, ag⟩ hk w
  refine wpAny_mono ((hb (W D) (X.pn ++ pins) _ caught PassesOwn.looking).run [] s σ H D (I.toTry _) h) (fun f s1 hsp => ?_) (fun e s1 he => he)
  cases f with
  | next => exact let ⟨τ, G, J, q⟩ := hsp; wpAny_execs_nil ⟨τ, G, J.ofTry ok, q⟩
  | brk => exact let ⟨τ, G, J, q⟩ := hsp; ⟨τ, G, J.ofTry ok, q⟩
  | cont => exact let ⟨τ, G, J, q⟩ := hsp; ⟨τ, G, J.ofTry ok, q⟩
  | ret u => exact let ⟨v, τ, G, J, r, q⟩ := hsp; ⟨v, τ, G, J.ofTry ok, r, q⟩
end
end L2
end
section
set_option maxRecDepth 100000
set_option maxHeartbeats 4000000
namespace Nc
open PySem PySem.Spec PyProof.Rows L2 Evl
/-! ### defs that may let an own error out -/
structure OkX (P : Program) (w : World) (K : PySem.W.Frag) (mg : Str → Option Value) (base : Heap) (k : Nat) (x : Str) (ps : List Str) (sp : Sp) : Prop where
  ex : ∃ f fd, mg x = some (.ref f) ∧ PySem.W.keepIn K (.ref f) = true ∧ FnOk P w K mg base (L2.CX P w) k f fd ps sp ∧ Binds K fd ps []
theorem Df.okX {P : Program} {w : World} {K : PySem.W.Frag} {mg : Str → Option Value} {base : Heap} {k : Nat} {x : Str} {st : Stmt} {ps : List Str} {sp : Sp} (D : Df K mg x st ps)
    (h : ∀ f fd, Fun K x x st f fd → FnOk P w K mg base (L2.CX P w) k f fd ps sp) : OkX P w K mg base k x ps sp := by
  obtain ⟨f, fd, g, F, b⟩ := D.ex
  exact ⟨f, fd, g, F.kp, h f fd F, b⟩
section
variable {X : Cx} {k : Nat} {x : Str} {ps : List Str} {sp : Sp} {e : Expr} {es : List Expr} {t : TA} {p pos : Pos} {W : WX}
/-- a call of such a def: what it lets out is wished of by W -/
theorem clX (D : OkX X.prog X.w X.K X.mg X.base k x ps sp) (hr : Room k X.A) (tk : Takes X W) (ha : PA X (e :: es) t) (hg : Gl X x := by rfl) (hdb : (x == ("__debug__" : Str)) = false := by decide)
    (he : starEach (e :: es) X.env = (false, eval e X.env) :: starEach es X.env := by rfl) (hpl : (backTo pos (starEach es X.env)).any (·.1) = false := by rfl) : PE X (.Call (.Name x p) (e :: es) [] pos) (tCallS sp (WE W) t) := by
  obtain ⟨f, fd, g, kp, F, b⟩ := D.ex
  exact pe_callS F hr hg g kp b (fun σ => passAt tk σ) ha hdb he hpl
end
/-- raise C(x), x in slot i: the error's own dict is new and holds x -/
def tRz (C : Addr) (f : Str) (i : Nat) (W : WX) : TS := fun _ σ H => ∃ v, σ[i]? = some (some v) ∧ ∀ d H2, H d = none → Ex H H2 → H2 d = some (.xd [(f, v)]) → W (.ref C) (some d) σ H2
theorem ps_rz {X : Cx} {C : Addr} {x f y : Str} {ps : List Str} {i : Nat} {W : WX} {q p pos pos' : Pos} (E : Er X.prog X.w X.K X.mg X.base x C f ps) (hc : X.calm = true) (tk : Takes X W) (hr : Room 3 X.A) (hv : PE X (.Name y q) (tVar i)) (hg : Gl X x := by rfl) (hdb : (x == ("__debug__" : Str)) = false := by decide)
    (he : starEach [.Name y q] X.env = (false, eval (.Name y q) X.env) :: starEach [] X.env := by rfl) (hpl : (backTo pos (starEach [] X.env)).any (·.1) = false := by rfl) :
    PS X (.Raise (some (.Call (.Name x p) [.Name y q] [] pos)) none pos') (tRz C f i W) := by
  obtain ⟨fI, fd, iC, tI, G, hb⟩ := E.ini
  refine ⟨fun pins s σ H D I h => ?_⟩
  obtain ⟨v, hσ, k⟩ := h
  refine (ps_raise hc tk (pmk_oex (CX := CX0) (dvs := []) E.ec.oex iC tI G hr hb .nil pass0 hg E.gm (pa_cons hv pa_nil) hdb he hpl)).run pins s σ H D I ?_
  refine ⟨v, hσ, (by show 1 ≤ 1000; decide), fun a ha => ⟨a, v, rfl, E.ec.oex, E.no, upd_same, fun dx h1 h2 => ⟨rfl, dx, [(f, v)], upd_same, by rw [upd_ne h2]; exact upd_same, ?_, ?_⟩⟩⟩
  · rwa [upd_ne h2] at h1
  · have hd : H dx = none := by rwa [upd_ne h2] at h1
    refine k dx _ hd (fun b o hb => ?_) upd_same
    have b1 := ne_of_none hb hd
    have b2 := ne_of_none hb ha
    rw [upd_ne b1, del_ne b2, upd_ne b2, upd_ne b1, upd_ne b2]
    exact hb
/-! ### data that stays beside the stream -/
mutual
inductive Dz (K : PySem.W.Frag) (s : Addr) (H : Hp) : V → PyData → Prop
  | non : Dz K s H .non .none
  | bl (b : Bool) : Dz K s H (.bl b) (.bool b)
  | int (i : Int) : Dz K s H (.int i) (.int i)
  | str (x : Str) : Dz K s H (.str x) (.str x)
  | lst {a : Addr} {xs : List V} {ds : List PyData} : a ≠ s → H a = some (.lst xs) → DzA K s H xs ds → Dz K s H (.ref a) (.list ds)
  | tup {a : Addr} {xs : List V} {ds : List PyData} : SqT K H a xs → DzA K s H xs ds → Dz K s H (.ref a) (.tuple ds)
inductive DzA (K : PySem.W.Frag) (s : Addr) (H : Hp) : List V → List PyData → Prop
  | nil : DzA K s H [] []
  | cons {v : V} {vs : List V} {d : PyData} {ds : List PyData} : Dz K s H v d → DzA K s H vs ds → DzA K s H (v :: vs) (d :: ds)
end
section
variable {K : PySem.W.Frag} {s : Addr} {H H' : Hp}
mutual
theorem Dz.dk (h0 : Lst s H) (r : Dk s H H') : ∀ (d : PyData) (v : V), Dz K s H v d → Dz K s H' v d
  | .none, _, h => by cases h; exact .non
  | .bool b, _, h => by cases h; exact .bl b
  | .int i, _, h => by cases h; exact .int i
  | .str x, _, h => by cases h; exact .str x
  | .list ds, _, h => by
    cases h with
    | lst n q p => exact .lst n (r.keep _ _ n q) (DzA.dk h0 r ds _ p)
  | .tuple ds, _, h => by
    cases h with
    | tup q p => exact .tup (sqt_dk h0 r q) (DzA.dk h0 r ds _ p)
  | .dict _, _, h => by cases h
theorem DzA.dk (h0 : Lst s H) (r : Dk s H H') : ∀ (ds : List PyData) (vs : List V), DzA K s H vs ds → DzA K s H' vs ds
  | [], _, h => by cases h; exact .nil
  | d :: ds, _, h => by
    cases h with
    | cons p q => exact .cons (Dz.dk h0 r d _ p) (DzA.dk h0 r ds _ q)
end
mutual
theorem Dz.ex (r : Ex H H') : ∀ (d : PyData) (v : V), Dz K s H v d → Dz K s H' v d
  | .none, _, h => by cases h; exact .non
  | .bool b, _, h => by cases h; exact .bl b
  | .int i, _, h => by cases h; exact .int i
  | .str x, _, h => by cases h; exact .str x
  | .list ds, _, h => by
    cases h with
    | lst n q p => exact .lst n (r _ _ q) (DzA.ex r ds _ p)
  | .tuple ds, _, h => by
    cases h with
    | tup q p => exact .tup (ex_t r q) (DzA.ex r ds _ p)
  | .dict _, _, h => by cases h
theorem DzA.ex (r : Ex H H') : ∀ (ds : List PyData) (vs : List V), DzA K s H vs ds → DzA K s H' vs ds
  | [], _, h => by cases h; exact .nil
  | d :: ds, _, h => by
    cases h with
    | cons p q => exact .cons (Dz.ex r d _ p) (DzA.ex r ds _ q)
end
mutual
theorem Dz.dp : ∀ (d : PyData) (v : V), Dz K s H v d → Dp K H v d
  | .none, _, h => by cases h; exact .non
  | .bool b, _, h => by cases h; exact .bl b
  | .int i, _, h => by cases h; exact .int i
  | .str x, _, h => by cases h; exact .str x
  | .list ds, _, h => by
    cases h with
    | lst n q p => exact .lst (sq_of q) (DzA.dp ds _ p)
  | .tuple ds, _, h => by
    cases h with
    | tup q p => exact .tup q (DzA.dp ds _ p)
  | .dict _, _, h => by cases h
theorem DzA.dp : ∀ (ds : List PyData) (vs : List V), DzA K s H vs ds → DpAll K H vs ds
  | [], _, h => by cases h; exact .nil
  | d :: ds, _, h => by
    cases h with
    | cons p q => exact .cons (Dz.dp d _ p) (DzA.dp ds _ q)
end
theorem DzA.app {xs ys : List V} {ds es : List PyData} (h : DzA K s H xs ds) (g : DzA K s H ys es) : DzA K s H (xs ++ ys) (ds ++ es) := by
  induction xs generalizing ds with
  | nil => cases h; exact g
  | cons x xs ih =>
    cases h with
    | cons p q => exact .cons p (ih q)
theorem DzA.len {xs : List V} {ds : List PyData} (h : DzA K s H xs ds) : xs.length = ds.length := by
  induction xs generalizing ds with
  | nil => cases h; rfl
  | cons x xs ih =>
    cases h with
    | cons p q => rw [List.length_cons, List.length_cons, ih q]
theorem DzA.drop {xs : List V} {ds : List PyData} (k : Nat) (h : DzA K s H xs ds) : DzA K s H (xs.drop k) (ds.drop k) := by
  induction k generalizing xs ds with
  | zero => exact h
  | succ k ih =>
    cases h with
    | nil => exact .nil
    | cons p q => exact ih q
theorem DzA.take {xs : List V} {ds : List PyData} (k : Nat) (h : DzA K s H xs ds) : DzA K s H (xs.take k) (ds.take k) := by
  induction k generalizing xs ds with
  | zero => exact .nil
  | succ k ih =>
    cases h with
    | nil => exact .nil
    | cons p q => exact .cons p (ih q)
end
/-! ### sizes of what is shown -/
structure Sw (d : PyData) (b k : Nat) : Prop where
  sh : d.showable = true
  nd : d.hasDict = false
  lv : d.leavesShort 92 = true
  bk : d.bulk ≤ b
  dp : d.depth ≤ k
structure SwA (ds : List PyData) (b k : Nat) : Prop where
  sh : PyData.showableAll ds = true
  nd : PyData.hasDictAll ds = false
  lv : PyData.leavesShortAll 92 ds = true
  bk : PyData.bulkAll ds ≤ b
  dp : PyData.depthAll ds ≤ k
theorem swa_nil (k : Nat) : SwA [] 0 k := ⟨rfl, rfl, rfl, Nat.le_refl _, Nat.zero_le _⟩
theorem swa_cons {d : PyData} {ds : List PyData} {b B k : Nat} (h : Sw d b k) (g : SwA ds B k) : SwA (d :: ds) (b + B + 1) k := by
  obtain ⟨a1, a2, a3, a4, a5⟩ := h
  obtain ⟨b1, b2, b3, b4, b5⟩ := g
  refine ⟨?_, ?_, ?_, ?_, ?_⟩
  · simp only [PyData.showableAll, a1, b1, Bool.and_self]
  · simp only [PyData.hasDictAll, a2, b2, Bool.or_self]
  · simp only [PyData.leavesShortAll, a3, b3, Bool.and_self]
  · simp only [PyData.bulkAll]
    omega
  · simp only [PyData.depthAll]
    omega
theorem sw_tup {ds : List PyData} {b k : Nat} (h : SwA ds b k) : Sw (.tuple ds) b (k + 1) := by
  obtain ⟨b1, b2, b3, b4, b5⟩ := h
  refine ⟨b1, b2, b3, b4, ?_⟩
  show PyData.depthAll ds + 1 ≤ k + 1
  omega
theorem sw_lst {ds : List PyData} {b k : Nat} (h : SwA ds b k) : Sw (.list ds) b (k + 1) := by
  obtain ⟨b1, b2, b3, b4, b5⟩ := h
  refine ⟨b1, b2, b3, b4, ?_⟩
  show PyData.depthAll ds + 1 ≤ k + 1
  omega
theorem Sw.mono {d : PyData} {b k b' k' : Nat} (h : Sw d b k) (hb : b ≤ b') (hk : k ≤ k') : Sw d b' k' := ⟨h.sh, h.nd, h.lv, Nat.le_trans h.bk hb, Nat.le_trans h.dp hk⟩
theorem SwA.mono {d : List PyData} {b k b' k' : Nat} (h : SwA d b k) (hb : b ≤ b') (hk : k ≤ k') : SwA d b' k' := ⟨h.sh, h.nd, h.lv, Nat.le_trans h.bk hb, Nat.le_trans h.dp hk⟩
theorem sw_lf {v : V} (h : Lf v) : Sw (lfD v) 4 0 := by
  obtain ⟨a1, a2, a3, a4, a5⟩ := h.sh
  exact ⟨a1, a2, a4, a5, by rw [a3]; exact Nat.le_refl _⟩
theorem Sw.rp {K : PySem.W.Frag} {H : Hp} {a : Addr} {d : PyData} {b k : Nat} (h : Sw d b k) (hd : Dp K H (.ref a) d) (hb : b ≤ 60) (hk : k ≤ 60) : Rp K H (.ref a) d.shown :=
  .dat hd h.sh h.nd (Nat.le_trans h.dp hk) (shown_fits h.lv (Nat.le_trans h.bk hb))
end Nc
end
section
set_option maxRecDepth 100000
set_option maxHeartbeats 400000
namespace K18
open PySem Evl Nc PyProof.Rows
open L2 hiding spCell
/-! ### the text -/
def topS (i : Nat) : Stmt := PySem.Challenge.pw_noughtcut_k18_corners_of_sums.main.body.getD i (.Pass ⟨0, 0, 0, 0⟩)
abbrev s_is_whole : Stmt := topS 7
theorem sc_is_whole : FnScope ["thing"] ["thing"] (defScope s_is_whole) := ⟨rfl, rfl, rfl, by decide +kernel, rfl, by decide +kernel, by decide +kernel⟩
abbrev s_is_fraction : Stmt := topS 8
theorem sc_is_fraction : FnScope ["thing", "top", "bottom"] ["thing"] (defScope s_is_fraction) := ⟨rfl, rfl, rfl, by decide +kernel, rfl, by decide +kernel, by decide +kernel⟩
abbrev s_is_row : Stmt := topS 9
theorem sc_is_row : FnScope ["thing", "many", "part"] ["thing", "many"] (defScope s_is_row) := ⟨rfl, rfl, rfl, by decide +kernel, rfl, by decide +kernel, by decide +kernel⟩
abbrev s_fraction_of : Stmt := topS 10
theorem sc_fraction_of : FnScope ["top", "bottom", "shared"] ["top", "bottom"] (defScope s_fraction_of) := ⟨rfl, rfl, rfl, by decide +kernel, rfl, by decide +kernel, by decide +kernel⟩
abbrev s_plus : Stmt := topS 11
theorem sc_plus : FnScope ["one", "other"] ["one", "other"] (defScope s_plus) := ⟨rfl, rfl, rfl, by decide +kernel, rfl, by decide +kernel, by decide +kernel⟩
abbrev s_times : Stmt := topS 12
theorem sc_times : FnScope ["one", "other"] ["one", "other"] (defScope s_times) := ⟨rfl, rfl, rfl, by decide +kernel, rfl, by decide +kernel, by decide +kernel⟩
abbrev s_is_less : Stmt := topS 13
theorem sc_is_less : FnScope ["one", "other"] ["one", "other"] (defScope s_is_less) := ⟨rfl, rfl, rfl, by decide +kernel, rfl, by decide +kernel, by decide +kernel⟩
abbrev s_weigh : Stmt := topS 14
theorem sc_weigh : FnScope ["row", "other", "total", "one", "by"] ["row", "other"] (defScope s_weigh) := ⟨rfl, rfl, rfl, by decide +kernel, rfl, by decide +kernel, by decide +kernel⟩
abbrev s_is_sum : Stmt := topS 16
theorem sc_is_sum : FnScope ["thing", "many", "row", "number"] ["thing", "many"] (defScope s_is_sum) := ⟨rfl, rfl, rfl, by decide +kernel, rfl, by decide +kernel, by decide +kernel⟩
abbrev s_sum_at : Stmt := topS 18
theorem sc_sum_at : FnScope ["one", "row", "weights", "number"] ["one", "row"] (defScope s_sum_at) := ⟨rfl, rfl, rfl, by decide +kernel, rfl, by decide +kernel, by decide +kernel⟩
abbrev s_is_box : Stmt := topS 21
theorem sc_is_box : FnScope ["thing", "part"] ["thing"] (defScope s_is_box) := ⟨rfl, rfl, rfl, by decide +kernel, rfl, by decide +kernel, by decide +kernel⟩
abbrev s_least_of : Stmt := topS 22
theorem sc_least_of : FnScope ["box", "one", "spot"] ["box", "one"] (defScope s_least_of) := ⟨rfl, rfl, rfl, by decide +kernel, rfl, by decide +kernel, by decide +kernel⟩
abbrev s_greatest_of : Stmt := topS 23
theorem sc_greatest_of : FnScope ["box", "one", "spot"] ["box", "one"] (defScope s_greatest_of) := ⟨rfl, rfl, rfl, by decide +kernel, rfl, by decide +kernel, by decide +kernel⟩
abbrev s_low_corner : Stmt := topS 24
theorem sc_low_corner : FnScope ["one", "weight"] ["one"] (defScope s_low_corner) := ⟨rfl, rfl, rfl, by decide +kernel, rfl, by decide +kernel, by decide +kernel⟩
abbrev s_high_corner : Stmt := topS 25
theorem sc_high_corner : FnScope ["one", "weight"] ["one"] (defScope s_high_corner) := ⟨rfl, rfl, rfl, by decide +kernel, rfl, by decide +kernel, by decide +kernel⟩
abbrev s_spot_at : Stmt := topS 26
theorem sc_spot_at : FnScope ["spans", "corner", "span", "end"] ["spans", "corner"] (defScope s_spot_at) := ⟨rfl, rfl, rfl, by decide +kernel, rfl, by decide +kernel, by decide +kernel⟩
abbrev s_check_box : Stmt := topS 27
theorem sc_check_box : FnScope ["thing"] ["thing"] (defScope s_check_box) := ⟨rfl, rfl, rfl, by decide +kernel, rfl, by decide +kernel, by decide +kernel⟩
abbrev s__check_sum : Stmt := topS 28
theorem sc__check_sum : FnScope ["box", "one"] ["box", "one"] (defScope s__check_sum) := ⟨rfl, rfl, rfl, by decide +kernel, rfl, by decide +kernel, by decide +kernel⟩
abbrev s__is_span : Stmt := topS 29
theorem sc__is_span : FnScope ["thing"] ["thing"] (defScope s__is_span) := ⟨rfl, rfl, rfl, by decide +kernel, rfl, by decide +kernel, by decide +kernel⟩
abbrev s__law_cell : Stmt := topS 31
theorem sc__law_cell : FnScope ["_law_script", "_law_k"] ["_law_script", "_law_k"] (defScope s__law_cell) := ⟨rfl, rfl, rfl, by decide +kernel, rfl, by decide +kernel, by decide +kernel⟩
abbrev s__law_stream : Stmt := topS 32
theorem sc__law_stream : FnScope ["_law_cell_here"] ["_law_cell_here"] (defScope s__law_stream) := ⟨rfl, rfl, rfl, by decide +kernel, rfl, by decide +kernel, by decide +kernel⟩
abbrev s__law_take : Stmt := topS 33
theorem sc__law_take : FnScope ["_law_stream_here", "_law_many", "_law_digit", "_law_number_here", "_law_high"] ["_law_stream_here", "_law_many"] (defScope s__law_take) := ⟨rfl, rfl, rfl, by decide +kernel, rfl, by decide +kernel, by decide +kernel⟩
abbrev s__law_common : Stmt := topS 34
theorem sc__law_common : FnScope ["_law_one", "_law_other"] ["_law_one", "_law_other"] (defScope s__law_common) := ⟨rfl, rfl, rfl, by decide +kernel, rfl, by decide +kernel, by decide +kernel⟩
abbrev s__law_fraction : Stmt := topS 35
theorem sc__law_fraction : FnScope ["_law_top", "_law_bottom", "_law_by"] ["_law_top", "_law_bottom"] (defScope s__law_fraction) := ⟨rfl, rfl, rfl, by decide +kernel, rfl, by decide +kernel, by decide +kernel⟩
abbrev s__law_plus : Stmt := topS 36
theorem sc__law_plus : FnScope ["_law_one", "_law_other"] ["_law_one", "_law_other"] (defScope s__law_plus) := ⟨rfl, rfl, rfl, by decide +kernel, rfl, by decide +kernel, by decide +kernel⟩
abbrev s__law_times : Stmt := topS 37
theorem sc__law_times : FnScope ["_law_one", "_law_other"] ["_law_one", "_law_other"] (defScope s__law_times) := ⟨rfl, rfl, rfl, by decide +kernel, rfl, by decide +kernel, by decide +kernel⟩
abbrev s__law_less : Stmt := topS 38
theorem sc__law_less : FnScope ["_law_one", "_law_other"] ["_law_one", "_law_other"] (defScope s__law_less) := ⟨rfl, rfl, rfl, by decide +kernel, rfl, by decide +kernel, by decide +kernel⟩
abbrev s__law_weighed : Stmt := topS 39
theorem sc__law_weighed : FnScope ["_law_row_here", "_law_spot", "_law_total", "_law_one", "_law_other"] ["_law_row_here", "_law_spot"] (defScope s__law_weighed) := ⟨rfl, rfl, rfl, by decide +kernel, rfl, by decide +kernel, by decide +kernel⟩
abbrev s__law_number : Stmt := topS 40
theorem sc__law_number : FnScope ["_law_stream_here"] ["_law_stream_here"] (defScope s__law_number) := ⟨rfl, rfl, rfl, by decide +kernel, rfl, by decide +kernel, by decide +kernel⟩
abbrev s__law_box : Stmt := topS 41
theorem sc__law_box : FnScope ["_law_stream_here", "_law_found", "_law_k", "_law_low"] ["_law_stream_here"] (defScope s__law_box) := ⟨rfl, rfl, rfl, by decide +kernel, rfl, by decide +kernel, by decide +kernel⟩
abbrev s__law_row : Stmt := topS 42
theorem sc__law_row : FnScope ["_law_stream_here", "_law_many", "_law_k"] ["_law_stream_here", "_law_many"] (defScope s__law_row) := ⟨rfl, rfl, rfl, by decide +kernel, rfl, by decide +kernel, by decide +kernel⟩
abbrev s__law_told : Stmt := topS 43
theorem sc__law_told : FnScope ["_law_one", "_law_spot"] ["_law_one", "_law_spot"] (defScope s__law_told) := ⟨rfl, rfl, rfl, by decide +kernel, rfl, by decide +kernel, by decide +kernel⟩
abbrev s__law_corners : Stmt := topS 44
theorem sc__law_corners : FnScope ["_law_box_here", "_law_found", "_law_low", "_law_high", "_law_spot"] ["_law_box_here"] (defScope s__law_corners) := ⟨rfl, rfl, rfl, by decide +kernel, rfl, by decide +kernel, by decide +kernel⟩
abbrev s__law_due : Stmt := topS 45
theorem sc__law_due : FnScope ["_law_box_here", "_law_one", "_law_upwards", "_law_best", "_law_spot", "_law_told_here", "_law_weight", "_law_low", "_law_high", "_law_likes"] ["_law_box_here", "_law_one", "_law_upwards"] (defScope s__law_due) := ⟨rfl, rfl, rfl, by decide +kernel, rfl, by decide +kernel, by decide +kernel⟩
abbrev s__law_between : Stmt := topS 46
theorem sc__law_between : FnScope ["_law_stream_here", "_law_box_here", "_law_spot", "_law_low", "_law_high", "_law_by"] ["_law_stream_here", "_law_box_here"] (defScope s__law_between) := ⟨rfl, rfl, rfl, by decide +kernel, rfl, by decide +kernel, by decide +kernel⟩
abbrev s__law_said : Stmt := topS 47
theorem sc__law_said : FnScope ["_law_way", "_law_box_here", "_law_one", "_law_found", "e"] ["_law_way", "_law_box_here", "_law_one"] (defScope s__law_said) := ⟨rfl, rfl, rfl, by decide +kernel, rfl, by decide +kernel, by decide +kernel⟩
abbrev s__law_bad_sum : Stmt := topS 48
theorem sc__law_bad_sum : FnScope ["_law_stream_here", "_law_one", "_law_row_here", "_law_number_here", "_law_at", "_law_odd", "_law_some"] ["_law_stream_here", "_law_one"] (defScope s__law_bad_sum) := ⟨rfl, rfl, rfl, by decide +kernel, rfl, by decide +kernel, by decide +kernel⟩
abbrev s__law_right : Stmt := topS 49
theorem sc__law_right : FnScope ["_law_stream_here", "_law_box_here", "_law_one", "_law_way", "_law_found", "_law_told_here"] ["_law_stream_here", "_law_box_here", "_law_one"] (defScope s__law_right) := ⟨rfl, rfl, rfl, by decide +kernel, rfl, by decide +kernel, by decide +kernel⟩
abbrev s_law : Stmt := topS 50
theorem sc_law : FnScope ["_law_script", "_law_k", "_law_stream_here", "_law_box_here", "_law_turn", "_law_one", "_law_bad", "_law_odd", "_law_way"] ["_law_script"] (defScope s_law) := ⟨rfl, rfl, rfl, by decide +kernel, rfl, by decide +kernel, by decide +kernel⟩
abbrev s_CutError___init__ : Stmt := inClass (topS 2) 0
theorem sc_CutError___init__ : FnScope ["self", "text"] ["self", "text"] (defScope s_CutError___init__) := ⟨rfl, rfl, rfl, by decide +kernel, rfl, by decide +kernel, by decide +kernel⟩
abbrev s_NoBox___init__ : Stmt := inClass (topS 3) 0
theorem sc_NoBox___init__ : FnScope ["self", "found"] ["self", "found"] (defScope s_NoBox___init__) := ⟨rfl, rfl, rfl, by decide +kernel, rfl, by decide +kernel, by decide +kernel⟩
abbrev s_NoAim___init__ : Stmt := inClass (topS 4) 0
theorem sc_NoAim___init__ : FnScope ["self", "found"] ["self", "found"] (defScope s_NoAim___init__) := ⟨rfl, rfl, rfl, by decide +kernel, rfl, by decide +kernel, by decide +kernel⟩

end K18
end
section
set_option maxRecDepth 100000
set_option maxHeartbeats 400000
namespace K18
open PySem Evl Nc PyProof.Rows
open L2 hiding spCell
theorem both {W D n : Nat} (hp : 0 < W * D) (hlt : W * D < 2 ^ n) : 0 < W ∧ 0 < D ∧ W < 2 ^ n ∧ D < 2 ^ n := by
  have w0 : 0 < W := Nat.pos_of_ne_zero fun z => by rw [z, Nat.zero_mul] at hp; omega
  have d0 : 0 < D := Nat.pos_of_ne_zero fun z => by rw [z, Nat.mul_zero] at hp; omega
  exact ⟨w0, d0, Nat.lt_of_le_of_lt (Nat.le_mul_of_pos_right W d0) hlt, Nat.lt_of_le_of_lt (Nat.le_mul_of_pos_left D w0) hlt⟩
section
variable {P : Program} {w : World} {K : PySem.W.Frag} {mg : Str → Option Value} {base : Heap}
theorem ok_fraction_of (D : Df K mg "fraction_of" s_fraction_of ["top", "bottom"]) (mgcd : mg "gcd" = some (.builtin "math.gcd")) : Ok P w K mg base 1 "fraction_of" ["top", "bottom"] (spPart K) := by
  refine D.ok fun f fd F => F.ok sc_fraction_of (fun vs H Q E h => ?_) (fun cdv A outer s H vs Q E hr h => ?_)
  · obtain ⟨t, b, n, rfl, _⟩ := h
    rfl
  · obtain ⟨t, b, n, rfl, hb, hn, h0, h9, q⟩ := h
    refine ⟨_, pss_cons (ps_set (i := 2) sc_fraction_of.nd rfl (.inl rfl) (pe_callBfun cr_gcd (by rfl) mgcd (pa_cons (pv 0) (pa_cons (pv 1) pa_nil))))
      (pss_cons (ps_if (pt_cmpR op_lt (pv 1) pe_int (nomark _)) (pss_one (ps_set (i := 2) sc_fraction_of.nd rfl (.inl rfl) (pe_un un_neg (pv 2)))) pss_nil)
      (pss_one (ps_ret (pe_tup (pa_cons (pe_op op_fdivX (pv 0) (pv 2)) (pa_cons (pe_op op_fdivX (pv 1) (pv 2)) pa_nil)))))), ?_⟩
    have g1 := gcd_pos (t := t) hb
    have g2 := gcd_le (t := t) hb
    have dv : ∀ i : Int, (n ≤ 9000 ∨ i.natAbs < 2 ^ 13500) → CDivX i ((Nat.gcd t.natAbs b.natAbs : Nat) : Int) := fun i hi => wide_divX g1 (wide_le (by omega) g2 hn) h0 hi
    have dt := dv t (h9.imp id (·.2))
    have db := dv b (h9.imp id fun z => Nat.lt_of_lt_of_le hn (Nat.pow_le_pow_right (by decide) z.1))
    refine ⟨_, rfl, _, rfl, t, b, rfl, _, rfl, b, 0, rfl, rfl, _, rfl, ?_⟩
    rw [decide_eq_false (by omega : ¬ b < 0)]
    refine iteF ⟨_, rfl, _, rfl, t, _, rfl, rfl, dt, _, rfl, _, rfl, b, _, rfl, rfl, db, (by show 2 ≤ sizeLine; decide), fun p hp => ?_⟩
    exact q _ _ (Ex.new hp) (made (num_div hb) (den_div hb))
theorem ok_plus (D : Df K mg "plus" s_plus ["one", "other"]) (G : Ok P w K mg base 1 "fraction_of" ["top", "bottom"] (spPart K)) : Ok P w K mg base 2 "plus" ["one", "other"] (spPlus K) := by
  refine D.ok fun f fd F => F.ok sc_plus (fun vs H Q E h => ?_) (fun cdv A outer s H vs Q E hr h => ?_)
  · obtain ⟨x, y, r, s, n, d, m, e, rfl, _⟩ := h
    rfl
  · obtain ⟨x, y, r, s, n, d, m, e, rfl, hx, hy, ha, hb, ⟨n0, d0, m0, e0, hde, hnm⟩, q⟩ := h
    refine ⟨_, pss_one (ps_ret (cl G hr (pa_cons (pe_op op_add (pe_op op_mulBig (pe_ix ix_tup (pv 0) pe_int (fun _ _ => rfl)) (pe_ix ix_tup (pv 1) pe_int (fun _ _ => rfl))) (pe_op op_mulBig (pe_ix ix_tup (pv 1) pe_int (fun _ _ => rfl)) (pe_ix ix_tup (pv 0) pe_int (fun _ _ => rfl)))) (pa_cons (pe_op op_mulBig (pe_ix ix_tup (pv 0) pe_int (fun _ _ => rfl)) (pe_ix ix_tup (pv 1) pe_int (fun _ _ => rfl))) pa_nil)))), ?_⟩
    obtain ⟨t, rfl, h1⟩ := hx
    obtain ⟨u, rfl, h2⟩ := hy
    have hm1 := mulOk ha.1 hb.den
    have hm2 := mulOk hb.1 ha.den
    have hm3 := mulOk ha.den hb.den
    refine ⟨_, rfl, _, _, _, _, rfl, rfl, h1, at0, _, rfl, _, _, _, _, rfl, rfl, h2, at1, _, _, rfl, rfl, hm1, _, rfl, _, _, _, _, rfl, rfl, h2, at0, _, rfl, _, _, _, _, rfl, rfl, h1, at1, _, _, rfl, rfl, hm2, _, _, rfl, rfl, _, rfl, _, _, _, _, rfl, rfl, h1, at1, _, rfl, _, _, _, _, rfl, rfl, h2, at1, _, _, rfl, rfl, hm3, ?_⟩
    refine ⟨_, _, d + e, rfl, Int.mul_pos (den_pos r) (den_pos s), lt_mul ha.den hb.den, by omega, big_add ha hb hde, fun v H' e hv => ?_⟩
    rw [add_is] at hv
    exact q v H' e hv
theorem ok_times (D : Df K mg "times" s_times ["one", "other"]) (G : Ok P w K mg base 1 "fraction_of" ["top", "bottom"] (spPart K)) : Ok P w K mg base 2 "times" ["one", "other"] (spTimes K) := by
  refine D.ok fun f fd F => F.ok sc_times (fun vs H Q E h => ?_) (fun cdv A outer s H vs Q E hr h => ?_)
  · obtain ⟨x, y, r, s, n, d, m, e, rfl, _⟩ := h
    rfl
  · obtain ⟨x, y, r, s, n, d, m, e, rfl, hx, hy, ha, hb, ⟨n0, d0, m0, e0, hde, hnm⟩, q⟩ := h
    refine ⟨_, pss_one (ps_ret (cl G hr (pa_cons (pe_op op_mulBig (pe_ix ix_tup (pv 0) pe_int (fun _ _ => rfl)) (pe_ix ix_tup (pv 1) pe_int (fun _ _ => rfl))) (pa_cons (pe_op op_mulBig (pe_ix ix_tup (pv 0) pe_int (fun _ _ => rfl)) (pe_ix ix_tup (pv 1) pe_int (fun _ _ => rfl))) pa_nil)))), ?_⟩
    obtain ⟨t, rfl, h1⟩ := hx
    obtain ⟨u, rfl, h2⟩ := hy
    have hm1 := mulOk ha.1 hb.1
    have hm3 := mulOk ha.den hb.den
    refine ⟨_, rfl, _, _, _, _, rfl, rfl, h1, at0, _, rfl, _, _, _, _, rfl, rfl, h2, at0, _, _, rfl, rfl, hm1, _, rfl, _, _, _, _, rfl, rfl, h1, at1, _, rfl, _, _, _, _, rfl, rfl, h2, at1, _, _, rfl, rfl, hm3, ?_⟩
    refine ⟨_, _, d + e, rfl, Int.mul_pos (den_pos r) (den_pos s), lt_mul ha.den hb.den, by omega, big_mul ha hb hde, fun v H' e hv => ?_⟩
    rw [mul_is] at hv
    exact q v H' e hv
theorem ok__law_common (D : Df K mg "_law_common" s__law_common ["_law_one", "_law_other"]) : Ok P w K mg base 1 "_law_common" ["_law_one", "_law_other"] spCommon := by
  refine D.ok fun f fd F => F.ok sc__law_common (fun vs H Q E h => ?_) (fun cdv A outer s H vs Q E hr h => ?_)
  · obtain ⟨t, b, rfl, _⟩ := h
    rfl
  · obtain ⟨t, b, rfl, ht, hb, q⟩ := h
    refine ⟨_, pss_cons (ps_while PassesOwn.never (pt_cmpR op_ne (pv 1) pe_int (nomark _)) (pss_one (ps_par (i := 0) (j := 1) rfl sc__law_common.nd rfl rfl (by decide) rfl rfl (pa_cons (pv 1) (pa_cons (pe_op op_mod (pv 0) (pv 1)) pa_nil)) (by rfl))))
      (pss_one (ps_ret (pv 0))), ?_⟩
    refine ⟨fun m σ H' => ∃ a c : Int, σ = [some (.int a), some (.int c)] ∧ 0 ≤ a ∧ 0 ≤ c ∧ m = c.toNat ∧ Nat.gcd a.natAbs c.natAbs = Nat.gcd t.natAbs b.natAbs ∧ H' = H,
      ⟨b.toNat, t, b, rfl, ht, by omega, rfl, rfl, rfl⟩, ?_⟩
    rintro m σ H' ⟨a, c, rfl, ha, hc, rfl, hg, rfl⟩
    refine ⟨_, rfl, rfl, _, rfl, ?_⟩
    by_cases hc0 : c = 0
    · subst hc0
      rw [decide_eq_true rfl]
      refine iteF ?_
      have ea : a = ((Nat.gcd t.natAbs b.natAbs : Nat) : Int) := by
        rw [← hg]
        simp
        omega
      subst ea
      exact ⟨_, rfl, q⟩
    · rw [decide_eq_false (fun z => hc0 (V.int.inj z))]
      refine iteT ?_
      have hc1 : 0 < c := by omega
      refine ⟨fun σ' H'' => σ' = [some (.int c), some (.int (a % c))] ∧ H'' = H', ?_, ?_⟩
      · rintro σ' H'' ⟨rfl, rfl⟩
        have z1 := Int.emod_nonneg a (b := c) (by omega)
        have z2 := Int.emod_lt_of_pos a hc1
        exact ⟨(a % c).toNat, by omega, c, a % c, rfl, by omega, z1, rfl, (gcd_step ha hc1).trans hg, rfl⟩
      · exact ⟨_, rfl, _, rfl, _, rfl, a, c, rfl, rfl, hc1, _, _, rfl, rfl, rfl⟩
theorem ok__law_fraction (D : Df K mg "_law_fraction" s__law_fraction ["_law_top", "_law_bottom"]) (GC : Ok P w K mg base 1 "_law_common" ["_law_one", "_law_other"] spCommon) (mabs : mg "abs" = none) : Ok P w K mg base 2 "_law_fraction" ["_law_top", "_law_bottom"] (spPart K) := by
  refine D.ok fun f fd F => F.ok sc__law_fraction (fun vs H Q E h => ?_) (fun cdv A outer s H vs Q E hr h => ?_)
  · obtain ⟨t, b, n, rfl, _⟩ := h
    rfl
  · obtain ⟨t, b, n, rfl, hb, hn, h0, h9, q⟩ := h
    refine ⟨_, pss_cons (ps_set (i := 2) sc__law_fraction.nd rfl (.inl rfl) (cl GC hr (pa_cons (pe_callB call_abs (by rfl) mabs (by decide +kernel) (pa_cons (pv 0) pa_nil)) (pa_cons (pv 1) pa_nil))))
      (pss_one (ps_ret (pe_tup (pa_cons (pe_op op_fdivX (pv 0) (pv 2)) (pa_cons (pe_op op_fdivX (pv 1) (pv 2)) pa_nil))))), ?_⟩
    have g1 := gcd_pos (t := t) hb
    have g2 := gcd_le (t := t) hb
    have dv : ∀ i : Int, (n ≤ 9000 ∨ i.natAbs < 2 ^ 13500) → CDivX i ((Nat.gcd t.natAbs b.natAbs : Nat) : Int) := fun i hi => wide_divX g1 (wide_le (by omega) g2 hn) h0 hi
    have dt := dv t (h9.imp id (·.2))
    have db := dv b (h9.imp id fun z => Nat.lt_of_lt_of_le hn (Nat.pow_le_pow_right (by decide) z.1))
    have ea : Nat.gcd (if t < 0 then -t else t).natAbs b.natAbs = Nat.gcd t.natAbs b.natAbs := by
      split
      · rw [Int.natAbs_neg]
      · rfl
    refine ⟨_, rfl, t, rfl, _, rfl, _, b, rfl, by split <;> omega, hb, ?_⟩
    rw [ea]
    refine ⟨_, rfl, _, rfl, t, _, rfl, rfl, dt, _, rfl, _, rfl, b, _, rfl, rfl, db, (by show 2 ≤ sizeLine; decide), fun p hp => ?_⟩
    exact q _ _ (Ex.new hp) (made (num_div hb) (den_div hb))
theorem ok__law_plus (D : Df K mg "_law_plus" s__law_plus ["_law_one", "_law_other"]) (G : Ok P w K mg base 2 "_law_fraction" ["_law_top", "_law_bottom"] (spPart K)) : Ok P w K mg base 3 "_law_plus" ["_law_one", "_law_other"] (spPlus K) := by
  refine D.ok fun f fd F => F.ok sc__law_plus (fun vs H Q E h => ?_) (fun cdv A outer s H vs Q E hr h => ?_)
  · obtain ⟨x, y, r, s, n, d, m, e, rfl, _⟩ := h
    rfl
  · obtain ⟨x, y, r, s, n, d, m, e, rfl, hx, hy, ha, hb, ⟨n0, d0, m0, e0, hde, hnm⟩, q⟩ := h
    refine ⟨_, pss_one (ps_ret (cl G hr (pa_cons (pe_op op_add (pe_op op_mulBig (pe_ix ix_tup (pv 0) pe_int (fun _ _ => rfl)) (pe_ix ix_tup (pv 1) pe_int (fun _ _ => rfl))) (pe_op op_mulBig (pe_ix ix_tup (pv 1) pe_int (fun _ _ => rfl)) (pe_ix ix_tup (pv 0) pe_int (fun _ _ => rfl)))) (pa_cons (pe_op op_mulBig (pe_ix ix_tup (pv 0) pe_int (fun _ _ => rfl)) (pe_ix ix_tup (pv 1) pe_int (fun _ _ => rfl))) pa_nil)))), ?_⟩
    obtain ⟨t, rfl, h1⟩ := hx
    obtain ⟨u, rfl, h2⟩ := hy
    have hm1 := mulOk ha.1 hb.den
    have hm2 := mulOk hb.1 ha.den
    have hm3 := mulOk ha.den hb.den
    refine ⟨_, rfl, _, _, _, _, rfl, rfl, h1, at0, _, rfl, _, _, _, _, rfl, rfl, h2, at1, _, _, rfl, rfl, hm1, _, rfl, _, _, _, _, rfl, rfl, h2, at0, _, rfl, _, _, _, _, rfl, rfl, h1, at1, _, _, rfl, rfl, hm2, _, _, rfl, rfl, _, rfl, _, _, _, _, rfl, rfl, h1, at1, _, rfl, _, _, _, _, rfl, rfl, h2, at1, _, _, rfl, rfl, hm3, ?_⟩
    refine ⟨_, _, d + e, rfl, Int.mul_pos (den_pos r) (den_pos s), lt_mul ha.den hb.den, by omega, big_add ha hb hde, fun v H' e hv => ?_⟩
    rw [add_is] at hv
    exact q v H' e hv
theorem ok__law_times (D : Df K mg "_law_times" s__law_times ["_law_one", "_law_other"]) (G : Ok P w K mg base 2 "_law_fraction" ["_law_top", "_law_bottom"] (spPart K)) : Ok P w K mg base 3 "_law_times" ["_law_one", "_law_other"] (spTimes K) := by
  refine D.ok fun f fd F => F.ok sc__law_times (fun vs H Q E h => ?_) (fun cdv A outer s H vs Q E hr h => ?_)
  · obtain ⟨x, y, r, s, n, d, m, e, rfl, _⟩ := h
    rfl
  · obtain ⟨x, y, r, s, n, d, m, e, rfl, hx, hy, ha, hb, ⟨n0, d0, m0, e0, hde, hnm⟩, q⟩ := h
    refine ⟨_, pss_one (ps_ret (cl G hr (pa_cons (pe_op op_mulBig (pe_ix ix_tup (pv 0) pe_int (fun _ _ => rfl)) (pe_ix ix_tup (pv 1) pe_int (fun _ _ => rfl))) (pa_cons (pe_op op_mulBig (pe_ix ix_tup (pv 0) pe_int (fun _ _ => rfl)) (pe_ix ix_tup (pv 1) pe_int (fun _ _ => rfl))) pa_nil)))), ?_⟩
    obtain ⟨t, rfl, h1⟩ := hx
    obtain ⟨u, rfl, h2⟩ := hy
    have hm1 := mulOk ha.1 hb.1
    have hm3 := mulOk ha.den hb.den
    refine ⟨_, rfl, _, _, _, _, rfl, rfl, h1, at0, _, rfl, _, _, _, _, rfl, rfl, h2, at0, _, _, rfl, rfl, hm1, _, rfl, _, _, _, _, rfl, rfl, h1, at1, _, rfl, _, _, _, _, rfl, rfl, h2, at1, _, _, rfl, rfl, hm3, ?_⟩
    refine ⟨_, _, d + e, rfl, Int.mul_pos (den_pos r) (den_pos s), lt_mul ha.den hb.den, by omega, big_mul ha hb hde, fun v H' e hv => ?_⟩
    rw [mul_is] at hv
    exact q v H' e hv
theorem ok_is_less (D : Df K mg "is_less" s_is_less ["one", "other"]) : Ok P w K mg base 1 "is_less" ["one", "other"] (spLess K) := by
  refine D.ok fun f fd F => F.ok sc_is_less (fun vs H Q E h => ?_) (fun cdv A outer s H vs Q E hr h => ?_)
  · obtain ⟨x, y, r, s, n, d, m, e, rfl, _⟩ := h
    rfl
  · obtain ⟨x, y, r, s, n, d, m, e, rfl, hx, hy, ha, hb, ⟨n0, d0, m0, e0, hnm⟩, q⟩ := h
    refine ⟨_, pss_one (ps_ret (pe_cmpR op_lt (pe_op op_mulBig (pe_ix ix_tup (pv 0) pe_int (fun _ _ => rfl)) (pe_ix ix_tup (pv 1) pe_int (fun _ _ => rfl))) (pe_op op_mulBig (pe_ix ix_tup (pv 1) pe_int (fun _ _ => rfl)) (pe_ix ix_tup (pv 0) pe_int (fun _ _ => rfl))) (nomark _))), ?_⟩
    obtain ⟨t, rfl, h1⟩ := hx
    obtain ⟨u, rfl, h2⟩ := hy
    exact ⟨_, rfl, _, _, _, _, rfl, rfl, h1, at0, _, rfl, _, _, _, _, rfl, rfl, h2, at1, _, _, rfl, rfl, mulOk ha.1 hb.den, _, rfl, _, _, _, _, rfl, rfl, h2, at0, _, rfl, _, _, _, _, rfl, rfl, h1, at1, _, _, rfl, rfl, mulOk hb.1 ha.den, _, _, rfl, rfl, q⟩
theorem ok__law_less (D : Df K mg "_law_less" s__law_less ["_law_one", "_law_other"]) : Ok P w K mg base 1 "_law_less" ["_law_one", "_law_other"] (spLess K) := by
  refine D.ok fun f fd F => F.ok sc__law_less (fun vs H Q E h => ?_) (fun cdv A outer s H vs Q E hr h => ?_)
  · obtain ⟨x, y, r, s, n, d, m, e, rfl, _⟩ := h
    rfl
  · obtain ⟨x, y, r, s, n, d, m, e, rfl, hx, hy, ha, hb, ⟨n0, d0, m0, e0, hnm⟩, q⟩ := h
    refine ⟨_, pss_one (ps_ret (pe_cmpR op_lt (pe_op op_mulBig (pe_ix ix_tup (pv 0) pe_int (fun _ _ => rfl)) (pe_ix ix_tup (pv 1) pe_int (fun _ _ => rfl))) (pe_op op_mulBig (pe_ix ix_tup (pv 1) pe_int (fun _ _ => rfl)) (pe_ix ix_tup (pv 0) pe_int (fun _ _ => rfl))) (nomark _))), ?_⟩
    obtain ⟨t, rfl, h1⟩ := hx
    obtain ⟨u, rfl, h2⟩ := hy
    exact ⟨_, rfl, _, _, _, _, rfl, rfl, h1, at0, _, rfl, _, _, _, _, rfl, rfl, h2, at1, _, _, rfl, rfl, mulOk ha.1 hb.den, _, rfl, _, _, _, _, rfl, rfl, h2, at0, _, rfl, _, _, _, _, rfl, rfl, h1, at1, _, _, rfl, rfl, mulOk hb.1 ha.den, _, _, rfl, rfl, q⟩
theorem okB_weigh (D : Df K mg "weigh" s_weigh ["row", "other"]) (CN : Cst K mg "NOUGHT" 0) (mzip : mg "zip" = none) (GP : Ok P w K mg base 2 "plus" ["one", "other"] (spPlus K)) (GT : Ok P w K mg base 2 "times" ["one", "other"] (spTimes K)) : Ok P w K mg base 3 "weigh" ["row", "other"] (spWeighB K) := by
  refine D.ok fun f fd F => F.ok sc_weigh (fun vs H Q E h => ?_) (fun cdv A outer s H vs Q E hr h => ?_)
  · obtain ⟨x, y, rs, ss, v, D, u, E, k, b, rfl, _⟩ := h
    rfl
  · obtain ⟨x, y, rs, ss, vv, D, uu, E, kk, bb, rfl, ⟨tx, xs, rfl, qx, lx⟩, ⟨ty, ys, rfl, qy, ly⟩, hl, h4, hn, hm, hp, hlt, hv0, hu0, hvu, ⟨b0, hkb⟩, q⟩ := h
    obtain ⟨w0, d0, wl, dl⟩ := both hp hlt
    obtain ⟨aN, gN, hN⟩ := CN.ex
    refine ⟨_, pss_cons (ps_set (i := 2) sc_weigh.nd rfl (.inl rfl) (pe_glob (v := .ref aN) (by rfl) gN rfl))
      (pss_cons (ps_for PassesOwn.never rfl (RZ.pi_zipA (by rfl) mzip (pa_cons (pv 0) (pa_cons (pv 1) pa_nil))) (pg_tup rfl (pgs_cons (pg_name (i := 3) sc_weigh.nd rfl (.inl rfl)) (pgs_cons (pg_name (i := 4) sc_weigh.nd rfl (.inl rfl)) pgs_nil)))
        (pss_one (ps_set (i := 2) sc_weigh.nd rfl (.inl rfl) (cl GP hr (pa_cons (pv 2) (pa_cons (cl GT hr (pa_cons (pv 3) (pa_cons (pv 4) pa_nil))) pa_nil))))))
      (pss_one (ps_ret (pv 2)))), ?_⟩
    have e0 := Ex.refl H
    have z0 : FrV K H (.ref aN) (weighs ((rs.zip ss).take 0)) := hN H
    have lx' := Paired.length lx
    have ly' := Paired.length ly
    refine ⟨_, rfl, _, rfl, tx, ty, xs, ys, rfl, .inr ⟨ex_t e0 qx, ex_t e0 qy, RZ.for_zipT (by omega) (fun i σ H' => ∃ (v : V) (o3 o4 : Option V), σ = [some (.ref tx), some (.ref ty), some v, o3, o4] ∧ Ex H H' ∧ FrV K H' v (weighs ((rs.zip ss).take i)))
      ⟨_, none, none, rfl, e0, z0⟩ (fun i σ H' ⟨_, _, _, _, e1, _⟩ => ⟨ex_t e1 qx, ex_t e1 qy⟩) ?_ ?_⟩⟩
    · rintro i x y T σ H' hx hy ⟨v, o3, o4, rfl, e1, hv⟩ hT
      obtain ⟨r, hr1, fr⟩ := pget lx hx
      obtain ⟨u, hu1, fu⟩ := pget ly hy
      have hzip : (rs.zip ss)[i]? = some (r, u) := by
        rw [List.getElem?_zip_eq_some]
        exact ⟨hr1, hu1⟩
      have hi : i < rs.length := (List.getElem?_eq_some_iff.mp hr1).1
      have szr := hn r (List.mem_of_getElem? hr1)
      have szu := hm u (List.mem_of_getElem? hu1)
      have szt : Sz (kk + bb) bb (weighs ((rs.zip ss).take i)) := by
        have h0 := bd_weighs (v := vv) (u := uu) hp (l := (rs.zip ss).take i) fun p hp' => ⟨hn _ (List.of_mem_zip (List.mem_of_mem_take hp')).1, hm _ (List.of_mem_zip (List.mem_of_mem_take hp')).2⟩
        refine (h0.mono ?_ (Nat.dvd_refl _)).sz hp hlt hvu
        refine Nat.mul_le_mul_right _ ?_
        rw [List.length_take, List.length_zip]
        omega
      have eT : Ex H' (upd H' T (.tup [x, y])) := Ex.new hT
      refine ⟨T, [x, y], rfl, st_of upd_same, rfl, x, [y], rfl, y, [], rfl, rfl, ?_⟩
      have sr : Sz (kk + bb) bb r := szr.sz w0 wl hv0
      have su : Sz (kk + bb) bb u := szu.sz d0 dl hu0
      have sp : Sz (kk + bb) bb (r * u) := (szr.mul szu).sz hp hlt (by omega)
      refine ⟨_, rfl, _, rfl, _, rfl, x, y, r, u, kk + bb, bb, kk + bb, bb, rfl, fr.ex (e1.trans eT), fu.ex (e1.trans eT), sr, su, ⟨by omega, by omega, by omega, by omega, by omega, by omega⟩, fun v2 H2 e2 hv2 => ?_⟩
      refine ⟨v, v2, _, _, kk + bb, bb, kk + bb, bb, rfl, hv.ex (eT.trans e2), hv2, szt, sp, ⟨by omega, by omega, by omega, by omega, by omega, by omega⟩, fun v3 H3 e3 hv3 => ?_⟩
      refine ⟨v3, some x, some y, rfl, ((e1.trans eT).trans e2).trans e3, ?_⟩
      rw [weighs_take hzip]
      exact hv3
    · rintro σ H' ⟨v, o3, o4, rfl, e1, hv⟩
      refine ⟨_, rfl, q v H' e1 ?_⟩
      rwa [List.take_of_length_le (by rw [List.length_zip]; omega)] at hv
theorem okB_sum_at (D : Df K mg "sum_at" s_sum_at ["one", "row"]) (GP : Ok P w K mg base 2 "plus" ["one", "other"] (spPlus K)) (GW : Ok P w K mg base 3 "weigh" ["row", "other"] (spWeighB K)) : Ok P w K mg base 4 "sum_at" ["one", "row"] (spTellsB K) := by
  refine D.ok fun f fd F => F.ok sc_sum_at (fun vs H Q E h => ?_) (fun cdv A outer s H vs Q E hr h => ?_)
  · obtain ⟨x, y, z, ss, v, c, D, u, E, F, k, b, rfl, _⟩ := h
    rfl
  · obtain ⟨x, y, z, ss, vv, cc, D, uu, E, F, kk, bb, rfl, ⟨t, a, b, rfl, qt, ra, fb⟩, ry, hl, h4, hn, hb, hm, hp, hdv, F0, hF, hv0, hu0, hvu, hc0, hcnd, q⟩ := h
    have hcn := hcnd
    obtain ⟨b0, hkb⟩ := hcnd
    refine ⟨_, pss_cons (ps_asg (pv 0) (pg_tup rfl (pgs_cons (pg_name (i := 2) sc_sum_at.nd rfl (.inl rfl)) (pgs_cons (pg_name (i := 3) sc_sum_at.nd rfl (.inl rfl)) pgs_nil))))
      (pss_one (ps_ret (cl GP (hr.mono (by decide)) (pa_cons (cl GW hr (pa_cons (pv 2) (pa_cons (pv 1) pa_nil))) (pa_cons (pv 3) pa_nil))))), ?_⟩
    refine ⟨_, rfl, t, [a, b], rfl, qt, rfl, a, [b], rfl, b, [], rfl, rfl, ?_⟩
    have hlt := Nat.lt_of_le_of_lt (Nat.le_of_dvd F0 hdv) hF
    refine ⟨_, rfl, _, rfl, a, y, z.1, ss, vv, D, uu, E, kk, bb, rfl, ra, ry, hl, h4, hn, hm, hp, hlt, hv0, hu0, hvu, hcn, fun v H2 e2 hv => ?_⟩
    have sw : Sz (kk + bb) bb (weighs (z.1.zip ss)) := by
      have h0 := bd_weighs (v := vv) (u := uu) hp (l := z.1.zip ss) fun p hp' => ⟨hn _ (List.of_mem_zip hp').1, hm _ (List.of_mem_zip hp').2⟩
      refine (h0.mono ?_ (Nat.dvd_refl _)).sz hp hlt hvu
      refine Nat.mul_le_mul_right _ ?_
      rw [List.length_zip]
      omega
    refine ⟨_, rfl, v, b, _, _, kk + bb, bb, kk + bb, bb, rfl, hv, fb.ex e2, sw, hb.sz F0 hF hc0, ⟨by omega, by omega, by omega, by omega, by omega, by omega⟩, fun v3 H3 e3 hv3 => ?_⟩
    exact q v3 H3 (e2.trans e3) hv3
end

end K18
end
section
set_option maxRecDepth 100000
set_option maxHeartbeats 400000
namespace K18
open PySem Evl Nc PyProof.Rows
open L2 hiding spCell
theorem pair_of_get' {α β : Type} {R : α → β → Prop} : ∀ {xs : List α} {ys : List β}, xs.length = ys.length → (∀ (k : Nat) x y, xs[k]? = some x → ys[k]? = some y → R x y) → Paired R xs ys
  | [], [], _, _ => .nil
  | x :: xs, y :: ys, h, f => .cons (f 0 x y rfl rfl) (pair_of_get' (by simpa using h) fun k a b h1 h2 => f (k + 1) a b (by simpa using h1) (by simpa using h2))
/-- a part of a box: a span, or not -/
def PtB (K : PySem.W.Frag) (H : Hp) (v : V) (b : Bool) : Prop := (b = true ∧ ∃ p, SpanV K H v p ∧ Bd 21 6 p.1 ∧ Bd 21 6 p.2 ∧ p.1 ≤ p.2) ∨ (b = false ∧ ∃ o, Rw K H v o ∧ rwB o 2 = false)
/-- whether a thing is a box -/
inductive BxT (K : PySem.W.Frag) (H : Hp) : V → Bool → Prop
  | oth {v k} (h : KdV K H v k) (n : k ≠ .tup) : BxT K H v false
  | len {t xs} (q : SqT K H t xs) (n : xs.length = 0 ∨ 3 < xs.length) : BxT K H (.ref t) false
  | parts {t xs bs} (q : SqT K H t xs) (l1 : 1 ≤ xs.length) (l3 : xs.length ≤ 3) (p : Paired (PtB K H) xs bs) : BxT K H (.ref t) (bs.all id)
/-- whether a thing is a sum of n -/
inductive SmT (K : PySem.W.Frag) (H : Hp) (n : Nat) : V → Bool → Prop
  | oth {v k} (h : KdV K H v k) (m : k ≠ .tup) : SmT K H n v false
  | len {t xs} (q : SqT K H t xs) (m : xs.length ≠ 2) : SmT K H n (.ref t) false
  | two {t r c f b} (q : SqT K H t [r, c]) (hr : Rw K H r f) (hc : Th K H c b) : SmT K H n (.ref t) (rwB f (n : Int) && b)
theorem rw_ex {K : PySem.W.Frag} {H H' : Hp} {v : V} {o : Option (List Bool)} (e : Ex H H') (h : Rw K H v o) : Rw K H' v o := by
  cases h with
  | oth h n => exact .oth (kd_ex e h) n
  | tup q p z => exact .tup (ex_t e q) (pmono (fun _ _ => th_exx e) p) z
theorem PtB.ex {K : PySem.W.Frag} {H H' : Hp} {v : V} {b : Bool} (e : Ex H H') (h : PtB K H v b) : PtB K H' v b := by
  rcases h with ⟨rfl, p, s, r⟩ | ⟨rfl, o, s, r⟩
  · exact .inl ⟨rfl, p, s.ex e, r⟩
  · exact .inr ⟨rfl, o, rw_ex e s, r⟩
theorem BxT.ex {K : PySem.W.Frag} {H H' : Hp} {v : V} {b : Bool} (e : Ex H H') (h : BxT K H v b) : BxT K H' v b := by
  cases h with
  | oth h n => exact .oth (kd_ex e h) n
  | len q n => exact .len (ex_t e q) n
  | parts q l1 l3 p => exact .parts (ex_t e q) l1 l3 (pmono (fun _ _ => PtB.ex e) p)
theorem SmT.ex {K : PySem.W.Frag} {H H' : Hp} {n : Nat} {v : V} {b : Bool} (e : Ex H H') (h : SmT K H n v b) : SmT K H' n v b := by
  cases h with
  | oth h n => exact .oth (kd_ex e h) n
  | len q n => exact .len (ex_t e q) n
  | two q hr hc => exact .two (ex_t e q) (rw_ex e hr) (th_exx e hc)
theorem sum_smt {K : PySem.W.Frag} {H : Hp} {v : V} {z : Sum2} (h : SumV K H v z) (hl : z.1.length ≤ 100) : SmT K H z.1.length v true := by
  obtain ⟨t, a, b, rfl, qt, ra, fb⟩ := h
  have e := SmT.two (n := z.1.length) qt (ra.rw hl) fb.th
  rwa [rwB_rep] at e
theorem box_bxt {K : PySem.W.Frag} {H : Hp} {v : V} {sp : List Span} (h : BoxV K 6 H v sp) : BxT K H v true := by
  obtain ⟨⟨a, xs, rfl, qa, pa⟩, l1, l3, hb, _, _⟩ := h
  have xl := Paired.length pa
  have qa : SqT K H a xs := qa
  have e := BxT.parts (bs := List.replicate xs.length true) qa (by omega) (by omega) (pair_of_get' (by simp) fun i x b hx hb' => by
    obtain ⟨p, hp, fp⟩ := pget pa hx
    have hm := List.mem_of_getElem? hp
    rw [List.getElem?_replicate] at hb'
    split at hb'
    · cases hb'
      exact .inl ⟨rfl, p, fp, (hb.bd p hm).1, (hb.bd p hm).2, hb.le p hm⟩
    · cases hb')
  rwa [show (List.replicate xs.length true).all id = true by simp] at e
section
variable {P : Program} {w : World} {K : PySem.W.Frag} {mg : Str → Option Value} {base : Heap}
theorem ok_is_whole (D : Df K mg "is_whole" s_is_whole ["thing"]) (misi : mg "isinstance" = none) (mint : mg "int" = none) (mbool : mg "bool" = none) : Ok P w K mg base 1 "is_whole" ["thing"] (spWh K) := by
  refine D.ok fun f fd F => F.ok sc_is_whole (fun vs H Q E h => ?_) (fun cdv A outer s H vs Q E hr h => ?_)
  · obtain ⟨v, k, rfl, _⟩ := h
    rfl
  · obtain ⟨v, k, rfl, hk, q⟩ := h
    refine ⟨_, pss_one (ps_ret (pe_and (pe_callB call_isi (by rfl) misi (by decide +kernel) (pa_cons (pv 0) (pa_cons (pe_bltn (v := .ty "int") (by rfl) mint (by decide +kernel) rfl) pa_nil))) (pe_one (pe_not (pe_callB call_isi (by rfl) misi (by decide +kernel) (pa_cons (pv 0) (pa_cons (pe_bltn (v := .ty "bool") (by rfl) mbool (by decide +kernel) rfl) pa_nil))))))), ?_⟩
    refine ⟨_, rfl, v, _, _, _, _, rfl, .ty _, hk.1, kit_ty (kd_int k), _, rfl, ifB (fun e => ?_) (fun e => ?_)⟩
    · refine ⟨_, rfl, v, _, _, _, _, rfl, .ty _, hk.1, kit_ty (kd_bool k), _, rfl, ?_⟩
      cases k <;> first | exact q | exact absurd e (by decide)
    · cases k <;> first | exact q | exact absurd e (by decide)
theorem ok_is_fraction (D : Df K mg "is_fraction" s_is_fraction ["thing"]) (GW : Ok P w K mg base 1 "is_whole" ["thing"] (spWh K)) (misi : mg "isinstance" = none) (mtuple : mg "tuple" = none) (mlen : mg "len" = none) (mgcd : mg "gcd" = some (.builtin "math.gcd")) : Ok P w K mg base 2 "is_fraction" ["thing"] (spFr K) := by
  refine D.ok fun f fd F => F.ok sc_is_fraction (fun vs H Q E h => ?_) (fun cdv A outer s H vs Q E hr h => ?_)
  · obtain ⟨v, b, rfl, _⟩ := h
    rfl
  · obtain ⟨v, b, rfl, ht, q⟩ := h
    have hr1 : Room 1 _ := hr.mono (by decide)
    refine ⟨_, (pss_cons (ps_if (PW.pt (pw_or (pt_not (pt_val (pe_callB call_isi (by rfl) misi (by decide +kernel) (pa_cons (pv 0) (pa_cons (pe_bltn (v := .ty "tuple") (by rfl) mtuple (by decide +kernel) rfl) pa_nil))))) (pw_or1 (pt_cmpR op_ne (pe_callB call_len_seq (by rfl) mlen PySem.boot_len (pa_cons (pv 0) pa_nil)) pe_int (nomark _))))) (pss_one (ps_ret pe_bl)) pss_nil)
      (pss_cons (ps_asg (pv 0) (pg_tup rfl (pgs_cons (pg_name (i := 1) sc_is_fraction.nd rfl (.inl rfl)) (pgs_cons (pg_name (i := 2) sc_is_fraction.nd rfl (.inl rfl)) pgs_nil))))
      (pss_one (ps_ret (pe_and (cl GW hr1 (pa_cons (pv 1) pa_nil)) (pe_and (cl GW hr1 (pa_cons (pv 2) pa_nil)) (pe_and (pe_cmpR op_gt (pv 2) pe_int (nomark _)) (pe_one (pe_cmpR op_eq (pe_callBfun cr_gcd (by rfl) mgcd (pa_cons (pv 1) (pa_cons (pv 2) pa_nil))) pe_int (nomark _)))))))))), ?_⟩
    cases ht with
    | oth h n =>
      refine ⟨_, rfl, v, _, _, _, _, rfl, .ty _, h.1, kit_ty (kd_tup _), _, rfl, ?_⟩
      rw [decide_eq_false n]
      exact iteT (iteT q)
    | tupN qt n =>
      refine ⟨_, rfl, _, _, _, _, _, rfl, .ty _, tyT qt, kit_ty (r := true) (by decide +kernel), _, rfl, ?_⟩
      refine iteF ?_
      refine ⟨_, rfl, _, _, rfl, .inr qt, rfl, _, rfl, ifB (fun e => q) (fun e => ?_)⟩
      have e1 := eq_of_nd e
      exact (n (by omega)).elim
    | @two t x y kx ky qt hx hy n =>
      refine ⟨_, rfl, _, _, _, _, _, rfl, .ty _, tyT qt, kit_ty (r := true) (by decide +kernel), _, rfl, ?_⟩
      refine iteF ?_
      refine ⟨_, rfl, _, _, rfl, .inr qt, rfl, _, rfl, iteNS rfl ?_⟩
      refine ⟨_, rfl, t, [x, y], rfl, qt, rfl, x, [y], rfl, y, [], rfl, rfl, ?_⟩
      refine ⟨_, rfl, x, kx, rfl, hx, _, rfl, ifB (fun e => ?_) (fun e => q)⟩
      refine ⟨_, rfl, y, ky, rfl, hy, _, rfl, ifB (fun e2 => ?_) (fun e2 => q)⟩
      exact (n ⟨of_decide_eq_true e, of_decide_eq_true e2⟩).elim
    | @nums t a b qt =>
      refine ⟨_, rfl, _, _, _, _, _, rfl, .ty _, tyT qt, kit_ty (r := true) (by decide +kernel), _, rfl, ?_⟩
      refine iteF ?_
      refine ⟨_, rfl, _, _, rfl, .inr qt, rfl, _, rfl, iteNS rfl ?_⟩
      refine ⟨_, rfl, t, [.int a, .int b], rfl, qt, rfl, _, [_], rfl, _, [], rfl, rfl, ?_⟩
      refine ⟨_, rfl, _, .int, rfl, ⟨tyI a, fun _ => ⟨a, rfl⟩⟩, _, rfl, iteT ?_⟩
      refine ⟨_, rfl, _, .int, rfl, ⟨tyI b, fun _ => ⟨b, rfl⟩⟩, _, rfl, iteT ?_⟩
      refine ⟨_, rfl, _, _, rfl, rfl, _, rfl, ifB (fun e => ?_) (fun e => ?_)⟩
      · refine ⟨_, rfl, _, rfl, a, b, rfl, rfl, ?_⟩
        rw [e, Bool.true_and] at q
        exact q_bl q (dec_int _)
      · rw [e, Bool.false_and] at q
        exact q
theorem ok_is_row (D : Df K mg "is_row" s_is_row ["thing", "many"]) (GF : Ok P w K mg base 2 "is_fraction" ["thing"] (spFr K)) (misi : mg "isinstance" = none) (mtuple : mg "tuple" = none) (mlen : mg "len" = none) (mall : mg "all" = none) : Ok P w K mg base 3 "is_row" ["thing", "many"] (spIsRw K) := by
  refine D.ok fun f fd F => F.ok sc_is_row (fun vs H Q E h => ?_) (fun cdv A outer s H vs Q E hr h => ?_)
  · obtain ⟨v, k, f, rfl, _⟩ := h
    rfl
  · obtain ⟨v, k, f, rfl, hw, q⟩ := h
    refine ⟨_, (pss_cons (ps_if (PW.pt (pw_or (pt_not (pt_val (pe_callB call_isi (by rfl) misi (by decide +kernel) (pa_cons (pv 0) (pa_cons (pe_bltn (v := .ty "tuple") (by rfl) mtuple (by decide +kernel) rfl) pa_nil))))) (pw_or1 (pt_cmpR op_ne (pe_callB call_len_seq (by rfl) mlen PySem.boot_len (pa_cons (pv 0) pa_nil)) (pv 1) (nomark _))))) (pss_one (ps_ret pe_bl)) pss_nil)
      (pss_one (ps_ret (pe_callB (cr_all rfl) (by rfl) mall (by decide +kernel) (pa_cons (pe_lc (own := [("part", 2)]) (g := gName 2) (tt := tYes) rfl sc_is_row.nd (pi_tup (pv 0)) (blkOk_by (N := ["thing", "many", "part"]) (sc := defScope s_is_row) (by decide +kernel)) (fun _ _ _ _ _ => (pg_name (i := 2) sc_is_row.nd rfl (.inl rfl))) (fun _ _ _ _ _ => pts_nil) (fun _ _ _ _ _ => cl GF (hr.mono (by decide)) (pa_cons (pv 2) pa_nil))) pa_nil))))), ?_⟩
    cases hw with
    | oth h n =>
      refine ⟨_, rfl, v, _, _, _, _, rfl, .ty _, h.1, kit_ty (kd_tup _), _, rfl, ?_⟩
      rw [decide_eq_false n]
      exact iteT (iteT (q _ (Ex.refl H)))
    | @tup t xs bs qt p z =>
      have hl := Paired.length p
      refine ⟨_, rfl, _, _, _, _, _, rfl, .ty _, tyT qt, kit_ty (r := true) (by decide +kernel), _, rfl, iteF ?_⟩
      refine ⟨_, rfl, _, _, rfl, .inr qt, _, rfl, rfl, _, rfl, ifB (fun e => ?_) (fun e => ?_)⟩
      · refine q_bl (q _ (Ex.refl H)) ?_
        show _ = (decide ((bs.length : Int) = k) && bs.all id)
        rw [← hl, ne_of_nd e, Bool.false_and]
      · have e1 := eq_of_nd e
        subst e1
        refine ⟨_, rfl, t, rfl, ⟨_, qt⟩, fun D hD => ?_⟩
        refine lc_tup (K := K) (a := t) (xs := xs) (fun i H' => Ex H H' ∧ H' D = some (.lst ((bs.take i).map V.bl))) ⟨Ex.new hD, upd_same⟩ (fun i H' _ b => ex_t b.1 qt) ?_ ?_
        · rintro i x H' hi ⟨e1, k1⟩
          obtain ⟨b, hb, th⟩ := pget p hi
          have hlt := (List.getElem?_eq_some_iff.mp hi).1
          refine ⟨rfl, ?_⟩
          refine ⟨_, rfl, x, b, rfl, th_exx e1 th, _, k1, sz_lt (by rw [List.length_map, List.length_take]; omega), Ex.mut e1 hD, ?_⟩
          rw [List.take_add_one, hb, List.map_append]
          exact upd_same
        · rintro H1 ⟨e1, k1⟩
          refine ⟨D, bs, rfl, sq_of ?_, ?_⟩
          · rw [k1, List.take_of_length_le (by omega)]
          · refine q_bl (q _ e1) ?_
            show _ = (decide ((bs.length : Int) = (xs.length : Int)) && bs.all id)
            rw [decide_eq_true (by omega), Bool.true_and]
def spSumT18 (K : PySem.W.Frag) : Sp := fun vs H Q _ => ∃ (x : V) (n : Nat) (b : Bool), vs = [x, .int (n : Int)] ∧ SmT K H n x b ∧ ∀ H', Ex H H' → Q (.bl b) H'
def spSpanT (K : PySem.W.Frag) : Sp := fun vs H Q _ => ∃ (x : V) (b : Bool), vs = [x] ∧ PtB K H x b ∧ ∀ H', Ex H H' → Q (.bl b) H'
def spBoxT (K : PySem.W.Frag) : Sp := fun vs H Q _ => ∃ (x : V) (b : Bool), vs = [x] ∧ BxT K H x b ∧ ∀ H', Ex H H' → Q (.bl b) H'
theorem tyS {K : PySem.W.Frag} {H : Hp} {v : V} {k : Kn} (h : KdV K H v k) : TyX K H v (.type k.nm) := h.1
theorem ok_is_sum (D : Df K mg "is_sum" s_is_sum ["thing", "many"]) (GR : Ok P w K mg base 3 "is_row" ["thing", "many"] (spIsRw K)) (GF : Ok P w K mg base 2 "is_fraction" ["thing"] (spFr K)) (misi : mg "isinstance" = none) (mtuple : mg "tuple" = none) (mlen : mg "len" = none) : Ok P w K mg base 4 "is_sum" ["thing", "many"] (spSumT18 K) := by
  refine D.ok fun f fd F => F.ok sc_is_sum (fun vs H Q E h => ?_) (fun cdv A outer s H vs Q E hr h => ?_)
  · obtain ⟨x, n, b, rfl, _⟩ := h
    rfl
  · obtain ⟨x, n, b, rfl, hx, q⟩ := h
    have hr2 : Room 2 _ := hr.mono (by decide)
    refine ⟨_, (pss_cons (ps_if (PW.pt (pw_or (pt_not (pt_val (pe_callB call_isi (by rfl) misi (by decide +kernel) (pa_cons (pv 0) (pa_cons (pe_bltn (v := .ty "tuple") (by rfl) mtuple (by decide +kernel) rfl) pa_nil))))) (pw_or1 (pt_cmpR op_ne (pe_callB call_len_seq (by rfl) mlen PySem.boot_len (pa_cons (pv 0) pa_nil)) pe_int (nomark _))))) (pss_one (ps_ret pe_bl)) pss_nil)
      (pss_cons (ps_asg (pv 0) (pg_tup rfl (pgs_cons (pg_name (i := 2) sc_is_sum.nd rfl (.inl rfl)) (pgs_cons (pg_name (i := 3) sc_is_sum.nd rfl (.inl rfl)) pgs_nil))))
      (pss_one (ps_ret (pe_and (cl GR hr (pa_cons (pv 2) (pa_cons (pv 1) pa_nil))) (pe_one (cl GF hr2 (pa_cons (pv 3) pa_nil)))))))), ?_⟩
    cases hx with
    | @oth v k h m =>
      refine ⟨_, rfl, _, _, _, _, _, rfl, .ty _, h.1, kit_ty (kd_tup _), _, rfl, ?_⟩
      rw [decide_eq_false m]
      exact iteT (iteT (q H (Ex.refl H)))
    | @len t xs qt m =>
      refine ⟨_, rfl, _, _, _, _, _, rfl, .ty _, tyT qt, kit_ty (r := true) (by decide +kernel), _, rfl, iteF ?_⟩
      refine ⟨_, rfl, _, _, rfl, .inr qt, rfl, _, rfl, ite_nf (decide_eq_false (fun z => m (by have := V.int.inj z; omega))) (q H (Ex.refl H))⟩
    | @two t r c f b qt hr_ hc =>
      refine ⟨_, rfl, _, _, _, _, _, rfl, .ty _, tyT qt, kit_ty (r := true) (by decide +kernel), _, rfl, iteF ?_⟩
      refine ⟨_, rfl, _, _, rfl, .inr qt, rfl, _, rfl, iteNS rfl ?_⟩
      refine ⟨_, rfl, t, [r, c], rfl, qt, rfl, r, [c], rfl, c, [], rfl, rfl, ?_⟩
      refine ⟨_, rfl, _, rfl, r, _, _, rfl, hr_, fun H1 e1 => ⟨_, rfl, ?_⟩⟩
      cases hb : rwB f (n : Int) with
      | false =>
        rw [hb] at q
        exact iteF (q H1 e1)
      | true =>
        rw [hb, Bool.true_and] at q
        exact iteT ⟨_, rfl, c, b, rfl, th_exx e1 hc, q H1 e1⟩
theorem ok__is_span (D : Df K mg "_is_span" s__is_span ["thing"]) (GR : Ok P w K mg base 3 "is_row" ["thing", "many"] (spIsRw K)) (GL : Ok P w K mg base 1 "is_less" ["one", "other"] (spLess K)) : Ok P w K mg base 4 "_is_span" ["thing"] (spSpanT K) := by
  refine D.ok fun f fd F => F.ok sc__is_span (fun vs H Q E h => ?_) (fun cdv A outer s H vs Q E hr h => ?_)
  · obtain ⟨x, b, rfl, _⟩ := h
    rfl
  · obtain ⟨x, b, rfl, hx, q⟩ := h
    have hr1 : Room 1 _ := hr.mono (by decide)
    refine ⟨_, pss_one (ps_ret (pe_and (cl GR hr (pa_cons (pv 0) (pa_cons pe_int pa_nil))) (pe_one (pe_not (cl GL hr1 (pa_cons (pe_ix ix_tup (pv 0) pe_int (fun _ _ => rfl)) (pa_cons (pe_ix ix_tup (pv 0) pe_int (fun _ _ => rfl)) pa_nil))))))), ?_⟩
    rcases hx with ⟨rfl, p, hp, b1, b2, hle⟩ | ⟨rfl, o, ho, hb⟩
    · refine ⟨_, rfl, x, 2, _, rfl, hp.rw, fun H1 e1 => ⟨_, rfl, ?_⟩⟩
      rw [show rwB (some [true, true]) 2 = true from rfl]
      refine iteT ?_
      obtain ⟨t, a, b, rfl, qt, fa, fb⟩ := hp.ex e1
      have z1 : Sz (5 + 3) 3 p.1 := b1.sz (k := 5) (b := 3) (by decide) (by decide) (by decide)
      have z2 : Sz (5 + 3) 3 p.2 := b2.sz (k := 5) (b := 3) (by decide) (by decide) (by decide)
      refine ⟨_, rfl, _, _, _, _, rfl, rfl, qt, at1, _, rfl, _, _, _, _, rfl, rfl, qt, at0, b, a, p.2, p.1, 8, 3, 8, 3, rfl, fb, fa, z2, z1, ⟨by decide, by decide, by decide, by decide, by decide⟩, _, rfl, ?_⟩
      refine q_bl (q H1 e1) ?_
      rw [decide_eq_false]
      · rfl
      · intro z
        exact absurd hle (Rat.not_le.mpr ((Rat.lt_iff _ _).mpr z))
    · refine ⟨_, rfl, x, 2, _, rfl, ho, fun H1 e1 => ⟨_, rfl, ?_⟩⟩
      rw [hb]
      exact iteF (q H1 e1)
theorem ok_is_box (D : Df K mg "is_box" s_is_box ["thing"]) {tMP : Tok} (GS : Ok P w K mg base 4 "_is_span" ["thing"] (spSpanT K)) (mMP : mg "MOST_PLACES" = some (.int 3 tMP)) (misi : mg "isinstance" = none) (mtuple : mg "tuple" = none) (mlen : mg "len" = none) (mall : mg "all" = none) : Ok P w K mg base 5 "is_box" ["thing"] (spBoxT K) := by
  refine D.ok fun f fd F => F.ok sc_is_box (fun vs H Q E h => ?_) (fun cdv A outer s H vs Q E hr h => ?_)
  · obtain ⟨x, b, rfl, _⟩ := h
    rfl
  · obtain ⟨x, b, rfl, hx, q⟩ := h
    refine ⟨_, (pss_cons (ps_if (PW.pt (pw_or (pt_not (pt_val (pe_callB call_isi (by rfl) misi (by decide +kernel) (pa_cons (pv 0) (pa_cons (pe_bltn (v := .ty "tuple") (by rfl) mtuple (by decide +kernel) rfl) pa_nil))))) (pw_or1 (pt_not (pt_chain op_le op_le pe_int (pe_callB call_len_seq (by rfl) mlen PySem.boot_len (pa_cons (pv 0) pa_nil)) (pe_glob (v := .int 3) (by rfl) mMP ⟨_, rfl⟩)))))) (pss_one (ps_ret pe_bl)) pss_nil)
      (pss_one (ps_ret (pe_callB (cr_all rfl) (by rfl) mall (by decide +kernel) (pa_cons (pe_lc (own := [("part", 1)]) (g := gName 1) (tt := tYes) rfl sc_is_box.nd (pi_tup (pv 0)) (blkOk_by (N := ["thing", "part"]) (sc := defScope s_is_box) (by decide +kernel)) (fun _ _ _ _ _ => (pg_name (i := 1) sc_is_box.nd rfl (.inl rfl))) (fun _ _ _ _ _ => pts_nil) (fun _ _ _ _ _ => cl GS hr (pa_cons (pv 1) pa_nil))) pa_nil))))), ?_⟩
    cases hx with
    | @oth v k h m =>
      refine ⟨_, rfl, _, _, _, _, _, rfl, .ty _, h.1, kit_ty (kd_tup _), _, rfl, ?_⟩
      rw [decide_eq_false m]
      exact iteT (iteT (q H (Ex.refl H)))
    | @len t xs qt m =>
      refine ⟨_, rfl, _, _, _, _, _, rfl, .ty _, tyT qt, kit_ty (r := true) (by decide +kernel), _, rfl, iteF ?_⟩
      refine ⟨_, rfl, t, _, rfl, .inr qt, _, _, rfl, rfl, _, rfl, ?_⟩
      rcases m with m | m
      · exact ite_f (decide_eq_false (by omega)) ⟨_, rfl, iteT (q H (Ex.refl H))⟩
      · exact ite_t (decide_eq_true (by omega)) ⟨_, _, rfl, rfl, _, rfl, ite_nf (decide_eq_false (by omega)) (q H (Ex.refl H))⟩
    | @parts a xs bs qa l1 l3 pa =>
      have hxl := Paired.length pa
      refine ⟨_, rfl, _, _, _, _, _, rfl, .ty _, tyT qa, kit_ty (r := true) (by decide +kernel), _, rfl, iteF ?_⟩
      refine ⟨_, rfl, a, _, rfl, .inr qa, _, _, rfl, rfl, _, rfl, ite_t (decide_eq_true (by omega)) ⟨_, _, rfl, rfl, _, rfl, ite_nt (decide_eq_true (by omega)) ?_⟩⟩
      refine ⟨_, rfl, a, rfl, ⟨_, qa⟩, fun G hG => ?_⟩
      refine lc_tup (K := K) (a := a) (xs := xs) (fun j H' => Ex H H' ∧ H' G = some (.lst ((bs.take j).map V.bl))) ⟨Ex.new hG, upd_same⟩ (fun j H' _ b => ex_t b.1 qa) ?_ ?_
      · rintro j y H' hj ⟨e4, k4⟩
        obtain ⟨b, hb, fp⟩ := pget pa hj
        have hjl := (List.getElem?_eq_some_iff.mp hj).1
        refine ⟨rfl, ?_⟩
        refine ⟨_, rfl, y, b, rfl, fp.ex e4, fun H5 e5 => ⟨_, e5 _ _ k4, sz_lt (by simp; omega), Ex.mut (e4.trans e5) hG, ?_⟩⟩
        rw [List.take_add_one, hb, List.map_append]
        exact upd_same
      · rintro H5 ⟨e5, k5⟩
        rw [hxl, List.take_length] at k5
        refine ⟨G, bs, rfl, sq_of k5, q H5 e5⟩
theorem ok_low_corner (D : Df K mg "low_corner" s_low_corner ["one"]) (mtuple : mg "tuple" = none) : Ok P w K mg base 1 "low_corner" ["one"] (spCorner K fun r => decide (r.num < 0)) := by
  refine D.ok fun f fd F => F.ok sc_low_corner (fun vs H Q E h => ?_) (fun cdv A outer s H vs Q E hr h => ?_)
  · obtain ⟨x, z, rfl, _⟩ := h
    rfl
  · obtain ⟨x, z, rfl, ⟨t, a, b, rfl, qt, ⟨ta, xa, rfl, qa, pa⟩, fb⟩, hl, q⟩ := h
    refine ⟨_, pss_one (ps_ret (pe_callTy call_tuple_of (by rfl) mtuple (by decide +kernel) (pa_cons (pe_lc (own := [("weight", 1)]) (g := gName 1) (tt := tYes) rfl sc_low_corner.nd (pi_tup (pe_ix ix_tup (pv 0) pe_int (fun _ _ => rfl))) (blkOk_by (N := ["one", "weight"]) (sc := defScope s_low_corner) (by decide +kernel)) (fun _ _ _ _ _ => (pg_name (i := 1) sc_low_corner.nd rfl (.inl rfl))) (fun _ _ _ _ _ => pts_nil) (fun _ _ _ _ _ => pe_ifExp (pt_cmpR op_lt (pe_ix (ix_tK K) (pv 1) pe_int (fun _ _ => rfl)) pe_int (nomark _)) pe_int pe_int)) pa_nil))), ?_⟩
    have hlen := Paired.length pa
    refine ⟨_, rfl, _, _, _, _, rfl, rfl, qt, at0, ta, rfl, ⟨_, qa⟩, fun G hG => ?_⟩
    refine lc_tup (K := K) (a := ta) (xs := xa) (fun i H' => Ex H H' ∧ H' G = some (.lst ((z.1.take i).map fun r => V.int (bI (decide (r.num < 0)))))) ⟨Ex.new hG, upd_same⟩ (fun i H' _ b => ex_t b.1 qa) ?_ ?_
    · rintro i x H' hx ⟨e1, k1⟩
      obtain ⟨r, hr0, fr⟩ := pget pa hx
      obtain ⟨tx, rfl, qx⟩ := fr.ex e1
      have hi := (List.getElem?_eq_some_iff.mp hx).1
      have go : ∀ b : Bool, decide (r.num < 0) = b → ∃ acc, H' G = some (.lst acc) ∧ acc.length < sizeLine ∧ (Ex H (upd H' G (.lst (acc ++ [V.int (bI b)]))) ∧ upd H' G (.lst (acc ++ [V.int (bI b)])) G = some (.lst ((z.1.take (i + 1)).map fun r => V.int (bI (decide (r.num < 0)))))) := by
        intro b hb
        refine ⟨_, k1, sz_lt (by rw [List.length_map, List.length_take]; omega), Ex.mut e1 hG, ?_⟩
        rw [List.take_add_one, hr0, List.map_append, ← hb]
        exact upd_same
      refine ⟨rfl, ?_⟩
      exact ⟨_, rfl, _, _, _, _, rfl, rfl, qx, at0, _, _, rfl, rfl, _, rfl, ite2 (fun hd => go true hd) (fun hd => go false (by cases hb : decide (r.num < 0) with | true => exact absurd hb hd | false => rfl))⟩
    · rintro H1 ⟨e1, k1⟩
      rw [hlen, List.take_length] at k1
      refine ⟨G, _, rfl, .inl ⟨sq_of k1, fun l hl => ?_⟩⟩
      refine q _ _ (e1.trans (Ex.new hl)) ⟨l, rfl, ?_⟩
      rw [List.map_map]
      exact st_of upd_same
theorem ok_high_corner (D : Df K mg "high_corner" s_high_corner ["one"]) (mtuple : mg "tuple" = none) : Ok P w K mg base 1 "high_corner" ["one"] (spCorner K fun r => decide (0 < r.num)) := by
  refine D.ok fun f fd F => F.ok sc_high_corner (fun vs H Q E h => ?_) (fun cdv A outer s H vs Q E hr h => ?_)
  · obtain ⟨x, z, rfl, _⟩ := h
    rfl
  · obtain ⟨x, z, rfl, ⟨t, a, b, rfl, qt, ⟨ta, xa, rfl, qa, pa⟩, fb⟩, hl, q⟩ := h
    refine ⟨_, pss_one (ps_ret (pe_callTy call_tuple_of (by rfl) mtuple (by decide +kernel) (pa_cons (pe_lc (own := [("weight", 1)]) (g := gName 1) (tt := tYes) rfl sc_high_corner.nd (pi_tup (pe_ix ix_tup (pv 0) pe_int (fun _ _ => rfl))) (blkOk_by (N := ["one", "weight"]) (sc := defScope s_high_corner) (by decide +kernel)) (fun _ _ _ _ _ => (pg_name (i := 1) sc_high_corner.nd rfl (.inl rfl))) (fun _ _ _ _ _ => pts_nil) (fun _ _ _ _ _ => pe_ifExp (pt_cmpR op_gt (pe_ix (ix_tK K) (pv 1) pe_int (fun _ _ => rfl)) pe_int (nomark _)) pe_int pe_int)) pa_nil))), ?_⟩
    have hlen := Paired.length pa
    refine ⟨_, rfl, _, _, _, _, rfl, rfl, qt, at0, ta, rfl, ⟨_, qa⟩, fun G hG => ?_⟩
    refine lc_tup (K := K) (a := ta) (xs := xa) (fun i H' => Ex H H' ∧ H' G = some (.lst ((z.1.take i).map fun r => V.int (bI (decide (0 < r.num)))))) ⟨Ex.new hG, upd_same⟩ (fun i H' _ b => ex_t b.1 qa) ?_ ?_
    · rintro i x H' hx ⟨e1, k1⟩
      obtain ⟨r, hr0, fr⟩ := pget pa hx
      obtain ⟨tx, rfl, qx⟩ := fr.ex e1
      have hi := (List.getElem?_eq_some_iff.mp hx).1
      have go : ∀ b : Bool, decide (0 < r.num) = b → ∃ acc, H' G = some (.lst acc) ∧ acc.length < sizeLine ∧ (Ex H (upd H' G (.lst (acc ++ [V.int (bI b)]))) ∧ upd H' G (.lst (acc ++ [V.int (bI b)])) G = some (.lst ((z.1.take (i + 1)).map fun r => V.int (bI (decide (0 < r.num)))))) := by
        intro b hb
        refine ⟨_, k1, sz_lt (by rw [List.length_map, List.length_take]; omega), Ex.mut e1 hG, ?_⟩
        rw [List.take_add_one, hr0, List.map_append, ← hb]
        exact upd_same
      refine ⟨rfl, ?_⟩
      exact ⟨_, rfl, _, _, _, _, rfl, rfl, qx, at0, _, _, rfl, rfl, _, rfl, ite2 (fun hd => go true hd) (fun hd => go false (by cases hb : decide (0 < r.num) with | true => exact absurd hb hd | false => rfl))⟩
    · rintro H1 ⟨e1, k1⟩
      rw [hlen, List.take_length] at k1
      refine ⟨G, _, rfl, .inl ⟨sq_of k1, fun l hl => ?_⟩⟩
      refine q _ _ (e1.trans (Ex.new hl)) ⟨l, rfl, ?_⟩
      rw [List.map_map]
      exact st_of upd_same
theorem ok_spot_at (D : Df K mg "spot_at" s_spot_at ["spans", "corner"]) (mzip : mg "zip" = none) (mtuple : mg "tuple" = none) : Ok P w K mg base 1 "spot_at" ["spans", "corner"] (spSpotAt K) := by
  refine D.ok fun f fd F => F.ok sc_spot_at (fun vs H Q E h => ?_) (fun cdv A outer s H vs Q E hr h => ?_)
  · obtain ⟨c, x, y, sp, bs, rfl, _⟩ := h
    rfl
  · obtain ⟨c, x, y, sp, bs, rfl, ⟨a, xs, rfl, qa, pa⟩, ⟨tc, rfl, qc⟩, hl, h100, q⟩ := h
    refine ⟨_, pss_one (ps_ret (pe_callTy call_tuple_of (by rfl) mtuple (by decide +kernel) (pa_cons (pe_lc (own := [("span", 2), ("end", 3)]) (g := gTup K 2 (gCons (gName 2) (gCons (gName 3) gNil))) (tt := tYes) rfl sc_spot_at.nd (pi_zipX (by rfl) mzip (pa_cons (pv 0) (pa_cons (pv 1) pa_nil))) (blkOk_by (N := ["spans", "corner", "span", "end"]) (sc := defScope s_spot_at) (by decide +kernel)) (fun _ _ _ _ _ => pg_tup rfl (pgs_cons (pg_name (i := 2) sc_spot_at.nd rfl (.inl rfl)) (pgs_cons (pg_name (i := 3) sc_spot_at.nd rfl (.inl rfl)) pgs_nil))) (fun _ _ _ _ _ => pts_nil) (fun _ _ _ _ _ => pe_ix (ix_tK K) (pv 2) (pv 3) (fun _ _ => rfl))) pa_nil))), ?_⟩
    have hxl := Paired.length pa
    refine ⟨_, rfl, _, rfl, c, true, a, tc, xs, _, rfl, qa, qc, fun G hG => ?_⟩
    refine lc_zipX (K := K) (by rw [List.length_map]; omega) (Bld (FrV K) H G (picks sp bs)) (bld0 hG) (fun i H' b => ⟨sqX_ex b.1 qa, ex_t b.1 qc⟩) ?_ ?_
    · rintro i x y T H' hx hy b hT
      obtain ⟨p, hp, fp⟩ := pget pa hx
      rw [List.getElem?_map] at hy
      obtain ⟨b0, hb0, rfl⟩ := Option.map_eq_some_iff.mp hy
      have eT : Ex H' (upd H' T (.tup [x, V.int (bI b0)])) := Ex.new hT
      refine ⟨T, [x, V.int (bI b0)], rfl, st_of upd_same, rfl, x, [V.int (bI b0)], rfl, V.int (bI b0), [], rfl, rfl, rfl, ?_⟩
      obtain ⟨t, u, v, rfl, qt, fu, fv⟩ := fp.ex (b.1.trans eT)
      have hat : ∃ w, atI [u, v] (bI b0) = some w ∧ FrV K (upd H' T (.tup [.ref t, V.int (bI b0)])) w (pickB p b0) := by
        cases b0
        · exact ⟨u, at0, fu⟩
        · exact ⟨v, at1, fv⟩
      obtain ⟨w, hw, fw⟩ := hat
      refine ⟨_, rfl, _, rfl, t, _, _, _, rfl, rfl, qt, hw, ?_⟩
      refine bld_step stF hG b eT ?_ ?_ fw
      · show (List.zipWith pickB sp bs)[i]? = _
        rw [List.getElem?_zipWith, hp, hb0]
      · have := (List.getElem?_eq_some_iff.mp hx).1
        omega
    · intro H5 b5
      have hpl : xs.length = (picks sp bs).length := by rw [picks_len hl.symm]; omega
      obtain ⟨e5, ws2, hws2, pw5⟩ := bld_end hpl b5
      refine ⟨G, ws2, rfl, .inl ⟨sq_of hws2, fun l3 hl3 => ?_⟩⟩
      exact q _ _ (e5.trans (Ex.new hl3)) (bld_row (n := 0) hws2 pw5 hl3)
end

end K18
end
section
set_option maxRecDepth 100000
set_option maxHeartbeats 400000
namespace K18
open PySem Evl Nc PyProof.Rows
open L2 hiding spCell
theorem none_of' {H H' : Hp} {a : Addr} (e : Ex H H') (h : H' a = none) : H a = none := Option.eq_none_iff_forall_ne_some.mpr fun o ho => by
  rw [e _ _ ho] at h
  cases h
/-- an error of the class at C, x in its field, has flown -/
def Fly (C : Addr) (x : V) (H : Hp) (E : XK) : Prop := ∀ d H', H d = none → Ex H H' → H' d = some (.xd [(("found" : Str), x)]) → E (.ref C) (some d) H'
theorem Fly.ex {C : Addr} {x : V} {H H' : Hp} {E : XK} (e : Ex H H') (h : Fly C x H E) : Fly C x H' E := fun d H2 hd e2 hk => h d H2 (none_of' e hd) (e.trans e2) hk
def spChkBoxX (K : PySem.W.Frag) (CB : Addr) : Sp := fun vs H Q E => ∃ (x : V) (b : Bool), vs = [x] ∧ BxT K H x b ∧ (b = true → ∀ H', Ex H H' → Q .non H') ∧ (b = false → Fly CB x H E)
def spChkSumX (K : PySem.W.Frag) (CB CA : Addr) : Sp := fun vs H Q E => ∃ x y : V, vs = [x, y] ∧ ((BxT K H x false ∧ Fly CB x H E) ∨ ∃ (sp : List Span) (c : Bool), BoxV K 6 H x sp ∧ SmT K H sp.length y c ∧ (c = true → ∀ H', Ex H H' → Q .non H') ∧ (c = false → Fly CA y H E))
/-- a sum of small numbers -/
def Sml (n : Nat) (z : Sum2) : Prop := BdS n 4 6 6 z
def spLeastX (K : PySem.W.Frag) (CB CA : Addr) (g : Sum2 → List Bool) : Sp := fun vs H Q E => ∃ x y : V, vs = [x, y] ∧ ((BxT K H x false ∧ Fly CB x H E) ∨ ∃ sp : List Span, BoxV K 6 H x sp ∧ ((SmT K H sp.length y false ∧ Fly CA y H E) ∨
  ∃ z : Sum2, SumV K H y z ∧ Sml sp.length z ∧ ∀ p a c H', Ex H H' → SqT K H' p [a, c] → FrV K H' a (tells z (picks sp (g z))) → RowV K H' c (picks sp (g z)) → Q (.ref p) H'))
section
variable {P : Program} {w : World} {K : PySem.W.Frag} {mg : Str → Option Value} {base : Heap}
theorem ok_check_box (D : Df K mg "check_box" s_check_box ["thing"]) {CB : Addr} (EB : Er P w K mg base "NoBox" CB "found" ["self", "found"]) (GB : Ok P w K mg base 5 "is_box" ["thing"] (spBoxT K)) : OkX P w K mg base 6 "check_box" ["thing"] (spChkBoxX K CB) := by
  refine D.okX fun f fd F => F.okX sc_check_box (fun vs H Q E h => ?_) (fun cdv A outer s H vs Q E hr h => ?_)
  · obtain ⟨x, b, rfl, _⟩ := h
    rfl
  · obtain ⟨x, b, rfl, hx, q1, q2⟩ := h
    refine ⟨_, (pss_one (ps_if (pt_not (pt_val (cl GB hr (pa_cons (pv 0) pa_nil)))) (pss_one (ps_rz (W := fun cls d _ H => E cls d H) EB rfl (takes_of rfl rfl rfl rfl) (hr.mono (by decide)) (pv 0))) pss_nil)), ?_⟩
    refine ⟨_, rfl, x, b, rfl, hx, fun H1 e1 => ⟨_, rfl, ?_⟩⟩
    cases b with
    | true => exact iteF (q1 rfl H1 e1)
    | false => exact iteT ⟨x, rfl, Fly.ex e1 (q2 rfl)⟩
theorem ok__check_sum (D : Df K mg "_check_sum" s__check_sum ["box", "one"]) {CB CA : Addr} (EB : Er P w K mg base "NoBox" CB "found" ["self", "found"]) (EA : Er P w K mg base "NoAim" CA "found" ["self", "found"]) (GC : OkX P w K mg base 6 "check_box" ["thing"] (spChkBoxX K CB)) (GS : Ok P w K mg base 4 "is_sum" ["thing", "many"] (spSumT18 K)) (mlen : mg "len" = none) : OkX P w K mg base 7 "_check_sum" ["box", "one"] (spChkSumX K CB CA) := by
  refine D.okX fun f fd F => F.okX sc__check_sum (fun vs H Q E h => ?_) (fun cdv A outer s H vs Q E hr h => ?_)
  · obtain ⟨x, y, rfl, _⟩ := h
    rfl
  · obtain ⟨x, y, rfl, h⟩ := h
    have hr4 : Room 4 _ := hr.mono (by decide)
    refine ⟨_, pss_cons (ps_expr (clX (W := fun cls d _ H => E cls d H) GC hr (takes_of rfl rfl rfl rfl) (pa_cons (pv 0) pa_nil))) (pss_one (ps_if (pt_not (pt_val (cl GS hr4 (pa_cons (pv 1) (pa_cons (pe_callB call_len_seq (by rfl) mlen PySem.boot_len (pa_cons (pv 0) pa_nil)) pa_nil))))) (pss_one (ps_rz (W := fun cls d _ H => E cls d H) EA rfl (takes_of rfl rfl rfl rfl) (hr.mono (by decide)) (pv 1))) pss_nil)), ?_⟩
    rcases h with ⟨hb, hf⟩ | ⟨sp, c, hb, hs, q1, q2⟩
    · exact ⟨_, rfl, x, false, rfl, hb, (fun z => by cases z), fun _ => hf⟩
    · refine ⟨_, rfl, x, true, rfl, box_bxt hb, (fun _ H1 e1 => ?_), (fun z => by cases z)⟩
      obtain ⟨⟨a, xs, rfl, qa, pa⟩, _⟩ := hb.ex e1
      have xl := Paired.length pa
      have qa : SqT K H1 a xs := qa
      refine ⟨_, rfl, _, rfl, a, xs, rfl, .inr qa, y, sp.length, c, (by rw [xl]; rfl), hs.ex e1, fun H2 e2 => ⟨_, rfl, ?_⟩⟩
      cases c with
      | true => exact iteF (q1 rfl H2 (e1.trans e2))
      | false => exact iteT ⟨y, rfl, Fly.ex (e1.trans e2) (q2 rfl)⟩
theorem ok_least_of (D : Df K mg "least_of" s_least_of ["box", "one"]) {CB CA : Addr} (GC : OkX P w K mg base 7 "_check_sum" ["box", "one"] (spChkSumX K CB CA)) (GLo : Ok P w K mg base 1 "low_corner" ["one"] (spCorner K fun r => decide (r.num < 0))) (GP : Ok P w K mg base 1 "spot_at" ["spans", "corner"] (spSpotAt K)) (GS : Ok P w K mg base 4 "sum_at" ["one", "row"] (spTellsB K)) : OkX P w K mg base 8 "least_of" ["box", "one"] (spLeastX K CB CA lowB) := by
  refine D.okX fun f fd F => F.okX sc_least_of (fun vs H Q E h => ?_) (fun cdv A outer s H vs Q E hr h => ?_)
  · obtain ⟨x, y, rfl, _⟩ := h
    rfl
  · obtain ⟨x, y, rfl, h⟩ := h
    have hr1 : Room 1 _ := hr.mono (by decide)
    have hr4 : Room 4 _ := hr.mono (by decide)
    refine ⟨_, (pss_cons (ps_expr (clX (W := fun cls d _ H => E cls d H) GC hr (takes_of rfl rfl rfl rfl) (pa_cons (pv 0) (pa_cons (pv 1) pa_nil))))
      (pss_cons (ps_set (i := 2) sc_least_of.nd rfl (.inl rfl) (cl GP hr1 (pa_cons (pv 0) (pa_cons (cl GLo hr1 (pa_cons (pv 1) pa_nil)) pa_nil))))
      (pss_one (ps_ret (pe_tup (pa_cons (cl GS hr4 (pa_cons (pv 1) (pa_cons (pv 2) pa_nil))) (pa_cons (pv 2) pa_nil))))))), ?_⟩
    rcases h with ⟨hb, hf⟩ | ⟨sp, hb, ⟨hs, hf⟩ | ⟨z, hz, sm, q⟩⟩
    · exact ⟨_, rfl, _, rfl, x, y, rfl, .inl ⟨hb, hf⟩⟩
    · exact ⟨_, rfl, _, rfl, x, y, rfl, .inr ⟨sp, false, hb, hs, (fun z => by cases z), fun _ => hf⟩⟩
    · have zl := sm.len
      obtain ⟨l1, l3, hbb, d0, dl⟩ := hb.2
      have hlL : (lowB z).length = sp.length := by rw [lowB_len, zl]
      refine ⟨_, rfl, _, rfl, x, y, rfl, .inr ⟨sp, true, hb, by have e := sum_smt hz (by omega); rwa [zl] at e, (fun _ H1 e1 => ?_), (fun z => by cases z)⟩⟩
      refine ⟨_, rfl, _, rfl, y, z, rfl, hz.ex e1, by omega, fun vb H2 e2 hvb => ?_⟩
      refine ⟨true, x, vb, sp, lowB z, rfl, hb.1.ex (e1.trans e2), hvb, hlL.symm, by omega, fun r1 H3 e3 hr1 => ?_⟩
      have E3 := (e1.trans e2).trans e3
      refine ⟨_, rfl, _, rfl, y, r1, z, picks sp (lowB z), 4, 4, 6, 21, 6, 36, 10, 10, rfl, hz.ex E3, hr1, by rw [picks_len hlL]; exact zl, by omega, sm.row, sm.num.mono (Nat.le_refl _) (by decide), bd_picks hbb.bd _, by decide, by decide, by decide, by decide, by decide, by decide, by decide, by decide, ⟨by decide, .inl ⟨by decide, by decide⟩⟩, fun v1 H4 e4 hv1 => ?_⟩
      refine ⟨_, rfl, (by show 2 ≤ sizeLine; decide), fun p hp => ?_⟩
      exact q p v1 r1 _ (E3.trans (e4.trans (Ex.new hp))) (st_of upd_same) (hv1.ex (Ex.new hp)) (hr1.ex (e4.trans (Ex.new hp)))
theorem ok_greatest_of (D : Df K mg "greatest_of" s_greatest_of ["box", "one"]) {CB CA : Addr} (GC : OkX P w K mg base 7 "_check_sum" ["box", "one"] (spChkSumX K CB CA)) (GLo : Ok P w K mg base 1 "high_corner" ["one"] (spCorner K fun r => decide (0 < r.num))) (GP : Ok P w K mg base 1 "spot_at" ["spans", "corner"] (spSpotAt K)) (GS : Ok P w K mg base 4 "sum_at" ["one", "row"] (spTellsB K)) : OkX P w K mg base 8 "greatest_of" ["box", "one"] (spLeastX K CB CA highB) := by
  refine D.okX fun f fd F => F.okX sc_greatest_of (fun vs H Q E h => ?_) (fun cdv A outer s H vs Q E hr h => ?_)
  · obtain ⟨x, y, rfl, _⟩ := h
    rfl
  · obtain ⟨x, y, rfl, h⟩ := h
    have hr1 : Room 1 _ := hr.mono (by decide)
    have hr4 : Room 4 _ := hr.mono (by decide)
    refine ⟨_, (pss_cons (ps_expr (clX (W := fun cls d _ H => E cls d H) GC hr (takes_of rfl rfl rfl rfl) (pa_cons (pv 0) (pa_cons (pv 1) pa_nil))))
      (pss_cons (ps_set (i := 2) sc_greatest_of.nd rfl (.inl rfl) (cl GP hr1 (pa_cons (pv 0) (pa_cons (cl GLo hr1 (pa_cons (pv 1) pa_nil)) pa_nil))))
      (pss_one (ps_ret (pe_tup (pa_cons (cl GS hr4 (pa_cons (pv 1) (pa_cons (pv 2) pa_nil))) (pa_cons (pv 2) pa_nil))))))), ?_⟩
    rcases h with ⟨hb, hf⟩ | ⟨sp, hb, ⟨hs, hf⟩ | ⟨z, hz, sm, q⟩⟩
    · exact ⟨_, rfl, _, rfl, x, y, rfl, .inl ⟨hb, hf⟩⟩
    · exact ⟨_, rfl, _, rfl, x, y, rfl, .inr ⟨sp, false, hb, hs, (fun z => by cases z), fun _ => hf⟩⟩
    · have zl := sm.len
      obtain ⟨l1, l3, hbb, d0, dl⟩ := hb.2
      have hlL : (highB z).length = sp.length := by rw [highB_len, zl]
      refine ⟨_, rfl, _, rfl, x, y, rfl, .inr ⟨sp, true, hb, by have e := sum_smt hz (by omega); rwa [zl] at e, (fun _ H1 e1 => ?_), (fun z => by cases z)⟩⟩
      refine ⟨_, rfl, _, rfl, y, z, rfl, hz.ex e1, by omega, fun vb H2 e2 hvb => ?_⟩
      refine ⟨true, x, vb, sp, highB z, rfl, hb.1.ex (e1.trans e2), hvb, hlL.symm, by omega, fun r1 H3 e3 hr1 => ?_⟩
      have E3 := (e1.trans e2).trans e3
      refine ⟨_, rfl, _, rfl, y, r1, z, picks sp (highB z), 4, 4, 6, 21, 6, 36, 10, 10, rfl, hz.ex E3, hr1, by rw [picks_len hlL]; exact zl, by omega, sm.row, sm.num.mono (Nat.le_refl _) (by decide), bd_picks hbb.bd _, by decide, by decide, by decide, by decide, by decide, by decide, by decide, by decide, ⟨by decide, .inl ⟨by decide, by decide⟩⟩, fun v1 H4 e4 hv1 => ?_⟩
      refine ⟨_, rfl, (by show 2 ≤ sizeLine; decide), fun p hp => ?_⟩
      exact q p v1 r1 _ (E3.trans (e4.trans (Ex.new hp))) (st_of upd_same) (hv1.ex (Ex.new hp)) (hr1.ex (e4.trans (Ex.new hp)))
end

end K18
end
section
set_option maxRecDepth 100000
set_option maxHeartbeats 400000
namespace K18
open PySem Evl Nc PyProof.Rows
open L2 hiding spCell
section
variable {P : Program} {w : World} {K : PySem.W.Frag} {mg : Str → Option Value} {base : Heap}
def RowX (K : PySem.W.Frag) (c : Bool) (H : Hp) (v : V) (rs : List Rat) : Prop := ∃ a xs, v = .ref a ∧ SqX K c H a xs ∧ FrL K H xs rs
theorem RowX.ex {K : PySem.W.Frag} {c : Bool} {H H' : Hp} {v : V} {rs : List Rat} (e : Ex H H') (h : RowX K c H v rs) : RowX K c H' v rs := by
  obtain ⟨a, xs, rfl, q, p⟩ := h
  exact ⟨a, xs, rfl, sqX_ex e q, FrL.ex e p⟩
def spWeighX (K : PySem.W.Frag) : Sp := fun vs H Q _ => ∃ (c : Bool) (x y : V) (rs ss : List Rat) (m W D : Nat), vs = [x, y] ∧ RowV K H x rs ∧ RowX K c H y ss ∧ rs.length = ss.length ∧ rs.length ≤ 4 ∧ SvL 1500 W rs ∧ SvL m D ss ∧ m ≤ 430000 ∧ 0 < W * D ∧ W * D < 2 ^ 1600 ∧ ∀ v H', Ex H H' → FrV K H' v (weighs (rs.zip ss)) → Q v H'
def spCutE (K : PySem.W.Frag) : Sp := fun vs H Q _ => ∃ (x : V) (r : Rat), vs = [x] ∧ FrV K H x r ∧ ∀ v H', Ex H H' → FrV K H' v (cutQ r) → Q v H'
def spRowsX (K : PySem.W.Frag) : Sp := fun vs H Q _ => ∃ (x y : V) (ls : List (List Sum2)) (L : List Rat) (W : Nat → Nat) (D : Nat), vs = [x, y] ∧ LayI K H x ls ∧ RowV K H y L ∧ NetOk L.length ls W ∧ SvL 1500 D L ∧ Fits W D ∧
  ∀ F rs H', H F = none → Ex H H' → H' F = some (.lst rs) → Paired (RowV K H') rs (rowsAt ls L) → Q (.ref F) H'
theorem okB__law_weighed (D : Df K mg "_law_weighed" s__law_weighed ["_law_row_here", "_law_spot"]) (mzip : mg "zip" = none) (GP : Ok P w K mg base 3 "_law_plus" ["_law_one", "_law_other"] (spPlus K)) (GT : Ok P w K mg base 3 "_law_times" ["_law_one", "_law_other"] (spTimes K)) : Ok P w K mg base 4 "_law_weighed" ["_law_row_here", "_law_spot"] (spWeighB K) := by
  refine D.ok fun f fd F => F.ok sc__law_weighed (fun vs H Q E h => ?_) (fun cdv A outer s H vs Q E hr h => ?_)
  · obtain ⟨x, y, rs, ss, v, D, u, E, k, b, rfl, _⟩ := h
    rfl
  · obtain ⟨x, y, rs, ss, vv, D, uu, E, kk, bb, rfl, ⟨tx, xs, rfl, qx, lx⟩, ⟨ty, ys, rfl, qy, ly⟩, hl, h4, hn, hm, hp, hlt, hv0, hu0, hvu, ⟨b0, hkb⟩, q⟩ := h
    obtain ⟨w0, d0, wl, dl⟩ := both hp hlt
    refine ⟨_, pss_cons (ps_set (i := 2) sc__law_weighed.nd rfl (.inl rfl) (pe_tup (pa_cons pe_int (pa_cons pe_int pa_nil))))
      (pss_cons (ps_for PassesOwn.never rfl (RZ.pi_zipA (by rfl) mzip (pa_cons (pv 0) (pa_cons (pv 1) pa_nil))) (pg_tup rfl (pgs_cons (pg_name (i := 3) sc__law_weighed.nd rfl (.inl rfl)) (pgs_cons (pg_name (i := 4) sc__law_weighed.nd rfl (.inl rfl)) pgs_nil)))
        (pss_one (ps_set (i := 2) sc__law_weighed.nd rfl (.inl rfl) (cl GP hr (pa_cons (pv 2) (pa_cons (cl GT hr (pa_cons (pv 3) (pa_cons (pv 4) pa_nil))) pa_nil))))))
      (pss_one (ps_ret (pv 2)))), ?_⟩
    refine ⟨(by show 2 ≤ sizeLine; decide), fun pz hpz => ?_⟩
    have e0 : Ex H (upd H pz (.tup [.int 0, .int 1])) := Ex.new hpz
    have z0 : FrV K (upd H pz (.tup [.int 0, .int 1])) (.ref pz) (weighs ((rs.zip ss).take 0)) := made rfl rfl
    have lx' := Paired.length lx
    have ly' := Paired.length ly
    refine ⟨_, rfl, _, rfl, tx, ty, xs, ys, rfl, .inr ⟨ex_t e0 qx, ex_t e0 qy, RZ.for_zipT (by omega) (fun i σ H' => ∃ (v : V) (o3 o4 : Option V), σ = [some (.ref tx), some (.ref ty), some v, o3, o4] ∧ Ex H H' ∧ FrV K H' v (weighs ((rs.zip ss).take i)))
      ⟨_, none, none, rfl, e0, z0⟩ (fun i σ H' ⟨_, _, _, _, e1, _⟩ => ⟨ex_t e1 qx, ex_t e1 qy⟩) ?_ ?_⟩⟩
    · rintro i x y T σ H' hx hy ⟨v, o3, o4, rfl, e1, hv⟩ hT
      obtain ⟨r, hr1, fr⟩ := pget lx hx
      obtain ⟨u, hu1, fu⟩ := pget ly hy
      have hzip : (rs.zip ss)[i]? = some (r, u) := by
        rw [List.getElem?_zip_eq_some]
        exact ⟨hr1, hu1⟩
      have hi : i < rs.length := (List.getElem?_eq_some_iff.mp hr1).1
      have szr := hn r (List.mem_of_getElem? hr1)
      have szu := hm u (List.mem_of_getElem? hu1)
      have szt : Sz (kk + bb) bb (weighs ((rs.zip ss).take i)) := by
        have h0 := bd_weighs (v := vv) (u := uu) hp (l := (rs.zip ss).take i) fun p hp' => ⟨hn _ (List.of_mem_zip (List.mem_of_mem_take hp')).1, hm _ (List.of_mem_zip (List.mem_of_mem_take hp')).2⟩
        refine (h0.mono ?_ (Nat.dvd_refl _)).sz hp hlt hvu
        refine Nat.mul_le_mul_right _ ?_
        rw [List.length_take, List.length_zip]
        omega
      have eT : Ex H' (upd H' T (.tup [x, y])) := Ex.new hT
      refine ⟨T, [x, y], rfl, st_of upd_same, rfl, x, [y], rfl, y, [], rfl, rfl, ?_⟩
      have sr : Sz (kk + bb) bb r := szr.sz w0 wl hv0
      have su : Sz (kk + bb) bb u := szu.sz d0 dl hu0
      have sp : Sz (kk + bb) bb (r * u) := (szr.mul szu).sz hp hlt (by omega)
      refine ⟨_, rfl, _, rfl, _, rfl, x, y, r, u, kk + bb, bb, kk + bb, bb, rfl, fr.ex (e1.trans eT), fu.ex (e1.trans eT), sr, su, ⟨by omega, by omega, by omega, by omega, by omega, by omega⟩, fun v2 H2 e2 hv2 => ?_⟩
      refine ⟨v, v2, _, _, kk + bb, bb, kk + bb, bb, rfl, hv.ex (eT.trans e2), hv2, szt, sp, ⟨by omega, by omega, by omega, by omega, by omega, by omega⟩, fun v3 H3 e3 hv3 => ?_⟩
      refine ⟨v3, some x, some y, rfl, ((e1.trans eT).trans e2).trans e3, ?_⟩
      rw [weighs_take hzip]
      exact hv3
    · rintro σ H' ⟨v, o3, o4, rfl, e1, hv⟩
      refine ⟨_, rfl, q v H' e1 ?_⟩
      rwa [List.take_of_length_le (by rw [List.length_zip]; omega)] at hv
end

end K18
end
section
set_option maxRecDepth 100000
set_option maxHeartbeats 400000
namespace K18
open PySem Evl Nc PyProof.Rows
open L2 hiding spCell
section
variable {P : Program} {w : World} {K : PySem.W.Frag} {mg : Str → Option Value} {base : Heap}
def spTold18 (K : PySem.W.Frag) : Sp := fun vs H Q _ => ∃ (x y : V) (z : Sum2) (L : List Rat), vs = [x, y] ∧ SumV K H x z ∧ RowV K H y L ∧ Sml L.length z ∧ L.length ≤ 3 ∧ BdL 21 36 L ∧ ∀ v H', Ex H H' → FrV K H' v (tells z L) → Q v H'
theorem ok__law_told (D : Df K mg "_law_told" s__law_told ["_law_one", "_law_spot"]) (GP : Ok P w K mg base 3 "_law_plus" ["_law_one", "_law_other"] (spPlus K)) (GW : Ok P w K mg base 4 "_law_weighed" ["_law_row_here", "_law_spot"] (spWeighB K)) : Ok P w K mg base 5 "_law_told" ["_law_one", "_law_spot"] (spTold18 K) := by
  refine D.ok fun f fd F => F.ok sc__law_told (fun vs H Q E h => ?_) (fun cdv A outer s H vs Q E hr h => ?_)
  · obtain ⟨x, y, z, L, rfl, _⟩ := h
    rfl
  · obtain ⟨x, y, z, L, rfl, ⟨t, a, b, rfl, qt, ra, fb⟩, hy, sm, l3, hL, q⟩ := h
    have hr3 : Room 3 _ := hr.mono (by decide)
    refine ⟨_, pss_one (ps_ret (cl GP hr3 (pa_cons (cl GW hr (pa_cons (pe_ix ix_tup (pv 0) pe_int (fun _ _ => rfl)) (pa_cons (pv 1) pa_nil))) (pa_cons (pe_ix ix_tup (pv 0) pe_int (fun _ _ => rfl)) pa_nil)))), ?_⟩
    have zl := sm.len
    refine ⟨_, rfl, _, _, _, _, rfl, rfl, qt, at0, _, rfl, a, y, z.1, L, 4, 6, 21, 36, 10, 10, rfl, ra, hy, zl, by omega, sm.row, hL, by decide, by decide, by decide, by decide, by decide, ⟨by decide, .inl ⟨by decide, by decide⟩⟩, fun v H1 e1 hv => ?_⟩
    have sw : Sz (10 + 10) 10 (weighs (z.1.zip L)) := by
      have h0 := bd_weighs (v := 4) (u := 21) (D := 6) (E := 36) (by decide) (l := z.1.zip L) fun p hp' => ⟨sm.row _ (List.of_mem_zip hp').1, hL _ (List.of_mem_zip hp').2⟩
      refine (h0.mono (u := 4 * (4 * 21)) (Nat.mul_le_mul_right _ ?_) (Nat.dvd_refl _)).sz (by decide) (by decide) (by decide)
      rw [List.length_zip, zl, Nat.min_self]
      omega
    have sn : Sz (3 + 3) 3 z.2 := sm.num.sz (k := 3) (b := 3) (by decide) (by decide) (by decide)
    have qt1 := ex_t e1 qt
    refine ⟨_, rfl, _, _, _, _, rfl, rfl, qt1, at1, v, b, _, _, 20, 10, 6, 3, rfl, hv, fb.ex e1, sw, sn, ⟨by decide, by decide, by decide, by decide, .inl (by decide), by decide⟩, fun v3 H3 e3 hv3 => ?_⟩
    exact q v3 H3 (e1.trans e3) hv3
end

end K18
end
section
set_option maxRecDepth 100000
set_option maxHeartbeats 400000
namespace K18
open PySem Evl Nc PyProof.Rows
open L2 hiding spCell
section
variable {P : Program} {w : World} {K : PySem.W.Frag} {mg : Str → Option Value} {base : Heap}
/-- all corners of a box, as the law goes through them -/
def cstep (acc : List (List Rat)) (p : Span) : List (List Rat) := acc.map (fun x => x ++ [p.1]) ++ acc.map (fun x => x ++ [p.2])
def corns (sp : List Span) : List (List Rat) := sp.foldl cstep [[]]
theorem corns_snoc {sp : List Span} {i : Nat} {p : Span} (h : sp[i]? = some p) : corns (sp.take (i + 1)) = cstep (corns (sp.take i)) p := by
  unfold corns
  rw [List.take_add_one, h, List.foldl_append]
  rfl
theorem corns_len : ∀ {sp : List Span} {acc : List (List Rat)}, (sp.foldl cstep acc).length = acc.length * 2 ^ sp.length
  | [], acc => by
    show acc.length = acc.length * 1
    omega
  | p :: sp, acc => by
    show (sp.foldl cstep (cstep acc p)).length = _
    rw [corns_len]
    show (acc.map _ ++ acc.map _).length * 2 ^ sp.length = acc.length * 2 ^ (sp.length + 1)
    rw [List.length_append, List.length_map, List.length_map, Nat.pow_succ, Nat.mul_comm (2 ^ sp.length) 2, ← Nat.mul_assoc]
    congr 1
    omega
theorem corns_le {sp : List Span} (h : sp.length ≤ 3) : (corns sp).length ≤ 8 := by
  unfold corns
  rw [corns_len]
  have := Nat.pow_le_pow_right (n := 2) (by decide) h
  show 1 * 2 ^ sp.length ≤ 8
  omega
theorem corns_row : ∀ {sp : List Span} {acc : List (List Rat)} {k : Nat}, (∀ x ∈ acc, x.length ≤ k) → ∀ x ∈ sp.foldl cstep acc, x.length ≤ k + sp.length
  | [], _, _, h, x, hx => h x hx
  | p :: sp, acc, k, h, x, hx => by
    have := corns_row (sp := sp) (acc := cstep acc p) (k := k + 1) (fun y hy => by
      rcases List.mem_append.mp hy with hy | hy
      all_goals
        obtain ⟨z, hz, rfl⟩ := List.mem_map.mp hy
        have := h z hz
        rw [List.length_append]
        show z.length + 1 ≤ k + 1
        omega) x hx
    rw [List.length_cons]
    omega
theorem corns_in : ∀ {sp : List Span} {bs : List Bool} {acc : List (List Rat)} {x : List Rat}, bs.length = sp.length → x ∈ acc → x ++ picks sp bs ∈ sp.foldl cstep acc
  | [], [], acc, x, _, h => by
    show x ++ [] ∈ acc
    rwa [List.append_nil]
  | p :: sp, b :: bs, acc, x, hl, h => by
    have e : x ++ picks (p :: sp) (b :: bs) = (x ++ [pickB p b]) ++ picks sp bs := by
      rw [List.append_assoc]
      rfl
    rw [e]
    refine corns_in (by simpa using hl) ?_
    cases b
    · exact List.mem_append_left _ (List.mem_map.mpr ⟨x, h, rfl⟩)
    · exact List.mem_append_right _ (List.mem_map.mpr ⟨x, h, rfl⟩)
theorem within_snoc {x : List Rat} {sp : List Span} {r : Rat} {p : Span} (h : Within x sp) (h1 : p.1 ≤ r) (h2 : r ≤ p.2) : Within (x ++ [r]) (sp ++ [p]) := Paired.snoc h ⟨h1, h2⟩
theorem corns_within : ∀ {sp sp0 : List Span} {acc : List (List Rat)}, (∀ p ∈ sp, p.1 ≤ p.2) → (∀ x ∈ acc, Within x sp0) → ∀ x ∈ sp.foldl cstep acc, Within x (sp0 ++ sp)
  | [], sp0, _, _, h, x, hx => by
    rw [List.append_nil]
    exact h x hx
  | p :: sp, sp0, acc, hp, h, x, hx => by
    have e : sp0 ++ p :: sp = (sp0 ++ [p]) ++ sp := by simp
    rw [e]
    have hle := hp p (by simp)
    refine corns_within (acc := cstep acc p) (fun q hq => hp q (by simp [hq])) (fun y hy => ?_) x hx
    rcases List.mem_append.mp hy with hy | hy
    · obtain ⟨z, hz, rfl⟩ := List.mem_map.mp hy
      exact within_snoc (h z hz) Rat.le_refl hle
    · obtain ⟨z, hz, rfl⟩ := List.mem_map.mp hy
      exact within_snoc (h z hz) hle Rat.le_refl
def spCorns (K : PySem.W.Frag) : Sp := fun vs H Q _ => ∃ (x : V) (sp : List Span), vs = [x] ∧ SpsV K true H x sp ∧ sp.length ≤ 3 ∧ ∀ F xs H', Ex H H' → H' F = some (.lst xs) → Paired (RowV K H') xs (corns sp) → Q (.ref F) H'
theorem ok__law_corners (D : Df K mg "_law_corners" s__law_corners ["_law_box_here"]) : Ok P w K mg base 1 "_law_corners" ["_law_box_here"] (spCorns K) := by
  refine D.ok fun f fd F => F.ok sc__law_corners (fun vs H Q E h => ?_) (fun cdv A outer s H vs Q E hr h => ?_)
  · obtain ⟨x, sp, rfl, _⟩ := h
    rfl
  · obtain ⟨x, sp, rfl, ⟨a, bs, rfl, qb, pb⟩, l3, q⟩ := h
    refine ⟨_, (pss_cons (ps_set (i := 1) sc__law_corners.nd rfl (.inl rfl) (pe_lst (pa_cons (pe_tup pa_nil) pa_nil)))
      (pss_cons (ps_for PassesOwn.never rfl (pi_tup (pv 0)) (pg_tup rfl (pgs_cons (pg_name (i := 2) sc__law_corners.nd rfl (.inr rfl)) (pgs_cons (pg_name (i := 3) sc__law_corners.nd rfl (.inr rfl)) pgs_nil))) (pss_one (ps_set (i := 1) sc__law_corners.nd rfl (.inl rfl) (pe_op op_catE (pe_lc (own := [("_law_spot", 4)]) (g := gName 4) (tt := tYes) rfl sc__law_corners.nd (pi_list (pv 1)) (blkOk_by (N := ["_law_box_here", "_law_found", "_law_low", "_law_high", "_law_spot"]) (sc := defScope s__law_corners) (by decide +kernel)) (fun _ _ _ _ _ => (pg_name (i := 4) sc__law_corners.nd rfl (.inl rfl))) (fun _ _ _ _ _ => pts_nil) (fun _ _ _ _ _ => (pe_op (op_catTE K) (pv 4) (pe_tup (pa_cons (pv 2) pa_nil))))) (pe_lc (own := [("_law_spot", 4)]) (g := gName 4) (tt := tYes) rfl sc__law_corners.nd (pi_list (pv 1)) (blkOk_by (N := ["_law_box_here", "_law_found", "_law_low", "_law_high", "_law_spot"]) (sc := defScope s__law_corners) (by decide +kernel)) (fun _ _ _ _ _ => (pg_name (i := 4) sc__law_corners.nd rfl (.inl rfl))) (fun _ _ _ _ _ => pts_nil) (fun _ _ _ _ _ => (pe_op (op_catTE K) (pv 4) (pe_tup (pa_cons (pv 3) pa_nil)))))))))
      (pss_one (ps_ret (pv 1))))), ?_⟩
    have bl := Paired.length pb
    have qb : SqT K H a bs := qb
    refine ⟨(by show 0 ≤ sizeLine; decide), fun p0 hp0 => ⟨(by show 1 ≤ sizeLine; decide), fun F0 hF0 => ?_⟩⟩
    have e1 : Ex H (upd H p0 (.tup [])) := Ex.new hp0
    have k1 : SqT K (upd H p0 (.tup [])) p0 [] := st_of upd_same
    generalize upd H p0 (.tup []) = H1 at e1 k1 hF0 ⊢
    have e2 : Ex H1 (upd H1 F0 (.lst [.ref p0])) := Ex.new hF0
    have k2 : upd H1 F0 (.lst [.ref p0]) F0 = some (.lst [.ref p0]) := upd_same
    generalize upd H1 F0 (.lst [.ref p0]) = H2 at e2 k2 ⊢
    have E2 := e1.trans e2
    refine ⟨_, rfl, a, rfl, ⟨_, ex_t E2 qb⟩, for_tup (K := K) (a := a) (xs := bs) (fun i σ H' => ∃ (F : Addr) (o2 o3 o4 : Option V) (xs : List V), σ = [some (.ref a), some (.ref F), o2, o3, o4] ∧ Ex H H' ∧ H' F = some (.lst xs) ∧ Paired (RowV K H') xs (corns (sp.take i))) ⟨F0, none, none, none, [.ref p0], rfl, E2, k2, .cons ⟨p0, [], rfl, ex_t e2 k1, .nil⟩ .nil⟩ (fun i σ H' _ ⟨_, _, _, _, _, _, e, _⟩ => ex_t e qb) ?_ ?_⟩
    · rintro i u σ H3 hu ⟨F, o2, o3, o4, xs, rfl, e3, kF, px⟩
      obtain ⟨p, hp, t, va, vb, rfl, qt, fa, fb⟩ := pget (pmono (fun _ _ => SpanV.ex e3) pb) hu
      have il := (List.getElem?_eq_some_iff.mp hp).1
      have xl := Paired.length px
      have c8 := corns_le (sp := sp.take i) (by rw [List.length_take]; omega)
      have crow : ∀ x ∈ corns (sp.take i), x.length ≤ 3 := fun x hx => by
        have := corns_row (sp := sp.take i) (acc := [[]]) (k := 0) (fun y hy => by rw [List.mem_singleton.mp hy]; exact Nat.le_refl _) x hx
        rw [List.length_take] at this
        omega
      refine ⟨t, [va, vb], rfl, qt, rfl, va, [vb], rfl, vb, [], rfl, rfl, ?_⟩
      have half : ∀ {Hb : Hp} {G : Addr} {w : V} {r : Rat}, Ex H3 Hb → Hb G = none → FrV K Hb w r → ∀ {i' : Nat} {y : V} {H' : Hp}, xs[i']? = some y → Bld (RowV K) Hb G ((corns (sp.take i)).map fun x => x ++ [r]) i' H' → ∃ ty ys x, y = .ref ty ∧ SqT K H' ty ys ∧ ys.length ≤ 3 ∧ (∀ p1 H4 u2 H5, H' p1 = none → Ex H' H4 → SqT K H4 p1 [w] → Ex H4 H5 → SqT K H5 u2 (ys ++ [w]) → ∃ acc, H5 G = some (.lst acc) ∧ acc.length < sizeLine ∧ Bld (RowV K) Hb G ((corns (sp.take i)).map fun x => x ++ [r]) (i' + 1) (upd H5 G (.lst (acc ++ [.ref u2])))) ∧ x = y := fun {Hb G w r} eb hG hw {i' y H'} hy b => by
        obtain ⟨x, hx, rv⟩ := pget (pmono (fun _ _ => RowV.ex (eb.trans b.1)) px) hy
        obtain ⟨ty, ys, rfl, qy, py⟩ := rv
        have yl := Paired.length py
        have xr := crow x (List.mem_of_getElem? hx)
        refine ⟨ty, ys, .ref ty, rfl, qy, by omega, fun p1 H4 u2 H5 _ e4 _ e5 q5 => ?_, rfl⟩
        have i8 := (List.getElem?_eq_some_iff.mp hx).1
        exact bld_step (a := x ++ [r]) stR hG b (e4.trans e5) (by rw [List.getElem?_map, hx]; rfl) (by omega) ⟨u2, _, rfl, q5, pair_app (pmono (fun _ _ => FrV.ex (e4.trans e5)) py) (.cons (hw.ex (b.1.trans (e4.trans e5))) .nil)⟩
      -- the low ones
      refine ⟨_, rfl, F, rfl, ⟨_, sq_of kF⟩, fun G hG => ?_⟩
      refine lc_list (K := K) (a := F) (xs := xs) (Bld (RowV K) H3 G ((corns (sp.take i)).map fun x => x ++ [p.1])) (bld0 hG) (fun j H' _ b => sq_of (b.1 _ _ kF)) ?_ ?_
      · rintro j y H' hy b
        obtain ⟨ty, ys, _, rfl, qy, yl, go, _⟩ := half (Ex.refl _) hG fa hy b
        refine ⟨rfl, ?_⟩
        refine ⟨_, rfl, _, rfl, (by show 1 ≤ sizeLine; decide), fun p1 hp1 => ?_⟩
        have e4 : Ex H' (upd H' p1 (.tup [va])) := Ex.new hp1
        exact ⟨ty, p1, _, _, rfl, rfl, ex_t e4 qy, st_of upd_same, Nat.le_of_lt (sz_lt (by show ys.length + 1 < 100000; omega)), fun u2 H5 e5 q5 => go p1 _ u2 H5 hp1 e4 (st_of upd_same) e5 q5⟩
      intro H4 b4
      obtain ⟨e4, gs, hgs, pgs⟩ := bld_end (by rw [List.length_map]; exact xl) b4
      have kF4 := e4 _ _ kF
      -- the high ones
      refine ⟨_, rfl, F, rfl, ⟨_, sq_of kF4⟩, fun G2 hG2 => ?_⟩
      refine lc_list (K := K) (a := F) (xs := xs) (Bld (RowV K) H4 G2 ((corns (sp.take i)).map fun x => x ++ [p.2])) (bld0 hG2) (fun j H' _ b => sq_of (b.1 _ _ kF4)) ?_ ?_
      · rintro j y H' hy b
        obtain ⟨ty, ys, _, rfl, qy, yl, go, _⟩ := half e4 hG2 (fb.ex e4) hy b
        refine ⟨rfl, ?_⟩
        refine ⟨_, rfl, _, rfl, (by show 1 ≤ sizeLine; decide), fun p1 hp1 => ?_⟩
        have e5 : Ex H' (upd H' p1 (.tup [vb])) := Ex.new hp1
        exact ⟨ty, p1, _, _, rfl, rfl, ex_t e5 qy, st_of upd_same, Nat.le_of_lt (sz_lt (by show ys.length + 1 < 100000; omega)), fun u2 H5 e6 q5 => go p1 _ u2 H5 hp1 e5 (st_of upd_same) e6 q5⟩
      intro H5 b5
      obtain ⟨e5, g2, hg2, pg2⟩ := bld_end (by rw [List.length_map]; exact xl) b5
      have gl := Paired.length pgs
      have g2l := Paired.length pg2
      rw [List.length_map] at gl g2l
      refine ⟨G, G2, gs, g2, rfl, rfl, e5 _ _ hgs, hg2, Nat.le_of_lt (sz_lt (by omega)), fun pc H6 npc e6 kC => ?_⟩
      refine ⟨pc, _, _, _, _, rfl, e3.trans (e4.trans (e5.trans e6)), kC, ?_⟩
      rw [corns_snoc hp]
      exact pair_app (pmono (fun _ _ => RowV.ex (e5.trans e6)) pgs) (pmono (fun _ _ => RowV.ex e6) pg2)
    · rintro σ H3 ⟨F, o2, o3, o4, xs, rfl, e3, kF, px⟩
      rw [bl, List.take_length] at px
      exact ⟨_, rfl, q F xs H3 e3 kF px⟩
end

end K18
end
section
set_option maxRecDepth 100000
set_option maxHeartbeats 400000
namespace K18
open PySem Evl Nc PyProof.Rows
open L2 hiding spCell
section
variable {P : Program} {w : World} {K : PySem.W.Frag} {mg : Str → Option Value} {base : Heap}
def upB (up : Bool) (r : Rat) : Bool := if up = true then decide (0 < r.num) else decide (r.num < 0)
/-- the best so far -/
def Best (up : Bool) (z : Sum2) (L : List (List Rat)) (r : Rat) : Prop := (∃ c ∈ L, r = tells z c) ∧ ∀ c ∈ L, if up = true then tells z c ≤ r else r ≤ tells z c
def bitsU (up : Bool) (z : Sum2) : List Bool := z.1.map (upB up)
theorem bits_high (z : Sum2) : bitsU true z = highB z := rfl
theorem bits_low (z : Sum2) : bitsU false z = lowB z := rfl
theorem bits_len (up : Bool) (z : Sum2) : (bitsU up z).length = z.1.length := List.length_map ..
theorem best_new {up : Bool} {z : Sum2} {L : List (List Rat)} {c : List Rat} (h : L = [] ∨ ∃ r, Best up z L r ∧ (if up = true then r ≤ tells z c else tells z c ≤ r)) : Best up z (L ++ [c]) (tells z c) := by
  refine ⟨⟨c, by simp, rfl⟩, fun d hd => ?_⟩
  rcases List.mem_append.mp hd with hd | hd
  · rcases h with rfl | ⟨r, hr, hle⟩
    · cases hd
    · have := hr.2 d hd
      cases up
      · simp only [Bool.false_eq_true, if_false] at *
        exact Rat.le_trans hle this
      · simp only [if_true] at *
        exact Rat.le_trans this hle
  · rw [List.mem_singleton.mp hd]
    cases up
    · simp only [Bool.false_eq_true, if_false]
      exact Rat.le_refl
    · simp only [if_true]
      exact Rat.le_refl
theorem best_old {up : Bool} {z : Sum2} {L : List (List Rat)} {c : List Rat} {r : Rat} (h : Best up z L r) (hle : if up = true then tells z c ≤ r else r ≤ tells z c) : Best up z (L ++ [c]) r := by
  obtain ⟨⟨d, hd, h1⟩, h2⟩ := h
  refine ⟨⟨d, by simp [hd], h1⟩, fun e he => ?_⟩
  rcases List.mem_append.mp he with he | he
  · exact h2 e he
  · rw [List.mem_singleton.mp he]
    exact hle
theorem best_is {up : Bool} {z : Sum2} {sp : List Span} {r : Rat} (hz : z.1.length = sp.length) (hle : ∀ p ∈ sp, p.1 ≤ p.2) (h : Best up z (corns sp) r) : r = tells z (picks sp (bitsU up z)) := by
  obtain ⟨⟨c, hc, rfl⟩, all⟩ := h
  have within : ∀ x ∈ corns sp, Within x sp := fun x hx => by
    have := corns_within (sp0 := []) (acc := [[]]) hle (fun y hy => by rw [List.mem_singleton.mp hy]; exact .nil) x hx
    rwa [List.nil_append] at this
  have at_ : picks sp (bitsU up z) ∈ corns sp := by
    have := corns_in (sp := sp) (bs := bitsU up z) (acc := [[]]) (x := []) (by rw [bits_len, hz]) (by simp)
    rwa [List.nil_append] at this
  have w := within c hc
  have hl : z.1.length = c.length := by rw [hz, Paired.length w]
  have lo := low_le (ws := z.1) w hl
  have b := all _ at_
  cases up with
  | true =>
    have h2 : tells z c ≤ tells z (picks sp (bitsU true z)) := by
      show weighs (z.1.zip c) + z.2 ≤ weighs (z.1.zip (picks sp (bitsU true z))) + z.2
      have := lo.2
      rw [bits_high]
      unfold highB
      generalize weighs (z.1.zip c) = A at *
      generalize weighs (z.1.zip (picks sp (z.1.map fun w => decide (0 < w.num)))) = B at *
      grind
    exact Rat.le_antisymm h2 (by rw [if_pos rfl] at b; exact b)
  | false =>
    have h2 : tells z (picks sp (bitsU false z)) ≤ tells z c := by
      show weighs (z.1.zip (picks sp (bitsU false z))) + z.2 ≤ weighs (z.1.zip c) + z.2
      have := lo.1
      rw [bits_low]
      unfold lowB
      generalize weighs (z.1.zip c) = A at *
      generalize weighs (z.1.zip (picks sp (z.1.map fun w => decide (w.num < 0)))) = B at *
      grind
    exact Rat.le_antisymm (by rw [if_neg (by decide)] at b; exact b) h2
theorem corns_bd {sp : List Span} (hb : SpB 21 18 6 sp) : ∀ x ∈ corns sp, BdL 21 36 x := by
  have go : ∀ {s2 : List Span} {acc : List (List Rat)}, (∀ p ∈ s2, Bd 21 6 p.1 ∧ Bd 21 6 p.2) → (∀ x ∈ acc, BdL 21 36 x) → ∀ x ∈ s2.foldl cstep acc, BdL 21 36 x := by
    intro s2
    induction s2 with
    | nil => intro acc _ h x hx; exact h x hx
    | cons p s2 ih =>
      intro acc hp h x hx
      refine ih (acc := cstep acc p) (fun q hq => hp q (by simp [hq])) (fun y hy => ?_) x hx
      obtain ⟨b1, b2⟩ := hp p (by simp)
      rcases List.mem_append.mp hy with hy | hy
      · obtain ⟨z, hz, rfl⟩ := List.mem_map.mp hy
        intro r hr
        rcases List.mem_append.mp hr with hr | hr
        · exact h z hz r hr
        · rw [List.mem_singleton.mp hr]
          exact b1.mono (Nat.le_refl _) (by decide)
      · obtain ⟨z, hz, rfl⟩ := List.mem_map.mp hy
        intro r hr
        rcases List.mem_append.mp hr with hr | hr
        · exact h z hz r hr
        · rw [List.mem_singleton.mp hr]
          exact b2.mono (Nat.le_refl _) (by decide)
  exact go hb.bd (fun y hy => by rw [List.mem_singleton.mp hy]; intro r hr; cases hr)
theorem tells_sz {z : Sum2} {L : List Rat} (sm : Sml L.length z) (l3 : L.length ≤ 3) (hL : BdL 21 36 L) : Sz 21 10 (tells z L) := by
  have zl := sm.len
  have h0 := bd_weighs (v := 4) (u := 21) (D := 6) (E := 36) (by decide) (l := z.1.zip L) fun p hp' => ⟨sm.row _ (List.of_mem_zip hp').1, hL _ (List.of_mem_zip hp').2⟩
  have h1 := (h0.mono (u := 4 * (4 * 21)) (Nat.mul_le_mul_right _ (by rw [List.length_zip, zl, Nat.min_self]; omega)) (Nat.dvd_refl _)).add (by decide) (sm.num.mono (E := 6 * 36) (Nat.le_refl _) (by decide))
  have h2 : Sz (11 + 10) 10 (weighs (z.1.zip L) + z.2) := h1.sz (by decide) (by decide) (by decide)
  exact h2
def spDue18 (K : PySem.W.Frag) : Sp := fun vs H Q _ => ∃ (x y : V) (up : Bool) (sp : List Span) (z : Sum2), vs = [x, y, .bl up] ∧ BoxV K 6 H x sp ∧ SumV K H y z ∧ Sml sp.length z ∧ ∀ t a c H', Ex H H' → SqT K H' t [a, c] → FrV K H' a (tells z (picks sp (bitsU up z))) → RowV K H' c (picks sp (bitsU up z)) → Q (.ref t) H'
theorem ok__law_due (D : Df K mg "_law_due" s__law_due ["_law_box_here", "_law_one", "_law_upwards"]) (GC : Ok P w K mg base 1 "_law_corners" ["_law_box_here"] (spCorns K)) (GTo : Ok P w K mg base 5 "_law_told" ["_law_one", "_law_spot"] (spTold18 K)) (GL : Ok P w K mg base 1 "_law_less" ["_law_one", "_law_other"] (spLess K)) (mzip : mg "zip" = none) (mtuple : mg "tuple" = none) (mint : mg "int" = none) : Ok P w K mg base 6 "_law_due" ["_law_box_here", "_law_one", "_law_upwards"] (spDue18 K) := by
  refine D.ok fun f fd F => F.ok sc__law_due (fun vs H Q E h => ?_) (fun cdv A outer s H vs Q E hr h => ?_)
  · obtain ⟨x, y, up, sp, z, rfl, _⟩ := h
    rfl
  · obtain ⟨x, y, up, sp, z, rfl, hb, hz, sm, q⟩ := h
    have hr1 : Room 1 _ := hr.mono (by decide)
    refine ⟨_, (pss_cons (ps_set (i := 3) sc__law_due.nd rfl (.inl rfl) pe_non)
      (pss_cons (ps_for PassesOwn.never rfl (pi_list (cl GC hr1 (pa_cons (pv 0) pa_nil))) (pg_name (i := 4) sc__law_due.nd rfl (.inl rfl)) (pss_cons (ps_set (i := 5) sc__law_due.nd rfl (.inl rfl) (cl GTo hr (pa_cons (pv 1) (pa_cons (pv 4) pa_nil))))
      (pss_one (ps_if (PW.pt (pw_or (pt_cmpR op_isN (pv 3) pe_non (nomark _)) (pw_or (PW.pt (pw_and (pt_val (pv 2)) (pw_and1 (pt_val (cl GL hr1 (pa_cons (pv 3) (pa_cons (pv 5) pa_nil))))))) (pw_or1 (PW.pt (pw_and (pt_not (pt_val (pv 2))) (pw_and1 (pt_val (cl GL hr1 (pa_cons (pv 5) (pa_cons (pv 3) pa_nil))))))))))) (pss_one (ps_set (i := 3) sc__law_due.nd rfl (.inl rfl) (pv 5))) pss_nil))))
      (pss_cons (ps_set (i := 4) sc__law_due.nd rfl (.inl rfl) (pe_lst pa_nil))
      (pss_cons (ps_for PassesOwn.never rfl (pi_zipX (by rfl) mzip (pa_cons (pe_ix ix_tup (pv 1) pe_int (fun _ _ => rfl)) (pa_cons (pv 0) pa_nil))) (pg_tup rfl (pgs_cons (pg_name (i := 6) sc__law_due.nd rfl (.inl rfl)) (pgs_cons (pg_tup rfl (pgs_cons (pg_name (i := 7) sc__law_due.nd rfl (.inl rfl)) (pgs_cons (pg_name (i := 8) sc__law_due.nd rfl (.inl rfl)) pgs_nil))) pgs_nil))) (pss_cons (ps_set (i := 9) sc__law_due.nd rfl (.inl rfl) (L2.pe_or (pe_and (pe_cmpR op_gt (pe_ix ix_tup (pv 6) pe_int (fun _ _ => rfl)) pe_int (nomark _)) (pe_one (pv 2))) (pe_one (pe_and (pe_cmpR op_lt (pe_ix ix_tup (pv 6) pe_int (fun _ _ => rfl)) pe_int (nomark _)) (pe_one (pe_not (pv 2)))))))
      (pss_one (ps_expr (pe_bm PySem.F.plainAttrs_list PySem.F.slot_list_append PySem.F.type_list_append mt_append (pv 4) (pa_cons (pe_ix ix_list (pe_lst (pa_cons (pv 7) (pa_cons (pv 8) pa_nil))) (pe_callTy call_int1 (by rfl) mint (by decide +kernel) (pa_cons (pv 9) pa_nil)) (fun _ _ => rfl)) pa_nil))))))
      (pss_one (ps_ret (pe_tup (pa_cons (pv 3) (pa_cons (pe_callTy call_tuple_of (by rfl) mtuple (by decide +kernel) (pa_cons (pv 4) pa_nil)) pa_nil))))))))), ?_⟩
    obtain ⟨hsp, l1, l3, hbb, _, _⟩ := hb
    obtain ⟨ty, ra, rb, rfl, qty, fra, frb⟩ := id hz
    have zl := sm.len
    refine ⟨_, rfl, x, sp, rfl, hsp, l3, fun F xs H1 e1 kF px => ⟨F, rfl, ⟨_, sq_of kF⟩, ?_⟩⟩
    have xl := Paired.length px
    have cl : ∀ c ∈ corns sp, c.length = sp.length := fun c hc => by
      have := corns_within (sp0 := []) (acc := [[]]) hbb.le (fun y hy => by rw [List.mem_singleton.mp hy]; exact .nil) c hc
      rw [List.nil_append] at this
      exact Paired.length this
    have cb := corns_bd hbb
    have cpos : 1 ≤ (corns sp).length := by
      unfold corns
      rw [corns_len]
      have : 0 < 2 ^ sp.length := Nat.pow_pos (by decide)
      show 1 ≤ 1 * _
      omega
    refine for_list (K := K) (a := F) (xs := xs) (fun i σ H' => ∃ (b : V) (o4 o5 : Option V), σ = [some x, some (.ref ty), some (.bl up), some b, o4, o5, none, none, none, none] ∧ Ex H1 H' ∧ ((i = 0 ∧ b = .non) ∨ (1 ≤ i ∧ ∃ r, FrV K H' b r ∧ Sz 21 10 r ∧ Best up z ((corns sp).take i) r))) ⟨.non, none, none, rfl, Ex.refl _, .inl ⟨rfl, rfl⟩⟩ (fun i σ H' _ ⟨_, _, _, _, e, _⟩ => sq_of (e _ _ kF)) ?_ ?_
    · rintro i u σ H2 hu ⟨b, o4, o5, rfl, e2, hbest⟩
      obtain ⟨c, hc, rc⟩ := pget px hu
      have hcm := List.mem_of_getElem? hc
      have clen := cl c hcm
      have smc : Sml c.length z := by rw [clen]; exact sm
      have sz := tells_sz smc (by omega) (cb c hcm)
      refine ⟨_, rfl, _, rfl, .ref ty, u, z, c, rfl, hz.ex (e1.trans e2), rc.ex e2, smc, by omega, cb c hcm, fun tv H3 e3 htv => ?_⟩
      have tk : (corns sp).take (i + 1) = (corns sp).take i ++ [c] := by
        rw [List.take_add_one, hc]
        rfl
      have fin : ∀ {r : Rat} {v : V}, FrV K H3 v r → Sz 21 10 r → Best up z ((corns sp).take i ++ [c]) r → ∃ (b : V) (o4 o5 : Option V), ([some x, some (.ref ty), some (.bl up), some v, some u, some tv, none, none, none, none] : List (Option V)) = [some x, some (.ref ty), some (.bl up), some b, o4, o5, none, none, none, none] ∧ Ex H1 H3 ∧ ((i + 1 = 0 ∧ b = .non) ∨ (1 ≤ i + 1 ∧ ∃ r, FrV K H3 b r ∧ Sz 21 10 r ∧ Best up z ((corns sp).take (i + 1)) r)) := fun {r v} hv hs hB => ⟨v, _, _, rfl, e2.trans e3, .inr ⟨by omega, r, hv, hs, by rw [tk]; exact hB⟩⟩
      rcases hbest with ⟨rfl, rfl⟩ | ⟨i1, r, hbr, sr, hB⟩
      · exact ⟨_, rfl, rfl, _, rfl, iteT ⟨_, rfl, fin htv sz (best_new (.inl rfl))⟩⟩
      · obtain ⟨tr, rfl, qtr⟩ := id hbr
        refine ⟨_, rfl, rfl, _, rfl, iteF ?_⟩
        have hb3 := hbr.ex e3
        cases up with
        | true =>
          refine ⟨_, rfl, _, rfl, iteT ⟨_, rfl, _, rfl, .ref tr, tv, r, _, 21, 10, 21, 10, rfl, hb3, htv, sr, sz, ⟨by decide, by decide, by decide, by decide, by decide⟩, _, rfl, ite2 (fun hd => ?_) (fun hd => ?_)⟩⟩
          · have h : r < tells z c := (Rat.lt_iff _ _).mpr (of_decide_eq_true hd)
            exact iteT ⟨_, rfl, fin htv sz (best_new (.inr ⟨r, hB, by rw [if_pos rfl]; exact Rat.le_of_lt h⟩))⟩
          · have h : ¬ r < tells z c := fun zz => hd (decide_eq_true ((Rat.lt_iff _ _).mp zz))
            exact ⟨_, rfl, _, rfl, iteF (fin hb3 sr (best_old hB (by rw [if_pos rfl]; exact Rat.not_lt.mp h)))⟩
        | false =>
          refine ⟨_, rfl, _, rfl, iteF (iteF ⟨_, rfl, _, rfl, iteT ⟨_, rfl, _, rfl, tv, .ref tr, _, r, 21, 10, 21, 10, rfl, htv, hb3, sz, sr, ⟨by decide, by decide, by decide, by decide, by decide⟩, _, rfl, ite2 (fun hd => ?_) (fun hd => ?_)⟩⟩)⟩
          · have h : tells z c < r := (Rat.lt_iff _ _).mpr (of_decide_eq_true hd)
            first
              | exact iteT ⟨_, rfl, fin htv sz (best_new (.inr ⟨r, hB, by rw [if_neg (by decide)]; exact Rat.le_of_lt h⟩))⟩
              | exact ⟨_, rfl, fin htv sz (best_new (.inr ⟨r, hB, by rw [if_neg (by decide)]; exact Rat.le_of_lt h⟩))⟩
          · have h : ¬ tells z c < r := fun zz => hd (decide_eq_true ((Rat.lt_iff _ _).mp zz))
            first
              | exact iteF (fin hb3 sr (best_old hB (by rw [if_neg (by decide)]; exact Rat.not_lt.mp h)))
              | exact fin hb3 sr (best_old hB (by rw [if_neg (by decide)]; exact Rat.not_lt.mp h))
    · rintro σ H2 ⟨b, o4, o5, rfl, e2, hbest⟩
      obtain ⟨r, hbr, hB⟩ : ∃ r, FrV K H2 b r ∧ Best up z (corns sp) r := by
        rcases hbest with ⟨h0, _⟩ | ⟨_, r, h1, _, h2⟩
        · omega
        · rw [xl, List.take_length] at h2
          exact ⟨r, h1, h2⟩
      have er := best_is zl hbb.le hB
      have E2 := e1.trans e2
      refine ⟨(by show 0 ≤ sizeLine; decide), fun G hG => ?_⟩
      have e3 : Ex H2 (upd H2 G (.lst [])) := Ex.new hG
      have k3 : upd H2 G (.lst []) G = some (.lst []) := upd_same
      generalize upd H2 G (.lst []) = H3 at e3 k3 ⊢
      obtain ⟨ab, bs, rfl, qb, pb⟩ := hsp.ex E2
      obtain ⟨tw, ws, rfl, qw, pw_⟩ := fra.ex E2
      have qb : SqT K H2 ab bs := qb
      have bsl := Paired.length pb
      have wsl := Paired.length pw_
      have qt3 := ex_t (E2.trans e3) qty
      refine ⟨_, rfl, _, _, _, _, rfl, rfl, qt3, at0, _, rfl, true, true, tw, ab, ws, bs, rfl, ex_t e3 qw, ex_t e3 qb, for_zipX (K := K) (by omega) (fun i σ H' => ∃ (o5 o6 o7 o8 o9 : Option V) (gs : List V), σ = [some (.ref ab), some (.ref ty), some (.bl up), some b, some (.ref G), o5, o6, o7, o8, o9] ∧ Ex H2 H' ∧ H' G = some (.lst gs) ∧ Paired (FrV K H') gs ((picks sp (bitsU up z)).take i)) ⟨_, _, _, _, _, [], rfl, e3, k3, .nil⟩ (fun i σ H' ⟨_, _, _, _, _, _, _, e, _⟩ => ⟨ex_t e qw, ex_t e qb⟩) ?_ ?_⟩
      · rintro i wv bv T σ H4 hw hbv ⟨o5, o6, o7, o8, o9, gs, rfl, e4, kG, pg⟩ hT
        obtain ⟨r, hr0, fw0⟩ := pget pw_ hw
        obtain ⟨p, hp, fp0⟩ := pget pb hbv
        have il := (List.getElem?_eq_some_iff.mp hp).1
        have gl := Paired.length pg
        have eT : Ex H4 (upd H4 T (.tup [wv, bv])) := Ex.new hT
        obtain ⟨tw1, rfl, qw1⟩ := fw0.ex (e4.trans eT)
        obtain ⟨tb, va, vb, rfl, qtb, fa, fb⟩ := SpanV.ex (e4.trans eT) fp0
        refine ⟨T, [.ref tw1, .ref tb], rfl, st_of upd_same, rfl, .ref tw1, [.ref tb], rfl, .ref tb, [], rfl, tb, [va, vb], rfl, qtb, rfl, va, [vb], rfl, vb, [], rfl, rfl, rfl, ?_⟩
        generalize upd H4 T (.tup [.ref tw1, .ref tb]) = H5 at eT qw1 qtb fa fb ⊢
        have kG5 := eT _ _ kG
        have hat : ∀ bit : Bool, ∃ w, atI [va, vb] (if bit = true then (1 : Int) else 0) = some w ∧ FrV K H5 w (pickB p bit) := fun bit => by
          cases bit
          · exact ⟨va, at0, fa⟩
          · exact ⟨vb, at1, fb⟩
        refine ⟨_, rfl, _, _, _, _, rfl, rfl, qw1, at0, _, _, rfl, rfl, _, rfl, ite2 (fun hd => ⟨_, rfl, ?_⟩) (fun hd => ⟨_, rfl, iteF ⟨_, rfl, _, _, _, _, rfl, rfl, qw1, at0, _, _, rfl, rfl, _, rfl, ite2 (fun he => ⟨_, rfl, ?_⟩) (fun he => ?_)⟩⟩)⟩
        · have h0 := of_decide_eq_true hd
          cases up
          · refine ⟨_, rfl, iteF ⟨_, rfl, _, _, _, _, rfl, rfl, qw1, at0, _, _, rfl, rfl, _, rfl, ite2 (fun he => absurd (of_decide_eq_true he) (by omega)) (fun he => ?_)⟩⟩
            have hbit : upB false r = false := decide_eq_false (by omega)
            obtain ⟨w, hwa, hwf⟩ := hat false
            refine ⟨_, rfl, .inl ⟨rfl, _, sq_of kG5⟩, _, rfl, _, rfl, (by show 2 ≤ sizeLine; decide), fun pl hpl => ?_⟩
            have eP : Ex H5 (upd H5 pl (.lst [va, vb])) := Ex.new hpl
            have kG6 := eP _ _ kG5
            refine ⟨_, rfl, .inr ⟨false, rfl, pl, [va, vb], _, w, rfl, rfl, sq_of upd_same, hwa, G, gs, w, rfl, rfl, kG6, sz_lt (by rw [gl, List.length_take]; omega), ?_⟩⟩
            refine ⟨_, _, _, _, _, _, rfl, Ex.mut (e4.trans (eT.trans eP)) hG, upd_same, ?_⟩
            have pk : (picks sp (bitsU false z))[i]? = some (pickB p false) := by
              unfold picks bitsU
              rw [List.getElem?_zipWith, hp, List.getElem?_map, hr0]
              exact congrArg (fun q => some (pickB p q)) hbit
            rw [List.take_add_one, pk]
            exact Paired.snoc (pmono (fun _ _ q => FrV.mut kG6 (FrV.ex (eT.trans eP) q)) pg) (FrV.mut kG6 (hwf.ex eP))
          · refine ⟨_, rfl, iteT ?_⟩
            have hbit : upB true r = true := decide_eq_true h0
            obtain ⟨w, hwa, hwf⟩ := hat true
            refine ⟨_, rfl, .inl ⟨rfl, _, sq_of kG5⟩, _, rfl, _, rfl, (by show 2 ≤ sizeLine; decide), fun pl hpl => ?_⟩
            have eP : Ex H5 (upd H5 pl (.lst [va, vb])) := Ex.new hpl
            have kG6 := eP _ _ kG5
            refine ⟨_, rfl, .inr ⟨true, rfl, pl, [va, vb], _, w, rfl, rfl, sq_of upd_same, hwa, G, gs, w, rfl, rfl, kG6, sz_lt (by rw [gl, List.length_take]; omega), ?_⟩⟩
            refine ⟨_, _, _, _, _, _, rfl, Ex.mut (e4.trans (eT.trans eP)) hG, upd_same, ?_⟩
            have pk : (picks sp (bitsU true z))[i]? = some (pickB p true) := by
              unfold picks bitsU
              rw [List.getElem?_zipWith, hp, List.getElem?_map, hr0]
              exact congrArg (fun q => some (pickB p q)) hbit
            rw [List.take_add_one, pk]
            exact Paired.snoc (pmono (fun _ _ q => FrV.mut kG6 (FrV.ex (eT.trans eP) q)) pg) (FrV.mut kG6 (hwf.ex eP))
        · have h0 := of_decide_eq_true he
          cases up
          · refine ⟨_, rfl, ?_⟩
            have hbit : upB false r = true := decide_eq_true h0
            obtain ⟨w, hwa, hwf⟩ := hat true
            refine ⟨_, rfl, .inl ⟨rfl, _, sq_of kG5⟩, _, rfl, _, rfl, (by show 2 ≤ sizeLine; decide), fun pl hpl => ?_⟩
            have eP : Ex H5 (upd H5 pl (.lst [va, vb])) := Ex.new hpl
            have kG6 := eP _ _ kG5
            refine ⟨_, rfl, .inr ⟨true, rfl, pl, [va, vb], _, w, rfl, rfl, sq_of upd_same, hwa, G, gs, w, rfl, rfl, kG6, sz_lt (by rw [gl, List.length_take]; omega), ?_⟩⟩
            refine ⟨_, _, _, _, _, _, rfl, Ex.mut (e4.trans (eT.trans eP)) hG, upd_same, ?_⟩
            have pk : (picks sp (bitsU false z))[i]? = some (pickB p true) := by
              unfold picks bitsU
              rw [List.getElem?_zipWith, hp, List.getElem?_map, hr0]
              exact congrArg (fun q => some (pickB p q)) hbit
            rw [List.take_add_one, pk]
            exact Paired.snoc (pmono (fun _ _ q => FrV.mut kG6 (FrV.ex (eT.trans eP) q)) pg) (FrV.mut kG6 (hwf.ex eP))
          · refine ⟨_, rfl, ?_⟩
            have hbit : upB true r = false := decide_eq_false (by omega)
            obtain ⟨w, hwa, hwf⟩ := hat false
            refine ⟨_, rfl, .inl ⟨rfl, _, sq_of kG5⟩, _, rfl, _, rfl, (by show 2 ≤ sizeLine; decide), fun pl hpl => ?_⟩
            have eP : Ex H5 (upd H5 pl (.lst [va, vb])) := Ex.new hpl
            have kG6 := eP _ _ kG5
            refine ⟨_, rfl, .inr ⟨false, rfl, pl, [va, vb], _, w, rfl, rfl, sq_of upd_same, hwa, G, gs, w, rfl, rfl, kG6, sz_lt (by rw [gl, List.length_take]; omega), ?_⟩⟩
            refine ⟨_, _, _, _, _, _, rfl, Ex.mut (e4.trans (eT.trans eP)) hG, upd_same, ?_⟩
            have pk : (picks sp (bitsU true z))[i]? = some (pickB p false) := by
              unfold picks bitsU
              rw [List.getElem?_zipWith, hp, List.getElem?_map, hr0]
              exact congrArg (fun q => some (pickB p q)) hbit
            rw [List.take_add_one, pk]
            exact Paired.snoc (pmono (fun _ _ q => FrV.mut kG6 (FrV.ex (eT.trans eP) q)) pg) (FrV.mut kG6 (hwf.ex eP))
        · have h1 : ¬ 0 < r.num := fun zz => hd (decide_eq_true zz)
          have h2 : ¬ r.num < 0 := fun zz => he (decide_eq_true zz)
          cases up
          · skip
            have hbit : upB false r = false := decide_eq_false h2
            obtain ⟨w, hwa, hwf⟩ := hat false
            refine ⟨_, rfl, .inl ⟨rfl, _, sq_of kG5⟩, _, rfl, _, rfl, (by show 2 ≤ sizeLine; decide), fun pl hpl => ?_⟩
            have eP : Ex H5 (upd H5 pl (.lst [va, vb])) := Ex.new hpl
            have kG6 := eP _ _ kG5
            refine ⟨_, rfl, .inr ⟨false, rfl, pl, [va, vb], _, w, rfl, rfl, sq_of upd_same, hwa, G, gs, w, rfl, rfl, kG6, sz_lt (by rw [gl, List.length_take]; omega), ?_⟩⟩
            refine ⟨_, _, _, _, _, _, rfl, Ex.mut (e4.trans (eT.trans eP)) hG, upd_same, ?_⟩
            have pk : (picks sp (bitsU false z))[i]? = some (pickB p false) := by
              unfold picks bitsU
              rw [List.getElem?_zipWith, hp, List.getElem?_map, hr0]
              exact congrArg (fun q => some (pickB p q)) hbit
            rw [List.take_add_one, pk]
            exact Paired.snoc (pmono (fun _ _ q => FrV.mut kG6 (FrV.ex (eT.trans eP) q)) pg) (FrV.mut kG6 (hwf.ex eP))
          · skip
            have hbit : upB true r = false := decide_eq_false h1
            obtain ⟨w, hwa, hwf⟩ := hat false
            refine ⟨_, rfl, .inl ⟨rfl, _, sq_of kG5⟩, _, rfl, _, rfl, (by show 2 ≤ sizeLine; decide), fun pl hpl => ?_⟩
            have eP : Ex H5 (upd H5 pl (.lst [va, vb])) := Ex.new hpl
            have kG6 := eP _ _ kG5
            refine ⟨_, rfl, .inr ⟨false, rfl, pl, [va, vb], _, w, rfl, rfl, sq_of upd_same, hwa, G, gs, w, rfl, rfl, kG6, sz_lt (by rw [gl, List.length_take]; omega), ?_⟩⟩
            refine ⟨_, _, _, _, _, _, rfl, Ex.mut (e4.trans (eT.trans eP)) hG, upd_same, ?_⟩
            have pk : (picks sp (bitsU true z))[i]? = some (pickB p false) := by
              unfold picks bitsU
              rw [List.getElem?_zipWith, hp, List.getElem?_map, hr0]
              exact congrArg (fun q => some (pickB p q)) hbit
            rw [List.take_add_one, pk]
            exact Paired.snoc (pmono (fun _ _ q => FrV.mut kG6 (FrV.ex (eT.trans eP) q)) pg) (FrV.mut kG6 (hwf.ex eP))
      · rintro σ H4 ⟨o5, o6, o7, o8, o9, gs, rfl, e4, kG, pg⟩
        have pkl : (picks sp (bitsU up z)).length = sp.length := picks_len (by rw [bits_len, zl])
        rw [wsl, zl, ← pkl, List.take_length] at pg
        refine ⟨_, rfl, _, rfl, G, gs, rfl, .inl ⟨sq_of kG, fun tg htg => ⟨(by show 2 ≤ sizeLine; decide), fun pt hpt => ?_⟩⟩⟩
        have eG : Ex H4 (upd H4 tg (.tup gs)) := Ex.new htg
        have kg : upd H4 tg (.tup gs) tg = some (.tup gs) := upd_same
        generalize upd H4 tg (.tup gs) = H5 at eG kg hpt ⊢
        have eP : Ex H5 (upd H5 pt (.tup [b, .ref tg])) := Ex.new hpt
        have E5 := e4.trans (eG.trans eP)
        refine q pt b (.ref tg) _ (E2.trans E5) (st_of upd_same) ?_ ⟨tg, gs, rfl, ex_t eP (st_of kg), FrL.ex (eG.trans eP) pg⟩
        rw [← er]
        exact hbr.ex E5
end

end K18
end
section
set_option maxRecDepth 100000
set_option maxHeartbeats 400000
namespace K18
open PySem Evl Nc PyProof.Rows
open L2 hiding spCell
section
variable {P : Program} {w : World} {K : PySem.W.Frag} {mg : Str → Option Value} {base : Heap}
theorem xfc_of {K : PySem.W.Frag} {C : Addr} (h : ErC K C) : XfC K C := ⟨h.ga, h.gt, h.oex.exC, h.hd⟩
def spSaid (K : PySem.W.Frag) (CB CA : Addr) : Sp := fun vs H Q _ => ∃ (up : Bool) (x y : V), vs = [.int (if up = true then 1 else 0), x, y] ∧ ((BxT K H x false ∧ ∀ t H', Ex H H' → SqT K H' t [.str "box", x] → Q (.ref t) H') ∨ ∃ sp : List Span, BoxV K 6 H x sp ∧ ((SmT K H sp.length y false ∧ ∀ t H', Ex H H' → SqT K H' t [.str "aim", y] → Q (.ref t) H') ∨
  ∃ z : Sum2, SumV K H y z ∧ Sml sp.length z ∧ ∀ t p a c H', Ex H H' → SqT K H' t [.str "told", .ref p] → SqT K H' p [a, c] → FrV K H' a (tells z (picks sp (bitsU up z))) → RowV K H' c (picks sp (bitsU up z)) → Q (.ref t) H'))
theorem ok__law_said (D : Df K mg "_law_said" s__law_said ["_law_way", "_law_box_here", "_law_one"]) {CB CA : Addr} (EB : Er P w K mg base "NoBox" CB "found" ["self", "found"]) (EA : Er P w K mg base "NoAim" CA "found" ["self", "found"]) {CU : Addr} (gU : mg "CutError" = some (.ref CU)) (x1 : PySem.W.exmOne K (.ref CB) (.ref CB) = some true) (x2 : PySem.W.exmOne K (.ref CA) (.ref CB) = some false) (x3 : PySem.W.exmOne K (.ref CA) (.ref CA) = some true) (GL : OkX P w K mg base 8 "least_of" ["box", "one"] (spLeastX K CB CA lowB)) (GG : OkX P w K mg base 8 "greatest_of" ["box", "one"] (spLeastX K CB CA highB)) : Ok P w K mg base 9 "_law_said" ["_law_way", "_law_box_here", "_law_one"] (spSaid K CB CA) := by
  refine D.ok fun f fd F => F.ok sc__law_said (fun vs H Q E h => ?_) (fun cdv A outer s H vs Q E hr h => ?_)
  · obtain ⟨up, x, y, rfl, _⟩ := h
    rfl
  · obtain ⟨up, x, y, rfl, h⟩ := h
    refine ⟨_, (pss_cons (ps_set (i := 3) sc__law_said.nd rfl (.inl rfl) pe_non)
      (pss_cons (ps_tryX rfl rfl (Clauses.named (i := 4) sc__law_said.nd rfl rfl ⟨rfl, by decide, .inl EB.gm⟩ (fun a oe cls d pn hz hf => pss_one (ps_set (i := 3) sc__law_said.nd rfl (.inl rfl) (pe_tup (pa_cons pe_str (pa_cons (pe_xf (xfc_of EB.ec) EB.no hz hf (pv 4)) pa_nil))))) (Clauses.named (i := 4) sc__law_said.nd rfl rfl ⟨rfl, by decide, .inl EA.gm⟩ (fun a oe cls d pn hz hf => pss_one (ps_set (i := 3) sc__law_said.nd rfl (.inl rfl) (pe_tup (pa_cons pe_str (pa_cons (pe_xf (xfc_of EA.ec) EA.no hz hf (pv 4)) pa_nil))))) (Clauses.plain ⟨rfl, by decide, .inl gU⟩ (fun a oe cls d pn hz hf => pss_one (ps_set (i := 3) sc__law_said.nd rfl (.inl rfl) pe_non)) (Clauses.nil takes0)))) (fun W pn xe tk _ => pss_one (ps_if (pt_cmpR op_eq (pv 0) pe_int (nomark _)) (pss_one (ps_set (i := 3) sc__law_said.nd rfl (.inl rfl) (pe_tup (pa_cons pe_str (pa_cons (clX (W := W) GL hr tk (pa_cons (pv 1) (pa_cons (pv 2) pa_nil))) pa_nil))))) (pss_one (ps_set (i := 3) sc__law_said.nd rfl (.inl rfl) (pe_tup (pa_cons pe_str (pa_cons (clX (W := W) GG hr tk (pa_cons (pv 1) (pa_cons (pv 2) pa_nil))) pa_nil))))))))
      (pss_one (ps_ret (pv 3))))), ?_⟩
    rcases h with ⟨hb, q⟩ | ⟨sp, hb, h⟩
    · cases up
      · exact ⟨_, rfl, rfl, _, rfl, ite2 (fun _ => ⟨_, rfl, _, rfl, x, y, rfl, .inl ⟨hb, fun d H' hd e hk => ⟨true, x1, fun _ a ha => ⟨_, rfl, rfl, rfl, d, _, x, rfl, hk, rfl, (by show 2 ≤ sizeLine; decide), fun p hp => ⟨_, rfl, q p _ (e.trans (Ex.new hp)) (st_of upd_same)⟩⟩, fun z => by cases z⟩⟩⟩) (fun z => (z (decide_eq_true rfl)).elim)⟩
      · exact ⟨_, rfl, rfl, _, rfl, ite2 (fun z => absurd z (by decide)) (fun _ => ⟨_, rfl, _, rfl, x, y, rfl, .inl ⟨hb, fun d H' hd e hk => ⟨true, x1, fun _ a ha => ⟨_, rfl, rfl, rfl, d, _, x, rfl, hk, rfl, (by show 2 ≤ sizeLine; decide), fun p hp => ⟨_, rfl, q p _ (e.trans (Ex.new hp)) (st_of upd_same)⟩⟩, fun z => by cases z⟩⟩⟩)⟩
    · rcases h with ⟨hs, q⟩ | ⟨z, hz, sm, q⟩
      · cases up
        · exact ⟨_, rfl, rfl, _, rfl, ite2 (fun _ => ⟨_, rfl, _, rfl, x, y, rfl, .inr ⟨sp, hb, .inl ⟨hs, fun d H' hd e hk => ⟨false, x2, (fun z => by cases z), fun _ => ⟨true, x3, fun _ a ha => ⟨_, rfl, rfl, rfl, d, _, y, rfl, hk, rfl, (by show 2 ≤ sizeLine; decide), fun p hp => ⟨_, rfl, q p _ (e.trans (Ex.new hp)) (st_of upd_same)⟩⟩, fun z => by cases z⟩⟩⟩⟩⟩) (fun z => (z (decide_eq_true rfl)).elim)⟩
        · exact ⟨_, rfl, rfl, _, rfl, ite2 (fun z => absurd z (by decide)) (fun _ => ⟨_, rfl, _, rfl, x, y, rfl, .inr ⟨sp, hb, .inl ⟨hs, fun d H' hd e hk => ⟨false, x2, (fun z => by cases z), fun _ => ⟨true, x3, fun _ a ha => ⟨_, rfl, rfl, rfl, d, _, y, rfl, hk, rfl, (by show 2 ≤ sizeLine; decide), fun p hp => ⟨_, rfl, q p _ (e.trans (Ex.new hp)) (st_of upd_same)⟩⟩, fun z => by cases z⟩⟩⟩⟩⟩)⟩
      · cases up
        · exact ⟨_, rfl, rfl, _, rfl, ite2 (fun _ => ⟨_, rfl, _, rfl, x, y, rfl, .inr ⟨sp, hb, .inr ⟨z, hz, sm, fun p a c H' e qp fa fc => ⟨(by show 2 ≤ sizeLine; decide), fun t ht => ⟨_, rfl, q t p a c _ (e.trans (Ex.new ht)) (st_of upd_same) (ex_t (Ex.new ht) qp) (fa.ex (Ex.new ht)) (fc.ex (Ex.new ht))⟩⟩⟩⟩⟩) (fun z => (z (decide_eq_true rfl)).elim)⟩
        · exact ⟨_, rfl, rfl, _, rfl, ite2 (fun z => absurd z (by decide)) (fun _ => ⟨_, rfl, _, rfl, x, y, rfl, .inr ⟨sp, hb, .inr ⟨z, hz, sm, fun p a c H' e qp fa fc => ⟨(by show 2 ≤ sizeLine; decide), fun t ht => ⟨_, rfl, q t p a c _ (e.trans (Ex.new ht)) (st_of upd_same) (ex_t (Ex.new ht) qp) (fa.ex (Ex.new ht)) (fc.ex (Ex.new ht))⟩⟩⟩⟩⟩)⟩
end

end K18
end
section
set_option maxRecDepth 100000
set_option maxHeartbeats 400000
namespace K18
open PySem Evl Nc PyProof.Rows
open L2 hiding spCell
section
variable {P : Program} {w : World} {K : PySem.W.Frag} {mg : Str → Option Value} {base : Heap}
theorem neg_num (y : Rat) : (-1 * y).num = 0 - y.num := by
  rw [show (-1 : Rat) * y = -y by grind, Rat.neg_num]
  omega
theorem neg_den (y : Rat) : (-1 * y).den = y.den := by
  rw [show (-1 : Rat) * y = -y by grind, Rat.neg_den]
def spBetw (K : PySem.W.Frag) : Sp := fun vs H Q _ => ∃ (s : Addr) (x : V) (sp : List Span), vs = [.ref s, x] ∧ St3 s H ∧ BoxV K 6 H x sp ∧ ∀ v L H', Dk s H H' → St3 s H' → RowV K H' v L → Within L sp → BdL 21 36 L → Q v H'
theorem betw_le {l h t : Rat} (h0 : l ≤ h) (t0 : 0 ≤ t) (t1 : t ≤ 1) : l ≤ l + t * (h - l) ∧ l + t * (h - l) ≤ h := by
  have d0 : 0 ≤ h - l := by grind
  have a := Rat.mul_nonneg t0 d0
  have b := Rat.mul_nonneg (show 0 ≤ 1 - t by grind) d0
  constructor <;> grind
theorem ok__law_between (D : Df K mg "_law_between" s__law_between ["_law_stream_here", "_law_box_here"]) (GT : Ok P w K mg base 1 "_law_take" ["_law_stream_here", "_law_many"] spTake3) (GF : Ok P w K mg base 2 "_law_fraction" ["_law_top", "_law_bottom"] (spPart K)) (GP : Ok P w K mg base 3 "_law_plus" ["_law_one", "_law_other"] (spPlus K)) (GX : Ok P w K mg base 3 "_law_times" ["_law_one", "_law_other"] (spTimes K)) (mtuple : mg "tuple" = none) : Ok P w K mg base 4 "_law_between" ["_law_stream_here", "_law_box_here"] (spBetw K) := by
  refine D.ok fun f fd F => F.ok sc__law_between (fun vs H Q E h => ?_) (fun cdv A outer s H vs Q E hr h => ?_)
  · obtain ⟨s, x, sp, rfl, _⟩ := h
    rfl
  · obtain ⟨s, x, sp, rfl, hS, ⟨⟨a, bs, rfl, qb, pb⟩, l1, l3, hbb, _, _⟩, q⟩ := h
    have hr1 : Room 1 _ := hr.mono (by decide)
    have hr2 : Room 2 _ := hr.mono (by decide)
    refine ⟨_, (pss_cons (ps_set (i := 2) sc__law_between.nd rfl (.inl rfl) (pe_lst pa_nil))
      (pss_cons (ps_for PassesOwn.never rfl (pi_tup (pv 1)) (pg_tup rfl (pgs_cons (pg_name (i := 3) sc__law_between.nd rfl (.inl rfl)) (pgs_cons (pg_name (i := 4) sc__law_between.nd rfl (.inl rfl)) pgs_nil))) (pss_cons (ps_set (i := 5) sc__law_between.nd rfl (.inl rfl) (cl GF hr2 (pa_cons (cl GT hr1 (pa_cons (pv 0) (pa_cons pe_int pa_nil))) (pa_cons pe_int pa_nil))))
      (pss_one (ps_expr (pe_bm PySem.F.plainAttrs_list PySem.F.slot_list_append PySem.F.type_list_append mt_append (pv 2) (pa_cons (cl GP hr (pa_cons (pv 3) (pa_cons (cl GX hr (pa_cons (pv 5) (pa_cons (cl GP hr (pa_cons (pv 4) (pa_cons (pe_tup (pa_cons (pe_op op_sub pe_int (pe_ix ix_tup (pv 3) pe_int (fun _ _ => rfl))) (pa_cons (pe_ix ix_tup (pv 3) pe_int (fun _ _ => rfl)) pa_nil))) pa_nil))) pa_nil))) pa_nil))) pa_nil))))))
      (pss_one (ps_ret (pe_callTy call_tuple_of (by rfl) mtuple (by decide +kernel) (pa_cons (pv 2) pa_nil)))))), ?_⟩
    have bl := Paired.length pb
    have qb : SqT K H a bs := qb
    refine ⟨(by show 0 ≤ sizeLine; decide), fun F hF => ?_⟩
    have hFs := Ne.symm (hS.lst.ne hF)
    have e0 : Ex H (upd H F (.lst [])) := Ex.new hF
    have k0 : upd H F (.lst []) F = some (.lst []) := upd_same
    have t0 := hS.ex e0
    have r0 := Dk.ex hS.lst e0
    generalize upd H F (.lst []) = H0 at e0 k0 t0 r0 ⊢
    refine ⟨_, rfl, a, rfl, ⟨_, ex_t e0 qb⟩, for_tup (K := K) (a := a) (xs := bs) (fun i σ H' => ∃ (o3 o4 o5 : Option V) (L : List Rat) (xs : List V), σ = [some (.ref s), some (.ref a), some (.ref F), o3, o4, o5] ∧ H' F = some (.lst xs) ∧ Paired (FrV K H') xs L ∧ Within L (sp.take i) ∧ BdL 21 36 L ∧ Dk s H H' ∧ St3 s H') ⟨none, none, none, [], [], rfl, k0, .nil, .nil, (fun _ z => by cases z), r0, t0⟩ (fun i σ H' _ ⟨_, _, _, _, _, _, _, _, _, _, r, _⟩ => sqt_dk hS.lst r qb) ?_ ?_⟩
    · rintro i u σ H3 hu ⟨o3, o4, o5, L, xs, rfl, kF, pF, wL, bL, r3, t3⟩
      obtain ⟨p, hp, t, va, vb, rfl, qt, fa, fb⟩ := pget (pmono (fun _ _ => SpanV.dk hS.lst r3) pb) hu
      have hm := List.mem_of_getElem? hp
      have il := (List.getElem?_eq_some_iff.mp hp).1
      obtain ⟨b1, b2⟩ := hbb.bd p hm
      have hle := hbb.le p hm
      have xl := Paired.length pF
      have wl := Paired.length wL
      rw [List.length_take] at wl
      refine ⟨t, [va, vb], rfl, qt, rfl, va, [vb], rfl, vb, [], rfl, rfl, ?_⟩
      refine ⟨_, rfl, s, _, rfl, t3, by decide, by decide, fun d H4 d0 d1 r4 t4 => ?_⟩
      have e1 : ((1 : Nat) : Int) = 1 := rfl
      refine ⟨d, 6, 3, rfl, by decide, by decide, by decide, .inl (by decide), fun by_ H5 e5 hby => ?_⟩
      have bby : Bd 1 6 (Rat.divInt d 6) := bd_div (by decide) (by rw [e1]; omega) (by rw [e1]; omega) (by decide)
      have by0 : (0 : Rat) ≤ Rat.divInt d 6 := Rat.divInt_nonneg d0 (by decide)
      have by1 : Rat.divInt d 6 ≤ 1 := bby.1.2
      generalize Rat.divInt d 6 = tt at hby bby by0 by1
      have r45 := r4.then e5
      have t5 := t4.ex e5
      have kF5 := r45.keep F _ hFs kF
      have fa5 := fa.dk t3.lst r45
      have fb5 := fb.dk t3.lst r45
      obtain ⟨ta, rfl, qa⟩ := id fa5
      refine ⟨_, rfl, .inl ⟨rfl, _, sq_of kF5⟩, _, rfl, _, rfl, _, rfl, _, rfl, _, _, _, _, rfl, rfl, qa, at0, _, _, rfl, rfl, _, rfl, _, _, _, _, rfl, rfl, qa, at1, (by show 2 ≤ sizeLine; decide), fun pn hpn => ?_⟩
      have en : Ex H5 (upd H5 pn (.tup [.int (0 - p.1.num), .int (p.1.den : Int)])) := Ex.new hpn
      have fn : FrV K (upd H5 pn (.tup [.int (0 - p.1.num), .int (p.1.den : Int)])) (.ref pn) (-1 * p.1) := ⟨pn, rfl, by rw [neg_num, neg_den]; exact st_of upd_same⟩
      generalize upd H5 pn (.tup [.int (0 - p.1.num), .int (p.1.den : Int)]) = H6 at en fn ⊢
      have bn : Bd 21 6 (-1 * p.1) := by
        rw [show -1 * p.1 = -p.1 by grind]
        exact b1.neg
      have z1 : Sz (5 + 3) 3 p.1 := b1.sz (k := 5) (b := 3) (by decide) (by decide) (by decide)
      have z2 : Sz (5 + 3) 3 p.2 := b2.sz (k := 5) (b := 3) (by decide) (by decide) (by decide)
      have zn : Sz (5 + 3) 3 (-1 * p.1) := bn.sz (k := 5) (b := 3) (by decide) (by decide) (by decide)
      have zt : Sz (5 + 3) 3 tt := bby.sz (k := 5) (b := 3) (by decide) (by decide) (by decide)
      have wide := b2.add (by decide) bn
      have zw : Sz (6 + 3) 3 (p.2 + -1 * p.1) := wide.sz (k := 6) (b := 3) (by decide) (by decide) (by decide)
      have prod := bby.mul wide
      have zp : Sz (6 + 6) 6 (tt * (p.2 + -1 * p.1)) := prod.sz (k := 6) (b := 6) (by decide) (by decide) (by decide)
      refine ⟨vb, .ref pn, p.2, -1 * p.1, 8, 3, 8, 3, rfl, fb5.ex en, fn, z2, zn, ⟨by decide, by decide, by decide, by decide, .inl (by decide), by decide⟩, fun v1 H7 e7 hv1 => ?_⟩
      refine ⟨by_, v1, tt, _, 8, 3, 9, 3, rfl, hby.ex (en.trans e7), hv1, zt, zw, ⟨by decide, by decide, by decide, by decide, .inl (by decide), by decide⟩, fun v2 H8 e8 hv2 => ?_⟩
      refine ⟨.ref ta, v2, p.1, _, 8, 3, 12, 6, rfl, fa5.ex (en.trans (e7.trans e8)), hv2, z1, zp, ⟨by decide, by decide, by decide, by decide, .inl (by decide), by decide⟩, fun v3 H9 e9 hv3 => ?_⟩
      have E9 := en.trans (e7.trans (e8.trans e9))
      have kF9 := E9 _ _ kF5
      have r39 := r45.then E9
      have e : tt * (p.2 + -1 * p.1) = tt * (p.2 - p.1) := by grind
      have hv3 : FrV K H9 v3 (p.1 + tt * (p.2 + -1 * p.1)) := hv3
      rw [e] at hv3
      obtain ⟨i1, i2⟩ := betw_le hle by0 by1
      refine ⟨F, xs, _, rfl, rfl, kF9, sz_lt (by omega), ?_⟩
      refine ⟨_, _, _, L ++ [p.1 + tt * (p.2 - p.1)], _, rfl, upd_same, Paired.snoc (pmono (fun _ _ z => FrV.mut kF9 (FrV.dk t3.lst r39 z)) pF) (FrV.mut kF9 hv3), ?_, ?_, (r3.trans r39).mut hF (Ne.symm hFs), (t5.ex E9).mut (Ne.symm hFs)⟩
      · rw [List.take_add_one, hp]
        exact within_snoc wL i1 i2
      · intro r hr
        rcases List.mem_append.mp hr with hr | hr
        · exact bL r hr
        · rw [List.mem_singleton.mp hr]
          have dd : (p.1 + tt * (p.2 - p.1)).den ∣ 36 := by
            rw [← e]
            have c1 : Bd 21 36 p.1 := b1.mono (Nat.le_refl _) (by decide)
            exact (c1.add (by decide) prod).2
          have h1 := b1.1.1
          have h2 := b2.1.2
          refine ⟨⟨?_, ?_⟩, dd⟩
          · generalize ((21 : Nat) : Rat) = T at *
            grind
          · generalize ((21 : Nat) : Rat) = T at *
            grind
    · rintro σ H3 ⟨o3, o4, o5, L, xs, rfl, kF, pF, wL, bL, r3, t3⟩
      rw [bl, List.take_length] at wL
      refine ⟨_, rfl, F, xs, rfl, .inl ⟨sq_of kF, fun pt hpt => ?_⟩⟩
      have eT := Ex.new (o := .tup xs) hpt
      exact q _ L _ (r3.then eT) (t3.ex eT) ⟨pt, xs, rfl, st_of upd_same, FrL.ex eT pF⟩ wL bL
end

end K18
end
section
set_option maxRecDepth 100000
set_option maxHeartbeats 400000
namespace K18
open PySem Evl Nc PyProof.Rows
open L2 hiding spCell
section
variable {P : Program} {w : World} {K : PySem.W.Frag} {mg : Str → Option Value} {base : Heap}
theorem ok__law_cell (D : Df K mg "_law_cell" s__law_cell ["_law_script", "_law_k"]) (mlen : mg "len" = none) : Ok P w K mg base 1 "_law_cell" ["_law_script", "_law_k"] (spCell K) := by
  refine D.ok fun f fd F => F.ok sc__law_cell (fun vs H Q E h => ?_) (fun cdv A outer s H vs Q E hr h => ?_)
  · obtain ⟨a, ns, k, rfl, _⟩ := h
    rfl
  · obtain ⟨a, ns, k, rfl, hS, hk, q⟩ := h
    refine ⟨_, pss_cons (ps_if (pt_cmpR op_lt (pv 1) (pe_callB call_len_seq (by rfl) mlen PySem.boot_len (pa_cons (pv 0) pa_nil)) (nomark _)) (pss_one (ps_ret (pe_ix ix_list (pv 0) (pv 1) (fun _ _ => rfl)))) pss_nil)
      (pss_one (ps_ret (pe_op op_add (pe_op op_mul pe_int (pv 1)) pe_int))), ?_⟩
    refine ⟨_, rfl, _, rfl, a, _, rfl, .inl hS, _, _, rfl, rfl, _, rfl, ite2 (fun hd => ?_) (fun hd => ?_)⟩
    · have hlt := of_decide_eq_true hd
      rw [List.length_map] at hlt
      have hn : k < ns.length := by omega
      refine ⟨_, rfl, _, rfl, a, _, _, .int ns[k], rfl, rfl, hS, atI_nat ?_, q _⟩
      rw [List.getElem?_map, List.getElem?_eq_getElem hn]
      rfl
    · exact ⟨_, rfl, _, _, rfl, rfl, .inl ⟨by decide, by decide⟩, _, _, rfl, rfl, q _⟩
theorem ok__law_stream (D : Df K mg "_law_stream" s__law_stream ["_law_cell_here"]) (mint : mg "int" = none) : Ok P w K mg base 1 "_law_stream" ["_law_cell_here"] spStream3 := by
  refine D.ok fun f fd F => F.ok sc__law_stream (fun vs H Q E h => ?_) (fun cdv A outer s H vs Q E hr h => ?_)
  · obtain ⟨c, rfl, _⟩ := h
    rfl
  · obtain ⟨c, rfl, q⟩ := h
    refine ⟨_, pss_one (ps_ret (pe_lst (pa_cons (pe_op op_mul (pv 0) (pe_callTy call_int1 (by rfl) mint (by decide +kernel) (pa_cons (pe_cmpR op_ge (pv 0) (pe_op op_pow pe_int pe_int) (nomark _)) pa_nil))) (pa_cons (pe_op op_mod (pv 0) pe_int) (pa_cons pe_int pa_nil))))), ?_⟩
    refine ⟨_, rfl, _, rfl, _, _, rfl, rfl, ⟨by decide, by decide, by decide⟩, _, _, rfl, rfl, .inr ⟨_, rfl, _, _, rfl, rfl, .inr (b01 _), _, rfl, _, _, rfl, rfl, (by show (0 : Int) < _; decide), (by show 3 ≤ sizeLine; decide), fun p hp => ?_⟩⟩
    exact q p hp _ (Ex.new hp) ⟨_, _, _, upd_same⟩
theorem ok__law_take (D : Df K mg "_law_take" s__law_take ["_law_stream_here", "_law_many"]) : Ok P w K mg base 1 "_law_take" ["_law_stream_here", "_law_many"] spTake3 := by
  refine D.ok fun f fd F => F.ok sc__law_take (fun vs H Q E h => ?_) (fun cdv A outer s H vs Q E hr h => ?_)
  · obtain ⟨s, m, rfl, _⟩ := h
    rfl
  · obtain ⟨s, m, rfl, ⟨a, b, c, hS⟩, m0, m1, q⟩ := h
    refine ⟨_, pss_cons (ps_if (pt_cmpR op_gt (pe_ix ix_list (pv 0) pe_int (fun _ _ => rfl)) pe_int (nomark _)) (pss_cons (ps_set (i := 2) sc__law_take.nd rfl (.inl rfl) (pe_op op_mod (pe_ix ix_list (pv 0) pe_int (fun _ _ => rfl)) (pv 1))) (pss_cons (ps_asg (pe_op op_fdivW (pe_ix ix_list (pv 0) pe_int (fun _ _ => rfl)) (pv 1)) (pg_sub (pv 0) pe_int set_list)) (pss_one (ps_ret (pv 2))))) pss_nil)
      (pss_cons (ps_asg (pe_op op_add (pe_ix ix_list (pv 0) pe_int (fun _ _ => rfl)) pe_int) (pg_sub (pv 0) pe_int set_list))
      (pss_cons (ps_set (i := 3) sc__law_take.nd rfl (.inl rfl) (pe_op op_mod (pe_op op_add (pe_op op_add (pe_op op_mul (pe_ix ix_list (pv 0) pe_int (fun _ _ => rfl)) pe_int) (pe_op op_mul pe_int (pe_ix ix_list (pv 0) pe_int (fun _ _ => rfl)))) pe_int) pe_int))
      (pss_cons (ps_set (i := 3) sc__law_take.nd rfl (.inl rfl) (pe_op op_mod (pe_op op_mul (pv 3) (pv 3)) pe_int))
      (pss_cons (ps_set (i := 4) sc__law_take.nd rfl (.inl rfl) (pe_op op_mod (pe_op op_add (pe_op op_mul (pv 3) pe_int) (pe_op op_mul pe_int (pe_ix ix_list (pv 0) pe_int (fun _ _ => rfl)))) pe_int))
      (pss_one (ps_ret (pe_op op_mod (pe_op op_fdiv (pe_op op_mod (pe_op op_mul (pv 4) (pv 3)) pe_int) pe_int) (pv 1)))))))), ?_⟩
    have hL : SqL K H s [.int a, .int b, .int c] := sq_of hS
    refine ⟨_, rfl, _, _, _, _, rfl, rfl, hL, at0, _, _, rfl, rfl, _, rfl, ite2 (fun hd => ?_) (fun hd => ?_)⟩
    · refine ⟨_, rfl, _, _, _, _, rfl, rfl, hL, at0, _, rfl, _, _, rfl, rfl, m0, _, rfl, _, _, _, _, rfl, rfl, hL, at0, _, rfl, _, _, rfl, rfl, cdivT m0 m1, _, rfl, s, _, _, 0, rfl, rfl, hS, rfl, _, rfl, ?_⟩
      exact q _ _ (Int.emod_nonneg _ (by omega)) (Int.emod_lt_of_pos _ m0) (Dk.put hS) ⟨_, _, _, upd_same⟩
    · refine ⟨_, rfl, _, _, _, _, rfl, rfl, hL, at2, _, _, rfl, rfl, _, rfl, s, _, _, 2, rfl, rfl, hS, rfl, ?_⟩
      have d1 : Dk s H (upd H s (.lst [.int a, .int b, .int (c + 1)])) := Dk.put hS
      have t1 : St3 s (upd H s (.lst [.int a, .int b, .int (c + 1)])) := ⟨_, _, _, upd_same⟩
      have hL2 : SqL K (upd H s (.lst [.int a, .int b, .int (c + 1)])) s [.int a, .int b, .int (c + 1)] := sq_of upd_same
      refine ⟨_, rfl, _, _, _, _, rfl, rfl, hL2, at1, _, _, rfl, rfl, .inr ⟨by decide, by decide⟩, _, rfl, _, _, _, _, rfl, rfl, hL2, at2, _, _, rfl, rfl, .inl ⟨by decide, by decide⟩, _, _, rfl, rfl, _, _, rfl, rfl, _, _, rfl, rfl, (by show (0 : Int) < _; decide), ?_⟩
      refine ⟨_, rfl, _, rfl, _, _, rfl, rfl, .inl (modb _ (by decide) (by decide)), _, _, rfl, rfl, (by show (0 : Int) < _; decide), ?_⟩
      refine ⟨_, rfl, _, _, rfl, rfl, .inr ⟨by decide, by decide⟩, _, rfl, _, _, _, _, rfl, rfl, hL2, at2, _, _, rfl, rfl, .inl ⟨by decide, by decide⟩, _, _, rfl, rfl, _, _, rfl, rfl, (by show (0 : Int) < _; decide), ?_⟩
      refine ⟨_, rfl, _, rfl, _, _, rfl, rfl, .inl (modb _ (by decide) (by decide)), _, _, rfl, rfl, (by show (0 : Int) < _; decide), _, _, rfl, rfl, ⟨by decide, by decide⟩, _, rfl, _, _, rfl, rfl, m0, ?_⟩
      exact q _ _ (Int.emod_nonneg _ (by omega)) (Int.emod_lt_of_pos _ m0) d1 t1
def spNum18 (K : PySem.W.Frag) : Sp := fun vs H Q _ => ∃ s : Addr, vs = [.ref s] ∧ St3 s H ∧ ∀ v r H', Dk s H H' → St3 s H' → FrV K H' v r → Bd 4 6 r → Q v H'
theorem d6 {c : Int} (h0 : 0 ≤ c) (h1 : c < 3) : 0 < 1 + c ∧ (1 + c).natAbs < 2 ^ 100 ∧ (1 + c).toNat ∣ 6 := by
  have h : c = 0 ∨ c = 1 ∨ c = 2 := by omega
  refine ⟨by omega, by omega, ?_⟩
  rcases h with rfl | rfl | rfl
  · exact ⟨6, rfl⟩
  · exact ⟨3, rfl⟩
  · exact ⟨2, rfl⟩
theorem ok__law_number (D : Df K mg "_law_number" s__law_number ["_law_stream_here"]) (GT : Ok P w K mg base 1 "_law_take" ["_law_stream_here", "_law_many"] spTake3) (GF : Ok P w K mg base 2 "_law_fraction" ["_law_top", "_law_bottom"] (spPart K)) : Ok P w K mg base 3 "_law_number" ["_law_stream_here"] (spNum18 K) := by
  refine D.ok fun f fd F => F.ok sc__law_number (fun vs H Q E h => ?_) (fun cdv A outer s H vs Q E hr h => ?_)
  · obtain ⟨s, rfl, _⟩ := h
    rfl
  · obtain ⟨s, rfl, hS, q⟩ := h
    have hr1 : Room 1 _ := hr.mono (by decide)
    refine ⟨_, pss_one (ps_ret (cl GF hr (pa_cons (pe_ix ix_list (pe_lst (pa_cons pe_int (pa_cons pe_int (pa_cons (pe_un un_neg pe_int) (pa_cons (pe_op op_sub (cl GT hr1 (pa_cons (pv 0) (pa_cons pe_int pa_nil))) pe_int) pa_nil))))) (cl GT hr1 (pa_cons (pv 0) (pa_cons pe_int pa_nil))) (fun _ _ => rfl)) (pa_cons (pe_op op_add pe_int (cl GT hr1 (pa_cons (pv 0) (pa_cons pe_int pa_nil)))) pa_nil)))), ?_⟩
    refine ⟨1, rfl, _, rfl, s, _, rfl, hS, by decide, by decide, fun d H1 a0 a1 r1 t1 => ⟨_, _, rfl, rfl, (by show 4 ≤ sizeLine; decide), fun p hp => ⟨_, rfl, s, _, rfl, t1.new hp, by decide, by decide, fun x H2 x0 x1 r2 t2 => ?_⟩⟩⟩
    have hp2 := r2.keep p _ (Ne.symm (t1.lst.ne hp)) upd_same
    obtain ⟨v, hv, hm⟩ := at_mem (xs := [.int 0, .int 1, .int (-1), .int (d - 4)]) (d := x) x0 (by show x < 4; omega)
    have hv2 : ∃ z : Int, v = .int z ∧ -4 ≤ z ∧ z ≤ 4 := by
      simp only [List.mem_cons, List.not_mem_nil, or_false] at hm
      rcases hm with rfl | rfl | rfl | rfl
      · exact ⟨_, rfl, by omega, by omega⟩
      · exact ⟨_, rfl, by omega, by omega⟩
      · exact ⟨_, rfl, by omega, by omega⟩
      · exact ⟨_, rfl, by omega, by omega⟩
    obtain ⟨z, rfl, z0, z1⟩ := hv2
    have r12 := (r1.then (Ex.new (o := .lst [.int 0, .int 1, .int (-1), .int (d - 4)]) hp)).trans r2
    refine ⟨p, _, _, _, rfl, rfl, sq_of hp2, hv, _, rfl, s, _, rfl, t2, by decide, by decide, fun c H3 c0 c1 r3 t3 => ⟨_, _, rfl, rfl, ?_⟩⟩
    obtain ⟨cb0, cb1, cb2⟩ := d6 c0 c1
    have e4 : ((4 : Nat) : Int) = 4 := rfl
    refine ⟨z, 1 + c, 100, rfl, cb0, cb1, by decide, .inl (by decide), fun v H' e hv => ?_⟩
    exact q v _ H' ((r12.trans r3).then e) (t3.ex e) hv (bd_div cb0 (by rw [e4]; omega) (by rw [e4]; omega) cb2)
def spBox18 (K : PySem.W.Frag) : Sp := fun vs H Q _ => ∃ s : Addr, vs = [.ref s] ∧ St3 s H ∧ ∀ v sp H', Dk s H H' → St3 s H' → BoxV K 6 H' v sp → Q v H'
theorem ok__law_box (D : Df K mg "_law_box" s__law_box ["_law_stream_here"]) (GT : Ok P w K mg base 1 "_law_take" ["_law_stream_here", "_law_many"] spTake3) (GF : Ok P w K mg base 2 "_law_fraction" ["_law_top", "_law_bottom"] (spPart K)) (GP : Ok P w K mg base 3 "_law_plus" ["_law_one", "_law_other"] (spPlus K)) (mrange : mg "range" = none) (mtuple : mg "tuple" = none) : Ok P w K mg base 4 "_law_box" ["_law_stream_here"] (spBox18 K) := by
  refine D.ok fun f fd F => F.ok sc__law_box (fun vs H Q E h => ?_) (fun cdv A outer s H vs Q E hr h => ?_)
  · obtain ⟨s, rfl, _⟩ := h
    rfl
  · obtain ⟨s, rfl, hS, q⟩ := h
    have hr1 : Room 1 _ := hr.mono (by decide)
    have hr2 : Room 2 _ := hr.mono (by decide)
    refine ⟨_, (pss_cons (ps_set (i := 1) sc__law_box.nd rfl (.inl rfl) (pe_lst pa_nil))
      (pss_cons (ps_for PassesOwn.never rfl (pi_range1 (by rfl) mrange (pa_cons (pe_ix ix_list (pe_lst (pa_cons pe_int (pa_cons pe_int (pa_cons pe_int (pa_cons pe_int pa_nil))))) (cl GT hr1 (pa_cons (pv 0) (pa_cons pe_int pa_nil))) (fun _ _ => rfl)) pa_nil)) (pg_name (i := 2) sc__law_box.nd rfl (.inl rfl)) (pss_cons (ps_set (i := 3) sc__law_box.nd rfl (.inl rfl) (cl GF hr2 (pa_cons (pe_op op_sub (cl GT hr1 (pa_cons (pv 0) (pa_cons pe_int pa_nil))) pe_int) (pa_cons (pe_op op_add pe_int (cl GT hr1 (pa_cons (pv 0) (pa_cons pe_int pa_nil)))) pa_nil))))
      (pss_one (ps_expr (pe_bm PySem.F.plainAttrs_list PySem.F.slot_list_append PySem.F.type_list_append mt_append (pv 1) (pa_cons (pe_tup (pa_cons (pv 3) (pa_cons (cl GP hr (pa_cons (pv 3) (pa_cons (cl GF hr2 (pa_cons (cl GT hr1 (pa_cons (pv 0) (pa_cons pe_int pa_nil))) (pa_cons (pe_op op_add pe_int (cl GT hr1 (pa_cons (pv 0) (pa_cons pe_int pa_nil)))) pa_nil))) pa_nil))) pa_nil))) pa_nil))))))
      (pss_one (ps_ret (pe_callTy call_tuple_of (by rfl) mtuple (by decide +kernel) (pa_cons (pv 1) pa_nil)))))), ?_⟩
    refine ⟨(by show 0 ≤ sizeLine; decide), fun F hF => ?_⟩
    have hFs := Ne.symm (hS.lst.ne hF)
    have e0 : Ex H (upd H F (.lst [])) := Ex.new hF
    have k0 : upd H F (.lst []) F = some (.lst []) := upd_same
    have t0 := hS.ex e0
    have r0 := Dk.ex hS.lst e0
    generalize upd H F (.lst []) = H0 at e0 k0 t0 r0 ⊢
    refine ⟨(by show 4 ≤ sizeLine; decide), fun p hp => ⟨_, rfl, s, _, rfl, t0.new hp, by decide, by decide, fun x H2 x0 x1 r2 t2 => ?_⟩⟩
    have hp2 := r2.keep p _ (Ne.symm (t0.lst.ne hp)) upd_same
    obtain ⟨v, hv, hm⟩ := at_mem (xs := [.int 1, .int 2, .int 2, .int 3]) (d := x) x0 (by show x < 4; omega)
    have hv2 : ∃ n : Nat, v = .int (n : Int) ∧ 1 ≤ n ∧ n ≤ 3 := by
      simp only [List.mem_cons, List.not_mem_nil, or_false] at hm
      rcases hm with rfl | rfl | rfl | rfl
      · exact ⟨1, rfl, by omega, by omega⟩
      · exact ⟨2, rfl, by omega, by omega⟩
      · exact ⟨2, rfl, by omega, by omega⟩
      · exact ⟨3, rfl, by omega, by omega⟩
    obtain ⟨n, rfl, n1, n3⟩ := hv2
    have r02 := (r0.then (Ex.new (o := .lst [.int 1, .int 2, .int 2, .int 3]) hp)).trans r2
    have k2 := ((Dk.ex t0.lst (Ex.new (o := .lst [.int 1, .int 2, .int 2, .int 3]) hp)).trans r2).keep F _ hFs k0
    refine ⟨p, _, _, _, rfl, rfl, sq_of hp2, hv, (n : Int), rfl, by omega, by omega, for_range (lo := 0) (n := ((n : Int)).toNat) (fun i σ H' => ∃ (o2 o3 : Option V) (L : List Span) (xs : List V), σ = [some (.ref s), some (.ref F), o2, o3] ∧ H' F = some (.lst xs) ∧ Paired (SpanV K H') xs L ∧ L.length = i ∧ SpB 21 18 6 L ∧ Dk s H H' ∧ St3 s H') ⟨none, none, [], [], rfl, k2, .nil, rfl, spb_nil, r02, t2⟩ ?_ ?_⟩
    · rintro i σ H' hi ⟨o2, o3, L, xs, rfl, kF, pF, Ln, hL, rr, tt⟩
      rw [Int.toNat_natCast] at hi
      have xl := Paired.length pF
      refine ⟨_, rfl, s, _, rfl, tt, by decide, by decide, fun d H1 a0 a1 r1 t1 => ⟨_, _, rfl, rfl, _, rfl, s, _, rfl, t1, by decide, by decide, fun c H2 c0 c1 r2 t2 => ⟨_, _, rfl, rfl, ?_⟩⟩⟩
      obtain ⟨cb0, cb1, cb2⟩ := d6 c0 c1
      have e6 : ((6 : Nat) : Int) = 6 := rfl
      refine ⟨d - 6, 1 + c, 100, rfl, cb0, cb1, by decide, .inl (by decide), fun lo H3 e3 hlo => ?_⟩
      have slo : Bd 6 6 (Rat.divInt (d - 6) (1 + c)) := bd_div cb0 (by rw [e6]; omega) (by rw [e6]; omega) cb2
      generalize Rat.divInt (d - 6) (1 + c) = l0 at hlo slo
      have t3 := t2.ex e3
      have r3 := (r1.trans r2).then e3
      have kF3 := r3.keep F _ hFs kF
      refine ⟨_, rfl, .inl ⟨rfl, _, sq_of kF3⟩, _, rfl, _, rfl, _, rfl, s, _, rfl, t3, by decide, by decide, fun z H4 z0 z1 r4 t4 => ⟨_, rfl, s, _, rfl, t4, by decide, by decide, fun c' H5 c0' c1' r5 t5 => ⟨_, _, rfl, rfl, ?_⟩⟩⟩
      obtain ⟨cb0', cb1', cb2'⟩ := d6 c0' (by omega : c' < 3)
      refine ⟨z, 1 + c', 100, rfl, cb0', cb1', by decide, .inl (by decide), fun wv H6 e7 hw => ?_⟩
      have sw : Bd 6 6 (Rat.divInt z (1 + c')) := bd_div cb0' (by rw [e6]; omega) (by rw [e6]; omega) cb2'
      have w0 : (0 : Rat) ≤ Rat.divInt z (1 + c') := Rat.divInt_nonneg z0 (by omega)
      generalize Rat.divInt z (1 + c') = w1 at hw sw w0
      have hlo6 := hlo.dk t3.lst ((r4.trans r5).then e7)
      have slz : Sz (3 + 3) 3 l0 := slo.sz (k := 3) (b := 3) (by decide) (by decide) (by decide)
      have swz : Sz (3 + 3) 3 w1 := sw.sz (k := 3) (b := 3) (by decide) (by decide) (by decide)
      refine ⟨lo, wv, l0, w1, 6, 3, 6, 3, rfl, hlo6, hw, slz, swz, ⟨by decide, by decide, by decide, by decide, .inl (by decide), by decide⟩, fun hi' H9 e9 hhi => ⟨(by show 2 ≤ sizeLine; decide), fun pp hpp => ?_⟩⟩
      have eA : Ex H9 (upd H9 pp (.tup [lo, hi'])) := Ex.new hpp
      have spv : SpanV K (upd H9 pp (.tup [lo, hi'])) (.ref pp) (l0, l0 + w1) := ⟨pp, lo, hi', rfl, st_of upd_same, hlo6.ex (e9.trans eA), hhi.ex eA⟩
      have rA := r3.trans (((r4.trans r5).then e7).then (e9.trans eA))
      have tA := t5.ex (e7.trans (e9.trans eA))
      generalize upd H9 pp (.tup [lo, hi']) = HA at spv rA tA ⊢
      have kFA := rA.keep F _ hFs kF
      have pFA : Paired (SpanV K HA) xs L := pmono (fun _ _ q => SpanV.dk tt.lst rA q) pF
      refine ⟨F, xs, _, rfl, rfl, kFA, sz_lt (by omega), ?_⟩
      have w12 := sw.1.2
      have e6r : ((6 : Nat) : Rat) = 6 := rfl
      rw [e6r] at w12
      refine ⟨_, _, L ++ [(l0, l0 + w1)], _, rfl, upd_same, Paired.snoc (pmono (fun _ _ => SpanV.mut kFA) pFA) (SpanV.mut kFA spv), by simp [Ln], spb_snoc hL ⟨slo.mono (by decide) (Nat.dvd_refl _), (slo.add (by decide) sw).mono (by decide) (Nat.dvd_refl _)⟩ (by show l0 ≤ l0 + w1; grind) (by
          have e18 : ((18 : Nat) : Rat) = 18 := rfl
          show l0 + w1 - l0 ≤ _
          rw [e18]
          grind), (rr.trans rA).mut hF (Ne.symm hFs), tA.mut (Ne.symm hFs)⟩
    · rintro σ H' ⟨o2, o3, L, xs, rfl, kF, pF, Ln, hL, rr, tt⟩
      rw [Int.toNat_natCast] at Ln
      refine ⟨_, rfl, F, xs, rfl, .inl ⟨sq_of kF, fun pt hpt => ?_⟩⟩
      have eT := Ex.new (o := .tup xs) hpt
      exact q _ L _ (rr.then eT) (tt.ex eT) ⟨⟨pt, xs, rfl, st_of upd_same, pmono (fun _ _ => SpanV.ex eT) pF⟩, by omega, by omega, hL, by decide, by decide⟩
def spRow18 (K : PySem.W.Frag) : Sp := fun vs H Q _ => ∃ (s : Addr) (n : Nat), vs = [.ref s, .int (n : Int)] ∧ St3 s H ∧ n ≤ 3 ∧ ∀ v L H', Dk s H H' → St3 s H' → RowV K H' v L → L.length = n → BdL 4 6 L → Q v H'
theorem ok__law_row (D : Df K mg "_law_row" s__law_row ["_law_stream_here", "_law_many"]) (GN : Ok P w K mg base 3 "_law_number" ["_law_stream_here"] (spNum18 K)) (mtuple : mg "tuple" = none) (mrange : mg "range" = none) : Ok P w K mg base 4 "_law_row" ["_law_stream_here", "_law_many"] (spRow18 K) := by
  refine D.ok fun f fd F => F.ok sc__law_row (fun vs H Q E h => ?_) (fun cdv A outer s H vs Q E hr h => ?_)
  · obtain ⟨s, n, rfl, _⟩ := h
    rfl
  · obtain ⟨s, n, rfl, hS, hn, q⟩ := h
    refine ⟨_, pss_one (ps_ret (pe_callTy call_tuple_of (by rfl) mtuple (by decide +kernel) (pa_cons (pe_lc (own := [("_law_k", 2)]) (g := gName 2) (tt := tYes) rfl sc__law_row.nd (pi_range1 (by rfl) mrange (pa_cons (pv 1) pa_nil)) (blkOk_by (N := ["_law_stream_here", "_law_many", "_law_k"]) (sc := defScope s__law_row) (by decide +kernel)) (fun _ _ _ _ _ => (pg_name (i := 2) sc__law_row.nd rfl (.inl rfl))) (fun _ _ _ _ _ => pts_nil) (fun _ _ _ _ _ => cl GN hr (pa_cons (pv 0) pa_nil))) pa_nil))), ?_⟩
    refine ⟨_, rfl, (n : Int), rfl, by omega, by omega, fun D hD => ?_⟩
    refine lc_range (lo := 0) (n := ((n : Int)).toNat) (BldD (FrV K) (fun L => BdL 4 6 L) s H D) (bdd0 hS hD (fun _ z => by cases z)) ?_ ?_
    · rintro i H' hi b
      rw [Int.toNat_natCast] at hi
      obtain ⟨_, _, _, _, _, _, d0, t0⟩ := id b
      refine ⟨rfl, ?_⟩
      refine ⟨_, rfl, s, rfl, t0, fun v r H4 r4 t4 hv hs => ?_⟩
      exact bdd_step sdF hS.lst hD b (by omega) r4 t4 hv (fun L hL _ x hx => by
        rcases List.mem_append.mp hx with hx | hx
        · exact hL x hx
        · rw [List.mem_singleton.mp hx]
          exact hs)
    · rintro H' ⟨L, xs, hx, hl, hn', hz, r1, t1⟩
      rw [Int.toNat_natCast] at hn'
      refine ⟨D, xs, rfl, .inl ⟨sq_of hx, fun l hl' => ?_⟩⟩
      have row : RowV K (upd H' l (.tup xs)) (.ref l) L := ⟨l, xs, rfl, st_of upd_same, FrL.ex (Ex.new hl') hl⟩
      exact q _ L _ (r1.then (Ex.new (o := .tup xs) hl')) (t1.new (o := .tup xs) hl') row hn' hz
end

end K18
end
section
set_option maxRecDepth 100000
set_option maxHeartbeats 4000000
namespace Nc
open PySem PySem.Spec PyProof.Rows L2 Evl
/-! ### what is shown, an empty dict within a pair too -/
inductive Rp2 (K : PySem.W.Frag) (H : Hp) : V → Str → Prop
  | old {v x} (h : Rp K H v x) : Rp2 K H v x
  | tag {t a : Addr} {y : Str} (q : SqT K H t [.str y, .ref a]) (e : H a = some (.dK [])) (n : (PyData.tuple [.str y, .dict []]).shown.length ≤ sizeLine) (m : (PyData.tuple [.str y, .dict []]).showable = true) : Rp2 K H (.ref t) (PyData.tuple [.str y, .dict []]).shown
def rRp2 (K : PySem.W.Frag) : List V → Hp → VK → Prop := fun vs H Q => ∃ v x, vs = [v] ∧ Rp2 K H v x ∧ Q (.str x) H
theorem room2 {u : Nat} {y : Str} (hu : u + 64 < cLine) : u + ((PyData.tuple [.str y, .dict []]).depth + 1) < cLine := by
  have : (PyData.tuple [.str y, .dict []]).depth ≤ 3 := by
    have e : (PyData.tuple [.str y, .dict []]).depth = (PyData.tuple [.str ("" : Str), .dict []]).depth := rfl
    rw [e]
    decide
  omega
theorem call_rp2 {X : Cx} (hG : X.A.guards = some []) (hu : X.A.units + 64 < cLine) : CallR X (.builtin "repr") (rRp2 X.K) := by
  intro pins s σ H xs us Q I r h
  obtain ⟨v, x, rfl, h, q⟩ := h
  cases h with
  | old h => exact call_rp hG hu pins s σ H _ us Q I r ⟨_, _, rfl, h, q⟩
  | @tag t a y hq he hn hm =>
    obtain ⟨u, rfl, rx⟩ := vals1 r
    cases (show u = Value.ref t from rx)
    obtain ⟨its, rv, ⟨o1, g1, c1, n1, d1⟩, _⟩ := I.tuple hq
    obtain ⟨_, ya, va, ra, o, es, ep, h1, h2, h3, h4⟩ := (show ObjOk X.prog X.w H s.heap a (.dK []) from I.hok a _ he)
    cases ra
    have hes : es.toList = [] := by
      have hp := h4.2.1
      generalize es.toList = l at hp
      cases hp
      rfl
    have R : Reads s.heap (.ref a) (.dict []) ([a] ++ [] ++ []) := by
      refine Reads.dict h1 h2.1 h3 ?_ ?_
      · rw [hes]
        exact .nil
      · rw [hes]
        exact .nil
    cases rv with
    | @cons _ u1 _ us1 r1 rest =>
      cases rest with
      | @cons _ u2 _ us2 r2 rest =>
        cases rest
        obtain ⟨t1, rfl⟩ := r1
        cases (show u2 = Value.ref a from r2)
        have R2 : Reads s.heap (.ref t) (.tuple [.str y, .dict []]) ([] ++ (([a] ++ [] ++ []) ++ [])) := Reads.tuple g1 c1 d1 (.cons (Reads.str y t1) (.cons R .nil))
        refine repr_of_reads' R2 hm (fun _ hmm => ?_) hG (room2 hu) (fun _ _ z => z) (fun h' u tk kp => ⟨.str _, H, I.kept (t' := tk) kp, ⟨u, rfl⟩, q⟩) hn
        simp only [List.append_nil, List.nil_append, List.mem_singleton] at hmm
        subst hmm
        simp at ya
/-! ### lists of small data -/
theorem dz_els {K : PySem.W.Frag} {s : Addr} {H : Hp} {b k : Nat} : ∀ {ys : List V}, (∀ x ∈ ys, ∃ d, Dz K s H x d ∧ Sw d b k) → ∃ ds, DzA K s H ys ds ∧ SwA ds ((b + 1) * ys.length) k
  | [], _ => ⟨[], .nil, swa_nil k⟩
  | y :: ys, h => by
    obtain ⟨d, h1, h2⟩ := h y (by simp)
    obtain ⟨ds, g1, g2⟩ := dz_els (ys := ys) fun z hz => h z (by simp [hz])
    refine ⟨d :: ds, .cons h1 g1, (swa_cons h2 g2).mono ?_ (Nat.le_refl _)⟩
    rw [List.length_cons, Nat.mul_add (b + 1) ys.length 1]
    omega
theorem dz_tup {K : PySem.W.Frag} {s t : Addr} {H : Hp} {b k c : Nat} {ys : List V} (q : SqT K H t ys) (h : ∀ x ∈ ys, ∃ d, Dz K s H x d ∧ Sw d b k) (hc : (b + 1) * ys.length ≤ c) : ∃ d, Dz K s H (.ref t) d ∧ Sw d c (k + 1) := by
  obtain ⟨ds, h1, h2⟩ := dz_els h
  exact ⟨_, .tup q h1, (sw_tup h2).mono hc (Nat.le_refl _)⟩
theorem dz_lst {K : PySem.W.Frag} {s t : Addr} {H : Hp} {b k c : Nat} {ys : List V} (q : H t = some (.lst ys)) (n : t ≠ s) (h : ∀ x ∈ ys, ∃ d, Dz K s H x d ∧ Sw d b k) (hc : (b + 1) * ys.length ≤ c) : ∃ d, Dz K s H (.ref t) d ∧ Sw d c (k + 1) := by
  obtain ⟨ds, h1, h2⟩ := dz_els h
  exact ⟨_, .lst n q h1, (sw_lst h2).mono hc (Nat.le_refl _)⟩
theorem dz_mono {K : PySem.W.Frag} {s : Addr} {H : Hp} {v : V} {b k b' k' : Nat} (h : ∃ d, Dz K s H v d ∧ Sw d b k) (hb : b ≤ b') (hk : k ≤ k') : ∃ d, Dz K s H v d ∧ Sw d b' k' := by
  obtain ⟨d, h1, h2⟩ := h
  exact ⟨d, h1, h2.mono hb hk⟩
theorem sw_int {i : Int} (h : i.natAbs < 2 ^ 250) : Sw (.int i) 0 0 := by
  obtain ⟨a1, a2, a3, a4, a5⟩ := (Lf.int i h).sh
  exact ⟨a1, a2, a4, Nat.le_refl 0, Nat.le_refl 0⟩
theorem dz_fr {K : PySem.W.Frag} {s : Addr} {H : Hp} {v : V} {r : Rat} (h : FrV K H v r) (z : Sz 250 250 r) : ∃ d, Dz K s H v d ∧ Sw d 2 1 := by
  obtain ⟨t, rfl, q⟩ := h
  exact dz_tup q (b := 0) (k := 0) (fun x hx => by
    simp only [List.mem_cons, List.not_mem_nil, or_false] at hx
    rcases hx with rfl | rfl
    · exact ⟨_, .int _, sw_int z.1⟩
    · exact ⟨_, .int _, sw_int z.den⟩) (by show (0 + 1) * 2 ≤ 2; decide)
/-- data small enough to be shown, or an empty dict -/
def Shv (K : PySem.W.Frag) (s : Addr) (H : Hp) (v : V) : Prop := (∃ d, Dz K s H v d ∧ Sw d 50 4) ∨ ∃ a, v = .ref a ∧ H a = some (.dK [])
theorem Shv.ex {K : PySem.W.Frag} {s : Addr} {H H' : Hp} {v : V} (e : Ex H H') (h : Shv K s H v) : Shv K s H' v := by
  rcases h with ⟨d, h1, h2⟩ | ⟨a, h1, h2⟩
  · exact .inl ⟨d, Dz.ex e d v h1, h2⟩
  · exact .inr ⟨a, h1, e _ _ h2⟩
theorem Shv.dk {K : PySem.W.Frag} {s : Addr} {H H' : Hp} {v : V} (h0 : Lst s H) (r : Dk s H H') (h : Shv K s H v) : Shv K s H' v := by
  rcases h with ⟨d, h1, h2⟩ | ⟨a, h1, h2⟩
  · exact .inl ⟨d, Dz.dk h0 r d v h1, h2⟩
  · refine .inr ⟨a, h1, r.keep _ _ (fun z => ?_) h2⟩
    obtain ⟨xs, e⟩ := h0
    rw [z, e] at h2
    cases h2
end Nc
end
section
set_option maxRecDepth 100000
set_option maxHeartbeats 400000
namespace K18
open PySem Evl Nc PyProof.Rows
open L2 hiding spCell
section
variable {P : Program} {w : World} {K : PySem.W.Frag} {mg : Str → Option Value} {base : Heap}
theorem cut_mem {xs : List V} {lo hi : Option Int} {x : V} (h : x ∈ cutV xs lo hi) : x ∈ xs := List.mem_of_mem_drop (List.mem_of_mem_take h)
/-- an odd thing in a sum's place -/
inductive Od (K : PySem.W.Frag) (s : Addr) (H : Hp) : V → Prop
  | leaf {v : V} (h : v = .non ∨ v = .int 1 ∨ v = .bl true ∨ v = .str "1") : Od K s H v
  | lst {a : Addr} (q : H a = some (.lst [.int 1, .int 1])) (n : a ≠ s) : Od K s H (.ref a)
  | two {t : Addr} {a b : Int} (q : SqT K H t [.int a, .int b]) (h : (a = 2 ∧ b = 4) ∨ (a = 1 ∧ b = 0)) : Od K s H (.ref t)
  | one {t : Addr} (q : SqT K H t [.int 1]) : Od K s H (.ref t)
theorem od_dk {K : PySem.W.Frag} {s : Addr} {H H' : Hp} {v : V} (h0 : Lst s H) (r : Dk s H H') (h : Od K s H v) : Od K s H' v := by
  cases h with
  | leaf h => exact .leaf h
  | lst q n => exact .lst (r.keep _ _ n q) n
  | two q h => exact .two (sqt_dk h0 r q) h
  | one q => exact .one (sqt_dk h0 r q)
theorem od_lf {v : V} (h : v = .non ∨ v = .int 1 ∨ v = .bl true ∨ v = .str "1") : Lf v := by
  rcases h with rfl | rfl | rfl | rfl
  · exact .non
  · exact .int 1 (by decide)
  · exact .bl true
  · exact .str _ (by simp)
theorem od_th {K : PySem.W.Frag} {s : Addr} {H : Hp} {v : V} (h : Od K s H v) : Th K H v false := by
  cases h with
  | leaf h =>
    obtain ⟨k, hk, n⟩ := (od_lf h).kd (K := K) (H := H)
    exact .oth hk n
  | lst q n => exact .oth (k := .lst) ⟨tyL (sq_of q), fun z => by cases z⟩ (by decide)
  | @two t a b q h =>
    have e := Th.nums q
    rcases h with ⟨rfl, rfl⟩ | ⟨rfl, rfl⟩
    · exact e
    · exact e
  | one q => exact .tupN q (by decide)
theorem od_dz {K : PySem.W.Frag} {s : Addr} {H : Hp} {v : V} (h : Od K s H v) : ∃ d, Dz K s H v d ∧ Sw d 4 1 := by
  cases h with
  | leaf h =>
    have l := od_lf h
    have w := (sw_lf l).mono (Nat.le_refl 4) (Nat.zero_le 1)
    rcases h with rfl | rfl | rfl | rfl
    · exact ⟨_, .non, w⟩
    · exact ⟨_, .int 1, w⟩
    · exact ⟨_, .bl true, w⟩
    · exact ⟨_, .str _, w⟩
  | lst q n =>
    exact dz_lst q n (b := 0) (k := 0) (fun x hx => by
      simp only [List.mem_cons, List.not_mem_nil, or_false, or_self] at hx
      subst hx
      exact ⟨_, .int 1, sw_int (by decide)⟩) (by show (0 + 1) * 2 ≤ 4; decide)
  | @two t a b q h =>
    exact dz_tup q (b := 0) (k := 0) (fun x hx => by
      simp only [List.mem_cons, List.not_mem_nil, or_false] at hx
      rcases hx with rfl | rfl
      · exact ⟨_, .int _, sw_int (by rcases h with ⟨rfl, rfl⟩ | ⟨rfl, rfl⟩ <;> decide)⟩
      · exact ⟨_, .int _, sw_int (by rcases h with ⟨rfl, rfl⟩ | ⟨rfl, rfl⟩ <;> decide)⟩) (by show (0 + 1) * 2 ≤ 4; decide)
  | one q =>
    exact dz_tup q (b := 0) (k := 0) (fun x hx => by
      simp only [List.mem_cons, List.not_mem_nil, or_false] at hx
      subst hx
      exact ⟨_, .int 1, sw_int (by decide)⟩) (by show (0 + 1) * 1 ≤ 4; decide)
/-- small fractions -/
def Frs (K : PySem.W.Frag) (H : Hp) (xs : List V) : Prop := ∀ x ∈ xs, ∃ r, FrV K H x r ∧ Sz 250 250 r
theorem frs_th {K : PySem.W.Frag} {H : Hp} : ∀ {ys : List V}, Frs K H ys → Paired (Th K H) ys (List.replicate ys.length true)
  | [], _ => .nil
  | y :: ys, h => by
    obtain ⟨r, hr, _⟩ := h y (by simp)
    exact .cons hr.th (frs_th (ys := ys) fun z hz => h z (by simp [hz]))
theorem frs_dz {K : PySem.W.Frag} {s : Addr} {H : Hp} {ys : List V} (h : Frs K H ys) : ∀ x ∈ ys, ∃ d, Dz K s H x d ∧ Sw d 4 1 := fun x hx => by
  obtain ⟨r, hr, z⟩ := h x hx
  exact dz_mono (dz_fr hr z) (by decide) (Nat.le_refl _)
theorem sz_250 {v : Nat} {D : Nat} {r : Rat} (h : Bd 21 6 r) : Sz 250 250 r := by
  have z : Sz (245 + 5) 5 r := h.sz (k := 245) (b := 5) (by decide) (by decide) (by decide)
  exact ⟨z.1, lt_mono z.2 (by decide)⟩
theorem all_mid {a b : List Bool} : (a ++ [false] ++ b).all id = false := by
  simp [List.all_append]
theorem rwB_all {bs : List Bool} {k : Int} (h : bs.all id = false) : rwB (some bs) k = false := by
  show (decide ((bs.length : Int) = k) && bs.all id) = false
  rw [h, Bool.and_false]
theorem rwB_len {bs : List Bool} {k : Int} (h : (bs.length : Int) ≠ k) : rwB (some bs) k = false := by
  show (decide ((bs.length : Int) = k) && bs.all id) = false
  rw [decide_eq_false h, Bool.false_and]
theorem smt_f {K : PySem.W.Frag} {H : Hp} {n : Nat} {t : Addr} {r c : V} {f : Option (List Bool)} {b : Bool} (q : SqT K H t [r, c]) (hr : Rw K H r f) (hc : Th K H c b) (z : rwB f (n : Int) = false ∨ b = false) : SmT K H n (.ref t) false := by
  have e := SmT.two (n := n) q hr hc
  rcases z with z | z
  · rwa [z, Bool.false_and] at e
  · rwa [z, Bool.and_false] at e
theorem frs_rw {K : PySem.W.Frag} {H : Hp} {t : Addr} {ys : List V} (q : SqT K H t ys) (h : Frs K H ys) (z : ys.length ≤ 100) : Rw K H (.ref t) (some (List.replicate ys.length true)) := .tup q (frs_th h) z
theorem dz_two {K : PySem.W.Frag} {s t : Addr} {H : Hp} {x y : V} {b k : Nat} (q : SqT K H t [x, y]) (hx : ∃ d, Dz K s H x d ∧ Sw d b k) (hy : ∃ d, Dz K s H y d ∧ Sw d b k) : ∃ d, Dz K s H (.ref t) d ∧ Sw d (2 * b + 2) (k + 1) :=
  dz_tup q (fun z hz => by
    simp only [List.mem_cons, List.not_mem_nil, or_false] at hz
    rcases hz with rfl | rfl
    · exact hx
    · exact hy) (by show (b + 1) * 2 ≤ 2 * b + 2; omega)
theorem dz_pair {K : PySem.W.Frag} {s t : Addr} {H : Hp} {x y : V} {b c k : Nat} (q : SqT K H t [x, y]) (hx : ∃ d, Dz K s H x d ∧ Sw d b k) (hy : ∃ d, Dz K s H y d ∧ Sw d c k) : ∃ d, Dz K s H (.ref t) d ∧ Sw d (b + c + 2) (k + 1) := by
  obtain ⟨d, h1, h2⟩ := hx
  obtain ⟨e, h3, h4⟩ := hy
  exact ⟨_, .tup q (.cons h1 (.cons h3 .nil)), (sw_tup (swa_cons h2 (swa_cons h4 (swa_nil k)))).mono (by omega) (Nat.le_refl _)⟩
def spBad18 (K : PySem.W.Frag) : Sp := fun vs H Q _ => ∃ (s : Addr) (y : V) (z : Sum2) (n : Nat), vs = [.ref s, y] ∧ St3 s H ∧ SumV K H y z ∧ Sml n z ∧ 1 ≤ n ∧ n ≤ 3 ∧ ∀ v H', Dk s H H' → St3 s H' → (∀ H2, Dk s H' H2 → SmT K H2 n v false) → Shv K s H' v → Q v H'
theorem ok__law_bad_sum (D : Df K mg "_law_bad_sum" s__law_bad_sum ["_law_stream_here", "_law_one"]) (GT : Ok P w K mg base 1 "_law_take" ["_law_stream_here", "_law_many"] spTake3) (mlen : mg "len" = none) (mlist : mg "list" = none) : Ok P w K mg base 2 "_law_bad_sum" ["_law_stream_here", "_law_one"] (spBad18 K) := by
  refine D.ok fun f fd F => F.ok sc__law_bad_sum (fun vs H Q E h => ?_) (fun cdv A outer s H vs Q E hr h => ?_)
  · obtain ⟨s, y, z, n, rfl, _⟩ := h
    rfl
  · obtain ⟨s, y, z, n, rfl, hS, ⟨ty, a, b, rfl, qy, ⟨tr, xs, rfl, qr, px⟩, fb⟩, sm, n1, n3, q⟩ := h
    refine ⟨_, (pss_cons (ps_asg (pv 1) (pg_tup rfl (pgs_cons (pg_name (i := 2) sc__law_bad_sum.nd rfl (.inl rfl)) (pgs_cons (pg_name (i := 3) sc__law_bad_sum.nd rfl (.inl rfl)) pgs_nil))))
      (pss_cons (ps_set (i := 4) sc__law_bad_sum.nd rfl (.inl rfl) (cl GT hr (pa_cons (pv 0) (pa_cons (pe_callB call_len_seq (by rfl) mlen PySem.boot_len (pa_cons (pv 2) pa_nil)) pa_nil))))
      (pss_cons (ps_set (i := 5) sc__law_bad_sum.nd rfl (.inl rfl) (pe_ix ix_list (pe_lstE (pa_cons pe_non (pa_cons pe_int (pa_cons pe_bl (pa_cons (pe_tupE (pa_cons pe_int (pa_cons pe_int pa_nil))) (pa_cons (pe_tupE (pa_cons pe_int (pa_cons pe_int pa_nil))) (pa_cons (pe_lstE (pa_cons pe_int (pa_cons pe_int pa_nil))) (pa_cons pe_str (pa_cons (pe_tupE (pa_cons pe_int pa_nil)) pa_nil))))))))) (cl GT hr (pa_cons (pv 0) (pa_cons pe_int pa_nil))) (fun _ _ => rfl)))
      (pss_cons (ps_set (i := 6) sc__law_bad_sum.nd rfl (.inl rfl) (pe_lstE (pa_cons (pe_tupE (pa_cons (pe_op (op_catTE K) (pe_op (op_catTE K) (pe_slice (sl_tupE K) (pv 2) po_none (po_some (pv 4))) (pe_tupE (pa_cons (pv 5) pa_nil))) (pe_slice (sl_tupE K) (pv 2) (po_some (pe_op op_add (pv 4) pe_int)) po_none)) (pa_cons (pv 3) pa_nil))) (pa_cons (pe_tupE (pa_cons (pv 2) (pa_cons (pv 5) pa_nil))) (pa_cons (pe_tupE (pa_cons (pe_callTy (T := "list") (call_lstK K) (by rfl) mlist (by decide +kernel) (pa_cons (pv 2) pa_nil)) (pa_cons (pv 3) pa_nil))) (pa_cons (pe_lstE (pa_cons (pv 2) (pa_cons (pv 3) pa_nil))) (pa_cons (pe_tupE (pa_cons (pv 2) pa_nil)) (pa_cons (pv 2) pa_nil))))))))
      (pss_cons (ps_set (i := 6) sc__law_bad_sum.nd rfl (.inl rfl) (pe_op op_catE (pv 6) (pe_lstE (pa_cons (pe_tupE (pa_cons (pe_op (op_catTE K) (pv 2) (pe_tupE (pa_cons (pe_tupE (pa_cons pe_int (pa_cons pe_int pa_nil))) pa_nil))) (pa_cons (pv 3) pa_nil))) (pa_cons (pe_tupE (pa_cons (pe_slice (sl_tupE K) (pv 2) (po_some pe_int) po_none) (pa_cons (pv 3) pa_nil))) (pa_cons (pe_tupE (pa_cons (pv 2) (pa_cons (pv 3) (pa_cons (pv 3) pa_nil)))) (pa_cons pe_non (pa_cons pe_int (pa_cons pe_str (pa_cons pe_dicE (pa_cons (pe_tupE pa_nil) pa_nil)))))))))))
      (pss_one (ps_ret (pe_ix ix_list (pv 6) (cl GT hr (pa_cons (pv 0) (pa_cons pe_int pa_nil))) (fun _ _ => rfl))))))))), ?_⟩
    have zl := sm.len
    have xl := Paired.length px
    have px : FrL K H xs z.1 := px
    have hnum : Sz 250 250 z.2 := sz_250 (v := 0) (D := 0) (sm.num.mono (by decide) (Nat.dvd_refl _))
    refine ⟨_, rfl, ty, [.ref tr, b], rfl, qy, rfl, .ref tr, [b], rfl, b, [], rfl, rfl, ?_⟩
    refine ⟨_, rfl, _, rfl, tr, _, rfl, .inr qr, s, _, rfl, hS, (by omega), (by omega), fun at_ H1 a0 a1 r1 t1 => ?_⟩
    refine ⟨(by show 2 ≤ sizeLine; decide), fun p1 G1 m1 f1 g1 => ?_⟩
    refine ⟨(by show 2 ≤ sizeLine; decide), fun p2 G2 m2 f2 g2 => ?_⟩
    refine ⟨(by show 2 ≤ sizeLine; decide), fun p3 G3 m3 f3 g3 => ?_⟩
    refine ⟨(by show 1 ≤ sizeLine; decide), fun p4 G4 m4 f4 g4 => ?_⟩
    refine ⟨(by show 8 ≤ sizeLine; decide), fun p5 G5 m5 f5 g5 => ?_⟩
    have F2 := f1.trans f2
    have F4 := f3.trans f4
    have E5 := (F2.trans F4).trans f5
    have t5 := t1.ex E5
    refine ⟨_, rfl, s, _, rfl, t5, by decide, by decide, fun k2 H2 b0 b1 r2 t2 => ?_⟩
    have sne : ∀ {G : Hp} {p : Addr}, St3 s G → G p = none → p ≠ s := fun t hp => Ne.symm (t.lst.ne hp)
    have k5 := r2.keep p5 _ (sne (t1.ex (F2.trans F4)) m5) g5
    obtain ⟨odd, hodd, hm⟩ := at_mem (xs := [.non, .int 1, .bl true, .ref p1, .ref p2, .ref p3, .str "1", .ref p4]) (d := k2) b0 (by show k2 < 8; omega)
    have o5 : Od K s G5 odd := by
      simp only [List.mem_cons, List.not_mem_nil, or_false] at hm
      rcases hm with rfl | rfl | rfl | rfl | rfl | rfl | rfl | rfl
      · exact .leaf (.inl rfl)
      · exact .leaf (.inr (.inl rfl))
      · exact .leaf (.inr (.inr (.inl rfl)))
      · exact .two (st_of (((f2.trans F4).trans f5) _ _ g1)) (.inl ⟨rfl, rfl⟩)
      · exact .two (st_of ((F4.trans f5) _ _ g2)) (.inr ⟨rfl, rfl⟩)
      · exact .lst ((f4.trans f5) _ _ g3) (sne (t1.ex F2) m3)
      · exact .leaf (.inr (.inr (.inr rfl)))
      · exact .one (st_of (f5 _ _ g4))
    have o2 := od_dk t5.lst r2 o5
    have R2 := (r1.then E5).trans r2
    have qr2 := sqt_dk hS.lst R2 qr
    refine ⟨p5, _, _, _, rfl, rfl, sq_of k5, hodd, ?_⟩
    -- the things
    have z0 : 1000 ≤ sizeLine := by decide
    have c1 : (cutV xs none (some at_)).length ≤ xs.length := cutV_length _ _ _
    have c2 : (cutV xs (some (at_ + 1)) none).length ≤ xs.length := cutV_length _ _ _
    refine ⟨_, rfl, _, rfl, at_, rfl, tr, xs, rfl, qr2, fun q1 A1 e1 d1 => ?_⟩
    refine ⟨_, rfl, (by show 1 ≤ sizeLine; decide), fun q2 A2 n2 e2 d2 => ?_⟩
    refine ⟨q1, q2, _, [odd], rfl, rfl, ex_t e2 d1, st_of d2, (by show _ + 1 ≤ sizeLine; omega), fun q3 A3 e3 d3 => ?_⟩
    have E3 := (e1.trans e2).trans e3
    refine ⟨_, rfl, _, rfl, _, _, rfl, rfl, _, rfl, tr, xs, rfl, ex_t E3 qr2, fun q4 A4 e4 d4 => ?_⟩
    refine ⟨q3, q4, _, _, rfl, rfl, ex_t e4 d3, d4, (by rw [List.length_append]; show _ + 1 + _ ≤ sizeLine; omega), fun q5 A5 e5 d5 => ?_⟩
    refine ⟨_, rfl, (by show 2 ≤ sizeLine; decide), fun q6 A6 n6 e6 d6 => ?_⟩
    refine ⟨_, rfl, _, rfl, (by show 2 ≤ sizeLine; decide), fun q7 A7 n7 e7 d7 => ?_⟩
    have E4 := E3.trans (e4.trans e5)
    have E7 := E4.trans (e6.trans e7)
    refine ⟨_, rfl, tr, xs, rfl, .inr (ex_t E7 qr2), fun q8 n8 => ?_⟩
    have e8 : Ex A7 (upd A7 q8 (.lst xs)) := Ex.new n8
    have d8 : upd A7 q8 (.lst xs) q8 = some (.lst xs) := upd_same
    generalize upd A7 q8 (.lst xs) = A8 at e8 d8 ⊢
    refine ⟨_, rfl, (by show 2 ≤ sizeLine; decide), fun q9 A9 n9 e9 d9 => ?_⟩
    refine ⟨_, rfl, _, rfl, (by show 2 ≤ sizeLine; decide), fun u1 B1 o1 h1 i1 => ?_⟩
    refine ⟨_, rfl, (by show 1 ≤ sizeLine; decide), fun u2 B2 o2' h2 i2 => ?_⟩
    refine ⟨_, rfl, (by show 6 ≤ sizeLine; decide), fun u3 B3 o3 h3 i3 => ?_⟩
    have E8 := E7.trans e8
    have Eb3 := e9.trans (h1.trans (h2.trans h3))
    have E9 := E8.trans Eb3
    refine ⟨_, rfl, _, rfl, (by show 2 ≤ sizeLine; decide), fun u4 B4 o4 h4 i4 => ?_⟩
    refine ⟨(by show 1 ≤ sizeLine; decide), fun u5 B5 o5' h5 i5 => ?_⟩
    have E10 := E9.trans (h4.trans h5)
    refine ⟨tr, u5, xs, _, rfl, rfl, ex_t E10 qr2, st_of i5, (by show xs.length + 1 ≤ sizeLine; omega), fun u6 B6 h6 i6 => ?_⟩
    refine ⟨_, rfl, (by show 2 ≤ sizeLine; decide), fun u7 B7 o7 h7 i7 => ?_⟩
    have E11 := E10.trans (h6.trans h7)
    refine ⟨_, rfl, _, rfl, tr, xs, rfl, ex_t E11 qr2, fun u8 B8 h8 i8 => ?_⟩
    refine ⟨_, rfl, (by show 2 ≤ sizeLine; decide), fun u9 B9 o9 h9 i9 => ?_⟩
    refine ⟨_, rfl, _, rfl, _, rfl, (by show 3 ≤ sizeLine; decide), fun w1 C1 j1 l1 g1' => ?_⟩
    refine fun w2 C2 j2 l2 g2' => ?_
    refine ⟨(by show 0 ≤ sizeLine; decide), fun w3 C3 j3 l3 g3' => ?_⟩
    refine ⟨(by show 8 ≤ sizeLine; decide), fun w4 C4 j4 l4 g4' => ?_⟩
    have L24 := l2.trans (l3.trans l4)
    have L14 := l1.trans L24
    have H94 := h9.trans L14
    have H84 := h8.trans H94
    have H74 := h7.trans H84
    have H64 := h6.trans H74
    have H54 := h5.trans H64
    have H44 := h4.trans H54
    refine ⟨u3, w4, _, _, rfl, rfl, H44 _ _ i3, g4', (by show 6 + 8 ≤ sizeLine; decide), fun w5 C5 j5 l5 g5' => ?_⟩
    have S5 := t2.ex ((E9.trans H44).trans l5)
    refine ⟨_, rfl, _, rfl, s, _, rfl, S5, by decide, by decide, fun k3 H3 b3 b4 r3 t3 => ?_⟩
    have S4 := t2.ex (E9.trans H44)
    have k5' := r3.keep w5 _ (sne S4 j5) g5'
    obtain ⟨v, hv, hvm⟩ := at_mem (xs := [.ref q6, .ref q7, .ref q9, .ref u1, .ref u2, .ref tr] ++ [.ref u7, .ref u9, .ref w1, .non, .int 7, .str "", .ref w2, .ref w3]) (d := k3) b3 (by show k3 < 14; omega)
    refine ⟨w5, _, _, _, rfl, rfl, sq_of k5', hv, ?_⟩
    have key : ∀ H3, Dk s C5 H3 → SmT K H3 n v false ∧ Shv K s H3 v := fun H3 r3 => by
      have mk : SmT K H3 n v false → Shv K s H3 v → SmT K H3 n v false ∧ Shv K s H3 v := And.intro
      -- all in the last heap
      have T : ∀ {G : Hp} {p : Addr} {ys : List V}, Ex G C5 → SqT K G p ys → SqT K H3 p ys := fun e qq => sqt_dk S5.lst r3 (ex_t e qq)
      have M5 := l5
      have N4 := H44.trans l5
      have N3 := h3.trans N4
      have N2 := h2.trans N3
      have N1 := h1.trans N2
      have N9 := e9.trans N1
      have N8 := e8.trans N9
      have N7 := e7.trans N8
      have N6 := e6.trans N7
      have N5 := e5.trans N6
      have R3 := (R2.then ((E9.trans H44).trans l5)).trans r3
      have q_tr := sqt_dk hS.lst R3 qr
      have p_x : FrL K H3 xs z.1 := pmono (fun _ _ zz => FrV.dk hS.lst R3 zz) px
      have f_b := FrV.dk hS.lst R3 fb
      have o_d := od_dk S5.lst r3 (od_dk t2.lst (Dk.ex t2.lst ((E9.trans H44).trans l5)) o2)
      have frx : Frs K H3 xs := fun x hx => by
        obtain ⟨i, hi⟩ := List.getElem?_of_mem hx
        obtain ⟨r, hr', hf⟩ := pget p_x hi
        exact ⟨r, hf, sz_250 (v := 0) (D := 0) ((sm.row r (List.mem_of_getElem? hr')).mono (by decide) (Nat.dvd_refl _))⟩
      have dxs := frs_dz (s := s) frx
      have drow : ∃ d, Dz K s H3 (.ref tr) d ∧ Sw d 15 2 := dz_tup q_tr dxs (by omega)
      have dnum : ∃ d, Dz K s H3 b d ∧ Sw d 4 2 := dz_mono (dz_fr f_b hnum) (by decide) (by decide)
      have dodd : ∃ d, Dz K s H3 odd d ∧ Sw d 4 2 := dz_mono (od_dz o_d) (Nat.le_refl _) (by decide)
      have tb : Th K H3 b true := f_b.th
      have rwx := frs_rw q_tr frx (by omega)
      simp only [List.cons_append, List.nil_append, List.mem_cons, List.not_mem_nil, or_false] at hvm
      have fin : ∀ {d : Nat}, (∃ D, Dz K s H3 v D ∧ Sw D d 4) → d ≤ 50 → Shv K s H3 v := fun h hd => .inl (dz_mono h hd (Nat.le_refl _))
      rcases hvm with rfl | rfl | rfl | rfl | rfl | rfl | rfl | rfl | rfl | rfl | rfl | rfl | rfl | rfl
      · have qq := T N7 (st_of d6)
        have qq5 := T N6 d5
        have f1' : Frs K H3 (cutV xs none (some at_)) := fun x hx => frx x (cut_mem hx)
        have f2' : Frs K H3 (cutV xs (some (at_ + 1)) none) := fun x hx => frx x (cut_mem hx)
        refine mk (smt_f qq (.tup qq5 (pair_app (pair_app (frs_th f1') (.cons (od_th o_d) .nil)) (frs_th f2')) (by rw [List.length_append, List.length_append]; show _ + 1 + _ ≤ 100; omega)) tb (.inl (rwB_all all_mid))) ?_
        refine fin (dz_mono (dz_pair qq (dz_tup (b := 4) (c := 35) qq5 (fun x hx => ?_) ?_) dnum) (Nat.le_refl _) (by decide)) (by decide)
        · rcases List.mem_append.mp hx with hx | hx
          · rcases List.mem_append.mp hx with hx | hx
            · exact dxs x (cut_mem hx)
            · rw [List.mem_singleton.mp hx]
              exact od_dz o_d
          · exact dxs x (cut_mem hx)
        · rw [List.length_append, List.length_append]
          show (4 + 1) * (_ + 1 + _) ≤ 35
          omega
      · have qq := T N8 (st_of d7)
        exact mk (smt_f qq rwx (od_th o_d) (.inr rfl)) (fin (dz_mono (dz_pair qq drow dodd) (Nat.le_refl _) (by decide)) (by decide))
      · have qq := T N1 (st_of d9)
        have nq8 : q8 ≠ s := sne (t2.ex E7) n8
        have k8 := r3.keep q8 _ nq8 (N9 _ _ d8)
        exact mk (smt_f qq (.oth (k := .lst) ⟨tyL (sq_of k8), fun zz => by cases zz⟩ (by decide)) tb (.inl rfl)) (fin (dz_mono (dz_pair qq (dz_lst (c := 30) k8 nq8 dxs (by omega)) dnum) (Nat.le_refl _) (by decide)) (by decide))
      · have nu1 : u1 ≠ s := sne (t2.ex (E8.trans e9)) o1
        have k1 := r3.keep u1 _ nu1 (N2 _ _ i1)
        obtain ⟨dr, hr1, hr2⟩ := drow
        obtain ⟨dn, hn1, hn2⟩ := dnum
        exact mk (.oth (k := .lst) ⟨tyL (sq_of k1), fun zz => by cases zz⟩ (by decide)) (fin ⟨_, .lst nu1 k1 (.cons hr1 (.cons hn1 .nil)), (sw_lst (swa_cons hr2 (swa_cons hn2 (swa_nil 2)))).mono (Nat.le_refl _) (by decide)⟩ (by decide))
      · have qq := T N3 (st_of i2)
        obtain ⟨dr, hr1, hr2⟩ := drow
        exact mk (.len qq (by show 1 ≠ 2; decide)) (fin ⟨_, .tup qq (.cons hr1 .nil), (sw_tup (swa_cons hr2 (swa_nil 2))).mono (Nat.le_refl _) (by decide)⟩ (by decide))
      · refine mk ?_ (fin (dz_mono drow (Nat.le_refl _) (by decide)) (by decide))
        by_cases h2n : xs.length = 2
        · match xs, h2n, q_tr, frx with
          | [x1, x2], _, q_tr, frx =>
            obtain ⟨ra, ⟨ta, rfl, qa⟩, _⟩ := frx x1 (by simp)
            obtain ⟨rb, hb', _⟩ := frx x2 (by simp)
            exact smt_f q_tr (.tup qa (.cons (.oth (k := .int) ⟨.base (.int _), fun _ => ⟨_, rfl⟩⟩ (by decide)) (.cons (.oth (k := .int) ⟨.base (.int _), fun _ => ⟨_, rfl⟩⟩ (by decide)) .nil)) (by show 2 ≤ 100; decide)) hb'.th (.inl (rwB_all rfl))
        · exact .len q_tr h2n
      · have qq := T (h8.trans (H94.trans l5)) (st_of i7)
        have qq6 := T (H74.trans l5) i6
        have f11 : FrV K H3 (.ref u4) 1 := ⟨u4, rfl, T (H54.trans l5) (st_of i4)⟩
        have f7 : Frs K H3 (xs ++ [.ref u4]) := fun x hx => by
          rcases List.mem_append.mp hx with hx | hx
          · exact frx x hx
          · rw [List.mem_singleton.mp hx]
            exact ⟨1, f11, ⟨by decide, by decide⟩⟩
        exact mk (smt_f qq (frs_rw qq6 f7 (by rw [List.length_append]; show _ + 1 ≤ 100; omega)) tb (.inl (rwB_len (by rw [List.length_replicate, List.length_append]; show ((xs.length + 1 : Nat) : Int) ≠ _; omega)))) (fin (dz_mono (dz_pair qq (dz_tup (c := 30) qq6 (frs_dz f7) (by rw [List.length_append]; show (4 + 1) * (_ + 1) ≤ 30; omega)) dnum) (Nat.le_refl _) (by decide)) (by decide))
      · have qq := T (L14.trans l5) (st_of i9)
        have qq8 := T (H94.trans l5) i8
        have cf : cutV xs (some 1) none = xs.drop 1 := cut_from (i := 1) (by omega)
        have f8' : Frs K H3 (cutV xs (some 1) none) := fun x hx => frx x (cut_mem hx)
        have cl : (cutV xs (some 1) none).length = xs.length - 1 := by rw [cf, List.length_drop]
        exact mk (smt_f qq (frs_rw qq8 f8' (by omega)) tb (.inl (rwB_len (by rw [List.length_replicate, cl]; omega)))) (fin (dz_mono (dz_pair qq (dz_tup (c := 30) qq8 (frs_dz f8') (by rw [cl]; omega)) dnum) (Nat.le_refl _) (by decide)) (by decide))
      · have qq := T (L24.trans l5) (st_of g1')
        obtain ⟨dr, hr1, hr2⟩ := drow
        obtain ⟨dn, hn1, hn2⟩ := dnum
        exact mk (.len qq (by show 3 ≠ 2; decide)) (fin ⟨_, .tup qq (.cons hr1 (.cons hn1 (.cons hn1 .nil))), (sw_tup (swa_cons hr2 (swa_cons hn2 (swa_cons hn2 (swa_nil 2))))).mono (Nat.le_refl _) (by decide)⟩ (by decide))
      · exact mk (.oth (k := .non) ⟨.base .non, fun zz => by cases zz⟩ (by decide)) (fin ⟨_, .non, (sw_lf .non).mono (Nat.le_refl _) (by decide)⟩ (by decide))
      · exact mk (.oth (k := .int) ⟨.base (.int _), fun _ => ⟨_, rfl⟩⟩ (by decide)) (fin ⟨_, .int 7, (sw_int (by decide)).mono (Nat.le_refl _) (by decide)⟩ (by decide))
      · exact mk (.oth (k := .str) ⟨.base (.str _), fun zz => by cases zz⟩ (by decide)) (fin ⟨_, .str _, (sw_lf (.str "" (by simp))).mono (Nat.le_refl _) (by decide)⟩ (by decide))
      · have nw : w2 ≠ s := sne (t2.ex (E9.trans (h4.trans (h5.trans (h6.trans (h7.trans (h8.trans (h9.trans l1)))))))) j2
        have kw := r3.keep w2 _ nw ((l3.trans (l4.trans l5)) _ _ g2')
        exact mk (.oth (k := .dic) ⟨.base (.dK kw), fun zz => by cases zz⟩ (by decide)) (.inr ⟨w2, rfl, kw⟩)
      · have qq := T (l4.trans l5) (st_of g3')
        exact mk (.len qq (by show 0 ≠ 2; decide)) (fin (dz_tup (b := 0) (k := 3) (c := 0) qq (fun x hx => by cases hx) (Nat.le_refl _)) (by decide))
    exact q v H3 ((R2.then ((E9.trans H44).trans l5)).trans r3) t3 (fun H2 r => (key H2 (r3.trans r)).1) (key H3 r3).2
end

end K18
end
section
set_option maxRecDepth 100000
set_option maxHeartbeats 400000
namespace K18
open PySem Evl Nc PyProof.Rows
open L2 hiding spCell
section
variable {P : Program} {w : World} {K : PySem.W.Frag} {mg : Str → Option Value} {base : Heap}
theorem box_dkx {K : PySem.W.Frag} {s : Addr} {H H' : Hp} {v : V} {sp : List Span} (h0 : Lst s H) (r : Dk s H H') (h : BoxV K 6 H v sp) : BoxV K 6 H' v sp := by
  obtain ⟨⟨a, xs, rfl, qa, pa⟩, rest⟩ := h
  have qa : SqT K H a xs := qa
  exact ⟨⟨a, xs, rfl, sqt_dk h0 r qa, pmono (fun _ _ zz => SpanV.dk h0 r zz) pa⟩, rest⟩
theorem box_exx {K : PySem.W.Frag} {H H' : Hp} {v : V} {sp : List Span} (r : Ex H H') (h : BoxV K 6 H v sp) : BoxV K 6 H' v sp := by
  obtain ⟨⟨a, xs, rfl, qa, pa⟩, rest⟩ := h
  have qa : SqT K H a xs := qa
  exact ⟨⟨a, xs, rfl, ex_t r qa, pmono (fun _ _ zz => SpanV.ex r zz) pa⟩, rest⟩
def tD (v : Rat) (L : List Rat) : PyData := .tuple [.str "told", .tuple [fd v, .tuple (L.map fd)]]
theorem td_lay (v : Rat) (L : List Rat) : (tD v L).canLay0 = true := by
  show ((PyData.str "told").canLay0 && (((fd v).canLay0 && ((PyData.tuple (L.map fd)).canLay0 && true)) && true)) = true
  have hs : (PyData.str "told").canLay0 = true := by decide +kernel
  rw [lay_row, hs, lay_fd]
  rfl
theorem td_shaped (v : Rat) (L : List Rat) : SeqAt.shaped (tD v L) = true := by
  unfold SeqAt.shaped
  rw [td_lay, Bool.true_and]
  refine decide_eq_true ?_
  have h1 := depthAll_fd L
  have h2 : PyData.depth (fd v) = 1 := rfl
  show max (PyData.depth (.str "told")) (max (max (PyData.depth (fd v)) (max (PyData.depthAll (L.map fd) + 1) 0) + 1) 0) + 1 ≤ 64
  have h3 : PyData.depth (.str "told") = 0 := rfl
  omega
theorem td_eqv (v : Rat) (L : List Rat) : PyData.eqv (tD v L) (tD v L) = true := SeqAt.eqv_refl _ (td_lay v L)
theorem td_dp {K : PySem.W.Frag} {H : Hp} {t p : Addr} {a c : V} {v : Rat} {L : List Rat} (q : SqT K H t [.str "told", .ref p]) (q2 : SqT K H p [a, c]) (ha : FrV K H a v) (hc : RowV K H c L) : Dp K H (.ref t) (tD v L) :=
  .tup q (.cons (.str _) (.cons (.tup q2 (.cons ha.dp (.cons hc.dp .nil))) .nil))
/-- what a spot in the box tells is within -/
theorem tells_in {z : Sum2} {sp : List Span} {x : List Rat} (w : Within x sp) (hz : z.1.length = sp.length) : tells z (picks sp (bitsU false z)) ≤ tells z x ∧ tells z x ≤ tells z (picks sp (bitsU true z)) := by
  have lo := low_le (ws := z.1) w (by rw [hz, Paired.length w])
  constructor
  · show weighs (z.1.zip (picks sp (bitsU false z))) + z.2 ≤ weighs (z.1.zip x) + z.2
    have := lo.1
    rw [bits_low]
    unfold lowB
    generalize weighs (z.1.zip x) = A at *
    generalize weighs (z.1.zip (picks sp (z.1.map fun w => decide (w.num < 0)))) = B at *
    grind
  · show weighs (z.1.zip x) + z.2 ≤ weighs (z.1.zip (picks sp (bitsU true z))) + z.2
    have := lo.2
    rw [bits_high]
    unfold highB
    generalize weighs (z.1.zip x) = A at *
    generalize weighs (z.1.zip (picks sp (z.1.map fun w => decide (0 < w.num)))) = B at *
    grind
theorem less_f {r s : Rat} (h : s ≤ r) : decide (r.num * (s.den : Int) < s.num * (r.den : Int)) = false :=
  decide_eq_false fun z => Rat.not_lt.mpr h ((Rat.lt_iff _ _).mpr z)
def spRight18 (K : PySem.W.Frag) : Sp := fun vs H Q _ => ∃ (s : Addr) (x y : V) (sp : List Span) (z : Sum2), vs = [.ref s, x, y] ∧ St3 s H ∧ BoxV K 6 H x sp ∧ SumV K H y z ∧ Sml sp.length z ∧ ∀ H', Dk s H H' → St3 s H' → Q (.bl true) H'
theorem ok__law_right (D : Df K mg "_law_right" s__law_right ["_law_stream_here", "_law_box_here", "_law_one"]) {CB CA : Addr} (GSd : Ok P w K mg base 9 "_law_said" ["_law_way", "_law_box_here", "_law_one"] (spSaid K CB CA)) (GD : Ok P w K mg base 6 "_law_due" ["_law_box_here", "_law_one", "_law_upwards"] (spDue18 K)) (GTo : Ok P w K mg base 5 "_law_told" ["_law_one", "_law_spot"] (spTold18 K)) (GB : Ok P w K mg base 4 "_law_between" ["_law_stream_here", "_law_box_here"] (spBetw K)) (GL : Ok P w K mg base 1 "_law_less" ["_law_one", "_law_other"] (spLess K)) : Ok P w K mg base 10 "_law_right" ["_law_stream_here", "_law_box_here", "_law_one"] (spRight18 K) := by
  refine D.ok fun f fd F => F.ok sc__law_right (fun vs H Q E h => ?_) (fun cdv A outer s H vs Q E hr h => ?_)
  · obtain ⟨s, x, y, sp, z, rfl, _⟩ := h
    rfl
  · obtain ⟨s, x, y, sp, z, rfl, hS, hb, hz, sm, q⟩ := h
    have hr1 : Room 1 _ := hr.mono (by decide)
    have hr4 : Room 4 _ := hr.mono (by decide)
    have hr5 : Room 5 _ := hr.mono (by decide)
    have hr6 : Room 6 _ := hr.mono (by decide)
    have hr9 : Room 9 _ := hr.mono (by decide)
    have hbl : sp.length ≤ 3 := hb.2.2.1
    have hspb := hb.2.2.2.1
    refine ⟨_, (pss_cons (ps_for PassesOwn.never rfl (pi_list (pe_lstE (pa_cons pe_int (pa_cons pe_int (pa_cons pe_int pa_nil))))) (pg_name (i := 3) sc__law_right.nd rfl (.inl rfl)) (pss_cons (ps_set (i := 4) sc__law_right.nd rfl (.inl rfl) (cl GSd hr9 (pa_cons (pv 3) (pa_cons (pv 1) (pa_cons (pv 2) pa_nil)))))
      (pss_cons (ps_if (pt_cmpR (op_neD hr.units) (pv 4) (pe_tupE (pa_cons pe_str (pa_cons (cl GD hr6 (pa_cons (pv 1) (pa_cons (pv 2) (pa_cons (pe_cmpR op_eq (pv 3) pe_int (nomark _)) pa_nil)))) pa_nil))) (nomark _)) (pss_one (ps_ret pe_bl)) pss_nil)
      (pss_cons (ps_set (i := 5) sc__law_right.nd rfl (.inl rfl) (cl GTo hr5 (pa_cons (pv 2) (pa_cons (cl GB hr4 (pa_cons (pv 0) (pa_cons (pv 1) pa_nil))) pa_nil))))
      (pss_one (ps_if (PW.pt (pw_or (PW.pt (pw_and (pt_cmpR op_eq (pv 3) pe_int (nomark _)) (pw_and1 (pt_val (cl GL hr1 (pa_cons (pv 5) (pa_cons (pe_ix ix_tup (pe_ix ix_tup (pv 4) pe_int (fun _ _ => rfl)) pe_int (fun _ _ => rfl)) pa_nil))))))) (pw_or1 (PW.pt (pw_and (pt_cmpR op_eq (pv 3) pe_int (nomark _)) (pw_and1 (pt_val (cl GL hr1 (pa_cons (pe_ix ix_tup (pe_ix ix_tup (pv 4) pe_int (fun _ _ => rfl)) pe_int (fun _ _ => rfl)) (pa_cons (pv 5) pa_nil)))))))))) (pss_one (ps_ret pe_bl)) pss_nil))))))
      (pss_one (ps_ret pe_bl))), ?_⟩
    refine ⟨(by show 3 ≤ sizeLine; decide), fun pl H0 nl el kl => ?_⟩
    have t0 := hS.ex el
    have r0 := Dk.ex hS.lst el
    have nls : pl ≠ s := Ne.symm (hS.lst.ne nl)
    refine ⟨pl, rfl, ⟨_, sq_of kl⟩, for_list (K := K) (a := pl) (xs := [.int 0, .int 1, .int 0]) (fun i σ H' => ∃ o3 o4 o5, σ = [some (.ref s), some x, some y, o3, o4, o5] ∧ Dk s H0 H' ∧ St3 s H') ⟨none, none, none, rfl, Dk.refl t0.lst, t0⟩ (fun i σ H' _ ⟨_, _, _, _, r, _⟩ => sq_of (r.keep _ _ nls kl)) ?_ ?_⟩
    · rintro i u σ H1 hu ⟨o3, o4, o5, rfl, r1, t1⟩
      obtain ⟨up, rfl⟩ : ∃ up : Bool, u = .int (if up = true then 1 else 0) := by
        have hm := List.mem_of_getElem? hu
        simp only [List.mem_cons, List.not_mem_nil, or_false] at hm
        rcases hm with rfl | rfl | rfl
        · exact ⟨false, rfl⟩
        · exact ⟨true, rfl⟩
        · exact ⟨false, rfl⟩
      have r01 := r0.trans r1
      have hb1 := box_dkx hS.lst r01 hb
      have hz1 := SumV.dk hS.lst r01 hz
      refine ⟨_, rfl, _, rfl, _, rfl, up, x, y, rfl, .inr ⟨sp, hb1, .inr ⟨z, hz1, sm, fun t p a c H2 e2 qt qp fa fc => ?_⟩⟩⟩
      have hb2 := box_exx e2 hb1
      have hz2 := hz1.ex e2
      refine ⟨_, rfl, _, rfl, _, rfl, _, rfl, rfl, x, y, up, sp, z, ?_, hb2, hz2, sm, fun t2 a2 c2 H3 e3 qt2 fa2 fc2 => ⟨(by show 2 ≤ sizeLine; decide), fun t3 H4 n4 e4 k4 => ?_⟩⟩
      · cases up
        · rfl
        · rfl
      have e34 := e3.trans e4
      refine ⟨_, _, td_dp (ex_t e34 qt) (ex_t e34 qp) (fa.ex e34) (fc.ex e34), td_dp (st_of k4) (ex_t e4 qt2) (fa2.ex e4) (fc2.ex e4), td_shaped _ _, td_shaped _ _, _, rfl, ?_⟩
      rw [td_eqv]
      refine iteF ?_
      have e24 := e2.trans e34
      have t4 := t1.ex e24
      have hb4 := box_exx e34 hb2
      have hz4 := hz2.ex e34
      refine ⟨_, rfl, _, rfl, _, rfl, s, x, sp, rfl, t4, hb4, fun vb L H5 r5 t5 rv wi bl => ?_⟩
      have Ll := Paired.length wi
      have hz5 := SumV.dk t4.lst r5 hz4
      refine ⟨y, vb, z, L, rfl, hz5, rv, (by rw [Ll]; exact sm), by omega, bl, fun v6 H6 e6 f6 => ?_⟩
      have sl : Sz 21 10 (tells z L) := tells_sz (by rw [Ll]; exact sm) (by omega) bl
      have pwl : (picks sp (bitsU up z)).length = sp.length := picks_len (by rw [bits_len, sm.len])
      have pin : picks sp (bitsU up z) ∈ corns sp := by
        have := corns_in (sp := sp) (bs := bitsU up z) (acc := [[]]) (x := []) (by rw [bits_len, sm.len]) (by simp)
        rwa [List.nil_append] at this
      have sb : Sz 21 10 (tells z (picks sp (bitsU up z))) := tells_sz (by rw [pwl]; exact sm) (by omega) (corns_bd hspb _ pin)
      obtain ⟨tl, th⟩ := tells_in (z := z) wi sm.len
      have qt6 : SqT K H6 t [.str "told", .ref p] := ex_t e6 (sqt_dk t4.lst r5 (ex_t e34 qt))
      have qp6 : SqT K H6 p [a, c] := ex_t e6 (sqt_dk t4.lst r5 (ex_t e34 qp))
      have fa6 := (FrV.dk t4.lst r5 (fa.ex e34)).ex e6
      have RR := r1.trans ((Dk.ex t1.lst e24).trans (r5.then e6))
      have t6 := t5.ex e6
      cases up with
      | false =>
        refine ⟨_, rfl, rfl, _, rfl, ite_t (decide_eq_true rfl) ⟨_, rfl, _, rfl, _, _, _, _, rfl, rfl, qt6, at1, _, _, _, _, rfl, rfl, qp6, at0, v6, a, _, _, 21, 10, 21, 10, rfl, f6, fa6, sl, sb, ⟨by decide, by decide, by decide, by decide, by decide⟩, _, rfl, ?_⟩⟩
        rw [less_f tl]
        refine iteF ⟨_, rfl, rfl, _, rfl, ite_f (decide_eq_false (by decide)) ?_⟩
        exact ⟨_, _, _, rfl, RR, t6⟩
      | true =>
        refine ⟨_, rfl, rfl, _, rfl, ite_f (decide_eq_false (by decide)) ?_⟩
        refine ⟨_, rfl, rfl, _, rfl, ite_t (decide_eq_true rfl) ⟨_, rfl, _, _, _, _, rfl, rfl, qt6, at1, _, _, _, _, rfl, rfl, qp6, at0, _, rfl, a, v6, _, _, 21, 10, 21, 10, rfl, fa6, f6, sb, sl, ⟨by decide, by decide, by decide, by decide, by decide⟩, _, rfl, ?_⟩⟩
        rw [less_f th]
        exact iteF ⟨_, _, _, rfl, RR, t6⟩
    · rintro σ H1 ⟨o3, o4, o5, rfl, r1, t1⟩
      exact q H1 (r0.trans r1) t1
end

end K18
end
section
set_option maxRecDepth 100000
set_option maxHeartbeats 400000
namespace K18
open PySem Evl Nc PyProof.Rows
open L2 hiding spCell
section
variable {P : Program} {w : World} {K : PySem.W.Frag} {mg : Str → Option Value} {base : Heap}
theorem shv_rp {K : PySem.W.Frag} {s : Addr} {H : Hp} {v : V} {y : Str} (hy : Sw (.str y) 4 0) (n : (PyData.tuple [.str y, .dict []]).shown.length ≤ sizeLine) (m : (PyData.tuple [.str y, .dict []]).showable = true) (h : Shv K s H v) : ∃ x, ∀ t H', Ex H H' → SqT K H' t [.str y, v] → Rp2 K H' (.ref t) x := by
  rcases h with ⟨d, h1, h2⟩ | ⟨a, rfl, h2⟩
  · refine ⟨(PyData.tuple [.str y, d]).shown, fun t H' e q => .old (Sw.rp (b := 56) (k := 5) ((sw_tup (swa_cons (hy.mono (Nat.le_refl _) (Nat.zero_le 4)) (swa_cons h2 (swa_nil 4)))).mono (by decide) (Nat.le_refl _)) (.tup q (.cons (.str _) (.cons (Dz.dp _ _ (Dz.ex e d v h1)) .nil))) (by decide) (by decide))⟩
  · exact ⟨_, fun t H' e q => .tag q (e _ _ h2) n m⟩
/-- an odd thing in a box's place -/
def OdB (K : PySem.W.Frag) (s : Addr) (H : Hp) (v : V) : Prop := BxT K H v false ∧ ∃ d, Dz K s H v d ∧ Sw d 50 4
theorem dz_span {K : PySem.W.Frag} {s : Addr} {H : Hp} {v : V} {p : Span} (h : SpanV K H v p) (z1 : Sz 250 250 p.1) (z2 : Sz 250 250 p.2) : ∃ d, Dz K s H v d ∧ Sw d 6 2 := by
  obtain ⟨t, a, b, rfl, q, fa, fb⟩ := h
  exact dz_two q (dz_fr fa z1) (dz_fr fb z2)
theorem th_rw1 {K : PySem.W.Frag} {H : Hp} {t : Addr} {x : V} {b : Bool} (q : SqT K H t [x]) (h : Th K H x b) : PtB K H (.ref t) false :=
  .inr ⟨rfl, some [b], .tup q (.cons h .nil) (by show 1 ≤ 100; decide), rwB_len (by show ((1 : Nat) : Int) ≠ 2; decide)⟩
theorem non_pt {K : PySem.W.Frag} {H : Hp} : PtB K H .non false := .inr ⟨rfl, none, .oth (k := .non) ⟨.base .non, fun zz => by cases zz⟩ (by decide), rfl⟩
theorem all_snoc {a : List Bool} : (a ++ [false]).all id = false := by
  simp [List.all_append]
theorem pts_pair {K : PySem.W.Frag} {H : Hp} : ∀ {ys : List V}, (∀ x ∈ ys, ∃ p, SpanV K H x p ∧ Bd 21 6 p.1 ∧ Bd 21 6 p.2 ∧ p.1 ≤ p.2) → Paired (PtB K H) ys (List.replicate ys.length true)
  | [], _ => .nil
  | y :: ys, h => .cons (.inl ⟨rfl, h y (by simp)⟩) (pts_pair (ys := ys) fun z hz => h z (by simp [hz]))
structure Dfs (P : Program) (w : World) (K : PySem.W.Frag) (mg : Str → Option Value) (base : Heap) (CB CA : Addr) : Prop where
  cell : Ok P w K mg base 1 "_law_cell" ["_law_script", "_law_k"] (Nc.spCell K)
  stream : Ok P w K mg base 1 "_law_stream" ["_law_cell_here"] spStream3
  take : Ok P w K mg base 1 "_law_take" ["_law_stream_here", "_law_many"] spTake3
  box : Ok P w K mg base 4 "_law_box" ["_law_stream_here"] (spBox18 K)
  row : Ok P w K mg base 4 "_law_row" ["_law_stream_here", "_law_many"] (spRow18 K)
  num : Ok P w K mg base 3 "_law_number" ["_law_stream_here"] (spNum18 K)
  right : Ok P w K mg base 10 "_law_right" ["_law_stream_here", "_law_box_here", "_law_one"] (spRight18 K)
  bad : Ok P w K mg base 2 "_law_bad_sum" ["_law_stream_here", "_law_one"] (spBad18 K)
  said : Ok P w K mg base 9 "_law_said" ["_law_way", "_law_box_here", "_law_one"] (spSaid K CB CA)
theorem fn_law {f : Addr} {fd : FuncData} {CB CA : Addr} (F : Fun K "law" "law" s_law f fd) (G : Dfs P w K mg base CB CA) (mrange : mg "range" = none) (mmax : mg "max" = none) (mmin : mg "min" = none) (mlen : mg "len" = none) (mlist : mg "list" = none) (mrepr : mg "repr" = none) : GOk P w K mg base 11 f fd ["_law_script"] (spLaw K) := by
  refine gok F sc_law (fun vs H Q E h => ?_) (fun cdv A outer s H vs Q hG hr h => ?_)
  · obtain ⟨a, ns, rfl, _⟩ := h
    rfl
  · obtain ⟨a, ns, rfl, hS, hn, q⟩ := h
    have hr1 : Room 1 _ := hr.mono (by decide)
    have hr2 : Room 2 _ := hr.mono (by decide)
    have hr3 : Room 3 _ := hr.mono (by decide)
    have hr4 : Room 4 _ := hr.mono (by decide)
    have hr9 : Room 9 _ := hr.mono (by decide)
    have hr10 : Room 10 _ := hr.mono (by decide)
    have hG2 : (A.deeper (envOfC "law" (defScope s_law) s.heap.objs.size f cdv)).guards = some [] := hG
    refine ⟨_, (pss_cons (ps_for PassesOwn.never rfl (pi_range1 (by rfl) mrange (pa_cons (pe_callB (call_max2 rfl) (by rfl) mmax (by decide +kernel) (pa_cons pe_int (pa_cons (pe_callB (call_min2 rfl) (by rfl) mmin (by decide +kernel) (pa_cons (pe_callB call_len_seq (by rfl) mlen PySem.boot_len (pa_cons (pv 0) pa_nil)) (pa_cons pe_int pa_nil))) pa_nil))) pa_nil)) (pg_name (i := 1) sc_law.nd rfl (.inl rfl)) (pss_cons (ps_set (i := 2) sc_law.nd rfl (.inl rfl) (cl G.stream hr1 (pa_cons (cl G.cell hr1 (pa_cons (pv 0) (pa_cons (pv 1) pa_nil))) pa_nil)))
      (pss_cons (ps_set (i := 3) sc_law.nd rfl (.inl rfl) (cl G.box hr4 (pa_cons (pv 2) pa_nil)))
      (pss_one (ps_for PassesOwn.never rfl (pi_range1 (by rfl) mrange (pa_cons pe_int pa_nil)) (pg_name (i := 4) sc_law.nd rfl (.inl rfl)) (pss_cons (ps_set (i := 5) sc_law.nd rfl (.inl rfl) (pe_tupE (pa_cons (cl G.row hr4 (pa_cons (pv 2) (pa_cons (pe_callB call_len_seq (by rfl) mlen PySem.boot_len (pa_cons (pv 3) pa_nil)) pa_nil))) (pa_cons (cl G.num hr3 (pa_cons (pv 2) pa_nil)) pa_nil))))
      (pss_cons (ps_if (PW.pt (pw_or (pt_not (pt_val (cl G.right hr10 (pa_cons (pv 2) (pa_cons (pv 3) (pa_cons (pv 5) pa_nil)))))) (pw_or1 (pt_not (pt_val (cl G.right hr10 (pa_cons (pv 2) (pa_cons (pv 3) (pa_cons (pe_tupE (pa_cons (pe_op op_repA (pe_tupE (pa_cons (pe_tupE (pa_cons pe_int (pa_cons pe_int pa_nil))) pa_nil)) (pe_callB call_len_seq (by rfl) mlen PySem.boot_len (pa_cons (pv 3) pa_nil))) (pa_cons (pe_ix ix_tup (pv 5) pe_int (fun _ _ => rfl)) pa_nil))) pa_nil))))))))) (pss_one (ps_ret pe_bl)) pss_nil)
      (pss_cons (ps_set (i := 6) sc_law.nd rfl (.inl rfl) (cl G.bad hr2 (pa_cons (pv 2) (pa_cons (pv 5) pa_nil))))
      (pss_cons (ps_set (i := 7) sc_law.nd rfl (.inl rfl) (pe_ix ix_list (pe_lstE (pa_cons pe_non (pa_cons (pe_callTy (T := "list") (call_lstK K) (by rfl) mlist (by decide +kernel) (pa_cons (pv 3) pa_nil)) (pa_cons (pe_op op_repA (pe_slice (sl_tupE K) (pv 3) po_none (po_some pe_int)) pe_int) (pa_cons (pe_tupE pa_nil) (pa_cons (pe_tupE (pa_cons (pe_tupE (pa_cons (pe_ix ix_tup (pe_ix ix_tup (pv 3) pe_int (fun _ _ => rfl)) pe_int (fun _ _ => rfl)) pa_nil)) pa_nil)) (pa_cons (pe_op (op_catTE K) (pv 3) (pe_tupE (pa_cons pe_non pa_nil))) pa_nil))))))) (cl G.take hr1 (pa_cons (pv 2) (pa_cons pe_int pa_nil))) (fun _ _ => rfl)))
      (pss_one (ps_for PassesOwn.never rfl (pi_range1 (by rfl) mrange (pa_cons pe_int pa_nil)) (pg_name (i := 8) sc_law.nd rfl (.inl rfl)) (pss_cons (ps_if (pt_cmpR op_ne (pe_callB (call_rp2 hG2 hr.units) (by rfl) mrepr (by decide +kernel) (pa_cons (cl G.said hr9 (pa_cons (pv 8) (pa_cons (pv 3) (pa_cons (pv 6) pa_nil)))) pa_nil)) (pe_callB (call_rp2 hG2 hr.units) (by rfl) mrepr (by decide +kernel) (pa_cons (pe_tupE (pa_cons pe_str (pa_cons (pv 6) pa_nil))) pa_nil)) (nomark _)) (pss_one (ps_ret pe_bl)) pss_nil)
      (pss_one (ps_if (pt_cmpR op_ne (pe_callB (call_rp2 hG2 hr.units) (by rfl) mrepr (by decide +kernel) (pa_cons (cl G.said hr9 (pa_cons (pv 8) (pa_cons (pv 7) (pa_cons (pv 6) pa_nil)))) pa_nil)) (pe_callB (call_rp2 hG2 hr.units) (by rfl) mrepr (by decide +kernel) (pa_cons (pe_tupE (pa_cons pe_str (pa_cons (pv 7) pa_nil))) pa_nil)) (nomark _)) (pss_one (ps_ret pe_bl)) pss_nil))))))))))))))
      (pss_one (ps_ret pe_bl))), ?_⟩
    refine ⟨_, rfl, a, _, rfl, .inl hS, _, _, rfl, _, _, rfl, ?_⟩
    rw [List.length_map]
    generalize hm : (if (if (12 : Int) < ((ns.length : Nat) : Int) then (12 : Int) else ((ns.length : Nat) : Int)) > 2 then (if (12 : Int) < ((ns.length : Nat) : Int) then (12 : Int) else ((ns.length : Nat) : Int)) else 2) = m
    have hm1 : 2 ≤ m ∧ m ≤ 12 := by
      rw [← hm]
      split <;> split <;> omega
    refine ⟨m, rfl, by omega, by omega, for_range (lo := 0) (n := m.toNat) (fun i σ H' => ∃ o1 o2 o3 o4 o5 o6 o7 o8, σ = [some (.ref a), o1, o2, o3, o4, o5, o6, o7, o8] ∧ Ex H H') ⟨none, none, none, none, none, none, none, none, rfl, Ex.refl H⟩ ?_ ?_⟩
    · rintro i σ H1 hi ⟨o1, o2, o3, o4, o5, o6, o7, o8, rfl, e1⟩
      rw [show (0 : Int) + (i : Int) = (i : Int) by omega]
      refine ⟨_, rfl, _, rfl, a, ns, i, rfl, ex_l e1 hS, by omega, fun c => ?_⟩
      refine ⟨c, rfl, fun s0 hs H2 es st => ?_⟩
      have back : ∀ {H' : Hp}, Dk s0 H2 H' → Ex H H' := fun r b o hb => by
        have h1 := e1 b o hb
        exact r.keep b o (fun z => by rw [z, hs] at h1; cases h1) (es b o h1)
      refine ⟨_, rfl, s0, rfl, st, fun v sp H3 r3 t3 hbox => ?_⟩
      obtain ⟨⟨ab, xs, rfl, qab, pxs⟩, sp1, sp3, spb, _, _⟩ := id hbox
      have qab : SqT K H3 ab xs := qab
      have xl := Paired.length pxs
      refine ⟨(3 : Int), rfl, by decide, by decide, for_range (lo := 0) (n := (3 : Int).toNat) (fun j σ H' => ∃ o4 o5 o6 o7 o8, σ = [some (.ref a), some (.int (i : Int)), some (.ref s0), some (.ref ab), o4, o5, o6, o7, o8] ∧ Dk s0 H3 H' ∧ St3 s0 H') ⟨o4, o5, o6, o7, o8, rfl, Dk.refl t3.lst, t3⟩ ?_ ?_⟩
      · rintro j σ H4 hj ⟨o4, o5, o6, o7, o8, rfl, r4, t4⟩
        have qab4 := sqt_dk t3.lst r4 qab
        refine ⟨_, rfl, _, rfl, ab, _, rfl, .inr qab4, s0, xs.length, rfl, t4, by omega, fun vr L H5 r5 t5 hrow Ll hL => ?_⟩
        refine ⟨_, rfl, s0, rfl, t5, fun vn rn H6 r6 t6 hnum hnb => ⟨(by show 2 ≤ sizeLine; decide), fun po H7 n7 e7 k7 => ?_⟩⟩
        have t7 := t6.ex e7
        have r37 := (r4.trans (r5.trans r6)).then e7
        have hbox7 := box_dkx t3.lst r37 hbox
        have hz7 : SumV K H7 (.ref po) (L, rn) := ⟨po, vr, vn, rfl, st_of k7, (RowV.dk t5.lst r6 hrow).ex e7, hnum.ex e7⟩
        have sm7 : Sml sp.length (L, rn) := ⟨by show L.length = sp.length; omega, hL, hnb⟩
        refine ⟨_, rfl, _, rfl, _, rfl, s0, _, .ref po, sp, (L, rn), rfl, t7, hbox7, hz7, sm7, fun H8 r8 t8 => ⟨_, rfl, iteF ?_⟩⟩
        -- the sum of noughts
        refine ⟨_, rfl, _, rfl, (by show 2 ≤ sizeLine; decide), fun pz H9 n9 e9 k9 => ⟨(by show 1 ≤ sizeLine; decide), fun pw_ H10 n10 e10 k10 => ?_⟩⟩
        have E10 := e9.trans e10
        have r7_10 := r8.then E10
        have r3_10 := r37.trans r7_10
        have qab10 := sqt_dk t3.lst r3_10 qab
        refine ⟨_, rfl, ab, _, rfl, .inr qab10, pw_, (xs.length : Int), [.ref pz], rfl, rfl, st_of k10, (by simp), by omega, by omega, (by show 1 ≤ 1000; decide), fun pr H11 e11 q11 => ?_⟩
        rw [Int.toNat_natCast] at q11
        have q711 : SqT K H11 po [vr, vn] := ex_t e11 (sqt_dk t7.lst r7_10 (st_of k7))
        refine ⟨_, rfl, _, _, _, _, rfl, rfl, q711, at1, (by show 2 ≤ sizeLine; decide), fun pq H12 n12 e12 k12 => ?_⟩
        have r7_12 := r7_10.then (e11.trans e12)
        have t12 := t8.ex (E10.trans (e11.trans e12))
        have fz : FrV K H12 (.ref pz) 0 := ⟨pz, rfl, ex_t (e10.trans (e11.trans e12)) (st_of k9)⟩
        have hrow0 : RowV K H12 (.ref pr) (List.replicate xs.length 0) := by
          refine ⟨pr, List.replicate xs.length (.ref pz), rfl, ?_, pair_of_get' (by simp) fun k x y hx hy => ?_⟩
          · have e : (List.replicate xs.length [V.ref pz]).flatten = List.replicate xs.length (.ref pz) := by
              rw [List.flatten_replicate_singleton]
            rw [← e]
            exact ex_t e12 q11
          · rw [List.mem_replicate.mp (List.mem_of_getElem? hx) |>.2, List.mem_replicate.mp (List.mem_of_getElem? hy) |>.2]
            exact fz
        have hz12 : SumV K H12 (.ref pq) (List.replicate xs.length 0, rn) := ⟨pq, .ref pr, vn, rfl, st_of k12, hrow0, (FrV.dk t6.lst ((Dk.ex t6.lst e7).trans r7_12) hnum)⟩
        have sm12 : Sml sp.length (List.replicate xs.length 0, rn) := by
          rw [← xl]
          exact bds_flat _ hnb
        have r3_12 := r37.trans r7_12
        refine ⟨s0, _, .ref pq, sp, _, rfl, t12, box_dkx t3.lst r3_12 hbox, hz12, sm12, fun H13 r13 t13 => ⟨_, rfl, iteF ?_⟩⟩
        have r7_13 := r7_12.trans r13
        -- things that are no sums
        refine ⟨_, rfl, _, rfl, s0, .ref po, (L, rn), sp.length, rfl, t13, SumV.dk t7.lst r7_13 hz7, sm7, sp1, sp3, fun vb H14 r14 t14 smf shv => ?_⟩
        -- things that are no boxes
        have z0 : 1000 ≤ sizeLine := by decide
        have r3_14 := r37.trans (r7_13.trans r14)
        have qab14 := sqt_dk t3.lst r3_14 qab
        refine ⟨_, rfl, ab, xs, rfl, .inr qab14, fun b1 m1 => ?_⟩
        have e15 : Ex H14 (upd H14 b1 (.lst xs)) := Ex.new m1
        have k15 : upd H14 b1 (.lst xs) b1 = some (.lst xs) := upd_same
        generalize upd H14 b1 (.lst xs) = H15 at e15 k15 ⊢
        have c1 : cutV xs none (some 1) = xs.take 1 := cut_to (i := 1) (by omega)
        refine ⟨_, rfl, _, rfl, ab, xs, rfl, ex_t e15 qab14, fun b2 H16 e16 q16 => ?_⟩
        rw [c1] at q16
        have t1l : (xs.take 1).length = 1 := by rw [List.length_take]; omega
        refine ⟨b2, 4, _, rfl, rfl, q16, (fun z => by rw [z] at t1l; cases t1l), by decide, by decide, (by rw [t1l]; decide), fun b3 H17 e17 q17 => ?_⟩
        refine ⟨(by show 0 ≤ sizeLine; decide), fun b4 H18 n18 e18 k18 => ?_⟩
        have E18 := e15.trans (e16.trans (e17.trans e18))
        have qab18 := ex_t E18 qab14
        obtain ⟨x0, hx0⟩ : ∃ x0, xs[0]? = some x0 := ⟨_, List.getElem?_eq_getElem (show 0 < xs.length by omega)⟩
        have hx0' : atI xs 0 = some x0 := atI_nat (j := 0) hx0
        have r3_18 := r3_14.then E18
        obtain ⟨p0, hp0, ts, va, vc, rfl, qts, fva, fvc⟩ := pget (pmono (fun _ _ zz => SpanV.dk t3.lst r3_18 zz) pxs) hx0
        refine ⟨_, rfl, _, _, _, _, rfl, rfl, qab18, hx0', _, _, _, _, rfl, rfl, qts, at1, (by show 1 ≤ sizeLine; decide), fun b5 H19 n19 e19 k19 => ⟨(by show 1 ≤ sizeLine; decide), fun b6 H20 n20 e20 k20 => ?_⟩⟩
        have E20 := E18.trans (e19.trans e20)
        refine ⟨_, rfl, (by show 1 ≤ sizeLine; decide), fun b7 H21 n21 e21 k21 => ?_⟩
        refine ⟨ab, b7, xs, _, rfl, rfl, ex_t (E20.trans e21) qab14, st_of k21, (by show xs.length + 1 ≤ sizeLine; omega), fun b8 H22 e22 q22 => ?_⟩
        refine ⟨(by show 6 ≤ sizeLine; decide), fun b9 H23 n23 e23 k23 => ?_⟩
        have e2023 := e21.trans (e22.trans e23)
        have E23 := E20.trans e2023
        have t23 := t14.ex E23
        refine ⟨_, rfl, s0, _, rfl, t23, by decide, by decide, fun kk H24 a0 a1 r24 t24 => ?_⟩
        have sne : ∀ {G : Hp} {p : Addr}, St3 s0 G → G p = none → p ≠ s0 := fun t hp => Ne.symm (t.lst.ne hp)
        have k24 := r24.keep b9 _ (sne (t14.ex (E20.trans (e21.trans e22))) n23) k23
        obtain ⟨odd, hodd, hm⟩ := at_mem (xs := [.non, .ref b1, .ref b3, .ref b4, .ref b6, .ref b8]) (d := kk) a0 (by show kk < 6; omega)
        refine ⟨b9, _, _, _, rfl, rfl, sq_of k24, hodd, ?_⟩
        have r14_24 := (Dk.ex t14.lst E23).trans r24
        have r3_24 := r3_14.trans r14_24
        have hbox24 := box_dkx t3.lst r3_24 hbox
        have smf24 : SmT K H24 sp.length vb false := smf H24 r14_24
        have shv24 := shv.dk t14.lst r14_24
        have T : ∀ {G : Hp} {p : Addr} {ys : List V}, Ex G H23 → SqT K G p ys → SqT K H24 p ys := fun e qq => sqt_dk t23.lst r24 (ex_t e qq)
        have spx : ∀ x ∈ xs, ∃ p, SpanV K H24 x p ∧ Bd 21 6 p.1 ∧ Bd 21 6 p.2 ∧ p.1 ≤ p.2 := fun x hx => by
          obtain ⟨k, hk⟩ := List.getElem?_of_mem hx
          obtain ⟨p, hp, fp⟩ := pget pxs hk
          have hpm := List.mem_of_getElem? hp
          exact ⟨p, SpanV.dk t3.lst r3_24 fp, (spb.bd p hpm).1, (spb.bd p hpm).2, spb.le p hpm⟩
        have dzx : ∀ x ∈ xs, ∃ d, Dz K s0 H24 x d ∧ Sw d 6 2 := fun x hx => by
          obtain ⟨p, fp, h1, h2, _⟩ := spx x hx
          exact dz_span fp (sz_250 (v := 0) (D := 0) h1) (sz_250 (v := 0) (D := 0) h2)
        have ob : OdB K s0 H24 odd := by
          simp only [List.mem_cons, List.not_mem_nil, or_false] at hm
          rcases hm with rfl | rfl | rfl | rfl | rfl | rfl
          · exact ⟨.oth (k := .non) ⟨.base .non, fun zz => by cases zz⟩ (by decide), _, .non, (sw_lf .non).mono (by decide) (by decide)⟩
          · have nb1 := sne t14 m1
            have kb := r24.keep b1 _ nb1 ((e16.trans (e17.trans (e18.trans (e19.trans (e20.trans e2023))))) _ _ k15)
            exact ⟨.oth (k := .lst) ⟨tyL (sq_of kb), fun zz => by cases zz⟩ (by decide), dz_mono (dz_lst (c := 21) kb nb1 dzx (by omega)) (by decide) (by decide)⟩
          · have qb := T (e18.trans (e19.trans (e20.trans e2023))) q17
            have ln : (List.replicate ((4 : Int).toNat) (xs.take 1)).flatten.length = 4 := by
              show (xs.take 1 ++ (xs.take 1 ++ (xs.take 1 ++ (xs.take 1 ++ [])))).length = 4
              simp only [List.length_append, t1l]
              rfl
            refine ⟨.len qb (.inr (by rw [ln]; decide)), dz_mono (dz_tup (b := 6) (k := 2) (c := 28) qb (fun x hx => ?_) (by rw [ln]; decide)) (by decide) (by decide)⟩
            obtain ⟨l, hl, hxl⟩ := List.mem_flatten.mp hx
            rw [(List.mem_replicate.mp hl).2] at hxl
            exact dzx x (List.mem_of_mem_take hxl)
          · have qb := T (e19.trans (e20.trans e2023)) (st_of k18)
            exact ⟨.len qb (.inl rfl), dz_mono (dz_tup (b := 0) (k := 0) (c := 0) qb (fun x hx => by cases hx) (Nat.le_refl _)) (by decide) (by decide)⟩
          · have qb := T e2023 (st_of k20)
            have q5' := T (e20.trans e2023) (st_of k19)
            have fc := FrV.dk t23.lst r24 (fvc.ex ((e19.trans e20).trans e2023))
            have hpm := List.mem_of_getElem? hp0
            refine ⟨.parts (bs := [false]) qb (by show 1 ≤ 1; decide) (by show 1 ≤ 3; decide) (.cons (th_rw1 q5' fc.th) .nil), ?_⟩
            have d1 : ∃ d, Dz K s0 H24 (.ref b5) d ∧ Sw d 3 2 := dz_tup (b := 2) (k := 1) q5' (fun x hx => by
              rw [List.mem_singleton.mp hx]
              exact dz_fr fc (sz_250 (v := 0) (D := 0) (spb.bd p0 hpm).2)) (by show (2 + 1) * 1 ≤ 3; decide)
            exact dz_mono (dz_tup (b := 3) (k := 2) (c := 4) qb (fun x hx => by
              rw [List.mem_singleton.mp hx]
              exact d1) (by show (3 + 1) * 1 ≤ 4; decide)) (by decide) (by decide)
          · have qb := T e23 q22
            refine ⟨?_, dz_mono (dz_tup (b := 6) (k := 2) (c := 28) qb (fun x hx => ?_) (by rw [List.length_append]; show (6 + 1) * (xs.length + 1) ≤ 28; omega)) (by decide) (by decide)⟩
            · by_cases h3 : xs.length = 3
              · exact .len qb (.inr (by rw [List.length_append]; show 3 < xs.length + 1; omega))
              · have e := BxT.parts qb (by rw [List.length_append]; show 1 ≤ xs.length + 1; omega) (by rw [List.length_append]; show xs.length + 1 ≤ 3; omega) (pair_app (pts_pair spx) (.cons non_pt .nil))
                rwa [all_snoc] at e
            · rcases List.mem_append.mp hx with hx | hx
              · exact dzx x hx
              · rw [List.mem_singleton.mp hx]
                exact ⟨_, .non, (sw_lf .non).mono (by decide) (by decide)⟩
        obtain ⟨xa, hxa⟩ := shv_rp (y := "aim") ⟨rfl, rfl, by decide, by decide, by decide⟩ (by decide +kernel) (by decide +kernel) shv24
        obtain ⟨xb, hxb⟩ := shv_rp (y := "box") ⟨rfl, rfl, by decide, by decide, by decide⟩ (by decide +kernel) (by decide +kernel) (.inl ob.2 : Shv K s0 H24 odd)
        refine ⟨(2 : Int), rfl, by decide, by decide, for_range (lo := 0) (n := (2 : Int).toNat) (fun l σ H' => ∃ o8, σ = [some (.ref a), some (.int (i : Int)), some (.ref s0), some (.ref ab), some (.int (0 + (j : Int))), some (.ref po), some vb, some odd, o8] ∧ Ex H24 H') ⟨o8, rfl, Ex.refl _⟩ ?_ ?_⟩
        · rintro l σ H25 hl ⟨o8, rfl, e25⟩
          obtain ⟨up, hup⟩ : ∃ up : Bool, V.int (0 + (l : Int)) = .int (if up = true then 1 else 0) := by
            have h2 : l < 2 := hl
            have : l = 0 ∨ l = 1 := by omega
            rcases this with rfl | rfl
            · exact ⟨false, rfl⟩
            · exact ⟨true, rfl⟩
          rw [hup]
          have hb25 := box_exx e25 hbox24
          have sm25 := smf24.ex e25
          refine ⟨_, rfl, _, rfl, _, rfl, up, _, vb, rfl, .inr ⟨sp, hb25, .inl ⟨sm25, fun t1 H26 e26 q26 => ⟨.ref t1, xa, rfl, hxa t1 H26 (e25.trans e26) q26, _, rfl, (by show 2 ≤ sizeLine; decide), fun t2 H27 n27 e27 k27 => ⟨.ref t2, xa, rfl, hxa t2 H27 (e25.trans (e26.trans e27)) (st_of k27), rfl, _, rfl, iteNS rfl ?_⟩⟩⟩⟩⟩
          have e2427 := e25.trans (e26.trans e27)
          refine ⟨_, rfl, _, rfl, _, rfl, up, odd, vb, rfl, .inl ⟨ob.1.ex e2427, fun t1 H28 e28 q28 => ⟨.ref t1, xb, rfl, hxb t1 H28 (e2427.trans e28) q28, _, rfl, (by show 2 ≤ sizeLine; decide), fun t2 H29 n29 e29 k29 => ⟨.ref t2, xb, rfl, hxb t2 H29 (e2427.trans (e28.trans e29)) (st_of k29), rfl, _, rfl, iteNS rfl ?_⟩⟩⟩⟩
          exact ⟨_, rfl, e2427.trans (e28.trans e29)⟩
        · rintro σ H25 ⟨o8, rfl, e25⟩
          exact ⟨_, _, _, _, _, rfl, (r3_24.then e25), (t24.ex e25)⟩
      · rintro σ H4 ⟨o4, o5, o6, o7, o8, rfl, r4, t4⟩
        exact ⟨_, _, _, _, _, _, _, _, rfl, back (r3.trans r4)⟩
    · rintro σ H1 ⟨o1, o2, o3, o4, o5, o6, o7, o8, rfl, e1⟩
      exact q H1
end

end K18
end
section
set_option maxRecDepth 100000
set_option maxHeartbeats 400000
namespace K18
open PySem Evl Nc PyProof.Rows
open L2 hiding spCell
section
variable {P : Program} {w : World} {K : PySem.W.Frag} {mg : Str → Option Value} {base : Heap}
theorem ok_CutError_init {f : Addr} {fd : FuncData} (F : Fun K "__init__" "CutError.__init__" s_CutError___init__ f fd) (mV : mg "ValueError" = none) (vV : PySem.W.findCls K (.type "ValueError") (.type "type") "__init__" = some (.val (.builtin "ValueError.__init__"))) : FnOk P w K mg base CX0 1 f fd ["self", "text"] (spVeI K) := by
  refine F.ok sc_CutError___init__ (fun vs H Q E h => ?_) (fun cdv A outer s H vs Q E hr h => ?_)
  · obtain ⟨a, C, x, rfl, _⟩ := h
    rfl
  · obtain ⟨a, C, x, rfl, hC, ha, q⟩ := h
    refine ⟨_, pss_one (ps_expr (pe_veinit (by rfl) mV vV (pa_cons (pv 0) (pa_cons (pv 1) pa_nil)))), ?_⟩
    exact ⟨_, rfl, _, rfl, a, C, [_], rfl, by show 1 ≤ 1000; decide, hC, ha, q⟩
theorem ok_NoBox_init {C CB f fB : Addr} {fd fdB : FuncData} (F : Fun K "__init__" "NoBox.__init__" s_NoBox___init__ f fd) (c : CFn K mg "CutError" CB "__init__" fB) (G : FnOk P w K mg base CX0 1 fB fdB ["self", "text"] (spVeI K)) (hb : Binds K fdB ["self", "text"] []) : FnOk P w K mg base CX0 2 f fd ["self", "found"] (spErI K C "found") := by
  refine F.ok sc_NoBox___init__ (fun vs H Q E h => ?_) (fun cdv A outer s H vs Q E hr h => ?_)
  · obtain ⟨a, v, rfl, _⟩ := h
    rfl
  · obtain ⟨a, v, rfl, hC, hf, ha, q⟩ := h
    refine ⟨_, pss_cons (ps_expr (pe_cfn c G hr hb (pa_cons (pv 0) (pa_cons pe_str pa_nil)))) (pss_one (ps_ost (pv 0) (pv 1))), ?_⟩
    exact ⟨_, rfl, a, C, _, rfl, hC, ha, _, rfl, _, rfl, a, C, rfl, hC, hf, .inl ⟨ha, fun dx h1 h2 => q dx h1 h2⟩⟩
theorem ok_NoAim_init {C CB f fB : Addr} {fd fdB : FuncData} (F : Fun K "__init__" "NoAim.__init__" s_NoAim___init__ f fd) (c : CFn K mg "CutError" CB "__init__" fB) (G : FnOk P w K mg base CX0 1 fB fdB ["self", "text"] (spVeI K)) (hb : Binds K fdB ["self", "text"] []) : FnOk P w K mg base CX0 2 f fd ["self", "found"] (spErI K C "found") := by
  refine F.ok sc_NoAim___init__ (fun vs H Q E h => ?_) (fun cdv A outer s H vs Q E hr h => ?_)
  · obtain ⟨a, v, rfl, _⟩ := h
    rfl
  · obtain ⟨a, v, rfl, hC, hf, ha, q⟩ := h
    refine ⟨_, pss_cons (ps_expr (pe_cfn c G hr hb (pa_cons (pv 0) (pa_cons pe_str pa_nil)))) (pss_one (ps_ost (pv 0) (pv 1))), ?_⟩
    exact ⟨_, rfl, a, C, _, rfl, hC, ha, _, rfl, _, rfl, a, C, rfl, hC, hf, .inl ⟨ha, fun dx h1 h2 => q dx h1 h2⟩⟩
end

end K18
end
set_option maxRecDepth 100000
set_option maxHeartbeats 4000000
namespace K18
open PySem Evl Nc PyProof.Rows
open L2 hiding spCell
/-! ### what the top has written; the law's own head -/
theorem all_mk {l : PySem.W.OpenLaw} {w : World} {K : PySem.W.Frag} {h : Heap} {mg : Str → Option Value} {fa : Addr} (X : K.In h) (G : h.Ns mainGlobals mg) (hfa : mg "law" = some (.ref fa))
    {od0 an0 : Option Addr} {sl0 : Array (Option Value)} {oc0 kV0 dc0 pm0 cd0 ct0 : Value} {f0 : Addr}
    {od1 an1 : Option Addr} {sl1 : Array (Option Value)} {oc1 kV1 dc1 pm1 cd1 ct1 : Value} {f1 : Addr}
    {od2 an2 : Option Addr} {sl2 : Array (Option Value)} {oc2 kV2 dc2 pm2 cd2 ct2 : Value} {f2 : Addr}
    {od3 an3 : Option Addr} {sl3 : Array (Option Value)} {oc3 kV3 dc3 pm3 cd3 ct3 : Value} {f3 : Addr}
    {od4 an4 : Option Addr} {sl4 : Array (Option Value)} {oc4 kV4 dc4 pm4 cd4 ct4 : Value} {f4 : Addr}
    {od5 an5 : Option Addr} {sl5 : Array (Option Value)} {oc5 kV5 dc5 pm5 cd5 ct5 : Value} {f5 : Addr}
    {od6 an6 : Option Addr} {sl6 : Array (Option Value)} {oc6 kV6 dc6 pm6 cd6 ct6 : Value} {f6 : Addr}
    {od7 an7 : Option Addr} {sl7 : Array (Option Value)} {oc7 kV7 dc7 pm7 cd7 ct7 : Value} {f7 : Addr}
    {od8 an8 : Option Addr} {sl8 : Array (Option Value)} {oc8 kV8 dc8 pm8 cd8 ct8 : Value} {f8 : Addr}
    {od9 an9 : Option Addr} {sl9 : Array (Option Value)} {oc9 kV9 dc9 pm9 cd9 ct9 : Value} {f9 : Addr}
    {od10 an10 : Option Addr} {sl10 : Array (Option Value)} {oc10 kV10 dc10 pm10 cd10 ct10 : Value} {f10 : Addr}
    {od11 an11 : Option Addr} {sl11 : Array (Option Value)} {oc11 kV11 dc11 pm11 cd11 ct11 : Value} {f11 : Addr}
    {od12 an12 : Option Addr} {sl12 : Array (Option Value)} {oc12 kV12 dc12 pm12 cd12 ct12 : Value} {f12 : Addr}
    {od13 an13 : Option Addr} {sl13 : Array (Option Value)} {oc13 kV13 dc13 pm13 cd13 ct13 : Value} {f13 : Addr}
    {od14 an14 : Option Addr} {sl14 : Array (Option Value)} {oc14 kV14 dc14 pm14 cd14 ct14 : Value} {f14 : Addr}
    {od15 an15 : Option Addr} {sl15 : Array (Option Value)} {oc15 kV15 dc15 pm15 cd15 ct15 : Value} {f15 : Addr}
    {od16 an16 : Option Addr} {sl16 : Array (Option Value)} {oc16 kV16 dc16 pm16 cd16 ct16 : Value} {f16 : Addr}
    {od17 an17 : Option Addr} {sl17 : Array (Option Value)} {oc17 kV17 dc17 pm17 cd17 ct17 : Value} {f17 : Addr}
    {od18 an18 : Option Addr} {sl18 : Array (Option Value)} {oc18 kV18 dc18 pm18 cd18 ct18 : Value} {f18 : Addr}
    {od19 an19 : Option Addr} {sl19 : Array (Option Value)} {oc19 kV19 dc19 pm19 cd19 ct19 : Value} {f19 : Addr}
    {od20 an20 : Option Addr} {sl20 : Array (Option Value)} {oc20 kV20 dc20 pm20 cd20 ct20 : Value} {f20 : Addr}
    {od21 an21 : Option Addr} {sl21 : Array (Option Value)} {oc21 kV21 dc21 pm21 cd21 ct21 : Value} {f21 : Addr}
    {od22 an22 : Option Addr} {sl22 : Array (Option Value)} {oc22 kV22 dc22 pm22 cd22 ct22 : Value} {f22 : Addr}
    {od23 an23 : Option Addr} {sl23 : Array (Option Value)} {oc23 kV23 dc23 pm23 cd23 ct23 : Value} {f23 : Addr}
    {od24 an24 : Option Addr} {sl24 : Array (Option Value)} {oc24 kV24 dc24 pm24 cd24 ct24 : Value} {f24 : Addr}
    {od25 an25 : Option Addr} {sl25 : Array (Option Value)} {oc25 kV25 dc25 pm25 cd25 ct25 : Value} {f25 : Addr}
    {od26 an26 : Option Addr} {sl26 : Array (Option Value)} {oc26 kV26 dc26 pm26 cd26 ct26 : Value} {f26 : Addr}
    {od27 an27 : Option Addr} {sl27 : Array (Option Value)} {oc27 kV27 dc27 pm27 cd27 ct27 : Value} {f27 : Addr}
    {od28 an28 : Option Addr} {sl28 : Array (Option Value)} {oc28 kV28 dc28 pm28 cd28 ct28 : Value} {f28 : Addr}
    {od29 an29 : Option Addr} {sl29 : Array (Option Value)} {oc29 kV29 dc29 pm29 cd29 ct29 : Value} {f29 : Addr}
    {od30 an30 : Option Addr} {sl30 : Array (Option Value)} {oc30 kV30 dc30 pm30 cd30 ct30 : Value} {f30 : Addr}
    {od31 an31 : Option Addr} {sl31 : Array (Option Value)} {oc31 kV31 dc31 pm31 cd31 ct31 : Value} {f31 : Addr}
    {od32 an32 : Option Addr} {sl32 : Array (Option Value)} {oc32 kV32 dc32 pm32 cd32 ct32 : Value} {f32 : Addr}
    {od33 an33 : Option Addr} {sl33 : Array (Option Value)} {oc33 kV33 dc33 pm33 cd33 ct33 : Value} {f33 : Addr}
    {od34 an34 : Option Addr} {sl34 : Array (Option Value)} {oc34 kV34 dc34 pm34 cd34 ct34 : Value} {f34 : Addr}
    {od35 an35 : Option Addr} {sl35 : Array (Option Value)} {oc35 kV35 dc35 pm35 cd35 ct35 : Value} {f35 : Addr}
    {od36 an36 : Option Addr} {sl36 : Array (Option Value)} {oc36 kV36 dc36 pm36 cd36 ct36 : Value} {f36 : Addr}
    {od37 an37 : Option Addr} {sl37 : Array (Option Value)} {oc37 kV37 dc37 pm37 cd37 ct37 : Value} {f37 : Addr}
    {od38 an38 : Option Addr} {sl38 : Array (Option Value)} {oc38 kV38 dc38 pm38 cd38 ct38 : Value} {f38 : Addr}
    {aCNOUGHT : Addr} {dCNOUGHT : Option Addr} {nCNOUGHT : Nat} {slCNOUGHT : Array (Option Value)} {t1NOUGHT t2NOUGHT : Tok}
    {CE fCE : Addr} {nm_CE q_CE : Str} {N_CE : Addr} {bs_CE : List Value} {sn_CE : List Str} {sub_CE : List Value} {ab_CE : Bool} {col_CE : Option Bool} {dd_CE : Option Addr} {k0_CE k1_CE k2_CE k3_CE k5_CE : Option Value} {od_CE an_CE : Option Addr} {sl_CE : Array (Option Value)} {oc_CE kV_CE dc_CE pm_CE cd_CE ct_CE : Value}
    {CB fCB : Addr} {nm_CB q_CB : Str} {N_CB : Addr} {bs_CB : List Value} {sn_CB : List Str} {sub_CB : List Value} {ab_CB : Bool} {col_CB : Option Bool} {dd_CB : Option Addr} {k0_CB k1_CB k2_CB k3_CB k5_CB : Option Value} {od_CB an_CB : Option Addr} {sl_CB : Array (Option Value)} {oc_CB kV_CB dc_CB pm_CB cd_CB ct_CB : Value}
    {CA fCA : Addr} {nm_CA q_CA : Str} {N_CA : Addr} {bs_CA : List Value} {sn_CA : List Str} {sub_CA : List Value} {ab_CA : Bool} {col_CA : Option Bool} {dd_CA : Option Addr} {k0_CA k1_CA k2_CA k3_CA k5_CA : Option Value} {od_CA an_CA : Option Addr} {sl_CA : Array (Option Value)} {oc_CA kV_CA dc_CA pm_CA cd_CA ct_CA : Value}
    {t_MP : Tok}
    (a0 : PySem.W.nsIn K mainGlobals "is_whole" = some (some (.ref f0)))
    (l0 : K.lookup f0 = some ⟨oc0, od0, .func (PySem.W.fnOf "is_whole" "is_whole" (defArgs s_is_whole) (defBody s_is_whole) (defScope s_is_whole) .none kV0 dc0 pm0 an0 cd0 ct0), sl0⟩)
    (c0 : PySem.W.codeIn K cd0 "is_whole" = true)
    (k0 : PySem.W.keepIn K (.ref f0) = true)
    (a1 : PySem.W.nsIn K mainGlobals "is_fraction" = some (some (.ref f1)))
    (l1 : K.lookup f1 = some ⟨oc1, od1, .func (PySem.W.fnOf "is_fraction" "is_fraction" (defArgs s_is_fraction) (defBody s_is_fraction) (defScope s_is_fraction) .none kV1 dc1 pm1 an1 cd1 ct1), sl1⟩)
    (c1 : PySem.W.codeIn K cd1 "is_fraction" = true)
    (k1 : PySem.W.keepIn K (.ref f1) = true)
    (a2 : PySem.W.nsIn K mainGlobals "is_row" = some (some (.ref f2)))
    (l2 : K.lookup f2 = some ⟨oc2, od2, .func (PySem.W.fnOf "is_row" "is_row" (defArgs s_is_row) (defBody s_is_row) (defScope s_is_row) .none kV2 dc2 pm2 an2 cd2 ct2), sl2⟩)
    (c2 : PySem.W.codeIn K cd2 "is_row" = true)
    (k2 : PySem.W.keepIn K (.ref f2) = true)
    (a3 : PySem.W.nsIn K mainGlobals "fraction_of" = some (some (.ref f3)))
    (l3 : K.lookup f3 = some ⟨oc3, od3, .func (PySem.W.fnOf "fraction_of" "fraction_of" (defArgs s_fraction_of) (defBody s_fraction_of) (defScope s_fraction_of) .none kV3 dc3 pm3 an3 cd3 ct3), sl3⟩)
    (c3 : PySem.W.codeIn K cd3 "fraction_of" = true)
    (k3 : PySem.W.keepIn K (.ref f3) = true)
    (a4 : PySem.W.nsIn K mainGlobals "plus" = some (some (.ref f4)))
    (l4 : K.lookup f4 = some ⟨oc4, od4, .func (PySem.W.fnOf "plus" "plus" (defArgs s_plus) (defBody s_plus) (defScope s_plus) .none kV4 dc4 pm4 an4 cd4 ct4), sl4⟩)
    (c4 : PySem.W.codeIn K cd4 "plus" = true)
    (k4 : PySem.W.keepIn K (.ref f4) = true)
    (a5 : PySem.W.nsIn K mainGlobals "times" = some (some (.ref f5)))
    (l5 : K.lookup f5 = some ⟨oc5, od5, .func (PySem.W.fnOf "times" "times" (defArgs s_times) (defBody s_times) (defScope s_times) .none kV5 dc5 pm5 an5 cd5 ct5), sl5⟩)
    (c5 : PySem.W.codeIn K cd5 "times" = true)
    (k5 : PySem.W.keepIn K (.ref f5) = true)
    (a6 : PySem.W.nsIn K mainGlobals "is_less" = some (some (.ref f6)))
    (l6 : K.lookup f6 = some ⟨oc6, od6, .func (PySem.W.fnOf "is_less" "is_less" (defArgs s_is_less) (defBody s_is_less) (defScope s_is_less) .none kV6 dc6 pm6 an6 cd6 ct6), sl6⟩)
    (c6 : PySem.W.codeIn K cd6 "is_less" = true)
    (k6 : PySem.W.keepIn K (.ref f6) = true)
    (a7 : PySem.W.nsIn K mainGlobals "weigh" = some (some (.ref f7)))
    (l7 : K.lookup f7 = some ⟨oc7, od7, .func (PySem.W.fnOf "weigh" "weigh" (defArgs s_weigh) (defBody s_weigh) (defScope s_weigh) .none kV7 dc7 pm7 an7 cd7 ct7), sl7⟩)
    (c7 : PySem.W.codeIn K cd7 "weigh" = true)
    (k7 : PySem.W.keepIn K (.ref f7) = true)
    (a8 : PySem.W.nsIn K mainGlobals "is_sum" = some (some (.ref f8)))
    (l8 : K.lookup f8 = some ⟨oc8, od8, .func (PySem.W.fnOf "is_sum" "is_sum" (defArgs s_is_sum) (defBody s_is_sum) (defScope s_is_sum) .none kV8 dc8 pm8 an8 cd8 ct8), sl8⟩)
    (c8 : PySem.W.codeIn K cd8 "is_sum" = true)
    (k8 : PySem.W.keepIn K (.ref f8) = true)
    (a9 : PySem.W.nsIn K mainGlobals "sum_at" = some (some (.ref f9)))
    (l9 : K.lookup f9 = some ⟨oc9, od9, .func (PySem.W.fnOf "sum_at" "sum_at" (defArgs s_sum_at) (defBody s_sum_at) (defScope s_sum_at) .none kV9 dc9 pm9 an9 cd9 ct9), sl9⟩)
    (c9 : PySem.W.codeIn K cd9 "sum_at" = true)
    (k9 : PySem.W.keepIn K (.ref f9) = true)
    (a10 : PySem.W.nsIn K mainGlobals "is_box" = some (some (.ref f10)))
    (l10 : K.lookup f10 = some ⟨oc10, od10, .func (PySem.W.fnOf "is_box" "is_box" (defArgs s_is_box) (defBody s_is_box) (defScope s_is_box) .none kV10 dc10 pm10 an10 cd10 ct10), sl10⟩)
    (c10 : PySem.W.codeIn K cd10 "is_box" = true)
    (k10 : PySem.W.keepIn K (.ref f10) = true)
    (a11 : PySem.W.nsIn K mainGlobals "least_of" = some (some (.ref f11)))
    (l11 : K.lookup f11 = some ⟨oc11, od11, .func (PySem.W.fnOf "least_of" "least_of" (defArgs s_least_of) (defBody s_least_of) (defScope s_least_of) .none kV11 dc11 pm11 an11 cd11 ct11), sl11⟩)
    (c11 : PySem.W.codeIn K cd11 "least_of" = true)
    (k11 : PySem.W.keepIn K (.ref f11) = true)
    (a12 : PySem.W.nsIn K mainGlobals "greatest_of" = some (some (.ref f12)))
    (l12 : K.lookup f12 = some ⟨oc12, od12, .func (PySem.W.fnOf "greatest_of" "greatest_of" (defArgs s_greatest_of) (defBody s_greatest_of) (defScope s_greatest_of) .none kV12 dc12 pm12 an12 cd12 ct12), sl12⟩)
    (c12 : PySem.W.codeIn K cd12 "greatest_of" = true)
    (k12 : PySem.W.keepIn K (.ref f12) = true)
    (a13 : PySem.W.nsIn K mainGlobals "low_corner" = some (some (.ref f13)))
    (l13 : K.lookup f13 = some ⟨oc13, od13, .func (PySem.W.fnOf "low_corner" "low_corner" (defArgs s_low_corner) (defBody s_low_corner) (defScope s_low_corner) .none kV13 dc13 pm13 an13 cd13 ct13), sl13⟩)
    (c13 : PySem.W.codeIn K cd13 "low_corner" = true)
    (k13 : PySem.W.keepIn K (.ref f13) = true)
    (a14 : PySem.W.nsIn K mainGlobals "high_corner" = some (some (.ref f14)))
    (l14 : K.lookup f14 = some ⟨oc14, od14, .func (PySem.W.fnOf "high_corner" "high_corner" (defArgs s_high_corner) (defBody s_high_corner) (defScope s_high_corner) .none kV14 dc14 pm14 an14 cd14 ct14), sl14⟩)
    (c14 : PySem.W.codeIn K cd14 "high_corner" = true)
    (k14 : PySem.W.keepIn K (.ref f14) = true)
    (a15 : PySem.W.nsIn K mainGlobals "spot_at" = some (some (.ref f15)))
    (l15 : K.lookup f15 = some ⟨oc15, od15, .func (PySem.W.fnOf "spot_at" "spot_at" (defArgs s_spot_at) (defBody s_spot_at) (defScope s_spot_at) .none kV15 dc15 pm15 an15 cd15 ct15), sl15⟩)
    (c15 : PySem.W.codeIn K cd15 "spot_at" = true)
    (k15 : PySem.W.keepIn K (.ref f15) = true)
    (a16 : PySem.W.nsIn K mainGlobals "check_box" = some (some (.ref f16)))
    (l16 : K.lookup f16 = some ⟨oc16, od16, .func (PySem.W.fnOf "check_box" "check_box" (defArgs s_check_box) (defBody s_check_box) (defScope s_check_box) .none kV16 dc16 pm16 an16 cd16 ct16), sl16⟩)
    (c16 : PySem.W.codeIn K cd16 "check_box" = true)
    (k16 : PySem.W.keepIn K (.ref f16) = true)
    (a17 : PySem.W.nsIn K mainGlobals "_check_sum" = some (some (.ref f17)))
    (l17 : K.lookup f17 = some ⟨oc17, od17, .func (PySem.W.fnOf "_check_sum" "_check_sum" (defArgs s__check_sum) (defBody s__check_sum) (defScope s__check_sum) .none kV17 dc17 pm17 an17 cd17 ct17), sl17⟩)
    (c17 : PySem.W.codeIn K cd17 "_check_sum" = true)
    (k17 : PySem.W.keepIn K (.ref f17) = true)
    (a18 : PySem.W.nsIn K mainGlobals "_is_span" = some (some (.ref f18)))
    (l18 : K.lookup f18 = some ⟨oc18, od18, .func (PySem.W.fnOf "_is_span" "_is_span" (defArgs s__is_span) (defBody s__is_span) (defScope s__is_span) .none kV18 dc18 pm18 an18 cd18 ct18), sl18⟩)
    (c18 : PySem.W.codeIn K cd18 "_is_span" = true)
    (k18 : PySem.W.keepIn K (.ref f18) = true)
    (a19 : PySem.W.nsIn K mainGlobals "_law_cell" = some (some (.ref f19)))
    (l19 : K.lookup f19 = some ⟨oc19, od19, .func (PySem.W.fnOf "_law_cell" "_law_cell" (defArgs s__law_cell) (defBody s__law_cell) (defScope s__law_cell) .none kV19 dc19 pm19 an19 cd19 ct19), sl19⟩)
    (c19 : PySem.W.codeIn K cd19 "_law_cell" = true)
    (k19 : PySem.W.keepIn K (.ref f19) = true)
    (a20 : PySem.W.nsIn K mainGlobals "_law_stream" = some (some (.ref f20)))
    (l20 : K.lookup f20 = some ⟨oc20, od20, .func (PySem.W.fnOf "_law_stream" "_law_stream" (defArgs s__law_stream) (defBody s__law_stream) (defScope s__law_stream) .none kV20 dc20 pm20 an20 cd20 ct20), sl20⟩)
    (c20 : PySem.W.codeIn K cd20 "_law_stream" = true)
    (k20 : PySem.W.keepIn K (.ref f20) = true)
    (a21 : PySem.W.nsIn K mainGlobals "_law_take" = some (some (.ref f21)))
    (l21 : K.lookup f21 = some ⟨oc21, od21, .func (PySem.W.fnOf "_law_take" "_law_take" (defArgs s__law_take) (defBody s__law_take) (defScope s__law_take) .none kV21 dc21 pm21 an21 cd21 ct21), sl21⟩)
    (c21 : PySem.W.codeIn K cd21 "_law_take" = true)
    (k21 : PySem.W.keepIn K (.ref f21) = true)
    (a22 : PySem.W.nsIn K mainGlobals "_law_common" = some (some (.ref f22)))
    (l22 : K.lookup f22 = some ⟨oc22, od22, .func (PySem.W.fnOf "_law_common" "_law_common" (defArgs s__law_common) (defBody s__law_common) (defScope s__law_common) .none kV22 dc22 pm22 an22 cd22 ct22), sl22⟩)
    (c22 : PySem.W.codeIn K cd22 "_law_common" = true)
    (k22 : PySem.W.keepIn K (.ref f22) = true)
    (a23 : PySem.W.nsIn K mainGlobals "_law_fraction" = some (some (.ref f23)))
    (l23 : K.lookup f23 = some ⟨oc23, od23, .func (PySem.W.fnOf "_law_fraction" "_law_fraction" (defArgs s__law_fraction) (defBody s__law_fraction) (defScope s__law_fraction) .none kV23 dc23 pm23 an23 cd23 ct23), sl23⟩)
    (c23 : PySem.W.codeIn K cd23 "_law_fraction" = true)
    (k23 : PySem.W.keepIn K (.ref f23) = true)
    (a24 : PySem.W.nsIn K mainGlobals "_law_plus" = some (some (.ref f24)))
    (l24 : K.lookup f24 = some ⟨oc24, od24, .func (PySem.W.fnOf "_law_plus" "_law_plus" (defArgs s__law_plus) (defBody s__law_plus) (defScope s__law_plus) .none kV24 dc24 pm24 an24 cd24 ct24), sl24⟩)
    (c24 : PySem.W.codeIn K cd24 "_law_plus" = true)
    (k24 : PySem.W.keepIn K (.ref f24) = true)
    (a25 : PySem.W.nsIn K mainGlobals "_law_times" = some (some (.ref f25)))
    (l25 : K.lookup f25 = some ⟨oc25, od25, .func (PySem.W.fnOf "_law_times" "_law_times" (defArgs s__law_times) (defBody s__law_times) (defScope s__law_times) .none kV25 dc25 pm25 an25 cd25 ct25), sl25⟩)
    (c25 : PySem.W.codeIn K cd25 "_law_times" = true)
    (k25 : PySem.W.keepIn K (.ref f25) = true)
    (a26 : PySem.W.nsIn K mainGlobals "_law_less" = some (some (.ref f26)))
    (l26 : K.lookup f26 = some ⟨oc26, od26, .func (PySem.W.fnOf "_law_less" "_law_less" (defArgs s__law_less) (defBody s__law_less) (defScope s__law_less) .none kV26 dc26 pm26 an26 cd26 ct26), sl26⟩)
    (c26 : PySem.W.codeIn K cd26 "_law_less" = true)
    (k26 : PySem.W.keepIn K (.ref f26) = true)
    (a27 : PySem.W.nsIn K mainGlobals "_law_weighed" = some (some (.ref f27)))
    (l27 : K.lookup f27 = some ⟨oc27, od27, .func (PySem.W.fnOf "_law_weighed" "_law_weighed" (defArgs s__law_weighed) (defBody s__law_weighed) (defScope s__law_weighed) .none kV27 dc27 pm27 an27 cd27 ct27), sl27⟩)
    (c27 : PySem.W.codeIn K cd27 "_law_weighed" = true)
    (k27 : PySem.W.keepIn K (.ref f27) = true)
    (a28 : PySem.W.nsIn K mainGlobals "_law_number" = some (some (.ref f28)))
    (l28 : K.lookup f28 = some ⟨oc28, od28, .func (PySem.W.fnOf "_law_number" "_law_number" (defArgs s__law_number) (defBody s__law_number) (defScope s__law_number) .none kV28 dc28 pm28 an28 cd28 ct28), sl28⟩)
    (c28 : PySem.W.codeIn K cd28 "_law_number" = true)
    (k28 : PySem.W.keepIn K (.ref f28) = true)
    (a29 : PySem.W.nsIn K mainGlobals "_law_box" = some (some (.ref f29)))
    (l29 : K.lookup f29 = some ⟨oc29, od29, .func (PySem.W.fnOf "_law_box" "_law_box" (defArgs s__law_box) (defBody s__law_box) (defScope s__law_box) .none kV29 dc29 pm29 an29 cd29 ct29), sl29⟩)
    (c29 : PySem.W.codeIn K cd29 "_law_box" = true)
    (k29 : PySem.W.keepIn K (.ref f29) = true)
    (a30 : PySem.W.nsIn K mainGlobals "_law_row" = some (some (.ref f30)))
    (l30 : K.lookup f30 = some ⟨oc30, od30, .func (PySem.W.fnOf "_law_row" "_law_row" (defArgs s__law_row) (defBody s__law_row) (defScope s__law_row) .none kV30 dc30 pm30 an30 cd30 ct30), sl30⟩)
    (c30 : PySem.W.codeIn K cd30 "_law_row" = true)
    (k30 : PySem.W.keepIn K (.ref f30) = true)
    (a31 : PySem.W.nsIn K mainGlobals "_law_told" = some (some (.ref f31)))
    (l31 : K.lookup f31 = some ⟨oc31, od31, .func (PySem.W.fnOf "_law_told" "_law_told" (defArgs s__law_told) (defBody s__law_told) (defScope s__law_told) .none kV31 dc31 pm31 an31 cd31 ct31), sl31⟩)
    (c31 : PySem.W.codeIn K cd31 "_law_told" = true)
    (k31 : PySem.W.keepIn K (.ref f31) = true)
    (a32 : PySem.W.nsIn K mainGlobals "_law_corners" = some (some (.ref f32)))
    (l32 : K.lookup f32 = some ⟨oc32, od32, .func (PySem.W.fnOf "_law_corners" "_law_corners" (defArgs s__law_corners) (defBody s__law_corners) (defScope s__law_corners) .none kV32 dc32 pm32 an32 cd32 ct32), sl32⟩)
    (c32 : PySem.W.codeIn K cd32 "_law_corners" = true)
    (k32 : PySem.W.keepIn K (.ref f32) = true)
    (a33 : PySem.W.nsIn K mainGlobals "_law_due" = some (some (.ref f33)))
    (l33 : K.lookup f33 = some ⟨oc33, od33, .func (PySem.W.fnOf "_law_due" "_law_due" (defArgs s__law_due) (defBody s__law_due) (defScope s__law_due) .none kV33 dc33 pm33 an33 cd33 ct33), sl33⟩)
    (c33 : PySem.W.codeIn K cd33 "_law_due" = true)
    (k33 : PySem.W.keepIn K (.ref f33) = true)
    (a34 : PySem.W.nsIn K mainGlobals "_law_between" = some (some (.ref f34)))
    (l34 : K.lookup f34 = some ⟨oc34, od34, .func (PySem.W.fnOf "_law_between" "_law_between" (defArgs s__law_between) (defBody s__law_between) (defScope s__law_between) .none kV34 dc34 pm34 an34 cd34 ct34), sl34⟩)
    (c34 : PySem.W.codeIn K cd34 "_law_between" = true)
    (k34 : PySem.W.keepIn K (.ref f34) = true)
    (a35 : PySem.W.nsIn K mainGlobals "_law_said" = some (some (.ref f35)))
    (l35 : K.lookup f35 = some ⟨oc35, od35, .func (PySem.W.fnOf "_law_said" "_law_said" (defArgs s__law_said) (defBody s__law_said) (defScope s__law_said) .none kV35 dc35 pm35 an35 cd35 ct35), sl35⟩)
    (c35 : PySem.W.codeIn K cd35 "_law_said" = true)
    (k35 : PySem.W.keepIn K (.ref f35) = true)
    (a36 : PySem.W.nsIn K mainGlobals "_law_bad_sum" = some (some (.ref f36)))
    (l36 : K.lookup f36 = some ⟨oc36, od36, .func (PySem.W.fnOf "_law_bad_sum" "_law_bad_sum" (defArgs s__law_bad_sum) (defBody s__law_bad_sum) (defScope s__law_bad_sum) .none kV36 dc36 pm36 an36 cd36 ct36), sl36⟩)
    (c36 : PySem.W.codeIn K cd36 "_law_bad_sum" = true)
    (k36 : PySem.W.keepIn K (.ref f36) = true)
    (a37 : PySem.W.nsIn K mainGlobals "_law_right" = some (some (.ref f37)))
    (l37 : K.lookup f37 = some ⟨oc37, od37, .func (PySem.W.fnOf "_law_right" "_law_right" (defArgs s__law_right) (defBody s__law_right) (defScope s__law_right) .none kV37 dc37 pm37 an37 cd37 ct37), sl37⟩)
    (c37 : PySem.W.codeIn K cd37 "_law_right" = true)
    (k37 : PySem.W.keepIn K (.ref f37) = true)
    (a38 : PySem.W.nsIn K mainGlobals "law" = some (some (.ref f38)))
    (l38 : K.lookup f38 = some ⟨oc38, od38, .func (PySem.W.fnOf "law" "law" (defArgs s_law) (defBody s_law) (defScope s_law) .none kV38 dc38 pm38 an38 cd38 ct38), sl38⟩)
    (c38 : PySem.W.codeIn K cd38 "law" = true)
    (k38 : PySem.W.keepIn K (.ref f38) = true)
    (z_len : PySem.W.nsIn K mainGlobals "len" = some none)
    (z_range : PySem.W.nsIn K mainGlobals "range" = some none)
    (z_zip : PySem.W.nsIn K mainGlobals "zip" = some none)
    (z_tuple : PySem.W.nsIn K mainGlobals "tuple" = some none)
    (z_int : PySem.W.nsIn K mainGlobals "int" = some none)
    (z_abs : PySem.W.nsIn K mainGlobals "abs" = some none)
    (z_isinstance : PySem.W.nsIn K mainGlobals "isinstance" = some none)
    (z_bool : PySem.W.nsIn K mainGlobals "bool" = some none)
    (z_list : PySem.W.nsIn K mainGlobals "list" = some none)
    (z_max : PySem.W.nsIn K mainGlobals "max" = some none)
    (z_min : PySem.W.nsIn K mainGlobals "min" = some none)
    (z_all : PySem.W.nsIn K mainGlobals "all" = some none)
    (z_repr : PySem.W.nsIn K mainGlobals "repr" = some none)
    (z_ValueError : PySem.W.nsIn K mainGlobals "ValueError" = some none)
    (zgcd : PySem.W.nsIn K mainGlobals "gcd" = some (some (.builtin "math.gcd")))
    (nNOUGHT : PySem.W.nsIn K mainGlobals "NOUGHT" = some (some (.ref aCNOUGHT)))
    (vNOUGHT : K.lookup aCNOUGHT = some ⟨.type "tuple", dCNOUGHT, .seq #[.int 0 t1NOUGHT, .int 1 t2NOUGHT] nCNOUGHT, slCNOUGHT⟩)
    (aCE : PySem.W.nsIn K mainGlobals "CutError" = some (some (.ref CE)))
    (xCE : K.lookup CE = some (excClassObj nm_CE q_CE CE N_CE bs_CE [.type "ValueError", .type "Exception", .type "BaseException", .type "object"] true sn_CE sub_CE ab_CE col_CE dd_CE k0_CE k1_CE k2_CE k3_CE k5_CE "ValueError.__new__"))
    (saCE : PySem.W.findIn K (.ref CE) "__setattr__" = some (some (.builtin "object.__setattr__")))
    (tyCE : PySem.W.typeIn K (.ref CE) = some (.type "type"))
    (kcCE : PySem.W.keepIn K (.ref CE) = true)
    (hdCE : PySem.W.hasDictIn K CE = true)
    (gaCE : PySem.W.findIn K (.ref CE) "__getattribute__" = some (some (.builtin "BaseException.__getattribute__")))
    (gtCE : PySem.W.findIn K (.ref CE) "__getattr__" = some none)
    (caCE : PySem.W.findIn K (.ref CE) "__class__" = some (some (.builtin "object.__class__")))
    (iiCE : PySem.W.findIn K (.ref CE) "__init__" = some (some (.ref fCE)))
    (tiCE : PySem.W.typeIn K (.ref fCE) = some (.type "function"))
    (lCE : K.lookup fCE = some ⟨oc_CE, od_CE, .func (PySem.W.fnOf "__init__" "CutError.__init__" (defArgs s_CutError___init__) (defBody s_CutError___init__) (defScope s_CutError___init__) .none kV_CE dc_CE pm_CE an_CE cd_CE ct_CE), sl_CE⟩)
    (cCE : PySem.W.codeIn K cd_CE "CutError.__init__" = true)
    (kCE : PySem.W.keepIn K (.ref fCE) = true)
    (aCB : PySem.W.nsIn K mainGlobals "NoBox" = some (some (.ref CB)))
    (xCB : K.lookup CB = some (excClassObj nm_CB q_CB CB N_CB bs_CB (.ref CE :: [.type "ValueError", .type "Exception", .type "BaseException", .type "object"]) true sn_CB sub_CB ab_CB col_CB dd_CB k0_CB k1_CB k2_CB k3_CB k5_CB "ValueError.__new__"))
    (saCB : PySem.W.findIn K (.ref CB) "__setattr__" = some (some (.builtin "object.__setattr__")))
    (tyCB : PySem.W.typeIn K (.ref CB) = some (.type "type"))
    (kcCB : PySem.W.keepIn K (.ref CB) = true)
    (hdCB : PySem.W.hasDictIn K CB = true)
    (gaCB : PySem.W.findIn K (.ref CB) "__getattribute__" = some (some (.builtin "BaseException.__getattribute__")))
    (gtCB : PySem.W.findIn K (.ref CB) "__getattr__" = some none)
    (caCB : PySem.W.findIn K (.ref CB) "__class__" = some (some (.builtin "object.__class__")))
    (iiCB : PySem.W.findIn K (.ref CB) "__init__" = some (some (.ref fCB)))
    (tiCB : PySem.W.typeIn K (.ref fCB) = some (.type "function"))
    (noCB : PySem.W.findIn K (.ref CB) "found" = some none)
    (lCB : K.lookup fCB = some ⟨oc_CB, od_CB, .func (PySem.W.fnOf "__init__" "NoBox.__init__" (defArgs s_NoBox___init__) (defBody s_NoBox___init__) (defScope s_NoBox___init__) .none kV_CB dc_CB pm_CB an_CB cd_CB ct_CB), sl_CB⟩)
    (cCB : PySem.W.codeIn K cd_CB "NoBox.__init__" = true)
    (kCB : PySem.W.keepIn K (.ref fCB) = true)
    (aCA : PySem.W.nsIn K mainGlobals "NoAim" = some (some (.ref CA)))
    (xCA : K.lookup CA = some (excClassObj nm_CA q_CA CA N_CA bs_CA (.ref CE :: [.type "ValueError", .type "Exception", .type "BaseException", .type "object"]) true sn_CA sub_CA ab_CA col_CA dd_CA k0_CA k1_CA k2_CA k3_CA k5_CA "ValueError.__new__"))
    (saCA : PySem.W.findIn K (.ref CA) "__setattr__" = some (some (.builtin "object.__setattr__")))
    (tyCA : PySem.W.typeIn K (.ref CA) = some (.type "type"))
    (kcCA : PySem.W.keepIn K (.ref CA) = true)
    (hdCA : PySem.W.hasDictIn K CA = true)
    (gaCA : PySem.W.findIn K (.ref CA) "__getattribute__" = some (some (.builtin "BaseException.__getattribute__")))
    (gtCA : PySem.W.findIn K (.ref CA) "__getattr__" = some none)
    (caCA : PySem.W.findIn K (.ref CA) "__class__" = some (some (.builtin "object.__class__")))
    (iiCA : PySem.W.findIn K (.ref CA) "__init__" = some (some (.ref fCA)))
    (tiCA : PySem.W.typeIn K (.ref fCA) = some (.type "function"))
    (noCA : PySem.W.findIn K (.ref CA) "found" = some none)
    (lCA : K.lookup fCA = some ⟨oc_CA, od_CA, .func (PySem.W.fnOf "__init__" "NoAim.__init__" (defArgs s_NoAim___init__) (defBody s_NoAim___init__) (defScope s_NoAim___init__) .none kV_CA dc_CA pm_CA an_CA cd_CA ct_CA), sl_CA⟩)
    (cCA : PySem.W.codeIn K cd_CA "NoAim.__init__" = true)
    (kCA : PySem.W.keepIn K (.ref fCA) = true)
    (cgO : PySem.W.specialIn K (.builtin "object.__class__") "__get__" = some (some (.builtin "getset_descriptor.__get__")))
    (ctO : PySem.W.takesIn K (.builtin "object.__class__") = some true)
    (rdO : PySem.W.readsIn K CE (.type "type") = true)
    (gaO : PySem.W.specialIn K (.ref CE) "__getattribute__" = some (some (.builtin "type.__getattribute__")))
    (atO : PySem.W.findCls K (.ref CE) (.type "type") "__init__" = some (.val (.ref fCE)))
    (vVO : PySem.W.findCls K (.type "ValueError") (.type "type") "__init__" = some (.val (.builtin "ValueError.__init__")))
    (xe1 : PySem.W.exmOne K (.ref CB) (.ref CB) = some true)
    (xe2 : PySem.W.exmOne K (.ref CA) (.ref CB) = some false)
    (xe3 : PySem.W.exmOne K (.ref CA) (.ref CA) = some true)
    (iMP : PySem.W.nsIn K mainGlobals "MOST_PLACES" = some (some (.int 3 t_MP)))
    : ∃ fd : FuncData, (∀ (s : Shared) (v : Value), BindsTo s fd ⟨[v], []⟩ [("_law_script", v)]) ∧ ∀ base : Heap, K.In base → base.Ns mainGlobals mg → GOk l.prog w K mg base 11 fa fd ["_law_script"] (spLaw K) := by
  have e := hfa.symm.trans (PySem.W.mg_of X G a38)
  cases e
  have D_is_whole : Df K mg "is_whole" s_is_whole ["thing"] := Df.of X G a0 l0 c0 k0 fun _ _ _ _ _ _ us hl => match us, hl with | [_], _ => rfl
  have D_is_fraction : Df K mg "is_fraction" s_is_fraction ["thing"] := Df.of X G a1 l1 c1 k1 fun _ _ _ _ _ _ us hl => match us, hl with | [_], _ => rfl
  have D_is_row : Df K mg "is_row" s_is_row ["thing", "many"] := Df.of X G a2 l2 c2 k2 fun _ _ _ _ _ _ us hl => match us, hl with | [_, _], _ => rfl
  have D_fraction_of : Df K mg "fraction_of" s_fraction_of ["top", "bottom"] := Df.of X G a3 l3 c3 k3 fun _ _ _ _ _ _ us hl => match us, hl with | [_, _], _ => rfl
  have D_plus : Df K mg "plus" s_plus ["one", "other"] := Df.of X G a4 l4 c4 k4 fun _ _ _ _ _ _ us hl => match us, hl with | [_, _], _ => rfl
  have D_times : Df K mg "times" s_times ["one", "other"] := Df.of X G a5 l5 c5 k5 fun _ _ _ _ _ _ us hl => match us, hl with | [_, _], _ => rfl
  have D_is_less : Df K mg "is_less" s_is_less ["one", "other"] := Df.of X G a6 l6 c6 k6 fun _ _ _ _ _ _ us hl => match us, hl with | [_, _], _ => rfl
  have D_weigh : Df K mg "weigh" s_weigh ["row", "other"] := Df.of X G a7 l7 c7 k7 fun _ _ _ _ _ _ us hl => match us, hl with | [_, _], _ => rfl
  have D_is_sum : Df K mg "is_sum" s_is_sum ["thing", "many"] := Df.of X G a8 l8 c8 k8 fun _ _ _ _ _ _ us hl => match us, hl with | [_, _], _ => rfl
  have D_sum_at : Df K mg "sum_at" s_sum_at ["one", "row"] := Df.of X G a9 l9 c9 k9 fun _ _ _ _ _ _ us hl => match us, hl with | [_, _], _ => rfl
  have D_is_box : Df K mg "is_box" s_is_box ["thing"] := Df.of X G a10 l10 c10 k10 fun _ _ _ _ _ _ us hl => match us, hl with | [_], _ => rfl
  have D_least_of : Df K mg "least_of" s_least_of ["box", "one"] := Df.of X G a11 l11 c11 k11 fun _ _ _ _ _ _ us hl => match us, hl with | [_, _], _ => rfl
  have D_greatest_of : Df K mg "greatest_of" s_greatest_of ["box", "one"] := Df.of X G a12 l12 c12 k12 fun _ _ _ _ _ _ us hl => match us, hl with | [_, _], _ => rfl
  have D_low_corner : Df K mg "low_corner" s_low_corner ["one"] := Df.of X G a13 l13 c13 k13 fun _ _ _ _ _ _ us hl => match us, hl with | [_], _ => rfl
  have D_high_corner : Df K mg "high_corner" s_high_corner ["one"] := Df.of X G a14 l14 c14 k14 fun _ _ _ _ _ _ us hl => match us, hl with | [_], _ => rfl
  have D_spot_at : Df K mg "spot_at" s_spot_at ["spans", "corner"] := Df.of X G a15 l15 c15 k15 fun _ _ _ _ _ _ us hl => match us, hl with | [_, _], _ => rfl
  have D_check_box : Df K mg "check_box" s_check_box ["thing"] := Df.of X G a16 l16 c16 k16 fun _ _ _ _ _ _ us hl => match us, hl with | [_], _ => rfl
  have D__check_sum : Df K mg "_check_sum" s__check_sum ["box", "one"] := Df.of X G a17 l17 c17 k17 fun _ _ _ _ _ _ us hl => match us, hl with | [_, _], _ => rfl
  have D__is_span : Df K mg "_is_span" s__is_span ["thing"] := Df.of X G a18 l18 c18 k18 fun _ _ _ _ _ _ us hl => match us, hl with | [_], _ => rfl
  have D__law_cell : Df K mg "_law_cell" s__law_cell ["_law_script", "_law_k"] := Df.of X G a19 l19 c19 k19 fun _ _ _ _ _ _ us hl => match us, hl with | [_, _], _ => rfl
  have D__law_stream : Df K mg "_law_stream" s__law_stream ["_law_cell_here"] := Df.of X G a20 l20 c20 k20 fun _ _ _ _ _ _ us hl => match us, hl with | [_], _ => rfl
  have D__law_take : Df K mg "_law_take" s__law_take ["_law_stream_here", "_law_many"] := Df.of X G a21 l21 c21 k21 fun _ _ _ _ _ _ us hl => match us, hl with | [_, _], _ => rfl
  have D__law_common : Df K mg "_law_common" s__law_common ["_law_one", "_law_other"] := Df.of X G a22 l22 c22 k22 fun _ _ _ _ _ _ us hl => match us, hl with | [_, _], _ => rfl
  have D__law_fraction : Df K mg "_law_fraction" s__law_fraction ["_law_top", "_law_bottom"] := Df.of X G a23 l23 c23 k23 fun _ _ _ _ _ _ us hl => match us, hl with | [_, _], _ => rfl
  have D__law_plus : Df K mg "_law_plus" s__law_plus ["_law_one", "_law_other"] := Df.of X G a24 l24 c24 k24 fun _ _ _ _ _ _ us hl => match us, hl with | [_, _], _ => rfl
  have D__law_times : Df K mg "_law_times" s__law_times ["_law_one", "_law_other"] := Df.of X G a25 l25 c25 k25 fun _ _ _ _ _ _ us hl => match us, hl with | [_, _], _ => rfl
  have D__law_less : Df K mg "_law_less" s__law_less ["_law_one", "_law_other"] := Df.of X G a26 l26 c26 k26 fun _ _ _ _ _ _ us hl => match us, hl with | [_, _], _ => rfl
  have D__law_weighed : Df K mg "_law_weighed" s__law_weighed ["_law_row_here", "_law_spot"] := Df.of X G a27 l27 c27 k27 fun _ _ _ _ _ _ us hl => match us, hl with | [_, _], _ => rfl
  have D__law_number : Df K mg "_law_number" s__law_number ["_law_stream_here"] := Df.of X G a28 l28 c28 k28 fun _ _ _ _ _ _ us hl => match us, hl with | [_], _ => rfl
  have D__law_box : Df K mg "_law_box" s__law_box ["_law_stream_here"] := Df.of X G a29 l29 c29 k29 fun _ _ _ _ _ _ us hl => match us, hl with | [_], _ => rfl
  have D__law_row : Df K mg "_law_row" s__law_row ["_law_stream_here", "_law_many"] := Df.of X G a30 l30 c30 k30 fun _ _ _ _ _ _ us hl => match us, hl with | [_, _], _ => rfl
  have D__law_told : Df K mg "_law_told" s__law_told ["_law_one", "_law_spot"] := Df.of X G a31 l31 c31 k31 fun _ _ _ _ _ _ us hl => match us, hl with | [_, _], _ => rfl
  have D__law_corners : Df K mg "_law_corners" s__law_corners ["_law_box_here"] := Df.of X G a32 l32 c32 k32 fun _ _ _ _ _ _ us hl => match us, hl with | [_], _ => rfl
  have D__law_due : Df K mg "_law_due" s__law_due ["_law_box_here", "_law_one", "_law_upwards"] := Df.of X G a33 l33 c33 k33 fun _ _ _ _ _ _ us hl => match us, hl with | [_, _, _], _ => rfl
  have D__law_between : Df K mg "_law_between" s__law_between ["_law_stream_here", "_law_box_here"] := Df.of X G a34 l34 c34 k34 fun _ _ _ _ _ _ us hl => match us, hl with | [_, _], _ => rfl
  have D__law_said : Df K mg "_law_said" s__law_said ["_law_way", "_law_box_here", "_law_one"] := Df.of X G a35 l35 c35 k35 fun _ _ _ _ _ _ us hl => match us, hl with | [_, _, _], _ => rfl
  have D__law_bad_sum : Df K mg "_law_bad_sum" s__law_bad_sum ["_law_stream_here", "_law_one"] := Df.of X G a36 l36 c36 k36 fun _ _ _ _ _ _ us hl => match us, hl with | [_, _], _ => rfl
  have D__law_right : Df K mg "_law_right" s__law_right ["_law_stream_here", "_law_box_here", "_law_one"] := Df.of X G a37 l37 c37 k37 fun _ _ _ _ _ _ us hl => match us, hl with | [_, _, _], _ => rfl
  have mlen := PySem.W.mg_none_of X G z_len
  have mrange := PySem.W.mg_none_of X G z_range
  have mzip := PySem.W.mg_none_of X G z_zip
  have mtuple := PySem.W.mg_none_of X G z_tuple
  have mint := PySem.W.mg_none_of X G z_int
  have mabs := PySem.W.mg_none_of X G z_abs
  have misinstance := PySem.W.mg_none_of X G z_isinstance
  have mbool := PySem.W.mg_none_of X G z_bool
  have mlist := PySem.W.mg_none_of X G z_list
  have mmax := PySem.W.mg_none_of X G z_max
  have mmin := PySem.W.mg_none_of X G z_min
  have mall := PySem.W.mg_none_of X G z_all
  have mrepr := PySem.W.mg_none_of X G z_repr
  have mValueError := PySem.W.mg_none_of X G z_ValueError
  have mgcd := PySem.W.mg_of X G zgcd
  have C_NOUGHT : Cst K mg "NOUGHT" 0 := ⟨aCNOUGHT, PySem.W.mg_of X G nNOUGHT, fun H => ⟨aCNOUGHT, rfl, .inr ⟨_, _, _, vNOUGHT, rfl, rfl, (by show 2 ≤ sizeLine; decide), .cons ⟨_, rfl⟩ (.cons ⟨_, rfl⟩ .nil)⟩⟩⟩
  have XCE : ErX K CE bmB := ⟨⟨_, _, _, _, _, _, _, _, _, _, _, _, _, _, xCE⟩, rfl, tyCE⟩
  have ECCE : ErC K CE := XCE.erc saCE kcCE gaCE gtCE caCE cgO ctO rfl rfl hdCE
  have FCE := fun_mk (st := s_CutError___init__) lCE cCE kCE
  have bCE := FCE.binds (ps := ["self", "text"]) fun _ _ _ _ _ _ us hl => match us, hl with | [_, _], _ => rfl
  have gCE := PySem.W.mg_of X G aCE
  have XCB : ErX K CB (bmE CE) := ⟨⟨_, _, _, _, _, _, _, _, _, _, _, _, _, _, xCB⟩, rfl, tyCB⟩
  have ECCB : ErC K CB := XCB.erc saCB kcCB gaCB gtCB caCB cgO ctO rfl rfl hdCB
  have FCB := fun_mk (st := s_NoBox___init__) lCB cCB kCB
  have bCB := FCB.binds (ps := ["self", "found"]) fun _ _ _ _ _ _ us hl => match us, hl with | [_, _], _ => rfl
  have gCB := PySem.W.mg_of X G aCB
  have XCA : ErX K CA (bmE CE) := ⟨⟨_, _, _, _, _, _, _, _, _, _, _, _, _, _, xCA⟩, rfl, tyCA⟩
  have ECCA : ErC K CA := XCA.erc saCA kcCA gaCA gtCA caCA cgO ctO rfl rfl hdCA
  have FCA := fun_mk (st := s_NoAim___init__) lCA cCA kCA
  have bCA := FCA.binds (ps := ["self", "found"]) fun _ _ _ _ _ _ us hl => match us, hl with | [_, _], _ => rfl
  have gCA := PySem.W.mg_of X G aCA
  have mMP := PySem.W.mg_of X G iMP
  have F_law := fun_mk (st := s_law) l38 c38 k38
  refine ⟨PySem.W.fnOf "law" "law" (defArgs s_law) (defBody s_law) (defScope s_law) .none kV38 dc38 pm38 an38 cd38 ct38, fun s v => .of_eq rfl, fun base _ _ => ?_⟩
  have cE : CFn K mg "CutError" CE "__init__" fCE := ⟨gCE, ⟨rdO, gaO⟩, atO, kCE⟩
  have GE := ok_CutError_init (P := l.prog) (w := w) (base := base) (mg := mg) FCE mValueError vVO
  have ECB : Er l.prog w K mg base "NoBox" CB "found" ["self", "found"] := ⟨ECCB, noCB, gCB, _, _, iiCB, tiCB, ok_NoBox_init FCB cE GE bCE, bCB⟩
  have ECA : Er l.prog w K mg base "NoAim" CA "found" ["self", "found"] := ⟨ECCA, noCA, gCA, _, _, iiCA, tiCA, ok_NoAim_init FCA cE GE bCE, bCA⟩
  have g1 := ok_fraction_of (P := l.prog) (w := w) (base := base) D_fraction_of mgcd
  have g2 := ok_plus D_plus g1
  have g3 := ok_times D_times g1
  have h4 := ok__law_common (P := l.prog) (w := w) (base := base) D__law_common
  have h5 := ok__law_fraction D__law_fraction h4 mabs
  have h6 := ok__law_plus D__law_plus h5
  have h7 := ok__law_times D__law_times h5
  have a1 := ok_is_less (P := l.prog) (w := w) (base := base) D_is_less
  have h8 := ok__law_less (P := l.prog) (w := w) (base := base) D__law_less
  have a2 := okB_weigh D_weigh C_NOUGHT mzip g2 g3
  have a3 := okB_sum_at D_sum_at g2 a2
  have w1 := ok_is_whole (P := l.prog) (w := w) (base := base) D_is_whole misinstance mint mbool
  have w2 := ok_is_fraction D_is_fraction w1 misinstance mtuple mlen mgcd
  have w3 := ok_is_row D_is_row w2 misinstance mtuple mlen mall
  have w4 := ok_is_sum D_is_sum w3 w2 misinstance mtuple mlen
  have w5 := ok__is_span D__is_span w3 a1
  have w6 := ok_is_box D_is_box w5 mMP misinstance mtuple mlen mall
  have b1 := ok_low_corner (P := l.prog) (w := w) (base := base) D_low_corner mtuple
  have b2 := ok_high_corner (P := l.prog) (w := w) (base := base) D_high_corner mtuple
  have b3 := ok_spot_at (P := l.prog) (w := w) (base := base) D_spot_at mzip mtuple
  have c1 := ok_check_box D_check_box ECB w6
  have c2 := ok__check_sum D__check_sum ECB ECA c1 w4 mlen
  have c3 := ok_least_of D_least_of c2 b1 b3 a3
  have c4 := ok_greatest_of D_greatest_of c2 b2 b3 a3
  have d1 := ok__law_cell (P := l.prog) (w := w) (base := base) D__law_cell mlen
  have d2 := ok__law_stream (P := l.prog) (w := w) (base := base) D__law_stream mint
  have d3 := ok__law_take (P := l.prog) (w := w) (base := base) D__law_take
  have d4 := ok__law_number D__law_number d3 h5
  have d5 := ok__law_box D__law_box d3 h5 h6 mrange mtuple
  have d6_ := ok__law_row D__law_row d4 mtuple mrange
  have d7 := okB__law_weighed D__law_weighed mzip h6 h7
  have d8 := ok__law_told D__law_told h6 d7
  have d9 := ok__law_corners (P := l.prog) (w := w) (base := base) D__law_corners
  have e1 := ok__law_between D__law_between d3 h5 h6 h7 mtuple
  have e2 := ok__law_due D__law_due d9 d8 h8 mzip mtuple mint
  have e3 := ok__law_said D__law_said ECB ECA gCE xe1 xe2 xe3 c3 c4
  have e4 := ok__law_bad_sum D__law_bad_sum d3 mlen mlist
  have e5 := ok__law_right D__law_right e3 e2 d8 e1 h8
  exact fn_law F_law ⟨d1, d2, d3, d5, d6_, d4, e5, e4, e3⟩ mrange mmax mmin mlen mlist mrepr
end K18
open PySem PySem.W PyProof.Rows
set_option maxRecDepth 100000 in
set_option maxHeartbeats 0 in
theorem PySem.Challenge.cw_noughtcut_k18_corners_of_sums_holds : PySem.Challenge.rw_noughtcut_k18_corners_of_sums.Holds := by
  w_on; o_law; k_head; (case hw => w_witness2)
  k_fill
  refine Nc.gwalk (l := PySem.Challenge.rw_noughtcut_k18_corners_of_sums) (n := 63) (k := 11) (x := "_law_script") (sp := fun K => Nc.spLaw K) rfl (by decide) rfl ⟨rfl, by decide, by decide⟩ (fun w h Y => PySem.W.kIn_of Y) ?F (fun K H a ns hl hS => ⟨a, ns, rfl, hS, hl, fun _ => rfl⟩)
  case F =>
    intro w mg fa h KX G hmg
    refine' K18.all_mk KX G hmg ?a0 ?l0 ?c0 ?k0 ?a1 ?l1 ?c1 ?k1 ?a2 ?l2 ?c2 ?k2 ?a3 ?l3 ?c3 ?k3 ?a4 ?l4 ?c4 ?k4 ?a5 ?l5 ?c5 ?k5 ?a6 ?l6 ?c6 ?k6 ?a7 ?l7 ?c7 ?k7 ?a8 ?l8 ?c8 ?k8 ?a9 ?l9 ?c9 ?k9 ?a10 ?l10 ?c10 ?k10 ?a11 ?l11 ?c11 ?k11 ?a12 ?l12 ?c12 ?k12 ?a13 ?l13 ?c13 ?k13 ?a14 ?l14 ?c14 ?k14 ?a15 ?l15 ?c15 ?k15 ?a16 ?l16 ?c16 ?k16 ?a17 ?l17 ?c17 ?k17 ?a18 ?l18 ?c18 ?k18 ?a19 ?l19 ?c19 ?k19 ?a20 ?l20 ?c20 ?k20 ?a21 ?l21 ?c21 ?k21 ?a22 ?l22 ?c22 ?k22 ?a23 ?l23 ?c23 ?k23 ?a24 ?l24 ?c24 ?k24 ?a25 ?l25 ?c25 ?k25 ?a26 ?l26 ?c26 ?k26 ?a27 ?l27 ?c27 ?k27 ?a28 ?l28 ?c28 ?k28 ?a29 ?l29 ?c29 ?k29 ?a30 ?l30 ?c30 ?k30 ?a31 ?l31 ?c31 ?k31 ?a32 ?l32 ?c32 ?k32 ?a33 ?l33 ?c33 ?k33 ?a34 ?l34 ?c34 ?k34 ?a35 ?l35 ?c35 ?k35 ?a36 ?l36 ?c36 ?k36 ?a37 ?l37 ?c37 ?k37 ?a38 ?l38 ?c38 ?k38 ?z_len ?z_range ?z_zip ?z_tuple ?z_int ?z_abs ?z_isinstance ?z_bool ?z_list ?z_max ?z_min ?z_all ?z_repr ?z_ValueError ?zgcd ?nNOUGHT ?vNOUGHT ?aCE ?xCE ?saCE ?tyCE ?kcCE ?hdCE ?gaCE ?gtCE ?caCE ?iiCE ?tiCE ?lCE ?cCE ?kCE ?aCB ?xCB ?saCB ?tyCB ?kcCB ?hdCB ?gaCB ?gtCB ?caCB ?iiCB ?tiCB ?noCB ?lCB ?cCB ?kCB ?aCA ?xCA ?saCA ?tyCA ?kcCA ?hdCA ?gaCA ?gtCA ?caCA ?iiCA ?tiCA ?noCA ?lCA ?cCA ?kCA ?cgO ?ctO ?rdO ?gaO ?atO ?vVO ?xe1 ?xe2 ?xe3 ?iMP
    (case a0 => k_is)
    (case l0 => k_is)
    (case c0 => k_is)
    (case k0 => k_is)
    (case a1 => k_is)
    (case l1 => k_is)
    (case c1 => k_is)
    (case k1 => k_is)
    (case a2 => k_is)
    (case l2 => k_is)
    (case c2 => k_is)
    (case k2 => k_is)
    (case a3 => k_is)
    (case l3 => k_is)
    (case c3 => k_is)
    (case k3 => k_is)
    (case a4 => k_is)
    (case l4 => k_is)
    (case c4 => k_is)
    (case k4 => k_is)
    (case a5 => k_is)
    (case l5 => k_is)
    (case c5 => k_is)
    (case k5 => k_is)
    (case a6 => k_is)
    (case l6 => k_is)
    (case c6 => k_is)
    (case k6 => k_is)
    (case a7 => k_is)
    (case l7 => k_is)
    (case c7 => k_is)
    (case k7 => k_is)
    (case a8 => k_is)
    (case l8 => k_is)
    (case c8 => k_is)
    (case k8 => k_is)
    (case a9 => k_is)
    (case l9 => k_is)
    (case c9 => k_is)
    (case k9 => k_is)
    (case a10 => k_is)
    (case l10 => k_is)
    (case c10 => k_is)
    (case k10 => k_is)
    (case a11 => k_is)
    (case l11 => k_is)
    (case c11 => k_is)
    (case k11 => k_is)
    (case a12 => k_is)
    (case l12 => k_is)
    (case c12 => k_is)
    (case k12 => k_is)
    (case a13 => k_is)
    (case l13 => k_is)
    (case c13 => k_is)
    (case k13 => k_is)
    (case a14 => k_is)
    (case l14 => k_is)
    (case c14 => k_is)
    (case k14 => k_is)
    (case a15 => k_is)
    (case l15 => k_is)
    (case c15 => k_is)
    (case k15 => k_is)
    (case a16 => k_is)
    (case l16 => k_is)
    (case c16 => k_is)
    (case k16 => k_is)
    (case a17 => k_is)
    (case l17 => k_is)
    (case c17 => k_is)
    (case k17 => k_is)
    (case a18 => k_is)
    (case l18 => k_is)
    (case c18 => k_is)
    (case k18 => k_is)
    (case a19 => k_is)
    (case l19 => k_is)
    (case c19 => k_is)
    (case k19 => k_is)
    (case a20 => k_is)
    (case l20 => k_is)
    (case c20 => k_is)
    (case k20 => k_is)
    (case a21 => k_is)
    (case l21 => k_is)
    (case c21 => k_is)
    (case k21 => k_is)
    (case a22 => k_is)
    (case l22 => k_is)
    (case c22 => k_is)
    (case k22 => k_is)
    (case a23 => k_is)
    (case l23 => k_is)
    (case c23 => k_is)
    (case k23 => k_is)
    (case a24 => k_is)
    (case l24 => k_is)
    (case c24 => k_is)
    (case k24 => k_is)
    (case a25 => k_is)
    (case l25 => k_is)
    (case c25 => k_is)
    (case k25 => k_is)
    (case a26 => k_is)
    (case l26 => k_is)
    (case c26 => k_is)
    (case k26 => k_is)
    (case a27 => k_is)
    (case l27 => k_is)
    (case c27 => k_is)
    (case k27 => k_is)
    (case a28 => k_is)
    (case l28 => k_is)
    (case c28 => k_is)
    (case k28 => k_is)
    (case a29 => k_is)
    (case l29 => k_is)
    (case c29 => k_is)
    (case k29 => k_is)
    (case a30 => k_is)
    (case l30 => k_is)
    (case c30 => k_is)
    (case k30 => k_is)
    (case a31 => k_is)
    (case l31 => k_is)
    (case c31 => k_is)
    (case k31 => k_is)
    (case a32 => k_is)
    (case l32 => k_is)
    (case c32 => k_is)
    (case k32 => k_is)
    (case a33 => k_is)
    (case l33 => k_is)
    (case c33 => k_is)
    (case k33 => k_is)
    (case a34 => k_is)
    (case l34 => k_is)
    (case c34 => k_is)
    (case k34 => k_is)
    (case a35 => k_is)
    (case l35 => k_is)
    (case c35 => k_is)
    (case k35 => k_is)
    (case a36 => k_is)
    (case l36 => k_is)
    (case c36 => k_is)
    (case k36 => k_is)
    (case a37 => k_is)
    (case l37 => k_is)
    (case c37 => k_is)
    (case k37 => k_is)
    (case a38 => k_is)
    (case l38 => k_is)
    (case c38 => k_is)
    (case k38 => k_is)
    (case z_len => k_is)
    (case z_range => k_is)
    (case z_zip => k_is)
    (case z_tuple => k_is)
    (case z_int => k_is)
    (case z_abs => k_is)
    (case z_isinstance => k_is)
    (case z_bool => k_is)
    (case z_list => k_is)
    (case z_max => k_is)
    (case z_min => k_is)
    (case z_all => k_is)
    (case z_repr => k_is)
    (case z_ValueError => k_is)
    (case zgcd => k_is)
    (case nNOUGHT => k_is)
    (case vNOUGHT => k_is)
    (case aCE => k_is)
    (case xCE => k_is)
    (case saCE => k_is)
    (case tyCE => k_is)
    (case kcCE => k_is)
    (case hdCE => k_is)
    (case gaCE => k_is)
    (case gtCE => k_is)
    (case caCE => k_is)
    (case iiCE => k_is)
    (case tiCE => k_is)
    (case lCE => k_is)
    (case cCE => k_is)
    (case kCE => k_is)
    (case aCB => k_is)
    (case xCB => k_is)
    (case saCB => k_is)
    (case tyCB => k_is)
    (case kcCB => k_is)
    (case hdCB => k_is)
    (case gaCB => k_is)
    (case gtCB => k_is)
    (case caCB => k_is)
    (case iiCB => k_is)
    (case tiCB => k_is)
    (case noCB => k_is)
    (case lCB => k_is)
    (case cCB => k_is)
    (case kCB => k_is)
    (case aCA => k_is)
    (case xCA => k_is)
    (case saCA => k_is)
    (case tyCA => k_is)
    (case kcCA => k_is)
    (case hdCA => k_is)
    (case gaCA => k_is)
    (case gtCA => k_is)
    (case caCA => k_is)
    (case iiCA => k_is)
    (case tiCA => k_is)
    (case noCA => k_is)
    (case lCA => k_is)
    (case cCA => k_is)
    (case kCA => k_is)
    (case cgO => k_is)
    (case ctO => k_is)
    (case rdO => k_is)
    (case gaO => k_is)
    (case atO => k_is)
    (case vVO => k_is)
    (case xe1 => first | k_is | (exact exm_ref (by k_is) (by k_is) (by k_is) (by k_is)))
    (case xe2 => first | k_is | (exact exm_ref (by k_is) (by k_is) (by k_is) (by k_is)))
    (case xe3 => first | k_is | (exact exm_ref (by k_is) (by k_is) (by k_is) (by k_is)))
    (case iMP => k_is)
