import PyProof.Rows.All
import Wide.All
import OpenK.AllK
import Wide.FinOn
import HandS.Base
import HandS.Call
import HandS.List
import HandS.Comp
import HandS.Iter
import HandS.Ends
import HandS.Words
import HandS.Evl
import HandS.WordsList
import HandS.Zip
import HandS.Wide
import HandS.Gcd
import HandS.IsInst
import HandS.TupMul
import HandS.ClsMeth
import HandS.Text
import HandS.RaiseMore
import HandS.ListEq
import HandS.TupLe
import HandS.Flow
import HandS.Codes
import HandS.TupAny
import HandS.Style
import KE.GoesMore
import HandS.ExcInit
import KE.KExcIs
import HandS.Exc
import HandS.TryMany
import HandS.ExcField
import HandS.WordsExc
import HandS.IterVal
import HandS.More
import HandS.ForMost
import HandS.ExcIs
import PySem.Challenge.RW_noughtcut_k30_no_boxes
set_option Elab.async false
set_option linter.all false
section
namespace Nc
/-! ### fractions: Rat's own top and bottom -/
def Sz (n d : Nat) (r : Rat) : Prop := r.num.natAbs < 2 ^ n ∧ r.den < 2 ^ d
theorem den_pos (r : Rat) : (0 : Int) < (r.den : Int) := by
  have := r.den_nz
  omega
theorem num_div {t b : Int} (hb : 0 < b) : t / ((Nat.gcd t.natAbs b.natAbs : Nat) : Int) = (Rat.divInt t b).num := by
  rw [Rat.num_divInt, Int.sign_eq_one_of_pos hb, Int.one_mul, Int.gcd_comm]
  rfl
theorem den_div {t b : Int} (hb : 0 < b) : b / ((Nat.gcd t.natAbs b.natAbs : Nat) : Int) = ((Rat.divInt t b).den : Int) := by
  rw [Rat.den_divInt, if_neg (by omega), Int.gcd_comm]
  have e : b = ((b.natAbs : Nat) : Int) := by omega
  conv => lhs; rw [e]
  rfl
theorem gcd_pos {t b : Int} (hb : 0 < b) : (0 : Int) < ((Nat.gcd t.natAbs b.natAbs : Nat) : Int) := by
  have := Nat.gcd_pos_of_pos_right t.natAbs (n := b.natAbs) (by omega)
  omega
theorem gcd_le {t b : Int} (hb : 0 < b) : ((Nat.gcd t.natAbs b.natAbs : Nat) : Int) ≤ b := by
  have := Nat.gcd_le_right t.natAbs (n := b.natAbs) (by omega)
  omega
theorem add_is (r s : Rat) : Rat.divInt (r.num * (s.den : Int) + s.num * (r.den : Int)) ((r.den : Int) * (s.den : Int)) = r + s := by
  have h1 := den_pos r
  have h2 := den_pos s
  rw [← Rat.divInt_add_divInt r.num s.num (by omega) (by omega), Rat.num_divInt_den, Rat.num_divInt_den]
theorem mul_is (r s : Rat) : Rat.divInt (r.num * s.num) ((r.den : Int) * (s.den : Int)) = r * s := by
  rw [← Rat.divInt_mul_divInt r.num s.num, Rat.num_divInt_den, Rat.num_divInt_den]
theorem natAbs_ediv_le (a b : Int) : (a / b).natAbs ≤ a.natAbs := Int.natAbs_ediv_le_natAbs a b
/-- the size of a quotient by the shared part -/
theorem sz_div {t b : Int} {n d : Nat} (hb : 0 < b) (ht : t.natAbs < 2 ^ n) (hz : b.natAbs < 2 ^ d) : Sz n d (Rat.divInt t b) := by
  constructor
  · rw [← num_div hb]
    exact Nat.lt_of_le_of_lt (natAbs_ediv_le _ _) ht
  · have h := den_div (t := t) hb
    have h2 := natAbs_ediv_le b ((Nat.gcd t.natAbs b.natAbs : Nat) : Int)
    rw [h] at h2
    have : ((Rat.divInt t b).den : Int).natAbs = (Rat.divInt t b).den := Int.natAbs_natCast _
    omega
theorem lt_mul {a b : Nat} {i j : Int} (ha : i.natAbs < 2 ^ a) (hb : j.natAbs < 2 ^ b) : (i * j).natAbs < 2 ^ (a + b) := by
  rw [Int.natAbs_mul, Nat.pow_add]
  exact Nat.mul_lt_mul'' ha hb
theorem lt_add {n : Nat} {i j : Int} (ha : i.natAbs < 2 ^ n) (hb : j.natAbs < 2 ^ n) : (i + j).natAbs < 2 ^ (n + 1) := by
  have := Int.natAbs_add_le i j
  rw [Nat.pow_succ]
  omega
theorem lt_mono {n m : Nat} {i : Nat} (h : i < 2 ^ n) (hm : n ≤ m) : i < 2 ^ m := Nat.lt_of_lt_of_le h (Nat.pow_le_pow_right (by decide) hm)
theorem Sz.mono {n m d e : Nat} {r : Rat} (h : Sz n d r) (hm : n ≤ m) (he : d ≤ e) : Sz m e r := ⟨lt_mono h.1 hm, lt_mono h.2 he⟩
theorem Sz.den {n d : Nat} {r : Rat} (h : Sz n d r) : ((r.den : Int)).natAbs < 2 ^ d := by
  rw [Int.natAbs_natCast]
  exact h.2
theorem sz_add {n d m e N : Nat} {r s : Rat} (hr : Sz n d r) (hs : Sz m e s) (h1 : n + e ≤ N := by omega) (h2 : m + d ≤ N := by omega) : Sz (N + 1) (d + e) (r + s) := by
  rw [← add_is]
  have k1 := lt_mono (lt_mul hr.1 hs.den) h1
  have k2 := lt_mono (lt_mul hs.1 hr.den) h2
  have k3 := lt_mul hr.den hs.den
  exact sz_div (Int.mul_pos (den_pos r) (den_pos s)) (lt_add k1 k2) k3
theorem sz_mul {n d m e : Nat} {r s : Rat} (hr : Sz n d r) (hs : Sz m e s) : Sz (n + m) (d + e) (r * s) := by
  rw [← mul_is]
  exact sz_div (Int.mul_pos (den_pos r) (den_pos s)) (lt_mul hr.1 hs.1) (lt_mul hr.den hs.den)
theorem sz_zero : Sz 1 1 (0 : Rat) := ⟨by decide, by decide⟩
theorem sz_one : Sz 1 1 (1 : Rat) := ⟨by decide, by decide⟩
/-! ### rows -/
/-- what a row weighs another one -/
def weighs (l : List (Rat × Rat)) : Rat := l.foldl (fun t p => t + p.1 * p.2) 0
theorem foldl_weigh : ∀ (l : List (Rat × Rat)) (t : Rat), l.foldl (fun t p => t + p.1 * p.2) t = t + weighs l
  | [], t => by simp [weighs, Rat.add_zero]
  | p :: r, t => by
    unfold weighs
    simp only [List.foldl_cons]
    rw [foldl_weigh r, foldl_weigh r (0 + p.1 * p.2)]
    grind
theorem weighs_cons (p : Rat × Rat) (r : List (Rat × Rat)) : weighs (p :: r) = p.1 * p.2 + weighs r := by
  unfold weighs
  simp only [List.foldl_cons]
  rw [foldl_weigh r]
  unfold weighs
  grind
theorem weighs_take {l : List (Rat × Rat)} {i : Nat} {p : Rat × Rat} (h : l[i]? = some p) : weighs (l.take (i + 1)) = weighs (l.take i) + p.1 * p.2 := by
  unfold weighs
  rw [List.take_add_one, h, List.foldl_append]
  rfl
theorem weighs_add : ∀ (a b c : List Rat), a.length = b.length → weighs (((a.zip b).map fun p => p.1 + p.2).zip c) = weighs (a.zip c) + weighs (b.zip c)
  | [], [], c, _ => by simp [weighs, Rat.add_zero]
  | x :: a, y :: b, [], _ => by simp [weighs, Rat.add_zero]
  | x :: a, y :: b, z :: c, h => by
    have ih := weighs_add a b c (by simpa using h)
    simp only [List.zip_cons_cons, List.map_cons, weighs_cons]
    rw [ih]
    grind
theorem weighs_mul (by_ : Rat) : ∀ (a c : List Rat), weighs ((a.map fun x => by_ * x).zip c) = by_ * weighs (a.zip c)
  | [], c => by simp [weighs, Rat.mul_zero]
  | x :: a, [] => by simp [weighs, Rat.mul_zero]
  | x :: a, z :: c => by
    have ih := weighs_mul by_ a c
    simp only [List.zip_cons_cons, List.map_cons, weighs_cons]
    rw [ih]
    grind
/-! ### sums: a row and a number -/
abbrev Sum2 := List Rat × Rat
def tells (s : Sum2) (row : List Rat) : Rat := weighs (s.1.zip row) + s.2
def splus (s t : Sum2) : Sum2 := ((s.1.zip t.1).map fun p => p.1 + p.2, s.2 + t.2)
def stimes (q : Rat) (s : Sum2) : Sum2 := (s.1.map fun x => q * x, q * s.2)
theorem tells_splus (s t : Sum2) (row : List Rat) (h : s.1.length = t.1.length) : tells (splus s t) row = tells s row + tells t row := by
  unfold tells splus
  simp only
  rw [weighs_add _ _ _ h]
  grind
theorem tells_stimes (q : Rat) (s : Sum2) (row : List Rat) : tells (stimes q s) row = q * tells s row := by
  unfold tells stimes
  simp only
  rw [weighs_mul]
  grind
theorem splus_comm (s t : Sum2) : splus s t = splus t s := by
  unfold splus
  have : (s.1.zip t.1).map (fun p => p.1 + p.2) = (t.1.zip s.1).map fun p => p.1 + p.2 := by
    apply List.ext_getElem
    · simp [Nat.min_comm]
    · intro i h1 h2
      simp only [List.getElem_map, List.getElem_zip]
      exact Rat.add_comm _ _
  rw [this, Rat.add_comm]
/-- all of a row below a size -/
def SzL (n d : Nat) (l : List Rat) : Prop := ∀ r ∈ l, Sz n d r
theorem sz_weighs {n d m e : Nat} (hn : d ≤ n) (hm : e ≤ m) : ∀ (i : Nat) (l : List (Rat × Rat)), i ≤ l.length → (∀ p ∈ l, Sz n d p.1 ∧ Sz m e p.2) → Sz (1 + i * (n + m + 1)) (1 + i * (d + e)) (weighs (l.take i))
  | 0, l, _, _ => by simpa [weighs] using sz_zero
  | i + 1, l, h, hl => by
    have ih := sz_weighs hn hm i l (by omega) hl
    have e1 : l[i]? = some l[i] := List.getElem?_eq_getElem (by omega)
    rw [weighs_take e1]
    have hp := hl l[i] (List.getElem_mem _)
    have le : i * (d + e) ≤ i * (n + m + 1) := Nat.mul_le_mul_left i (by omega)
    have := sz_add (N := i * (n + m + 1) + (n + m + 1)) ih (sz_mul hp.1 hp.2) (by omega) (by omega)
    exact this.mono (by rw [Nat.add_mul]; omega) (by rw [Nat.add_mul]; omega)
theorem sz_of_weighs {n d m e : Nat} {a b : List Rat} (hn : d ≤ n) (hm : e ≤ m) (ha : SzL n d a) (hb : SzL m e b) (hl : a.length = b.length) : Sz (1 + a.length * (n + m + 1)) (1 + a.length * (d + e)) (weighs (a.zip b)) := by
  have h := sz_weighs hn hm a.length (a.zip b) (by rw [List.length_zip]; omega) (fun p hp => ⟨ha _ (List.of_mem_zip hp).1, hb _ (List.of_mem_zip hp).2⟩)
  rwa [List.take_of_length_le (by rw [List.length_zip]; omega)] at h
/-! ### the greatest shared divisor, step by step -/
theorem gcd_step {a b : Int} (ha : 0 ≤ a) (hb : 0 < b) : Nat.gcd b.natAbs (a % b).natAbs = Nat.gcd a.natAbs b.natAbs := by
  have e : (a % b).natAbs = a.natAbs % b.natAbs := by
    rw [Int.natAbs_emod_of_nonneg ha]
  rw [e, Nat.gcd_comm a.natAbs, Nat.gcd_rec b.natAbs a.natAbs, Nat.gcd_comm]
end Nc
end
section
set_option maxRecDepth 100000
set_option maxHeartbeats 4000000
namespace Nc
open PySem L2 Evl PyProof.Rows
/-! ### what stands for a fraction, a row, a sum -/
def FrV (K : PySem.W.Frag) (H : Hp) (v : V) (r : Rat) : Prop := ∃ t, v = .ref t ∧ SqT K H t [.int r.num, .int (r.den : Int)]
abbrev FrL (K : PySem.W.Frag) (H : Hp) : List V → List Rat → Prop := Paired (FrV K H)
def RowV (K : PySem.W.Frag) (H : Hp) (v : V) (rs : List Rat) : Prop := ∃ t xs, v = .ref t ∧ SqT K H t xs ∧ FrL K H xs rs
def SumV (K : PySem.W.Frag) (H : Hp) (v : V) (s : Sum2) : Prop := ∃ t a b, v = .ref t ∧ SqT K H t [a, b] ∧ RowV K H a s.1 ∧ FrV K H b s.2
variable {K : PySem.W.Frag} {H H' : Hp}
theorem FrV.ex {v : V} {r : Rat} (e : Ex H H') (h : FrV K H v r) : FrV K H' v r := by
  obtain ⟨t, rfl, q⟩ := h
  exact ⟨t, rfl, ex_t e q⟩
theorem pmono {α β : Type} {F G : α → β → Prop} (h : ∀ a b, F a b → G a b) : ∀ {xs : List α} {ys : List β}, Paired F xs ys → Paired G xs ys
  | _, _, .nil => .nil
  | _, _, .cons a t => .cons (h _ _ a) (pmono h t)
theorem FrL.ex {xs : List V} {rs : List Rat} (e : Ex H H') (h : FrL K H xs rs) : FrL K H' xs rs := pmono (fun _ _ => FrV.ex e) h
theorem RowV.ex {v : V} {rs : List Rat} (e : Ex H H') (h : RowV K H v rs) : RowV K H' v rs := by
  obtain ⟨t, xs, rfl, q, l⟩ := h
  exact ⟨t, xs, rfl, ex_t e q, FrL.ex e l⟩
theorem SumV.ex {v : V} {s : Sum2} (e : Ex H H') (h : SumV K H v s) : SumV K H' v s := by
  obtain ⟨t, a, b, rfl, q, l, n⟩ := h
  exact ⟨t, a, b, rfl, ex_t e q, l.ex e, n.ex e⟩
theorem pget {α β : Type} {F : α → β → Prop} : ∀ {xs : List α} {ys : List β} {i : Nat} {x : α}, Paired F xs ys → xs[i]? = some x → ∃ y, ys[i]? = some y ∧ F x y
  | _, _, _, _, .nil, e => by simp at e
  | _, _, 0, _, .cons r _, e => by simp at e; subst e; exact ⟨_, rfl, r⟩
  | _, _, i + 1, x, .cons _ t, e => by
    obtain ⟨u, h1, h2⟩ := pget (i := i) (x := x) t (by simpa using e)
    exact ⟨u, by simpa using h1, h2⟩
theorem pget' {α β : Type} {F : α → β → Prop} : ∀ {xs : List α} {ys : List β} {i : Nat} {y : β}, Paired F xs ys → ys[i]? = some y → ∃ x, xs[i]? = some x ∧ F x y
  | _, _, _, _, .nil, e => by simp at e
  | _, _, 0, _, .cons r _, e => by simp at e; subst e; exact ⟨_, rfl, r⟩
  | _, _, i + 1, y, .cons _ t, e => by
    obtain ⟨u, h1, h2⟩ := pget' (i := i) (y := y) t (by simpa using e)
    exact ⟨u, by simpa using h1, h2⟩
/-! ### data -/
def fd (r : Rat) : PyData := .tuple [.int r.num, .int (r.den : Int)]
def sd (s : Sum2) : PyData := .tuple [.tuple (s.1.map fd), fd s.2]
theorem FrV.dp {v : V} {r : Rat} (h : FrV K H v r) : Dp K H v (fd r) := by
  obtain ⟨t, rfl, q⟩ := h
  exact .tup q (.cons (.int _) (.cons (.int _) .nil))
theorem FrL.dp : ∀ {xs : List V} {rs : List Rat}, FrL K H xs rs → DpAll K H xs (rs.map fd)
  | _, _, .nil => .nil
  | _, _, .cons a t => .cons a.dp (FrL.dp t)
theorem RowV.dp {v : V} {rs : List Rat} (h : RowV K H v rs) : Dp K H v (.tuple (rs.map fd)) := by
  obtain ⟨t, xs, rfl, q, l⟩ := h
  exact .tup q (FrL.dp l)
theorem SumV.dp {v : V} {s : Sum2} (h : SumV K H v s) : Dp K H v (sd s) := by
  obtain ⟨t, a, b, rfl, q, l, n⟩ := h
  exact .tup q (.cons l.dp (.cons n.dp .nil))
/-! ### shapes -/
theorem lay_fd (r : Rat) : (fd r).canLay0 = true := rfl
theorem layAll_fd : ∀ rs : List Rat, PyData.canLayAll0 (rs.map fd) = true
  | [] => rfl
  | r :: rs => by
    show ((fd r).canLay0 && PyData.canLayAll0 (rs.map fd)) = true
    rw [layAll_fd rs]
    rfl
end Nc
end
section
set_option maxRecDepth 100000
set_option maxHeartbeats 4000000
namespace Nc
open PySem L2 Evl PyProof.Rows
/-! ### a def of the top, with and without its promise -/
structure Df (K : PySem.W.Frag) (mg : Str → Option Value) (x : Str) (st : Stmt) (ps : List Str) : Prop where
  ex : ∃ f fd, mg x = some (.ref f) ∧ Fun K x x st f fd ∧ Binds K fd ps []
structure Ok (P : Program) (w : World) (K : PySem.W.Frag) (mg : Str → Option Value) (base : Heap) (k : Nat) (x : Str) (ps : List Str) (sp : Sp) : Prop where
  ex : ∃ f fd, mg x = some (.ref f) ∧ PySem.W.keepIn K (.ref f) = true ∧ FnOk P w K mg base CX0 k f fd ps sp ∧ Binds K fd ps []
theorem Df.ok {P : Program} {w : World} {K : PySem.W.Frag} {mg : Str → Option Value} {base : Heap} {k : Nat} {x : Str} {st : Stmt} {ps : List Str} {sp : Sp} (D : Df K mg x st ps)
    (h : ∀ f fd, Fun K x x st f fd → FnOk P w K mg base CX0 k f fd ps sp) : Ok P w K mg base k x ps sp := by
  obtain ⟨f, fd, g, F, b⟩ := D.ex
  exact ⟨f, fd, g, F.kp, h f fd F, b⟩
theorem Ok.mono {P : Program} {w : World} {K : PySem.W.Frag} {mg : Str → Option Value} {base : Heap} {j k : Nat} {x : Str} {ps : List Str} {sp : Sp} (D : Ok P w K mg base j x ps sp) (h : j ≤ k) : Ok P w K mg base k x ps sp := by
  obtain ⟨f, fd, g, kp, F, b⟩ := D.ex
  exact ⟨f, fd, g, kp, F.mono h, b⟩
theorem Df.of {K : PySem.W.Frag} {h : Heap} {mg : Str → Option Value} (X : K.In h) (G : h.Ns mainGlobals mg) {x : Str} {st : Stmt} {ps : List Str} {f : Addr} {oc : Value} {od an : Option Addr} {osl : Array (Option Value)} {kV doc pm cdv ct : Value}
    (a : PySem.W.nsIn K mainGlobals x = some (some (.ref f))) (l : K.lookup f = some ⟨oc, od, .func (PySem.W.fnOf x x (defArgs st) (defBody st) (defScope st) .none kV doc pm an cdv ct), osl⟩)
    (c : PySem.W.codeIn K cdv x = true) (k : PySem.W.keepIn K (.ref f) = true)
    (hb : ∀ (kV doc pm : Value) (an : Option Addr) (cdv ct : Value) (us : List Value), us.length = ps.length → bindArgs (PySem.W.fnOf x x (defArgs st) (defBody st) (defScope st) .none kV doc pm an cdv ct) ⟨us, []⟩ = pure (ps.zip us)) : Df K mg x st ps :=
  have F := fun_mk (st := st) l c k
  ⟨f, _, PySem.W.mg_of X G a, F, F.binds hb⟩
section
variable {X : Cx} {k : Nat} {x : Str} {ps : List Str} {sp : Sp} {e : Expr} {es : List Expr} {t : TA} {p pos : Pos}
/-- a call of such a def -/
theorem cl (D : Ok X.prog X.w X.K X.mg X.base k x ps sp) (hr : Room k X.A) (ha : PA X (e :: es) t) (hg : Gl X x := by rfl) (hdb : (x == ("__debug__" : Str)) = false := by decide)
    (he : starEach (e :: es) X.env = (false, eval e X.env) :: starEach es X.env := by rfl) (hpl : (backTo pos (starEach es X.env)).any (·.1) = false := by rfl) : PE X (.Call (.Name x p) (e :: es) [] pos) (tCall sp [] E0 t) := by
  obtain ⟨f, fd, g, kp, F, b⟩ := D.ex
  exact pe_call F hr hg g kp b .nil pass0 ha hdb he hpl
end
/-! ### small facts -/
theorem at0 {a : V} {l : List V} : atI (a :: l) 0 = some a := atI_nat (j := 0) rfl
theorem at1 {a b : V} {l : List V} : atI (a :: b :: l) 1 = some b := atI_nat (j := 1) rfl
theorem at2 {a b c : V} {l : List V} : atI (a :: b :: c :: l) 2 = some c := atI_nat (j := 2) rfl
theorem at3 {a b c d : V} {l : List V} : atI (a :: b :: c :: d :: l) 3 = some d := atI_nat (j := 3) rfl
theorem at_mem {xs : List V} {d : Int} (h0 : 0 ≤ d) (h1 : d < xs.length) : ∃ v, atI xs d = some v ∧ v ∈ xs := by
  have h : d.toNat < xs.length := by omega
  refine ⟨xs[d.toNat], ?_, List.getElem_mem _⟩
  have e : d = (d.toNat : Int) := by omega
  have q : atI xs (d.toNat : Int) = some xs[d.toNat] := atI_nat (List.getElem?_eq_getElem h)
  rw [← e] at q
  exact q
/-- * of two factors of together less than a hundred million bits -/
def CMulBig (i j : Int) : Prop := i.natAbs.log2 + j.natAbs.log2 < 100000000
theorem CMulBig.ok {i j : Int} (h : CMulBig i j) : IntMulOk i j := by
  have b : ∀ x : Int, Builtin.Int.intBits x ≤ x.natAbs.log2 + 1 := fun x => by
    unfold Builtin.Int.intBits
    split <;> omega
  have h1 := b i
  have h2 := b j
  have h3 : i.natAbs.log2 + j.natAbs.log2 < 100000000 := h
  have e : bitsLine = 134217728 := by decide
  unfold IntMulOk
  intro z
  rw [Bool.and_eq_true] at z
  have z2 := z.2
  unfold Builtin.Int.intTooBig at z2
  have z3 := of_decide_eq_true z2
  rw [e] at z3
  omega
theorem op_mulBig {X : Cx} : OpR X (binaryOp .Mult) (rI CMulBig fun i j => .int (i * j)) := opI fun _ _ _ _ _ _ _ hc q => mul_int q hc.ok
theorem wide_mulX {i j : Int} {a b : Nat} (ha : i.natAbs < 2 ^ a) (hb : j.natAbs < 2 ^ b) (h0 : 0 < a) (h1 : 0 < b) (h : a + b ≤ 100000000) : CMulBig i j := by
  have x := PySem.Flt.log2_lt_of h0 ha
  have y := PySem.Flt.log2_lt_of h1 hb
  unfold CMulBig
  omega
theorem noPylongX {x y : Int} (h : y.natAbs.log2 < 9000 ∨ x.natAbs.log2 < 13500) : Builtin.divisionGoesByPylong x y = false := by
  rcases h with h | h
  · exact PyProof.noPylong_of_log2 h
  · have hx : (if x == 0 then 0 else x.natAbs.log2 / 30 + 1) ≤ 450 := by
      split
      · exact Nat.zero_le _
      · omega
    have e : Builtin.divisionGoesByPylong x y = (decide ((if y == 0 then 0 else y.natAbs.log2 / 30 + 1) > 300) && decide ((if x == 0 then 0 else x.natAbs.log2 / 30 + 1) > (if y == 0 then 0 else y.natAbs.log2 / 30 + 1) + 150)) := rfl
    rw [e]
    generalize (if x == 0 then 0 else x.natAbs.log2 / 30 + 1) = a at hx
    generalize (if y == 0 then 0 else y.natAbs.log2 / 30 + 1) = b
    by_cases hb : b > 300
    · rw [decide_eq_false (show ¬ a > b + 150 by omega), Bool.and_false]
    · rw [decide_eq_false hb, Bool.false_and]
/-- // by a positive divisor, the divisor below 2 ^ 9000 or what is divided below 2 ^ 13500 -/
def CDivX (i j : Int) : Prop := 0 < j ∧ (j.natAbs.log2 < 9000 ∨ i.natAbs.log2 < 13500)
theorem op_fdivX {X : Cx} : OpR X (binaryOp .FloorDiv) (rI CDivX fun i j => .int (i / j)) := opI fun i j _ _ _ _ _ hc q => by
  have h1 : (0 : Int) < j := hc.1
  exact floordiv_int (by omega) (by rw [Int.fdiv_eq_ediv_of_nonneg i (by omega)]; exact q) (.inl (noPylongX hc.2))
theorem wide_divX {i j : Int} {n : Nat} (h : 0 < j) (hb : j.natAbs < 2 ^ n) (h0 : 0 < n) (hi : n ≤ 9000 ∨ i.natAbs < 2 ^ 13500) : CDivX i j :=
  ⟨h, hi.imp (fun z => Nat.lt_of_lt_of_le (PySem.Flt.log2_lt_of h0 hb) z) fun z => PySem.Flt.log2_lt_of (by decide) z⟩
/-- ** of any base, of few bits together -/
def CPowX (i j : Int) : Prop := 0 ≤ j ∧ (Builtin.Int.intBits i : Int) * j ≤ 2 ^ 27
theorem op_powX {X : Cx} : OpR X (binaryOp .Pow) (rI CPowX fun i j => .int (i ^ j.toNat)) := opI fun _ _ _ _ _ _ _ hc q => pow_int hc.1 hc.2 q
theorem mulOk {i j : Int} {a b : Nat} (ha : i.natAbs < 2 ^ a) (hb : j.natAbs < 2 ^ b) (h0 : 0 < a := by omega) (h1 : 0 < b := by omega) (h : a + b ≤ 100000000 := by omega) : CMulBig i j := wide_mulX ha hb h0 h1 h
section
variable {K : PySem.W.Frag} {σ : L2.St} {H : Hp}
/-- an item of a tuple that stands in a slot -/
theorem ix0 {i : Nat} {t : Addr} {a : V} {l : List V} (hs : σ[i]? = some (some (.ref t))) (q : SqT K H t (a :: l)) : Ev (tOp (rIxT K) (tVar i) (tC (.int 0))) σ H a := ev_op (ev_var hs) ev_c (rv_ixT q at0)
theorem ix1 {i : Nat} {t : Addr} {a b : V} {l : List V} (hs : σ[i]? = some (some (.ref t))) (q : SqT K H t (a :: b :: l)) : Ev (tOp (rIxT K) (tVar i) (tC (.int 1))) σ H b := ev_op (ev_var hs) ev_c (rv_ixT q at1)
end
theorem ix_tK {X : Cx} (K : PySem.W.Frag) (h : X.K = K := by rfl) : IxR X (rIxT K) := by
  subst h
  exact ix_tup
theorem ix_lK {X : Cx} (K : PySem.W.Frag) (h : X.K = K := by rfl) : IxR X (rIxL K) := by
  subst h
  exact ix_list
/-! ### promises of the fractions' defs -/
/-- a fraction of two whole numbers, the bottom above nought -/
def spPart (K : PySem.W.Frag) : Sp := fun vs H Q _ => ∃ (t b : Int) (n : Nat), vs = [.int t, .int b] ∧ 0 < b ∧ b.natAbs < 2 ^ n ∧ 0 < n ∧ (n ≤ 9000 ∨ (n ≤ 13500 ∧ t.natAbs < 2 ^ 13500)) ∧ ∀ v H', Ex H H' → FrV K H' v (Rat.divInt t b) → Q v H'
/-- two fractions, a third one of them -/
def sp2 (g : Rat → Rat → Rat) (K : PySem.W.Frag) : Sp := fun vs H Q _ => ∃ (x y : V) (r s : Rat) (n d m e : Nat), vs = [x, y] ∧ FrV K H x r ∧ FrV K H y s ∧ Sz n d r ∧ Sz m e s ∧ (0 < n ∧ 0 < d ∧ 0 < m ∧ 0 < e ∧ (d + e ≤ 8900 ∨ (d + e ≤ 13490 ∧ n + e ≤ 13490 ∧ m + d ≤ 13490 ∧ n + m ≤ 13490)) ∧ n + m + d + e ≤ 90000000) ∧ ∀ v H', Ex H H' → FrV K H' v (g r s) → Q v H'
abbrev spPlus := sp2 (· + ·)
abbrev spTimes := sp2 (· * ·)
theorem big_add {r s : Rat} {n d m e : Nat} (ha : Sz n d r) (hb : Sz m e s) (h : d + e ≤ 8900 ∨ (d + e ≤ 13490 ∧ n + e ≤ 13490 ∧ m + d ≤ 13490 ∧ n + m ≤ 13490)) : d + e ≤ 9000 ∨ (d + e ≤ 13500 ∧ (r.num * (s.den : Int) + s.num * (r.den : Int)).natAbs < 2 ^ 13500) := by
  refine h.imp (fun z => by omega) fun ⟨h1, h2, h3, _⟩ => ⟨by omega, ?_⟩
  have a := lt_mul ha.1 hb.den
  have b := lt_mul hb.1 ha.den
  have a' := lt_mono a h2
  have b' := lt_mono b h3
  refine Nat.lt_of_lt_of_le (m := 2 ^ 13491) ?_ (Nat.pow_le_pow_right (by decide) (by decide))
  have e : (2 : Nat) ^ 13491 = 2 ^ 13490 * 2 := Nat.pow_succ ..
  rw [e]
  generalize (2 : Nat) ^ 13490 = P at a' b'
  omega
theorem big_sub {r s : Rat} {n d m e : Nat} (ha : Sz n d r) (hb : Sz m e s) (h : d + e ≤ 8900 ∨ (d + e ≤ 13490 ∧ n + e ≤ 13490 ∧ m + d ≤ 13490 ∧ n + m ≤ 13490)) : d + e ≤ 9000 ∨ (d + e ≤ 13500 ∧ (r.num * (s.den : Int) - s.num * (r.den : Int)).natAbs < 2 ^ 13500) := by
  refine h.imp (fun z => by omega) fun ⟨h1, h2, h3, _⟩ => ⟨by omega, ?_⟩
  have a := lt_mul ha.1 hb.den
  have b := lt_mul hb.1 ha.den
  have a' := lt_mono a h2
  have b' := lt_mono b h3
  refine Nat.lt_of_lt_of_le (m := 2 ^ 13491) ?_ (Nat.pow_le_pow_right (by decide) (by decide))
  have e : (2 : Nat) ^ 13491 = 2 ^ 13490 * 2 := Nat.pow_succ ..
  rw [e]
  generalize (2 : Nat) ^ 13490 = P at a' b'
  omega
theorem big_mul {r s : Rat} {n d m e : Nat} (ha : Sz n d r) (hb : Sz m e s) (h : d + e ≤ 8900 ∨ (d + e ≤ 13490 ∧ n + e ≤ 13490 ∧ m + d ≤ 13490 ∧ n + m ≤ 13490)) : d + e ≤ 9000 ∨ (d + e ≤ 13500 ∧ (r.num * s.num).natAbs < 2 ^ 13500) :=
  h.imp (fun z => by omega) fun ⟨h1, _, _, h4⟩ => ⟨by omega, lt_mono (lt_mul ha.1 hb.1) (by omega)⟩
/-- a made pair is a fraction -/
theorem made {K : PySem.W.Frag} {H : Hp} {p : Addr} {a b : Int} {r : Rat} (e1 : a = r.num) (e2 : b = (r.den : Int)) : FrV K (upd H p (.tup [.int a, .int b])) (.ref p) r := ⟨p, rfl, by rw [e1, e2]; exact st_of upd_same⟩
/-- what one row weighs another -/
def spWeigh (K : PySem.W.Frag) : Sp := fun vs H Q _ => ∃ (x y : V) (rs ss : List Rat) (n d m e : Nat), vs = [x, y] ∧ RowV K H x rs ∧ RowV K H y ss ∧ rs.length = ss.length ∧ SzL n d rs ∧ SzL m e ss ∧
  (0 < d ∧ 0 < e ∧ d ≤ n ∧ e ≤ m ∧ 1 + rs.length * (d + e) ≤ 8900 ∧ 1 + rs.length * (n + m + 1) ≤ 400000) ∧ ∀ v H', Ex H H' → FrV K H' v (weighs (rs.zip ss)) → Q v H'
/-- what a sum tells at a row -/
def spTells (K : PySem.W.Frag) : Sp := fun vs H Q _ => ∃ (x y : V) (s : Sum2) (ss : List Rat) (n d m e : Nat), vs = [x, y] ∧ SumV K H x s ∧ RowV K H y ss ∧ s.1.length = ss.length ∧ SzL n d s.1 ∧ Sz n d s.2 ∧ SzL m e ss ∧
  (0 < d ∧ 0 < e ∧ d ≤ n ∧ e ≤ m ∧ 1 + s.1.length * (d + e) + d ≤ 8900 ∧ 1 + s.1.length * (n + m + 1) ≤ 400000 ∧ n ≤ 400000) ∧ ∀ v H', Ex H H' → FrV K H' v (tells s ss) → Q v H'
/-- a module's constant that is a fraction -/
structure Cst (K : PySem.W.Frag) (mg : Str → Option Value) (x : Str) (r : Rat) : Prop where
  ex : ∃ a, mg x = some (.ref a) ∧ ∀ H, FrV K H (.ref a) r
end Nc
end
section
set_option maxRecDepth 100000
set_option maxHeartbeats 4000000
namespace Nc
open PySem PySem.Spec PyProof.Rows L2
theorem tuple_mul1 (l : Addr) (items : Array Value) (n : Nat) (dd : Option Addr) (sl : Array (Option Value)) (u : Tok) :
    Meets (Builtin.«tuple.__mul__» ⟨[.ref l, .int 1 u], []⟩) (fun _ R s => s.heap.get? l = some { cls := .type "tuple", dict := dd, data := .seq items n, slots := sl } ∧
      R (.ok (.ret (Value.ref l))) s) :=
  .of_wp fun prog w A R s h => by
    obtain ⟨hp, g, d, tk, os⟩ := s
    obtain ⟨hl, h⟩ := h
    have f1 := AutoSeq1.idx_int
    wp_walk using wpAny_loadPart' hl
    repeat (first
      | (refine wpAny_ite_true (by simp) ?_; wp_walk using wpAny_loadPart' hl)
      | (refine wpAny_ite_false (by simp) ?_; wp_walk using wpAny_loadPart' hl))
    exact ⟨_, rfl, h⟩
theorem tuple_mul0 (l : Addr) (items : Array Value) (n : Nat) (dd : Option Addr) (sl : Array (Option Value)) (u : Tok) (c1 : items.isEmpty = false) :
    Meets (Builtin.«tuple.__mul__» ⟨[.ref l, .int 0 u], []⟩) (fun _ R s => s.heap.get? l = some { cls := .type "tuple", dict := dd, data := .seq items n, slots := sl } ∧
      R (.ok (.ret (Value.ref s.heap.objs.size))) { s with heap := s.heap.push { cls := Value.type "tuple", data := Data.seq #[] }, toks := s.toks }) :=
  .of_wp fun prog w A R s h => by
    obtain ⟨hp, g, d, tk, os⟩ := s
    obtain ⟨hl, h⟩ := h
    have f1 := AutoSeq1.idx_int
    wp_walk using wpAny_loadPart' hl
    repeat (first
      | (refine wpAny_ite_true (by simp) ?_; wp_walk using wpAny_loadPart' hl)
      | (refine wpAny_ite_false (by simp [c1]) ?_; wp_walk using wpAny_loadPart' hl))
    exact ⟨_, rfl, h⟩
def rRepA (K : PySem.W.Frag) : R2 := fun x y H Q => ∃ l k xs, x = .ref l ∧ y = .int k ∧ SqT K H l xs ∧ xs ≠ [] ∧ 0 ≤ k ∧ k ≤ 1000 ∧ xs.length ≤ 1000 ∧ ∀ p H', Evl.Ex H H' → SqT K H' p (List.replicate k.toNat xs).flatten → Q (.ref p) H'
theorem op_repA {X : Cx} : OpR X (binaryOp .Mult) (rRepA X.K) := by
  intro pins s σ H x y v u Q I rx ry h
  obtain ⟨l, k, xs, rfl, rfl, hT, hne, h1, h2, hz, q⟩ := h
  by_cases h3 : 2 ≤ k
  · exact op_repT pins s σ H _ _ v u Q I rx ry ⟨l, k, xs, rfl, rfl, hT, hne, h3, h2, hz, fun p hp => q p _ (Evl.Ex.new hp) (Evl.st_of upd_same)⟩
  cases rx
  obtain ⟨t, rfl⟩ := ry
  obtain ⟨its, r, ⟨⟨cls, dd, data, sl⟩, ho, hc, n, hd⟩, hs⟩ := I.tuple hT
  simp only at hc hd
  subst hc hd
  have hle : its.length = xs.length := r.length.symm
  have hn : its ≠ [] := fun e => hne (by
    rw [e] at hle
    exact List.eq_nil_of_length_eq_zero hle.symm)
  have hi : its.toArray.isEmpty = false := by
    cases its with
    | nil => exact absurd rfl hn
    | cons a b => rfl
  by_cases h4 : k = 1
  · subst h4
    refine wpAny_binaryOp_repeat_ref (T := "tuple") (U := "int") (by decide) ⟨_, ho, rfl⟩ (fun s' => typeIs_int s' 1 t) noFill_tuple_mul F.fills_int_mul F.slot_int_rmul repeat_tuple F.slot_int_index.lookup
      (call_meets F.slot_int_rmul (typeIs_int s 1 t) F.entry_int_rmul (F.args_int_rmul_2 _ _) (int_rmul_tuple 1 t l its.toArray n dd sl)
        ⟨ho, rfl, ⟨_, ho, rfl⟩, call_meets F.slot_tuple_mul ⟨_, ho, rfl⟩ F.entry_tuple_mul (F.args_tuple_mul_2 _ _) (tuple_mul1 l its.toArray n dd sl t) ⟨ho, ?_⟩⟩)
    refine ⟨.ref l, H, I, rfl, q l H (Evl.Ex.refl H) ?_⟩
    have e : (List.replicate (1 : Int).toNat xs).flatten = xs := by simp
    rw [e]
    exact hT
  · have h5 : k = 0 := by omega
    subst h5
    refine wpAny_binaryOp_repeat_ref (T := "tuple") (U := "int") (by decide) ⟨_, ho, rfl⟩ (fun s' => typeIs_int s' 0 t) noFill_tuple_mul F.fills_int_mul F.slot_int_rmul repeat_tuple F.slot_int_index.lookup
      (call_meets F.slot_int_rmul (typeIs_int s 0 t) F.entry_int_rmul (F.args_int_rmul_2 _ _) (int_rmul_tuple 0 t l its.toArray n dd sl)
        ⟨ho, rfl, ⟨_, ho, rfl⟩, call_meets F.slot_tuple_mul ⟨_, ho, rfl⟩ F.entry_tuple_mul (F.args_tuple_mul_2 _ _) (tuple_mul0 l its.toArray n dd sl t hi) ⟨ho, ?_⟩⟩)
    refine ⟨.ref s.heap.objs.size, _, I.laid (t' := s.toks) (o := .tup []) (fun b ob q => Heap.get?_push_of_some _ q) (Nat.le_refl _) ?_, rfl, q _ _ (Evl.Ex.new (I.hok.fresh (Nat.le_refl _))) (Evl.st_of upd_same)⟩
    exact ⟨Nat.zero_le _, [], .nil, IsTup.new _ _⟩
end Nc
end
section
set_option maxRecDepth 100000
set_option maxHeartbeats 4000000
namespace Nc
open PySem PySem.Spec PyProof.Rows L2 Evl
/-- a comprehension over zip of two tuples of one length -/
theorem lc_zipT {K : PySem.W.Frag} {a b : Addr} {xs ys : List V} {g : TG} {tt : TT} {te : TE} {vs : List Nat} {σ : L2.St} {H1 : Hp} {D : Addr} {Qd : Hp → Prop} (hl : xs.length = ys.length) (Pv : Nat → Hp → Prop) (h0 : Pv 0 (upd H1 D (.lst []))) (hq : ∀ i H, Pv i H → SqT K H a xs ∧ SqT K H b ys)
    (hs : ∀ (i : Nat) (x y : V) (T : Addr) (H : Hp), xs[i]? = some x → ys[i]? = some y → Pv i H → H T = none → g (.ref T) (wipe σ vs) (upd H T (.tup [x, y])) fun σ2 H2 => wipe σ2 vs = wipe σ vs ∧ tt σ2 H2 fun b H3 =>
      if b = true then te σ2 H3 fun y H4 => ∃ acc, H4 D = some (.lst acc) ∧ acc.length < sizeLine ∧ Pv (i + 1) (upd H4 D (.lst (acc ++ [y]))) else Pv (i + 1) H3) (hd : ∀ H, Pv xs.length H → Qd H) :
    ∃ W : Nat → Nat → Hp → Prop, (∃ m, W 0 m (upd H1 D (.lst []))) ∧ ∀ i m H, W i m H →
      ((RZ.ItzT K a b).stop i H ∧ Qd H) ∨ ((RZ.ItzT K a b).go i H ∧ ∃ Nx : Hp → Prop, (∀ H', Nx H' → ∃ m', m' < m ∧ W (i + 1) m' H') ∧ ∀ x H', (RZ.ItzT K a b).yld i H x H' → g x (wipe σ vs) H' fun σ2 H2 => wipe σ2 vs = wipe σ vs ∧ tt σ2 H2 fun b H3 =>
        if b = true then te σ2 H3 fun y H4 => ∃ acc, H4 D = some (.lst acc) ∧ acc.length < sizeLine ∧ Nx (upd H4 D (.lst (acc ++ [y]))) else Nx H3) := by
  refine ⟨fun i m H => m = xs.length - i ∧ i ≤ xs.length ∧ Pv i H, ⟨xs.length, rfl, Nat.zero_le _, h0⟩, ?_⟩
  rintro i m H ⟨rfl, hi, p⟩
  obtain ⟨qx, qy⟩ := hq i H p
  by_cases hlt : i < xs.length
  · have hx : xs[i]? = some xs[i] := List.getElem?_eq_getElem hlt
    have hlt2 : i < ys.length := by omega
    have hy : ys[i]? = some ys[i] := List.getElem?_eq_getElem hlt2
    refine .inr ⟨⟨xs, ys, _, _, qx, qy, hx, hy⟩, Pv (i + 1), fun H' p' => ⟨xs.length - (i + 1), by omega, rfl, hlt, p'⟩, fun v H' y => ?_⟩
    obtain ⟨T, x', y', rfl, hT, rfl, f1, f2⟩ := y
    exact hs i x' y' T H (f1 xs qx) (f2 ys qy) p hT
  · have e : i = xs.length := by omega
    subst e
    exact .inl ⟨⟨xs, ys, qx, qy, Or.inl (Nat.le_refl _)⟩, hd H p⟩
section
variable {K : PySem.W.Frag} {H H' H1 H4 : Hp} {D : Addr}
/-- a tuple stands as it stood where a list changes -/
theorem sqt_mut {t : Addr} {xs ys : List V} {o : HO} (hD : H D = some (.lst xs)) (h : SqT K H t ys) : SqT K (upd H D o) t ys := by
  rcases h with (h | ⟨ob, h⟩) | h
  · exact .inl (.inl (by rw [upd_ne (ne_of h hD (by intro z; cases z))]; exact h))
  · exact .inl (.inr ⟨ob, by rw [upd_ne (ne_of h hD (by intro z; cases z))]; exact h⟩)
  · exact .inr h
theorem FrV.mut {xs : List V} {o : HO} {v : V} {r : Rat} (hD : H D = some (.lst xs)) (h : FrV K H v r) : FrV K (upd H D o) v r := by
  obtain ⟨t, rfl, q⟩ := h
  exact ⟨t, rfl, sqt_mut hD q⟩
theorem RowV.mut {xs : List V} {o : HO} {v : V} {r : List Rat} (hD : H D = some (.lst xs)) (h : RowV K H v r) : RowV K (upd H D o) v r := by
  obtain ⟨t, ys, rfl, q, l⟩ := h
  exact ⟨t, ys, rfl, sqt_mut hD q, pmono (fun _ _ => FrV.mut hD) l⟩
theorem SumV.mut {xs : List V} {o : HO} {v : V} {s : Sum2} (hD : H D = some (.lst xs)) (h : SumV K H v s) : SumV K (upd H D o) v s := by
  obtain ⟨t, a, b, rfl, q, l, n⟩ := h
  exact ⟨t, a, b, rfl, sqt_mut hD q, l.mut hD, n.mut hD⟩
/-- what a comprehension has built of things of a kind R behind i turns -/
def Bld {α : Type} (R : Hp → V → α → Prop) (H1 : Hp) (D : Addr) (L : List α) (i : Nat) (H' : Hp) : Prop := Ex H1 H' ∧ ∃ xs, H' D = some (.lst xs) ∧ xs.length = i ∧ Paired (R H') xs (L.take i)
/-- a kind of things that stay as they are where the heap grows, where a list changes -/
structure Stays {α : Type} (R : Hp → V → α → Prop) : Prop where
  ex : ∀ {H H' v a}, Ex H H' → R H v a → R H' v a
  mt : ∀ {H D xs o v a}, H D = some (.lst xs) → R H v a → R (upd H D o) v a
theorem stF : Stays (FrV K) := ⟨FrV.ex, FrV.mut⟩
theorem stR : Stays (RowV K) := ⟨RowV.ex, RowV.mut⟩
theorem stS : Stays (SumV K) := ⟨SumV.ex, SumV.mut⟩
theorem bld0 {α : Type} {R : Hp → V → α → Prop} {L : List α} (hD : H1 D = none) : Bld R H1 D L 0 (upd H1 D (.lst [])) := ⟨Ex.new hD, [], upd_same, rfl, .nil⟩
theorem bld_step {α : Type} {R : Hp → V → α → Prop} (S : Stays R) {L : List α} {i : Nat} {v : V} {a : α} (hD : H1 D = none) (b : Bld R H1 D L i H') (e : Ex H' H4) (hi : L[i]? = some a) (hz : i < 100000) (hv : R H4 v a) :
    ∃ acc, H4 D = some (.lst acc) ∧ acc.length < sizeLine ∧ Bld R H1 D L (i + 1) (upd H4 D (.lst (acc ++ [v]))) := by
  obtain ⟨e1, xs, hx, hl, p⟩ := b
  have h4 := e D _ hx
  refine ⟨xs, h4, sz_lt (by omega), Ex.mut (e1.trans e) hD, xs ++ [v], upd_same, by simp [hl], ?_⟩
  rw [List.take_add_one, hi]
  exact Paired.snoc (pmono (fun _ _ q => S.mt h4 (S.ex e q)) p) (S.mt h4 hv)
theorem bld_end {α : Type} {R : Hp → V → α → Prop} {L : List α} {n : Nat} (hn : n = L.length) (b : Bld R H1 D L n H') : Ex H1 H' ∧ ∃ xs, H' D = some (.lst xs) ∧ Paired (R H') xs L := by
  obtain ⟨e1, xs, hx, hl, p⟩ := b
  refine ⟨e1, xs, hx, ?_⟩
  rwa [hn, List.take_length] at p
/-- the tuple made of what was built -/
theorem bld_row {L : List Rat} {n : Nat} {l : Addr} {xs : List V} (hx : H' D = some (.lst xs)) (p : FrL K H' xs L) (hl : H' l = none) : RowV K (upd H' l (.tup xs)) (.ref l) L :=
  ⟨l, xs, rfl, st_of upd_same, FrL.ex (Ex.new hl) p⟩
end
/-! ### promises of the sums' defs -/
def spSumP (K : PySem.W.Frag) : Sp := fun vs H Q _ => ∃ (x y : V) (s t : Sum2) (n d m e : Nat), vs = [x, y] ∧ SumV K H x s ∧ SumV K H y t ∧ s.1.length = t.1.length ∧ s.1.length ≤ 100 ∧ SzL n d s.1 ∧ Sz n d s.2 ∧ SzL m e t.1 ∧ Sz m e t.2 ∧
  (0 < n ∧ 0 < d ∧ 0 < m ∧ 0 < e ∧ (d + e ≤ 8900 ∨ (d + e ≤ 13490 ∧ n + e ≤ 13490 ∧ m + d ≤ 13490 ∧ n + m ≤ 13490)) ∧ n + m + d + e ≤ 90000000) ∧ ∀ v H', Ex H H' → SumV K H' v (splus s t) → Q v H'
def spSumT (K : PySem.W.Frag) : Sp := fun vs H Q _ => ∃ (x y : V) (r : Rat) (t : Sum2) (n d m e : Nat), vs = [x, y] ∧ FrV K H x r ∧ SumV K H y t ∧ t.1.length ≤ 100 ∧ Sz n d r ∧ SzL m e t.1 ∧ Sz m e t.2 ∧
  (0 < n ∧ 0 < d ∧ 0 < m ∧ 0 < e ∧ (d + e ≤ 8900 ∨ (d + e ≤ 13490 ∧ n + e ≤ 13490 ∧ m + d ≤ 13490 ∧ n + m ≤ 13490)) ∧ n + m + d + e ≤ 90000000) ∧ ∀ v H', Ex H H' → SumV K H' v (stimes r t) → Q v H'
def spFlat (K : PySem.W.Frag) : Sp := fun vs H Q _ => ∃ (k : Nat) (y : V) (r : Rat), vs = [.int (k : Int), y] ∧ FrV K H y r ∧ k ≤ 100 ∧ ∀ v H', Ex H H' → SumV K H' v (List.replicate k 0, r) → Q v H'
/-- the row with 1 at a place -/
def unit (k p : Nat) : List Rat := (List.range k).map fun i => if i = p then 1 else 0
def spPlace (K : PySem.W.Frag) : Sp := fun vs H Q _ => ∃ (k p : Nat), vs = [.int (k : Int), .int (p : Int)] ∧ k ≤ 100 ∧ ∀ v H', Ex H H' → SumV K H' v (unit k p, 0) → Q v H'
end Nc
end
section
set_option maxRecDepth 100000
set_option maxHeartbeats 4000000
namespace Nc
open PySem PySem.Spec PyProof.Rows L2 Evl
/-! ### the stream: a list of three whole numbers at s, that alone changes -/
def Stm (s : Addr) (H : Hp) : Prop := ∃ a b c : Int, H s = some (.lst [.int a, .int b, .int c])
structure Dr (s : Addr) (H H' : Hp) : Prop where
  keep : ∀ a o, a ≠ s → H a = some o → H' a = some o
  st : Stm s H'
section
variable {K : PySem.W.Frag} {s p : Addr} {H H' H2 : Hp}
theorem Dr.refl (h : Stm s H) : Dr s H H := ⟨fun _ _ _ q => q, h⟩
theorem Dr.trans (a : Dr s H H') (b : Dr s H' H2) : Dr s H H2 := ⟨fun x o hx q => b.keep x o hx (a.keep x o hx q), b.st⟩
theorem Stm.ne (h : Stm s H) (hp : H p = none) : s ≠ p := by
  obtain ⟨a, b, c, e⟩ := h
  exact ne_of_none e hp
theorem Dr.new {o : HO} (h : Stm s H) (hp : H p = none) : Dr s H (upd H p o) := ⟨fun a u ha q => by rw [upd_ne (ne_of_none q hp)]; exact q, by
  obtain ⟨a, b, c, e⟩ := id h
  exact ⟨a, b, c, by rw [upd_ne (h.ne hp)]; exact e⟩⟩
/-- another list changes -/
theorem Dr.mut {o : HO} (d : Dr s H H') (hp : H p = none) (hs : s ≠ p) : Dr s H (upd H' p o) := ⟨fun a u ha q => by rw [upd_ne (ne_of_none q hp)]; exact d.keep a u ha q, by
  obtain ⟨a, b, c, e⟩ := d.st
  exact ⟨a, b, c, by rw [upd_ne hs]; exact e⟩⟩
theorem Dr.ex (h : Stm s H) (e : Ex H H') : Dr s H H' := ⟨fun a o _ q => e a o q, by
  obtain ⟨a, b, c, q⟩ := h
  exact ⟨a, b, c, e _ _ q⟩⟩
theorem sqt_dr {t : Addr} {xs : List V} (h : Stm s H) (d : Dr s H H') (q : SqT K H t xs) : SqT K H' t xs := by
  obtain ⟨a, b, c, e⟩ := h
  rcases q with (q | ⟨o, q⟩) | q
  · exact .inl (.inl (d.keep _ _ (ne_of q e (by intro z; cases z)) q))
  · exact .inl (.inr ⟨o, d.keep _ _ (ne_of q e (by intro z; cases z)) q⟩)
  · exact .inr q
theorem FrV.dr {v : V} {r : Rat} (h : Stm s H) (d : Dr s H H') (q : FrV K H v r) : FrV K H' v r := by
  obtain ⟨t, rfl, q⟩ := q
  exact ⟨t, rfl, sqt_dr h d q⟩
theorem FrL.dr {xs : List V} {rs : List Rat} (h : Stm s H) (d : Dr s H H') (q : FrL K H xs rs) : FrL K H' xs rs := pmono (fun _ _ => FrV.dr h d) q
theorem RowV.dr {v : V} {rs : List Rat} (h : Stm s H) (d : Dr s H H') (q : RowV K H v rs) : RowV K H' v rs := by
  obtain ⟨t, xs, rfl, q, l⟩ := q
  exact ⟨t, xs, rfl, sqt_dr h d q, FrL.dr h d l⟩
theorem SumV.dr {v : V} {z : Sum2} (h : Stm s H) (d : Dr s H H') (q : SumV K H v z) : SumV K H' v z := by
  obtain ⟨t, a, b, rfl, q, l, n⟩ := q
  exact ⟨t, a, b, rfl, sqt_dr h d q, l.dr h d, n.dr h d⟩
/-- the stream's list changes -/
theorem Dr.put {xs : List V} {a b c : Int} (h : H s = some (.lst xs)) : Dr s H (upd H s (.lst [.int a, .int b, .int c])) := ⟨fun x o hx q => by rw [upd_ne hx]; exact q, ⟨a, b, c, upd_same⟩⟩
end
theorem b01 (k : Bool) : -(2 ^ 64) < (if k = true then (1 : Int) else 0) ∧ (if k = true then (1 : Int) else 0) < 2 ^ 64 := by
  cases k <;> decide
theorem modb (x : Int) {m : Int} (h : 0 < m) (hm : m ≤ 2 ^ 64) : -(2 ^ 64) < x % m ∧ x % m < 2 ^ 64 := by
  have h1 := Int.emod_nonneg x (b := m) (by omega)
  have h2 := Int.emod_lt_of_pos x h
  omega
theorem cdivT {i m : Int} (h : 0 < m) (hm : m < 2 ^ 200) : CDivW i m := wide_div (b := 200) h (by omega) (by decide) (by decide)
/-! ### promises of what is drawn -/
def spCell (K : PySem.W.Frag) : Sp := fun vs H Q _ => ∃ (a : Addr) (ns : List Int) (k : Nat), vs = [.ref a, .int (k : Int)] ∧ SqL K H a (ns.map V.int) ∧ k ≤ 100 ∧ ∀ c : Int, Q (.int c) H
def spStream : Sp := fun vs H Q _ => ∃ c : Int, vs = [.int c] ∧ ∀ s a b d, H s = none → Q (.ref s) (upd H s (.lst [.int a, .int b, .int d]))
def spTake : Sp := fun vs H Q _ => ∃ (s : Addr) (m : Int), vs = [.ref s, .int m] ∧ Stm s H ∧ 0 < m ∧ m < 2 ^ 200 ∧ ∀ d H', 0 ≤ d → d < m → Dr s H H' → Q (.int d) H'
/-- a whole number above nought, below a bound -/
def spDraw (n : Nat) : Sp := fun vs H Q _ => ∃ s : Addr, vs = [.ref s] ∧ Stm s H ∧ ∀ d H', 0 < d → d.natAbs < 2 ^ n → Dr s H H' → Q (.int d) H'
/-- a fraction of that size -/
def spNum (K : PySem.W.Frag) (n d : Nat) : Sp := fun vs H Q _ => ∃ s : Addr, vs = [.ref s] ∧ Stm s H ∧ ∀ v r H', Dr s H H' → FrV K H' v r → Sz n d r → Q v H'
/-- a row of so many -/
def spRow (K : PySem.W.Frag) (n d : Nat) : Sp := fun vs H Q _ => ∃ (s : Addr) (k : Nat), vs = [.ref s, .int (k : Int)] ∧ Stm s H ∧ k ≤ 100 ∧ ∀ v L H', Dr s H H' → RowV K H' v L → L.length = k → SzL n d L → Q v H'
end Nc
end
section
set_option maxRecDepth 100000
set_option maxHeartbeats 4000000
namespace Nc
open PySem PySem.Spec PyProof.Rows L2 Evl
theorem depthAll_fd : ∀ rs : List Rat, PyData.depthAll (rs.map fd) ≤ 1
  | [] => Nat.zero_le _
  | r :: rs => by
    have ih := depthAll_fd rs
    show max (PyData.depth (fd r)) (PyData.depthAll (rs.map fd)) ≤ 1
    have : PyData.depth (fd r) = 1 := rfl
    omega
theorem lay_row (rs : List Rat) : (PyData.tuple (rs.map fd)).canLay0 = true := layAll_fd rs
theorem shaped_row (rs : List Rat) : SeqAt.shaped (.tuple (rs.map fd)) = true := by
  unfold SeqAt.shaped
  rw [lay_row, Bool.true_and]
  refine decide_eq_true ?_
  have := depthAll_fd rs
  show PyData.depthAll (rs.map fd) + 1 ≤ 64
  omega
theorem shaped_list (rs : List Rat) : SeqAt.shaped (.list (rs.map fd)) = true := by
  unfold SeqAt.shaped
  have h : (PyData.list (rs.map fd)).canLay0 = true := layAll_fd rs
  rw [h, Bool.true_and]
  refine decide_eq_true ?_
  have := depthAll_fd rs
  show PyData.depthAll (rs.map fd) + 1 ≤ 64
  omega
theorem shaped_fd (r : Rat) : SeqAt.shaped (fd r) = true := rfl
theorem lay_sd (s : Sum2) : (sd s).canLay0 = true := by
  show ((PyData.tuple (s.1.map fd)).canLay0 && ((fd s.2).canLay0 && true)) = true
  rw [lay_row]
  rfl
theorem shaped_sd (s : Sum2) : SeqAt.shaped (sd s) = true := by
  unfold SeqAt.shaped
  rw [lay_sd, Bool.true_and]
  refine decide_eq_true ?_
  have h1 := depthAll_fd s.1
  have h2 : PyData.depth (fd s.2) = 1 := rfl
  show max (PyData.depthAll (s.1.map fd) + 1) (max (PyData.depth (fd s.2)) 0) + 1 ≤ 64
  omega
theorem eqv_sd (s : Sum2) : PyData.eqv (sd s) (sd s) = true := SeqAt.eqv_refl _ (lay_sd s)
theorem eqv_fd (r : Rat) : PyData.eqv (fd r) (fd r) = true := SeqAt.eqv_refl _ rfl
theorem eqv_row (rs : List Rat) : PyData.eqv (.tuple (rs.map fd)) (.tuple (rs.map fd)) = true := SeqAt.eqv_refl _ (lay_row rs)
theorem eqv_list (rs : List Rat) : PyData.eqv (.list (rs.map fd)) (.list (rs.map fd)) = true := SeqAt.eqv_refl _ (layAll_fd rs)
/-- a tuple's type -/
theorem tyT {K : PySem.W.Frag} {H : Hp} {t : Addr} {xs : List V} (q : SqT K H t xs) : TyX K H (.ref t) (.type "tuple") := by
  rcases q with (q | ⟨o, q⟩) | ⟨o, its, n, h, hc, _⟩
  · exact .base (.tup q)
  · exact .fTuple q
  · exact .kTuple h hc
theorem tyI {K : PySem.W.Frag} {H : Hp} (i : Int) : TyX K H (.int i) (.type "int") := .base (.int i)
theorem sz_tells {n d m e : Nat} {s : Sum2} {row : List Rat} (hn : d ≤ n) (hm : e ≤ m) (ha : SzL n d s.1) (hb : SzL m e row) (hc : Sz n d s.2) (hl : s.1.length = row.length) : Sz (1 + s.1.length * (n + m + 1) + n + 1) (1 + s.1.length * (d + e) + d) (tells s row) := by
  have h := sz_of_weighs hn hm ha hb hl
  have le : s.1.length * (d + e) ≤ s.1.length * (n + m + 1) := Nat.mul_le_mul_left _ (by omega)
  exact sz_add (N := 1 + s.1.length * (n + m + 1) + n) h hc (by omega) (by omega)
theorem len_splus (s t : Sum2) (h : s.1.length = t.1.length) : (splus s t).1.length = s.1.length := by
  unfold splus
  simp
  omega
theorem len_stimes (q : Rat) (s : Sum2) : (stimes q s).1.length = s.1.length := by
  unfold stimes
  simp
theorem szl_splus {n d m e N : Nat} {s t : Sum2} (h1 : SzL n d s.1) (h2 : SzL m e t.1) (k1 : n + e ≤ N := by omega) (k2 : m + d ≤ N := by omega) : SzL (N + 1) (d + e) (splus s t).1 := by
  intro r hr
  unfold splus at hr
  obtain ⟨p, hp, rfl⟩ := List.mem_map.mp hr
  have := List.of_mem_zip hp
  exact sz_add (h1 _ this.1) (h2 _ this.2)
theorem szl_stimes {n d m e : Nat} {q : Rat} {s : Sum2} (h1 : Sz n d q) (h2 : SzL m e s.1) : SzL (n + m) (d + e) (stimes q s).1 := by
  intro r hr
  unfold stimes at hr
  obtain ⟨p, hp, rfl⟩ := List.mem_map.mp hr
  exact sz_mul h1 (h2 _ hp)
/-- the found sum is the due one, by its own kinds -/
def spWhole (K : PySem.W.Frag) : Sp := fun vs H Q _ => ∃ (x y : V) (s : Sum2), vs = [x, y] ∧ SumV K H x s ∧ SumV K H y s ∧ s.1.length ≤ 100 ∧ ∀ H', Ex H H' → Q (.bl true) H'
def spPlaces : Sp := fun vs H Q _ => ∃ k : Nat, vs = [.int (k : Int)] ∧ k ≤ 100 ∧ ∀ H', Ex H H' → Q (.bl true) H'
/-- all goes well, the stream alone changes -/
def spRight : Sp := fun vs H Q _ => ∃ s : Addr, vs = [.ref s] ∧ Stm s H ∧ ∀ H', (∀ a o, a ≠ s → H a = some o → H' a = some o) → Q (.bl true) H'
def spLaw (K : PySem.W.Frag) : Sp := fun vs H Q _ => ∃ (a : Addr) (ns : List Int), vs = [.ref a] ∧ SqL K H a (ns.map V.int) ∧ ns.length ≤ 63 ∧ ∀ H', Q (.bl true) H'
end Nc
end
section
set_option maxRecDepth 100000
set_option maxHeartbeats 4000000
namespace Nc
open PySem PySem.Spec PyProof.Rows L2 Evl
/-! ### a def's promise where no repr is under way around it -/
structure GOk (P : Program) (w : World) (K : PySem.W.Frag) (mg : Str → Option Value) (base : Heap) (k : Nat) (f : Addr) (fd : FuncData) (ps : List Str) (sp : Sp) : Prop where
  many : ∀ vs H Q E, sp vs H Q E → vs.length = ps.length
  go : ∀ (A : Around) (stack : List Env) (s : Shared) (H : Hp) (us : List Value) (vs : List V) (Q : VK), A.guards = some [] → Room k A → Env0 P w K mg base A stack s H →
    BindsTo s fd ⟨us, []⟩ (ps.zip us) → Vals vs us → sp vs H Q E0 → codeAny (model P w) A (.call (.ref f) ⟨us, []⟩) (CR CX0 stack P w H s Q E0) s
section
variable {P : Program} {w : World} {K : PySem.W.Frag} {mg : Str → Option Value} {base : Heap} {k : Nat} {f : Addr} {fd : FuncData} {x qual : Str} {st : Stmt} {N ps : List Str} {sp : Sp}
/-- by its body's term, which may say repr -/
theorem gok (F : Fun K x qual st f fd) (S : FnScope N ps (defScope st)) (many : ∀ vs H Q E, sp vs H Q E → vs.length = ps.length)
    (body : ∀ (cdv : Value) (A : Around) (stack : List Env) (s : Shared) (H : Hp) (vs : List V) (Q : VK) (_ : A.guards = some []) (_ : Room k (A.deeper (envOfC qual (defScope st) s.heap.objs.size f cdv))), sp vs H Q E0 →
      ∃ t, PSs (cxOf CX0 P w K mg base N qual (defScope st) f cdv A stack s H E0).nox (defBody st) t ∧ t ⟨fun _ H' => Q .non H', Q, fun _ _ => False, fun _ _ => False⟩ (start N vs) H) : GOk P w K mg base (k + 1) f fd ps sp := by
  obtain ⟨oc, od, kV, doc, pm, an, cdv, ct, osl, rfl, lk, hcd⟩ := F.ex
  constructor
  · exact many
  intro A stack s H us vs Q hG hR e0 hb rv hsp
  have sz := many _ _ _ _ hsp
  have inK : K.In s.heap := e0.mod.kin.keeps fun b o e => And.left (e0.bs b o e)
  have kinds : ∀ y ∈ ps.zip us, (defScope st).names.lookup y.1 = some .local ∨ ((defScope st).names.lookup y.1 = some .cell ∧ ((cellsFrom (s.heap.objs.size + 1) (defScope st).names []).lookup y.1).isSome = true) := by
    rintro ⟨n, v⟩ hy
    have hn := S.par n (List.of_mem_zip hy).1
    exact hn.imp id fun c => ⟨c, PySem.W.cellsFrom_some _ _ _ (.inl c)⟩
  obtain ⟨t, ht, hq⟩ := body cdv A stack s H vs Q hG (hR.deeper _) hsp
  apply codeAny_call_function (ho := inK _ _ lk) (hd' := rfl) (hco := S.co) (hgen := S.gen) (hbody := rfl) (hcd := PySem.W.codeRec_of inK hcd) hR.depth
  apply hb
  apply wpAny_newFunctionEnv_cells S.kind kinds
  rintro env rfl s1 x1
  constructor
  · exact (e0.mod.nolimit.keeps fun b o e => And.left (e0.bs b o e)).keeps x1.toInCall.keep
  apply codeAny_func
  have I := inv_start (CX := CX0) (E := E0) S hR.hd e0 sz rv x1
  refine wpAny_mono (ht.nox.run [] s1 _ H _ I hq) ?_ fun _ _ z => z
  have leave : ∀ {σ' : L2.St} {H' : Hp} {v : V} {u : Value} {s'' : Shared}, Inv (cxOf CX0 P w K mg base N qual (defScope st) f cdv A stack s H E0) [] σ' H' s'' → RelV v u → Q v H' → CE stack P w H s Q u s'' := fun J r z => ⟨_, _, J.os, J.bare, J.base, J.hok, r, z⟩
  rintro (_ | _ | _ | u) s2 hs
  all_goals first
    | (obtain ⟨_, _, J, z⟩ := hs; exact leave (v := .non) (u := .none) J rfl z)
    | (obtain ⟨_, _, _, J, r, z⟩ := hs; exact leave J r z)
    | (obtain ⟨_, _, _, z⟩ := hs; exact z.elim)
end
section
variable {X : Cx} {k : Nat} {f : Addr} {fd : FuncData} {ps : List Str} {sp : Sp} {x : Str} {e : Expr} {es : List Expr} {ta : TA} {p pos : Pos}
/-- a call of such a def, from where no repr is under way -/
theorem clG (F : GOk X.prog X.w X.K X.mg X.base k f fd ps sp) (hG : X.A.guards = some []) (hR : Room k X.A) (hm : X.mg x = some (.ref f)) (hk : PySem.W.keepIn X.K (.ref f) = true) (hb : Binds X.K fd ps []) (ha : PA X (e :: es) ta)
    (hg : Gl X x := by rfl) (hdb : (x == ("__debug__" : Str)) = false := by decide) (he : starEach (e :: es) X.env = (false, eval e X.env) :: starEach es X.env := by rfl) (hpl : (backTo pos (starEach es X.env)).any (·.1) = false := by rfl) :
    PE X (.Call (.Name x p) (e :: es) [] pos) (tCall sp [] E0 ta) := by
  constructor
  intro pins s σ H Q I h
  apply wpAny_Call_Name_kw
  apply ld_glob I hg hm (hd := hdb)
  apply PySem.W.callWith_K (h₀ := X.base) I.ok.mod.kin hk (he := he) (hplain := hpl)
  refine thn (ha.run pos pins s σ H _ I h) ?_
  rintro us s1 ⟨vs, H1, J, rv, z⟩
  refine ⟨J.kIn, ?_⟩
  have z' : sp vs H1 Q E0 := by simpa using z
  have sz : us.length = ps.length := by rw [← rv.length]; exact F.many _ _ _ _ z'
  have hb' := hb s1 us J.kIn (by simpa using sz)
  simp only [List.append_nil] at hb'
  apply wpAny_call
  refine codeAny_mono (F.go X.A X.stack s1 H1 us vs Q hG hR J.env0 hb' rv z') ?_
  rintro (_ | (_ | _ | _ | u)) s2 hr
  all_goals first
    | exact J.after hr
    | exact hr.elim
/-- repr of data -/
def rRepr (K : PySem.W.Frag) : List V → Hp → VK → Prop := fun vs H Q => ∃ v d, vs = [v] ∧ Dp K H v d ∧ (∃ a, v = .ref a) ∧ d.showable = true ∧ d.hasDict = false ∧ d.depth ≤ 60 ∧ d.shown.length ≤ sizeLine ∧ Q (.str d.shown) H
theorem call_reprD (hG : X.A.guards = some []) (hu : X.A.units + 64 < cLine) : CallR X (.builtin "repr") (rRepr X.K) := by
  intro pins s σ H vs us Q I rv h
  obtain ⟨v, d, rfl, hd, ⟨a, rfl⟩, h1, h2, h3, h4, q⟩ := h
  cases rv with
  | cons r rr =>
    cases rr
    cases r
    obtain ⟨as, R⟩ := Dp.reads I d _ _ hd rfl
    exact repr_of_reads' R h1 (fun z => by rw [h2] at z; cases z) hG (by omega) (fun _ _ z => z) (fun h' u tk kp => ⟨.str d.shown, H, I.kept (t' := tk) kp, ⟨u, rfl⟩, q⟩) h4
end
/-! ### the law's own call -/
/-- the script alone is tracked, and it only where the module doesn't write it -/
noncomputable def onlyA (K : PySem.W.Frag) (a : Addr) (ob : Obj) (xs : List V) : Hp := open Classical in fun b => if b = a ∧ K.lookup a = none then some (.frz ob (.lst xs)) else none
theorem onlyA_some {K : PySem.W.Frag} {a b : Addr} {ob : Obj} {xs : List V} {u : HO} (h : onlyA K a ob xs b = some u) : b = a ∧ K.lookup a = none ∧ u = .frz ob (.lst xs) := by
  unfold onlyA at h
  split at h
  · rename_i c
    exact ⟨c.1, c.2, (Option.some.inj h).symm⟩
  · cases h
theorem gcall {P : Program} {w : World} {K : PySem.W.Frag} {mg mb : Str → Option Value} {k : Nat} {fa a : Addr} {fd : FuncData} {x : Str} {sp : Sp} {s1 : Shared} {us : List Value} {ns : List Int} (inK : K.In s1.heap) (gl : s1.heap.Ns mainGlobals mg) (bl : s1.heap.Ns builtinsNs mb)
    (bb : ∀ y : Str, y ≠ "__name__" → mb y = bootBuiltins y) (nl : s1.heap.NoLimit) (ng : s1.gens = #[]) (at_ : s1.heap.get? a = some { cls := .type "list", data := .seq us.toArray }) (hints : IntsAre us ns) (sz : ns.length ≤ sizeLine) (hR : Room k callerA)
    (F : ∀ base : Heap, K.In base → base.Ns mainGlobals mg → GOk P w K mg base k fa fd [x] sp) (binds : ∀ (s : Shared) (u : Value), BindsTo s fd ⟨[u], []⟩ [(x, u)]) (hsp : ∀ H : Hp, SqL K H a (ns.map V.int) → sp [.ref a] H (fun v _ => v = .bl true) E0) :
    codeAny (model P w) callerA (.call (.ref fa) ⟨[.ref a], []⟩) (fun r s' => r = .ok (.ret (.bool true)) ∧ OldK s1.heap s'.heap ∧ s'.os = s1.os ∧ AllBare s'.gens) s1 := by
  have rv := vals_ints hints
  have ln := hints.length
  have okA : ObjOk P w (onlyA K a { cls := .type "list", data := .seq us.toArray } (ns.map V.int)) s1.heap a (.frz { cls := .type "list", data := .seq us.toArray } (.lst (ns.map V.int))) := ⟨at_, by simpa using sz, us, _, rv, at_⟩
  generalize hobj : ({ cls := .type "list", data := .seq us.toArray } : Obj) = ob at at_ okA
  generalize hH : onlyA K a ob (ns.map V.int) = H0 at okA
  have only : ∀ {b u}, H0 b = some u → b = a ∧ K.lookup a = none ∧ u = .frz ob (.lst (ns.map V.int)) := by
    subst hH
    exact onlyA_some
  have seq : SqL K H0 a (ns.map V.int) := by
    cases hk : K.lookup a with
    | none =>
      refine .inl (.inr ⟨ob, ?_⟩)
      rw [← hH]
      unfold onlyA
      rw [if_pos ⟨rfl, hk⟩]
    | some o =>
      have e := inK a o hk
      rw [at_] at e
      cases e
      subst hobj
      exact .inr ⟨_, us.toArray, _, hk, rfl, rfl, rfl, by rw [List.size_toArray, ln]; exact sz, by simpa using rv⟩
  have unseen : ∀ {b : Addr} {o : Obj}, s1.heap.get? b = some o → (b = a → False) → H0 b = none := by
    intro b o hb hn
    cases q : H0 b with
    | none => rfl
    | some u => exact (hn (only q).1).elim
  have kept : ∀ {b : Addr} {m : Str → Option Value}, s1.heap.Ns b m → (hidT s1.heap H0).Ns b m := by
    rintro b m ⟨o, es, ep, hb, hd, r⟩
    refine ⟨o, es, ep, hidT_get hb (unseen hb fun z => ?_), hd, r⟩
    rw [z, at_] at hb
    cases hb
    rw [← hobj] at hd
    cases hd
  have kIn : K.In (hidT s1.heap H0) := fun b o hb => hidT_get (inK b o hb) (by
    cases q : H0 b with
    | none => rfl
    | some u =>
      obtain ⟨rfl, n, _⟩ := only q
      rw [n] at hb
      cases hb)
  have limit : (hidT s1.heap H0).NoLimit := by
    obtain ⟨mc, h1, h2⟩ := nl
    exact ⟨mc, kept h1, h2⟩
  have hok : HOk P w H0 s1.heap := by
    intro b u hb
    obtain ⟨rfl, _, rfl⟩ := only hb
    exact okA
  have e0 : Env0 P w K mg (hidT s1.heap H0) callerA [] s1 H0 := by
    refine ⟨rfl, ⟨kIn, kept gl, ⟨mb, kept bl, bb⟩, limit⟩, fun b o e => of_hidT e, Nat.le_of_eq (hidT_size _ _), trivial, fun b hb => ?_, hok, .of_eq ng⟩
    cases hb
  refine codeAny_mono ((F _ kIn (kept gl)).go callerA [] s1 H0 [.ref a] [.ref a] _ rfl hR e0 (binds s1 (.ref a)) (.cons rfl .nil) (hsp H0 seq)) ?_
  rintro (_ | (_ | _ | _ | u)) s2 hr
  all_goals first
    | (obtain ⟨v, H2, os, bare, un, ok2, r2, rfl⟩ := hr
       obtain rfl : u = Value.bool true := r2
       refine ⟨rfl, OldK.of_keep fun b o hb => ?_, os, bare⟩
       cases q : H0 b with
       | none => exact un.keep b o hb q (fun z => by cases z) (by simp)
       | some y =>
         obtain ⟨rfl, _, rfl⟩ := only q
         have h3 := ok2 b _ (un.frzs b _ _ q)
         rw [at_] at hb
         cases hb
         exact h3.1)
    | exact hr.elim
theorem gwalk {l : PySem.W.OpenLaw} {n k : Nat} {q : Program} {loose : List Str} {XP : (Str → Option Value) → Heap → Prop} {YP : World → Heap → Prop} {d : DefRec} {K : Params → PySem.W.Frag} {sp : PySem.W.Frag → Sp} {x : Str} (most : l.most = some n) (sz : n ≤ sizeLine) (nodef : d.params.defaults = []) (hR : Room k callerA)
    (inK : ∀ (w : World) (h : Heap), YP w h → (K w.params).In h)
    (F : ∀ (w : World) (mg : Str → Option Value) (fa : Addr) (h : Heap), (K w.params).In h → h.Ns mainGlobals mg → mg d.name = some (.ref fa) →
      ∃ fd : FuncData, (∀ (s : Shared) (u : Value), BindsTo s fd ⟨[u], []⟩ [(x, u)]) ∧ ∀ base : Heap, (K w.params).In base → base.Ns mainGlobals mg → GOk l.prog w (K w.params) mg base k fa fd [x] (sp (K w.params)))
    (hsp : ∀ (K : PySem.W.Frag) (H : Hp) (a : Addr) (ns : List Int), ns.length ≤ n → SqL K H a (ns.map V.int) → sp K [.ref a] H (fun v _ => v = .bl true) E0) : PySem.W.WalkO q loose XP YP l.row.toRowW d [] (fun f vs => PySem.call f vs) := by
  apply Att.attach_call most nodef
  intro w s0 s1 mg mb fa o pm cd doc a us ns G Y ho hd hcd hmg hobj hints hl hg
  obtain ⟨fd, hb, hF⟩ := F w mg fa _ (inK w _ Y) G.T.g hmg
  exact gcall (inK w _ Y) G.T.g G.T.b G.T.builtins G.T.nolimit hg hobj hints (Nat.le_trans hl sz) hR hF hb fun H hS => hsp _ H a ns hl hS
end Nc
end
section
set_option maxRecDepth 100000
set_option maxHeartbeats 4000000
namespace Nc
open PySem PySem.Spec PyProof.Rows L2 Evl
/-! ### bottoms of either sign -/
theorem gcdI_dvd_left (t b : Int) : ((Nat.gcd t.natAbs b.natAbs : Nat) : Int) ∣ t := Int.ofNat_dvd_left.mpr (Nat.gcd_dvd_left _ _)
theorem gcdI_dvd_right (t b : Int) : ((Nat.gcd t.natAbs b.natAbs : Nat) : Int) ∣ b := Int.ofNat_dvd_left.mpr (Nat.gcd_dvd_right _ _)
theorem gcd_posZ {t b : Int} (hb : b ≠ 0) : (0 : Int) < ((Nat.gcd t.natAbs b.natAbs : Nat) : Int) := by
  have := Nat.gcd_pos_of_pos_right t.natAbs (n := b.natAbs) (by omega)
  omega
theorem gcd_leZ {t b : Int} (hb : b ≠ 0) : ((Nat.gcd t.natAbs b.natAbs : Nat) : Int).natAbs ≤ b.natAbs := by
  rw [Int.natAbs_natCast]
  exact Nat.gcd_le_right t.natAbs (n := b.natAbs) (by omega)
theorem num_neg {t b : Int} (hb : b < 0) : t.fdiv (-((Nat.gcd t.natAbs b.natAbs : Nat) : Int)) = (Rat.divInt t b).num := by
  rw [Int.fdiv_eq_ediv_of_dvd (Int.neg_dvd.mpr (gcdI_dvd_left t b)), Int.ediv_neg, Rat.num_divInt, Int.sign_eq_neg_one_of_neg hb, Int.gcd_comm]
  have : -1 * t = -t := by omega
  rw [this]
  exact (Int.neg_ediv_of_dvd (gcdI_dvd_left t b)).symm
theorem den_neg {t b : Int} (hb : b < 0) : b.fdiv (-((Nat.gcd t.natAbs b.natAbs : Nat) : Int)) = ((Rat.divInt t b).den : Int) := by
  rw [Int.fdiv_eq_ediv_of_dvd (Int.neg_dvd.mpr (gcdI_dvd_right t b)), Int.ediv_neg, Rat.den_divInt, if_neg (by omega), Int.gcd_comm]
  have e : ((b.natAbs : Nat) : Int) = -b := by omega
  rw [Int.natCast_ediv, e]
  exact (Int.neg_ediv_of_dvd (gcdI_dvd_right t b)).symm
theorem num_pos {t b : Int} (hb : 0 < b) : t.fdiv ((Nat.gcd t.natAbs b.natAbs : Nat) : Int) = (Rat.divInt t b).num := by
  rw [Int.fdiv_eq_ediv_of_dvd (gcdI_dvd_left t b)]
  exact num_div hb
theorem den_posI {t b : Int} (hb : 0 < b) : b.fdiv ((Nat.gcd t.natAbs b.natAbs : Nat) : Int) = ((Rat.divInt t b).den : Int) := by
  rw [Int.fdiv_eq_ediv_of_dvd (gcdI_dvd_right t b)]
  exact den_div hb
theorem sz_divZ {t b : Int} {n d : Nat} (hb : b ≠ 0) (ht : t.natAbs < 2 ^ n) (hz : b.natAbs < 2 ^ d) : Sz n d (Rat.divInt t b) := by
  by_cases h : 0 < b
  · exact sz_div h ht hz
  · have h2 : (0 : Int) < -b := by omega
    have e : Rat.divInt t b = Rat.divInt (-t) (-b) := by
      rw [Rat.divInt_eq_divInt_iff hb (by omega)]
      rw [Int.mul_neg, Int.neg_mul]
    rw [e]
    exact sz_div h2 (by omega) (by omega)
theorem cross {t b : Int} (hb : b ≠ 0) : (Rat.divInt t b).num * b = t * ((Rat.divInt t b).den : Int) := by
  have h := Rat.num_divInt_den (Rat.divInt t b)
  have hd := den_pos (Rat.divInt t b)
  rwa [Rat.divInt_eq_divInt_iff (by omega) hb] at h
theorem sub_is (r s : Rat) : Rat.divInt (r.num * (s.den : Int) - s.num * (r.den : Int)) ((r.den : Int) * (s.den : Int)) = r - s := by
  have h1 := den_pos r
  have h2 := den_pos s
  rw [← Rat.divInt_sub_divInt r.num s.num (by omega) (by omega), Rat.num_divInt_den, Rat.num_divInt_den]
theorem lt_sub {n : Nat} {i j : Int} (ha : i.natAbs < 2 ^ n) (hb : j.natAbs < 2 ^ n) : (i - j).natAbs < 2 ^ (n + 1) := by
  rw [Nat.pow_succ]
  omega
theorem weighs_comm : ∀ (a b : List Rat), weighs (a.zip b) = weighs (b.zip a)
  | [], b => by cases b <;> rfl
  | x :: a, [] => rfl
  | x :: a, y :: b => by
    simp only [List.zip_cons_cons, weighs_cons]
    rw [weighs_comm a b, Rat.mul_comm]
/-! ### // by any divisor below 2 ^ 9000; a text so many times -/
def CDivZ (_ j : Int) : Prop := j ≠ 0 ∧ j.natAbs.log2 < 9000
theorem op_fdivZ {X : Cx} : OpR X (binaryOp .FloorDiv) (rI CDivZ fun i j => .int (i.fdiv j)) := opI fun i j _ _ _ _ _ hc q => floordiv_int hc.1 q (.inl (PyProof.noPylong_of_log2 hc.2))
theorem cdivZ {i j : Int} {b : Nat} (h : j ≠ 0) (hb : j.natAbs < 2 ^ b) (h0 : 0 < b) (h9 : b ≤ 9000) : CDivZ i j := ⟨h, Nat.lt_of_lt_of_le (PySem.Flt.log2_lt_of h0 hb) h9⟩
theorem op_mulStr {X : Cx} {x : Str} {n : Int} (hr : (decide (n < -(2 ^ 63 : Int)) || decide (n ≥ 2 ^ 63)) = false) (h1 : ¬ n < 1) (h2 : (n == 1 || x.length == 0) = false)
    (hb : ¬ ((x.length : Int) > (2 ^ 63 - 1) / n)) (hl : Builtin.Str.tooLong (x.length * n.toNat) = false) :
    OpR X (binaryOp .Mult) (fun a b H Q => a = .str x ∧ b = .int n ∧ (⟨(List.replicate n.toNat x.cps).foldl (· ++ ·) #[]⟩ : Str).length ≤ sizeLine ∧ Q (.str ⟨(List.replicate n.toNat x.cps).foldl (· ++ ·) #[]⟩) H) := by
  intro pins s σ H a b v u Q I ra rb h
  obtain ⟨rfl, rfl, hz, q⟩ := h
  obtain ⟨t, rfl⟩ := ra
  obtain ⟨t2, rfl⟩ := rb
  refine PySem.P.mul_str hr (fun _ _ => hb) (fun _ _ => hl) ?_
  rw [if_neg h1, if_neg (by rw [h2]; decide)]
  exact ⟨hz, ⟨.str _, H, I.tok _, ⟨_, rfl⟩, q⟩⟩
end Nc
end
section
set_option maxRecDepth 100000
set_option maxHeartbeats 4000000
namespace Nc
open PySem PySem.Spec PyProof.Rows L2 Evl
/-! ### promises of k02's defs -/
def spPartZ (K : PySem.W.Frag) : Sp := fun vs H Q _ => ∃ (t b : Int) (n : Nat), vs = [.int t, .int b] ∧ b ≠ 0 ∧ b.natAbs < 2 ^ n ∧ 0 < n ∧ (n ≤ 9000 ∨ (n ≤ 13500 ∧ t.natAbs < 2 ^ 13500)) ∧ ∀ v H', Ex H H' → FrV K H' v (Rat.divInt t b) → Q v H'
theorem Ok.imp {P : Program} {w : World} {K : PySem.W.Frag} {mg : Str → Option Value} {base : Heap} {k : Nat} {x : Str} {ps : List Str} {sp sp' : Sp} (D : Ok P w K mg base k x ps sp) (h : ∀ vs H Q E, sp' vs H Q E → sp vs H Q E) : Ok P w K mg base k x ps sp' := by
  obtain ⟨f, fd, g, kp, F, b⟩ := D.ex
  exact ⟨f, fd, g, kp, F.imp h, b⟩
theorem part_imp {K : PySem.W.Frag} : ∀ vs H Q E, spPart K vs H Q E → spPartZ K vs H Q E := by
  rintro vs H Q E ⟨t, b, n, h1, h2, h3, h4, h5, q⟩
  exact ⟨t, b, n, h1, by omega, h3, h4, h5, q⟩
abbrev spMinus := sp2 (· - ·)
def spRatio (K : PySem.W.Frag) : Sp := fun vs H Q _ => ∃ (x y : V) (r s : Rat) (n d m e : Nat), vs = [x, y] ∧ FrV K H x r ∧ FrV K H y s ∧ Sz n d r ∧ Sz m e s ∧ s.num ≠ 0 ∧ (0 < n ∧ 0 < d ∧ 0 < m ∧ 0 < e ∧ d + m ≤ 8900 ∧ n + m + d + e ≤ 90000000) ∧
  ∀ v H', Ex H H' → FrV K H' v (Rat.divInt (r.num * (s.den : Int)) ((r.den : Int) * s.num)) → Q v H'
def spLess (K : PySem.W.Frag) : Sp := fun vs H Q _ => ∃ (x y : V) (r s : Rat) (n d m e : Nat), vs = [x, y] ∧ FrV K H x r ∧ FrV K H y s ∧ Sz n d r ∧ Sz m e s ∧ (0 < n ∧ 0 < d ∧ 0 < m ∧ 0 < e ∧ n + m + d + e ≤ 90000000) ∧ Q (.bl (decide (r.num * (s.den : Int) < s.num * (r.den : Int)))) H
/-- the greatest shared divisor -/
def spCommon : Sp := fun vs H Q _ => ∃ a b : Int, vs = [.int a, .int b] ∧ 0 ≤ a ∧ 0 < b ∧ Q (.int ((Nat.gcd a.natAbs b.natAbs : Nat) : Int)) H
/-- a whole number of so many bits at most -/
def spInt (n : Nat) : Sp := fun vs H Q _ => ∃ s : Addr, vs = [.ref s] ∧ Stm s H ∧ ∀ d H', d.natAbs < 2 ^ n → Dr s H H' → Q (.int d) H'
/-- the found fraction is that of a top and a bottom -/
def spIs (K : PySem.W.Frag) : Sp := fun vs H Q _ => ∃ (x : V) (t b : Int) (n : Nat), vs = [x, .int t, .int b] ∧ b ≠ 0 ∧ FrV K H x (Rat.divInt t b) ∧ t.natAbs < 2 ^ n ∧ b.natAbs < 2 ^ n ∧ 0 < n ∧ n ≤ 400000 ∧ ∀ H', Ex H H' → Q (.bl true) H'
def spPair (K : PySem.W.Frag) : Sp := fun vs H Q _ => ∃ (x y : V) (r s : Rat), vs = [x, y] ∧ FrV K H x r ∧ FrV K H y s ∧ Sz 2700 200 r ∧ Sz 2700 200 s ∧ ∀ H', Ex H H' → Q (.bl true) H'
/-- a row of at most six long ones, or of at most thirty-one short ones -/
def SzR (L : List Rat) : Prop := (L.length ≤ 6 ∧ SzL 1330 100 L) ∨ (L.length ≤ 31 ∧ SzL 4 4 L)
def spRow2 (K : PySem.W.Frag) : Sp := fun vs H Q _ => ∃ (s : Addr) (k : Nat), vs = [.ref s, .int (k : Int)] ∧ Stm s H ∧ k ≤ 31 ∧ ∀ v L H', Dr s H H' → RowV K H' v L → L.length = k → SzR L → (6 < k → SzL 4 4 L) → Q v H'
/-- what two rows come to, not divided -/
def spDue (K : PySem.W.Frag) : Sp := fun vs H Q _ => ∃ (x y : V) (a b : List Rat), vs = [x, y] ∧ RowV K H x a ∧ RowV K H y b ∧ a.length = b.length ∧ SzR a ∧ SzR b ∧ a.length ≤ 31 ∧
  ∀ (p : Addr) (t u : Int) H', Ex H H' → SqT K H' p [.int t, .int u] → 0 < u → weighs (a.zip b) = Rat.divInt t u → t.natAbs < 2 ^ 90000 → u.natAbs < 2 ^ 90000 → Q (.ref p) H'
end Nc
end
section
set_option maxRecDepth 100000
set_option maxHeartbeats 4000000
namespace Nc
open PySem PySem.Spec PyProof.Rows L2 Evl
/-! ### coarser rules: a new object by what it holds -/
def tTupE (t : TA) : TE := fun σ H Q => t σ H fun xs H1 => xs.length ≤ sizeLine ∧ ∀ p H2, H1 p = none → Ex H1 H2 → H2 p = some (.tup xs) → Q (.ref p) H2
def tLstE (t : TA) : TE := fun σ H Q => t σ H fun xs H1 => xs.length ≤ sizeLine ∧ ∀ p H2, H1 p = none → Ex H1 H2 → H2 p = some (.lst xs) → Q (.ref p) H2
def tDicE : TE := fun _ H Q => ∀ p H2, H p = none → Ex H H2 → H2 p = some (.dK []) → Q (.ref p) H2
section
variable {X : Cx} {es : List Expr} {t : TA} {pos : Pos}
theorem pe_tupE {x1} (h : PA X es t) : PE X (.Tuple es x1 pos) (tTupE t) := by
  constructor
  intro pins s σ H Q I hq
  refine wpAny_Tuple_spliced (thn (h.run _ pins s σ H _ I hq) ?_)
  rintro us s2 ⟨vs, H2, J, rv, sz, k⟩
  have fr := J.fresh
  refine ⟨rv.length ▸ sz, .ref _, _, J.laid (o := .tup vs) (t' := s2.toks) (fun _ _ => Heap.get?_push_of_some _) (Nat.le_refl _) ⟨sz, us, rv, _, Heap.get?_push_size _ rfl, rfl, _, rfl⟩, rfl, k _ _ fr (Ex.new fr) upd_same⟩
theorem pe_lstE (h : PA X es t) : PE X (.List es pos) (tLstE t) := by
  constructor
  intro pins s σ H Q I hq
  refine wpAny_List_spliced (thn (h.run _ pins s σ H _ I hq) ?_)
  rintro us s2 ⟨vs, H2, J, rv, sz, k⟩
  have fr := J.fresh
  refine ⟨rv.length ▸ sz, .ref _, _, J.laid (o := .lst vs) (t' := s2.toks) (fun _ _ => Heap.get?_push_of_some _) (Nat.le_refl _) ⟨sz, us, 0, rv, Heap.get?_push_size _ rfl⟩, rfl, k _ _ fr (Ex.new fr) upd_same⟩
theorem pe_dicE : PE X (.Dict [] [] pos) tDicE := ⟨fun pins s σ H Q I h => pe_dnewK.run pins s σ H Q I fun p hp => h p _ hp (Ex.new hp) upd_same⟩
def rCatE : R2 := fun x y H Q => ∃ l b xs zs, x = .ref l ∧ y = .ref b ∧ H l = some (.lst xs) ∧ H b = some (.lst zs) ∧ xs.length + zs.length ≤ sizeLine ∧ ∀ p H2, H p = none → Ex H H2 → H2 p = some (.lst (xs ++ zs)) → Q (.ref p) H2
theorem op_catE : OpR X (binaryOp .Add) rCatE := by
  intro pins s σ H x y v u Q I rx ry h
  obtain ⟨l, b, xs, zs, e1, e2, hH, hB, hz, q⟩ := h
  exact op_cat pins s σ H x y v u Q I rx ry ⟨l, b, xs, zs, e1, e2, hH, hB, hz, fun p hp => q p _ hp (Ex.new hp) upd_same⟩
def rSlE (K : PySem.W.Frag) : V → Option Int → Option Int → Hp → VK → Prop := fun x lo hi H Q => ∃ a xs, x = .ref a ∧ SqL K H a xs ∧ ∀ p H2, H p = none → Ex H H2 → H2 p = some (.lst (cutV xs lo hi)) → Q (.ref p) H2
theorem sl_listE : SlR X (rSlE X.K) := by
  intro pins s σ H x v vl vu lo hi sl Q I rx hs pl pu h
  obtain ⟨a, xs, e, hx, q⟩ := h
  exact sl_list pins s σ H x v vl vu lo hi sl Q I rx hs pl pu ⟨a, xs, e, hx, fun p hp => q p _ hp (Ex.new hp) upd_same⟩
def rTupE (K : PySem.W.Frag) : List V → Hp → VK → Prop := fun vs H Q => ∃ p ys, vs = [.ref p] ∧ SqL K H p ys ∧ ∀ l H2, H l = none → Ex H H2 → H2 l = some (.tup ys) → Q (.ref l) H2
theorem call_tupE : CallR X (.type "tuple") (rTupE X.K) := by
  intro pins s σ H vs us Q I r h
  obtain ⟨p, ys, e, hq, q⟩ := h
  exact call_tuple_of pins s σ H vs us Q I r ⟨p, ys, e, .inl ⟨hq, fun p hp => q p _ hp (Ex.new hp) upd_same⟩⟩
def rLstE (K : PySem.W.Frag) : List V → Hp → VK → Prop := fun vs H Q => ∃ p ys, vs = [.ref p] ∧ SqL K H p ys ∧ ∀ l H2, H l = none → Ex H H2 → H2 l = some (.lst ys) → Q (.ref l) H2
theorem call_lstE : CallR X (.type "list") (rLstE X.K) := by
  intro pins s σ H vs us Q I r h
  obtain ⟨p, ys, e, hq, q⟩ := h
  exact call_list_of pins s σ H vs us Q I r ⟨p, ys, e, .inl hq, fun p hp => q p _ hp (Ex.new hp) upd_same⟩
/-! ### a list == [] -/
def rEqNil (K : PySem.W.Frag) : R2 := fun x y H Q => ∃ a b xs, x = .ref a ∧ y = .ref b ∧ SqL K H a xs ∧ SqL K H b [] ∧ Q (.bl xs.isEmpty) H
theorem op_eqNil (hu : X.A.units + 64 < cLine) : OpR X (compareOp .Eq) (rEqNil X.K) := by
  intro pins s σ H x y v u Q I rx ry h
  obtain ⟨a, b, xs, rfl, rfl, ha, hb, q⟩ := h
  cases rx
  cases ry
  obtain ⟨its, r1, p1, _⟩ := I.list ha
  obtain ⟨its2, r2, p2, _⟩ := I.list hb
  cases r2
  cases r1 with
  | nil =>
    refine SeqAt.eq_listAt (e := fun _ => true) p1.isList p2.isList rfl (by omega) (fun j h1 _ => absurd h1 (Nat.not_lt_zero j)) ?_
    exact ⟨.bl true, H, I, rfl, q⟩
  | cons h1 h2 =>
    refine SeqAt.eq_list_lengthsAt p1.isList p2.isList (by simp) (by omega) ?_
    exact ⟨.bl false, H, I, rfl, q⟩
end
/-! ### a def of the top whose promise holds where no repr is under way -/
structure GO (P : Program) (w : World) (K : PySem.W.Frag) (mg : Str → Option Value) (base : Heap) (k : Nat) (x : Str) (ps : List Str) (sp : Sp) : Prop where
  ex : ∃ f fd, mg x = some (.ref f) ∧ PySem.W.keepIn K (.ref f) = true ∧ GOk P w K mg base k f fd ps sp ∧ Binds K fd ps []
theorem Df.go {P : Program} {w : World} {K : PySem.W.Frag} {mg : Str → Option Value} {base : Heap} {k : Nat} {x : Str} {st : Stmt} {ps : List Str} {sp : Sp} (D : Df K mg x st ps)
    (h : ∀ f fd, Fun K x x st f fd → GOk P w K mg base k f fd ps sp) : GO P w K mg base k x ps sp := by
  obtain ⟨f, fd, g, F, b⟩ := D.ex
  exact ⟨f, fd, g, F.kp, h f fd F, b⟩
section
variable {X : Cx} {k : Nat} {x : Str} {ps : List Str} {sp : Sp} {e : Expr} {es : List Expr} {t : TA} {p pos : Pos}
theorem clg (D : GO X.prog X.w X.K X.mg X.base k x ps sp) (hG : X.A.guards = some []) (hr : Room k X.A) (ha : PA X (e :: es) t) (hg : Gl X x := by rfl) (hdb : (x == ("__debug__" : Str)) = false := by decide)
    (he : starEach (e :: es) X.env = (false, eval e X.env) :: starEach es X.env := by rfl) (hpl : (backTo pos (starEach es X.env)).any (·.1) = false := by rfl) : PE X (.Call (.Name x p) (e :: es) [] pos) (tCall sp [] E0 t) := by
  obtain ⟨f, fd, g, kp, F, b⟩ := D.ex
  exact clG F hG hr g kp b ha hg hdb he hpl
end
/-! ### kinds -/
inductive Kn where
  | non | bl | int | str | tup | lst | dic
  deriving DecidableEq
def Kn.nm : Kn → String
  | .non => "NoneType" | .bl => "bool" | .int => "int" | .str => "str" | .tup => "tuple" | .lst => "list" | .dic => "dict"
def KdV (K : PySem.W.Frag) (H : Hp) (v : V) (k : Kn) : Prop := TyX K H v (.type k.nm) ∧ (k = .int → ∃ i, v = .int i)
theorem kd_int (k : Kn) : kitB k.nm "int" = some (decide (k = .int) || decide (k = .bl)) := by cases k <;> decide +kernel
theorem kd_bool (k : Kn) : kitB k.nm "bool" = some (decide (k = .bl)) := by cases k <;> decide +kernel
theorem kd_tup (k : Kn) : kitB k.nm "tuple" = some (decide (k = .tup)) := by cases k <;> decide +kernel
section
variable {K : PySem.W.Frag} {H H' : Hp} {s : Addr}
theorem tyL {t : Addr} {xs : List V} (q : SqL K H t xs) : TyX K H (.ref t) (.type "list") := by
  rcases q with (q | ⟨o, q⟩) | ⟨o, us, n, hk, hc, _⟩
  · exact .base (.lst q)
  · exact .base (.frz q)
  · exact .kList hk (by assumption)
/-- a small thing -/
inductive Lf : V → Prop
  | non : Lf .non
  | bl (b : Bool) : Lf (.bl b)
  | int (i : Int) (h : i.natAbs < 2 ^ 250) : Lf (.int i)
  | str (x : Str) (h : x ∈ [("1" : Str), "1/2", "", "a", "a b", "late", "b", "c"]) : Lf (.str x)
theorem Lf.kd {v : V} (h : Lf v) : ∃ k, KdV K H v k ∧ k ≠ .tup := by
  cases h with
  | non => exact ⟨.non, ⟨.base .non, fun z => by cases z⟩, by decide⟩
  | bl b => exact ⟨.bl, ⟨.base (.bl b), fun z => by cases z⟩, by decide⟩
  | int i h => exact ⟨.int, ⟨.base (.int i), fun _ => ⟨i, rfl⟩⟩, by decide⟩
  | str x h => exact ⟨.str, ⟨.base (.str x), fun z => by cases z⟩, by decide⟩
/-- a thing as the law draws it: s is the stream -/
inductive Bt (K : PySem.W.Frag) (s : Addr) (H : Hp) : V → Prop
  | leaf {v} (h : Lf v) : Bt K s H v
  | tup {t xs} (q : SqT K H t xs) (h : ∀ x ∈ xs, Lf x) (n : xs.length ≤ 3) : Bt K s H (.ref t)
  | lst {a xs} (q : H a = some (.lst xs)) (e : a ≠ s) (h : ∀ x ∈ xs, Lf x) (n : xs.length ≤ 3) : Bt K s H (.ref a)
  | dic {a} (q : H a = some (.dK [])) : Bt K s H (.ref a)
  | two {t u xs} (q : SqT K H t [.ref u, .ref u]) (p : SqT K H u xs) (h : ∀ x ∈ xs, Lf x) (n : xs.length ≤ 3) : Bt K s H (.ref t)
theorem Bt.ex {v : V} (e : Ex H H') (h : Bt K s H v) : Bt K s H' v := by
  cases h with
  | leaf h => exact .leaf h
  | tup q h n => exact .tup (ex_t e q) h n
  | lst q d h n => exact .lst (e _ _ q) d h n
  | dic q => exact .dic (e _ _ q)
  | two q p h n => exact .two (ex_t e q) (ex_t e p) h n
theorem Bt.dr {v : V} (hs : Stm s H) (d : Dr s H H') (h : Bt K s H v) : Bt K s H' v := by
  cases h with
  | leaf h => exact .leaf h
  | tup q h n => exact .tup (sqt_dr hs d q) h n
  | lst q e h n => exact .lst (d.keep _ _ e q) e h n
  | dic q =>
    obtain ⟨a, b, c, e⟩ := id hs
    exact .dic (d.keep _ _ (ne_of q e (by intro z; cases z)) q)
  | two q p h n => exact .two (sqt_dr hs d q) (sqt_dr hs d p) h n
theorem FrV.bt {v : V} {r : Rat} (h : FrV K H v r) (z : Sz 250 250 r) : Bt K s H v := by
  obtain ⟨t, rfl, q⟩ := h
  refine .tup q (fun x hx => ?_) (by show 2 ≤ 3; decide)
  simp only [List.mem_cons, List.not_mem_nil, or_false] at hx
  rcases hx with rfl | rfl
  · exact .int _ z.1
  · exact .int _ z.den
/-- whether a thing is a fraction -/
inductive Th (K : PySem.W.Frag) (H : Hp) : V → Bool → Prop
  | oth {v k} (h : KdV K H v k) (n : k ≠ .tup) : Th K H v false
  | tupN {t xs} (q : SqT K H t xs) (n : xs.length ≠ 2) : Th K H (.ref t) false
  | two {t x y kx ky} (q : SqT K H t [x, y]) (hx : KdV K H x kx) (hy : KdV K H y ky) (n : ¬ (kx = .int ∧ ky = .int)) : Th K H (.ref t) false
  | nums {t a b} (q : SqT K H t [.int a, .int b]) : Th K H (.ref t) (decide (0 < b) && decide (Nat.gcd a.natAbs b.natAbs = 1))
theorem th_tup {t : Addr} {xs : List V} (q : SqT K H t xs) (h : ∀ x ∈ xs, ∃ k, KdV K H x k) : ∃ b, Th K H (.ref t) b := by
  match xs, q, h with
  | [], q, _ => exact ⟨_, .tupN q (by simp)⟩
  | [_], q, _ => exact ⟨_, .tupN q (by simp)⟩
  | _ :: _ :: _ :: _, q, _ => exact ⟨_, .tupN q (by simp)⟩
  | [x, y], q, h =>
    obtain ⟨kx, hx⟩ := h x (by simp)
    obtain ⟨ky, hy⟩ := h y (by simp)
    by_cases e : kx = .int ∧ ky = .int
    · obtain ⟨a, rfl⟩ := hx.2 e.1
      obtain ⟨b, rfl⟩ := hy.2 e.2
      exact ⟨_, .nums q⟩
    · exact ⟨_, .two q hx hy e⟩
theorem Bt.th {v : V} (h : Bt K s H v) : ∃ b, Th K H v b := by
  cases h with
  | leaf h =>
    obtain ⟨k, hk, n⟩ := h.kd (K := K) (H := H)
    exact ⟨_, .oth hk n⟩
  | tup q h n => exact th_tup q fun x hx => (h x hx).kd.imp fun _ => And.left
  | lst q e h n => exact ⟨_, .oth (k := .lst) ⟨tyL (sq_of q), fun z => by cases z⟩ (by decide)⟩
  | dic q => exact ⟨_, .oth (k := .dic) ⟨.base (.dK q), fun z => by cases z⟩ (by decide)⟩
  | two q p h n =>
    refine th_tup q fun x hx => ?_
    simp only [List.mem_cons, List.not_mem_nil, or_false, or_self] at hx
    subst hx
    exact ⟨.tup, tyT p, fun z => by cases z⟩
theorem Bt.kd {v : V} (h : Bt K s H v) : ∃ k, KdV K H v k := by
  cases h with
  | leaf h => exact h.kd.imp fun _ => And.left
  | tup q h n => exact ⟨.tup, tyT q, fun z => by cases z⟩
  | lst q e h n => exact ⟨.lst, tyL (sq_of q), fun z => by cases z⟩
  | dic q => exact ⟨.dic, .base (.dK q), fun z => by cases z⟩
  | two q p h n => exact ⟨.tup, tyT q, fun z => by cases z⟩
end
/-! ### repr of such things -/
/-- what repr of v tells here -/
inductive Rp (K : PySem.W.Frag) (H : Hp) : V → Str → Prop
  | non : Rp K H .non "None"
  | bl (b : Bool) : Rp K H (.bl b) (if b then "True" else "False")
  | int (i : Int) (h : i.natAbs.log2 < 1920) : Rp K H (.int i) (toString i)
  | str (x : Str) (h : (reprText x).length ≤ sizeLine) : Rp K H (.str x) (reprText x)
  | dat {a d} (h : Dp K H (.ref a) d) (h1 : d.showable = true) (h2 : d.hasDict = false) (h3 : d.depth ≤ 60) (h4 : d.shown.length ≤ sizeLine) : Rp K H (.ref a) d.shown
  | dic {a} (q : H a = some (.dK [])) : Rp K H (.ref a) (PyData.dict []).shown
def rRp (K : PySem.W.Frag) : List V → Hp → VK → Prop := fun vs H Q => ∃ v x, vs = [v] ∧ Rp K H v x ∧ Q (.str x) H
theorem room {u : Nat} (hu : u + 64 < cLine) : u + ((PyData.dict []).depth + 1) < cLine := by
  have : (PyData.dict []).depth ≤ 2 := by decide
  omega
theorem call_rp {X : Cx} (hG : X.A.guards = some []) (hu : X.A.units + 64 < cLine) : CallR X (.builtin "repr") (rRp X.K) := by
  intro pins s σ H xs us Q I r h
  obtain ⟨v, x, rfl, h, q⟩ := h
  cases h with
  | non =>
    obtain ⟨u, rfl, rx⟩ := vals1 r
    cases (show u = Value.none from rx)
    exact PySem.P.repr_of_none ⟨.str _, H, I.tok _, ⟨_, rfl⟩, q⟩
  | bl b =>
    obtain ⟨u, rfl, rx⟩ := vals1 r
    cases (show u = Value.bool b from rx)
    exact PySem.P.repr_of_bool ⟨.str _, H, I.tok _, ⟨_, rfl⟩, q⟩
  | int i hz =>
    obtain ⟨u, rfl, t, rfl⟩ := vals1 r
    exact PySem.P.repr_of_int hz ⟨.str _, H, I.tok _, ⟨_, rfl⟩, q⟩
  | str x hz =>
    obtain ⟨u, rfl, t, rfl⟩ := vals1 r
    exact PySem.P.repr_of_str ⟨.str _, H, I.tok _, ⟨_, rfl⟩, q⟩ hz
  | dat h h1 h2 h3 h4 => exact call_reprD hG hu pins s σ H _ us Q I r ⟨_, _, rfl, h, ⟨_, rfl⟩, h1, h2, h3, h4, q⟩
  | @dic a hq =>
    obtain ⟨u, rfl, rx⟩ := vals1 r
    cases (show u = Value.ref a from rx)
    obtain ⟨_, ya, va, ra, o, es, ep, g1, g2, g3, g4⟩ := (show ObjOk X.prog X.w H s.heap a (.dK []) from I.hok a _ hq)
    cases ra
    have he : es.toList = [] := by
      have hp := g4.2.1
      generalize es.toList = l at hp
      cases hp
      rfl
    have R : Reads s.heap (.ref a) (.dict []) ([a] ++ [] ++ []) := by
      refine Reads.dict g1 g2.1 g3 ?_ ?_
      · rw [he]
        exact .nil
      · rw [he]
        exact .nil
    refine repr_of_reads' R rfl (fun _ hm => ?_) hG (room hu) (fun _ _ z => z) (fun h' u tk kp => ⟨.str _, H, I.kept (t' := tk) kp, ⟨u, rfl⟩, q⟩) (by decide)
    simp only [List.append_nil, List.mem_singleton] at hm
    subst hm
    simp at ya
/-! ### data of such things -/
def lfD : V → PyData
  | .bl b => .bool b
  | .int i => .int i
  | .str x => .str x
  | _ => .none
section
variable {K : PySem.W.Frag} {H : Hp} {s : Addr}
theorem Lf.dp {v : V} (h : Lf v) : Dp K H v (lfD v) := by
  cases h with
  | non => exact .non
  | bl b => exact .bl b
  | int i h => exact .int i
  | str x h => exact .str x
theorem lfs_dp : ∀ {xs : List V}, (∀ x ∈ xs, Lf x) → DpAll K H xs (xs.map lfD)
  | [], _ => .nil
  | x :: xs, h => .cons (h x (by simp)).dp (lfs_dp fun y hy => h y (by simp [hy]))
theorem log2_lt {i : Int} (h : i.natAbs < 2 ^ 250) : i.natAbs.log2 < 1920 := Nat.lt_of_lt_of_le (PySem.Flt.log2_lt_of (by decide) h) (by decide)
theorem Lf.sh {v : V} (h : Lf v) : (lfD v).showable = true ∧ (lfD v).hasDict = false ∧ (lfD v).depth = 0 ∧ (lfD v).leavesShort 92 = true ∧ (lfD v).bulk ≤ 4 := by
  cases h with
  | non => exact ⟨rfl, rfl, rfl, rfl, by decide⟩
  | bl b => exact ⟨rfl, rfl, rfl, rfl, by show 0 ≤ 4; decide⟩
  | int i h =>
    refine ⟨decide_eq_true (log2_lt h), rfl, rfl, decide_eq_true ?_, by show 0 ≤ 4; decide⟩
    have h10 : i.natAbs < 10 ^ 91 := Nat.lt_of_lt_of_le h (by decide +kernel)
    have := int_text_length_le10 (k := 91) (by decide) h10
    show (Str.ofString (toString i)).length ≤ 92
    rw [PySem.ofString_length]
    exact this
  | str x h =>
    simp only [List.mem_cons, List.not_mem_nil, or_false] at h
    rcases h with rfl | rfl | rfl | rfl | rfl | rfl | rfl | rfl <;> exact ⟨rfl, rfl, rfl, by decide, by decide⟩
theorem lfs_sh : ∀ {xs : List V}, (∀ x ∈ xs, Lf x) → PyData.showableAll (xs.map lfD) = true ∧ PyData.hasDictAll (xs.map lfD) = false ∧ PyData.depthAll (xs.map lfD) = 0 ∧ PyData.leavesShortAll 92 (xs.map lfD) = true ∧ PyData.bulkAll (xs.map lfD) ≤ 5 * xs.length
  | [], _ => ⟨rfl, rfl, rfl, rfl, Nat.le_refl _⟩
  | x :: xs, h => by
    obtain ⟨a1, a2, a3, a4, a5⟩ := (h x (by simp)).sh
    obtain ⟨b1, b2, b3, b4, b5⟩ := lfs_sh (xs := xs) fun y hy => h y (by simp [hy])
    simp only [List.map_cons, PyData.showableAll, PyData.hasDictAll, PyData.depthAll, PyData.leavesShortAll, PyData.bulkAll, a1, a2, a3, a4, b1, b2, b3, b4, Bool.and_self, Bool.or_self, List.length_cons, Nat.max_self, true_and]
    omega
theorem shown_fits {d : PyData} (h : d.leavesShort 92 = true) (hb : d.bulk ≤ 60) : d.shown.length ≤ sizeLine := by
  have h1 := PyData.shown_le_bulk 92 (by decide) d h
  have h2 : (92 + 2) * d.bulk + 92 ≤ 10000 := by omega
  have h3 : 10000 ≤ sizeLine := by decide
  omega
theorem Bt.rp {v : V} (h : Bt K s H v) : ∃ x, Rp K H v x := by
  cases h with
  | leaf h =>
    cases h with
    | non => exact ⟨_, .non⟩
    | bl b => exact ⟨_, .bl b⟩
    | int i h => exact ⟨_, .int i (log2_lt h)⟩
    | str x h =>
      refine ⟨_, .str x ?_⟩
      obtain ⟨_, _, _, a4, a5⟩ := (Lf.str x h).sh
      have z := shown_fits a4 (by omega)
      simpa only [lfD, PyData.shown] using z
  | tup q h n =>
    obtain ⟨b1, b2, b3, b4, b5⟩ := lfs_sh h
    refine ⟨_, .dat (.tup q (lfs_dp h)) b1 b2 ?_ (shown_fits b4 ?_)⟩
    · show PyData.depthAll _ + 1 ≤ 60
      omega
    · show PyData.bulkAll _ ≤ 60
      omega
  | lst q e h n =>
    obtain ⟨b1, b2, b3, b4, b5⟩ := lfs_sh h
    refine ⟨_, .dat (.lst (sq_of q) (lfs_dp h)) b1 b2 ?_ (shown_fits b4 ?_)⟩
    · show PyData.depthAll _ + 1 ≤ 60
      omega
    · show PyData.bulkAll _ ≤ 60
      omega
  | dic q => exact ⟨_, .dic q⟩
  | @two t u xs q p h n =>
    obtain ⟨b1, b2, b3, b4, b5⟩ := lfs_sh h
    have hd : Dp K H (.ref u) (.tuple (xs.map lfD)) := .tup p (lfs_dp h)
    refine ⟨_, .dat (d := .tuple [.tuple (xs.map lfD), .tuple (xs.map lfD)]) (.tup q (.cons hd (.cons hd .nil))) ?_ ?_ ?_ (shown_fits ?_ ?_)⟩
    · simp only [PyData.showable, PyData.showableAll, b1, Bool.and_self]
    · simp only [PyData.hasDict, PyData.hasDictAll, b2, Bool.or_self]
    · simp only [PyData.depth, PyData.depthAll, b3]
      decide
    · simp only [PyData.leavesShort, PyData.leavesShortAll, b4, Bool.and_self]
    · simp only [PyData.bulk, PyData.bulkAll]
      omega
end
end Nc
end
set_option maxRecDepth 100000
set_option maxHeartbeats 4000000
namespace Nc
open PySem PySem.Spec PyProof.Rows L2 Evl
section
variable {K : PySem.W.Frag} {H H' : Hp}
/-! ### nodes, layers -/
def NodesV (K : PySem.W.Frag) (H : Hp) (v : V) (zs : List Sum2) : Prop := ∃ t xs, v = .ref t ∧ SqT K H t xs ∧ Paired (SumV K H) xs zs
theorem NodesV.ex {v : V} {zs : List Sum2} (e : Ex H H') (h : NodesV K H v zs) : NodesV K H' v zs := by
  obtain ⟨t, xs, rfl, q, l⟩ := h
  exact ⟨t, xs, rfl, ex_t e q, pmono (fun _ _ => SumV.ex e) l⟩
def NodeOk (n : Nat) (zs : List Sum2) : Prop := ∀ z ∈ zs, z.1.length = n ∧ SzL 100 100 z.1 ∧ Sz 100 100 z.2
def LayerAt (C : Addr) (H : Hp) (p : Addr) (v : V) : Prop := ∃ dx, H p = some (.ins C dx [(("_nodes" : Str), v)])
theorem LayerAt.ex {C p : Addr} {v : V} (e : Ex H H') (h : LayerAt C H p v) : LayerAt C H' p v := by
  obtain ⟨dx, h⟩ := h
  exact ⟨dx, e _ _ h⟩
def cutR (r : Rat) : Rat := if r.num < 0 then 0 else r
def passR (c : Bool) (l : List Rat) : List Rat := if c = true then l.map cutR else l
/-! ### methods -/
structure Md (K : PySem.W.Frag) (C : Addr) (m qual : Str) (st : Stmt) (ps : List Str) : Prop where
  ex : ∃ f fd, Meth K C m f ∧ Fun K m qual st f fd ∧ Binds K fd ps []
structure MOk (P : Program) (w : World) (K : PySem.W.Frag) (mg : Str → Option Value) (base : Heap) (k : Nat) (C : Addr) (m : Str) (ps : List Str) (sp : Sp) : Prop where
  ex : ∃ f fd, Meth K C m f ∧ FnOk P w K mg base CX0 k f fd ps sp ∧ Binds K fd ps []
theorem Md.ok {P : Program} {w : World} {mg : Str → Option Value} {base : Heap} {k : Nat} {C : Addr} {m qual : Str} {st : Stmt} {ps : List Str} {sp : Sp} (D : Md K C m qual st ps)
    (h : ∀ f fd, Fun K m qual st f fd → FnOk P w K mg base CX0 k f fd ps sp) : MOk P w K mg base k C m ps sp := by
  obtain ⟨f, fd, g, F, b⟩ := D.ex
  exact ⟨f, fd, g, h f fd F, b⟩
/-! ### promises -/
def spReck (K : PySem.W.Frag) : Sp := fun vs H Q _ => ∃ (x y : V) (zs : List Sum2) (L : List Rat), vs = [x, y] ∧ NodesV K H x zs ∧ RowV K H y L ∧ NodeOk L.length zs ∧ L.length ≤ 20 ∧ zs.length ≤ 50 ∧ SzL 100 100 L ∧ ∀ v H', Ex H H' → RowV K H' v (zs.map fun z => tells z L) → Q v H'
def spCutN (K : PySem.W.Frag) : Sp := fun vs H Q _ => ∃ (x : V) (r : Rat), vs = [x] ∧ FrV K H x r ∧ ∀ v, FrV K H v (cutR r) → Q v H
def spInitL (K : PySem.W.Frag) (C : Addr) : Sp := fun vs H Q _ => ∃ (p dx a : Addr) (xs : List V) (zs : List Sum2), vs = [.ref p, .ref a] ∧ H p = some (.ins C dx []) ∧ (SqL K H a xs ∨ SqT K H a xs) ∧ Paired (SumV K H) xs zs ∧
  ∀ H' v, (∀ b o, b ≠ p → H b = some o → H' b = some o) → LayerAt C H' p v → NodesV K H' v zs → Q .non H'
def spToldL (C : Addr) : Sp := fun vs H Q _ => ∃ (p : Addr) (v : V), vs = [.ref p] ∧ LayerAt C H p v ∧ Q v H
def spPass (K : PySem.W.Frag) (C : Addr) (c : Bool) : Sp := fun vs H Q _ => ∃ (p : Addr) (v y : V) (zs : List Sum2) (L : List Rat), vs = [.ref p, y] ∧ LayerAt C H p v ∧ NodesV K H v zs ∧ RowV K H y L ∧ NodeOk L.length zs ∧ L.length ≤ 20 ∧ zs.length ≤ 50 ∧ SzL 100 100 L ∧
  ∀ v H', Ex H H' → RowV K H' v (passR c (zs.map fun z => tells z L)) → Q v H'
def spIsRow (K : PySem.W.Frag) : Sp := fun vs H Q _ => ∃ (x y : V) (L : List Rat), vs = [x, y] ∧ RowV K H x L ∧ RowV K H y L ∧ L.length ≤ 100 ∧ ∀ H', Ex H H' → Q (.bl true) H'
def spNode (K : PySem.W.Frag) : Sp := fun vs H Q _ => ∃ (s : Addr) (k : Nat), vs = [.ref s, .int (k : Int)] ∧ Stm s H ∧ k ≤ 20 ∧ ∀ v z H', Dr s H H' → SumV K H' v z → z.1.length = k → SzL 100 100 z.1 → Sz 100 100 z.2 → Q v H'
def spOne (K : PySem.W.Frag) (C : Addr) (c : Bool) : Sp := fun vs H Q _ => ∃ (p an ar : Addr) (v : V) (xs ys : List V) (zs : List Sum2) (Ls : List (List Rat)) (n : Nat), vs = [.ref p, .bl c, .ref an, .ref ar] ∧ LayerAt C H p v ∧ NodesV K H v zs ∧ SqL K H an xs ∧ Paired (SumV K H) xs zs ∧
  SqL K H ar ys ∧ Paired (RowV K H) ys Ls ∧ NodeOk n zs ∧ (∀ L ∈ Ls, L.length = n ∧ SzL 100 100 L) ∧ n ≤ 20 ∧ zs.length ≤ 50 ∧ ∀ H', Ex H H' → Q (.bl true) H'
/-! ### data of nodes -/
theorem sums_dp : ∀ {xs : List V} {zs : List Sum2}, Paired (SumV K H) xs zs → DpAll K H xs (zs.map sd)
  | _, _, .nil => .nil
  | _, _, .cons a t => .cons a.dp (sums_dp t)
end
theorem lay_sds : ∀ zs : List Sum2, PyData.canLayAll0 (zs.map sd) = true
  | [] => rfl
  | z :: zs => by
    show ((sd z).canLay0 && PyData.canLayAll0 (zs.map sd)) = true
    rw [lay_sd, lay_sds zs]
    rfl
theorem depth_sds : ∀ zs : List Sum2, PyData.depthAll (zs.map sd) ≤ 4
  | [] => Nat.zero_le _
  | z :: zs => by
    have ih := depth_sds zs
    have h1 := depthAll_fd z.1
    have h2 : PyData.depth (fd z.2) = 1 := rfl
    show max (max (PyData.depthAll (z.1.map fd) + 1) (max (PyData.depth (fd z.2)) 0) + 1) (PyData.depthAll (zs.map sd)) ≤ 4
    omega
theorem shaped_sds (zs : List Sum2) : SeqAt.shaped (.tuple (zs.map sd)) = true := by
  unfold SeqAt.shaped
  have h : (PyData.tuple (zs.map sd)).canLay0 = true := lay_sds zs
  rw [h, Bool.true_and]
  refine decide_eq_true ?_
  have := depth_sds zs
  show PyData.depthAll (zs.map sd) + 1 ≤ 64
  omega
theorem eqv_sds (zs : List Sum2) : PyData.eqv (.tuple (zs.map sd)) (.tuple (zs.map sd)) = true := SeqAt.eqv_refl _ (lay_sds zs)
theorem sz_cut {r : Rat} : cutR r = 0 ∨ cutR r = r := by
  unfold cutR
  split
  · exact .inl rfl
  · exact .inr rfl
end Nc
section
namespace Nc
/-! ### bottoms that divide a shared number -/
theorem den_of_div {k : Int} {D : Nat} (hD : 0 < D) : (Rat.divInt k (D : Int)).den ∣ D := by
  rw [Rat.den_divInt, if_neg (by omega)]
  exact Nat.div_dvd_of_dvd (Nat.gcd_dvd_left _ _)
theorem div_of_den {r : Rat} {D : Nat} (hD : 0 < D) (h : r.den ∣ D) : ∃ k : Int, r = Rat.divInt k (D : Int) := by
  obtain ⟨c, rfl⟩ := h
  have hc : 0 < c := Nat.pos_of_ne_zero fun z => by
    rw [z, Nat.mul_zero] at hD
    omega
  refine ⟨r.num * (c : Int), ?_⟩
  rw [Int.natCast_mul, Rat.divInt_mul_right (by omega), Rat.num_divInt_den]
/-- a top below 2 ^ n, a bottom that divides D -/
def Sv (n D : Nat) (r : Rat) : Prop := r.num.natAbs < 2 ^ n ∧ r.den ∣ D
def SvL (n D : Nat) (l : List Rat) : Prop := ∀ r ∈ l, Sv n D r
theorem Sv.mono {n m D E : Nat} {r : Rat} (h : Sv n D r) (hn : n ≤ m) (hD : D ∣ E) : Sv m E r := ⟨lt_mono h.1 hn, Nat.dvd_trans h.2 hD⟩
theorem SvL.mono {n m D E : Nat} {l : List Rat} (h : SvL n D l) (hn : n ≤ m) (hD : D ∣ E) : SvL m E l := fun r hr => (h r hr).mono hn hD
theorem Sv.sz {n D d : Nat} {r : Rat} (h : Sv n D r) (hD : 0 < D) (hd : D < 2 ^ d) : Sz n d r := ⟨h.1, Nat.lt_of_le_of_lt (Nat.le_of_dvd hD h.2) hd⟩
theorem den_add {r s : Rat} {D : Nat} (hD : 0 < D) (hr : r.den ∣ D) (hs : s.den ∣ D) : (r + s).den ∣ D := by
  obtain ⟨a, rfl⟩ := div_of_den hD hr
  obtain ⟨b, rfl⟩ := div_of_den hD hs
  have e : Rat.divInt a (D : Int) + Rat.divInt b (D : Int) = Rat.divInt (a + b) (D : Int) := by
    rw [Rat.divInt_add_divInt _ _ (by omega) (by omega), ← Int.add_mul, Rat.divInt_mul_right (by omega)]
  rw [e]
  exact den_of_div hD
theorem den_mul (r s : Rat) : (r * s).den ∣ r.den * s.den := by
  have h1 := r.den_nz
  have h2 := s.den_nz
  have e := mul_is r s
  rw [← Int.natCast_mul] at e
  rw [← e]
  exact den_of_div (Nat.mul_pos (by omega) (by omega))
theorem sv_mul {n m D E : Nat} {r s : Rat} (hr : Sv n D r) (hs : Sv m E s) : Sv (n + m) (D * E) (r * s) := by
  refine ⟨?_, Nat.dvd_trans (den_mul r s) (Nat.mul_dvd_mul hr.2 hs.2)⟩
  rw [← mul_is]
  have h1 := den_pos r
  have h2 := den_pos s
  rw [← num_div (Int.mul_pos h1 h2)]
  exact Nat.lt_of_le_of_lt (natAbs_ediv_le _ _) (lt_mul hr.1 hs.1)
theorem sv_add {n m D d N : Nat} {r s : Rat} (hD : 0 < D) (hd : D < 2 ^ d) (hr : Sv n D r) (hs : Sv m D s) (h1 : n + d ≤ N := by omega) (h2 : m + d ≤ N := by omega) : Sv (N + 1) D (r + s) :=
  ⟨(sz_add (hr.sz hD hd) (hs.sz hD hd) h1 h2).1, den_add hD hr.2 hs.2⟩
theorem sv_zero {n D : Nat} (h : 0 < n) : Sv n D 0 := ⟨Nat.two_pow_pos n, Nat.one_dvd D⟩
theorem sv_weighs {n m W D d : Nat} (hWD : 0 < W * D) (hd : W * D < 2 ^ d) : ∀ (i : Nat) (l : List (Rat × Rat)), i ≤ l.length → (∀ p ∈ l, Sv n W p.1 ∧ Sv m D p.2) → Sv (1 + i * (n + m + d + 1)) (W * D) (weighs (l.take i))
  | 0, l, _, _ => by simpa [weighs] using (sv_zero (n := 1) (D := W * D) (by decide))
  | i + 1, l, h, hl => by
    have ih := sv_weighs hWD hd i l (by omega) hl
    have e1 : l[i]? = some l[i] := List.getElem?_eq_getElem (by omega)
    rw [weighs_take e1]
    have hp := hl l[i] (List.getElem_mem _)
    have := sv_add (N := i * (n + m + d + 1) + (n + m + d + 1)) hWD hd ih (sv_mul hp.1 hp.2) (by omega) (by omega)
    exact this.mono (by rw [Nat.add_mul]; omega) (Nat.dvd_refl _)
theorem sv_of_weighs {n m W D d : Nat} {a b : List Rat} (hWD : 0 < W * D) (hd : W * D < 2 ^ d) (ha : SvL n W a) (hb : SvL m D b) (hl : a.length = b.length) : Sv (1 + a.length * (n + m + d + 1)) (W * D) (weighs (a.zip b)) := by
  have h := sv_weighs hWD hd a.length (a.zip b) (by rw [List.length_zip]; omega) (fun p hp => ⟨ha _ (List.of_mem_zip hp).1, hb _ (List.of_mem_zip hp).2⟩)
  rwa [List.take_of_length_le (by rw [List.length_zip]; omega)] at h
theorem sv_tells {n m W D d : Nat} {s : Sum2} {row : List Rat} (hWD : 0 < W * D) (hd : W * D < 2 ^ d) (ha : SvL n W s.1) (hc : Sv n W s.2) (hb : SvL m D row) (hl : s.1.length = row.length) : Sv (1 + s.1.length * (n + m + d + 1) + n + d + 1) (W * D) (tells s row) :=
  sv_add (N := 1 + s.1.length * (n + m + d + 1) + n + d) hWD hd (sv_of_weighs hWD hd ha hb hl) (hc.mono (Nat.le_refl _) (Nat.dvd_mul_right _ _)) (by omega) (by omega)
/-! ### nets -/
def cutQ (r : Rat) : Rat := if r.num < 0 then 0 else r
theorem sv_cutQ {n D : Nat} {r : Rat} (h : Sv n D r) : Sv n D (cutQ r) := by
  unfold cutQ
  split
  · exact ⟨Nat.lt_of_le_of_lt (Nat.zero_le _) h.1, Nat.one_dvd D⟩
  · exact h
/-- what the nodes of all layers come to -/
def rowsAt : List (List Sum2) → List Rat → List (List Rat)
  | [], _ => []
  | l :: ls, x => (l.map fun z => tells z x) :: rowsAt ls ((l.map fun z => tells z x).map cutQ)
/-- the layers stand upon one another, the first over n things -/
def Over : Nat → List (List Sum2) → Prop
  | _, [] => True
  | n, l :: ls => (∀ z ∈ l, z.1.length = n) ∧ (1 ≤ l.length ∧ l.length ≤ 4) ∧ Over l.length ls
/-- all numbers of the layers: tops below 2 ^ n, bottoms dividing W -/
def Num (n : Nat) (W : Nat → Nat) (ls : List (List Sum2)) : Prop := ∀ (i : Nat) (l : List Sum2), ls[i]? = some l → ∀ z ∈ l, SvL n (W i) z.1 ∧ Sv n (W i) z.2
/-- the layers' bottoms together, those ahead of layer i -/
def pw (W : Nat → Nat) : Nat → Nat
  | 0 => 1
  | i + 1 => W i * pw W i
theorem pw_pos {W : Nat → Nat} (h : ∀ i, 0 < W i) : ∀ i, 0 < pw W i
  | 0 => Nat.one_pos
  | i + 1 => Nat.mul_pos (h i) (pw_pos h i)
theorem pw_mono {W : Nat → Nat} (h : ∀ i, 0 < W i) : ∀ {i j : Nat}, i ≤ j → pw W i ≤ pw W j
  | i, 0, hij => by
    have : i = 0 := by omega
    subst this
    exact Nat.le_refl _
  | i, j + 1, hij => by
    by_cases e : i = j + 1
    · subst e
      exact Nat.le_refl _
    · exact Nat.le_trans (pw_mono h (show i ≤ j by omega)) (Nat.le_mul_of_pos_left _ (h j))
theorem pw_const {W : Nat} : ∀ i, pw (fun _ => W) i = W ^ i
  | 0 => rfl
  | i + 1 => by
    show W * pw (fun _ => W) i = _
    rw [pw_const i, Nat.pow_succ, Nat.mul_comm]
/-- the tops' bits behind i layers -/
def tb : Nat → Nat
  | 0 => 1500
  | i + 1 => 1 + 4 * (1500 + tb i + 1601) + 3102
theorem tb_le : ∀ i, i ≤ 4 → tb i ≤ 1800000
  | 0, _ => by decide
  | 1, _ => by decide
  | 2, _ => by decide
  | 3, _ => by decide
  | 4, _ => by decide
theorem tb_le3 : ∀ i, i ≤ 3 → tb i ≤ 430000
  | 0, _ => by decide
  | 1, _ => by decide
  | 2, _ => by decide
  | 3, _ => by decide
end Nc
end
section
set_option maxRecDepth 100000
set_option maxHeartbeats 4000000
namespace Nc
open PySem PySem.Spec PyProof.Rows L2 Evl
/-! ### kinds of things -/
def spWh (K : PySem.W.Frag) : Sp := fun vs H Q _ => ∃ v k, vs = [v] ∧ KdV K H v k ∧ Q (.bl (decide (k = .int))) H
def spFr (K : PySem.W.Frag) : Sp := fun vs H Q _ => ∃ v b, vs = [v] ∧ Th K H v b ∧ Q (.bl b) H
def spTold : Sp := fun vs H Q _ => ∃ a : Bool, vs = [.bl a, .bl a] ∧ Q (.bl true) H
/-- a row as the law draws it -/
inductive Rw (K : PySem.W.Frag) (H : Hp) : V → Option (List Bool) → Prop
  | oth {v k} (h : KdV K H v k) (n : k ≠ .tup) : Rw K H v none
  | tup {t xs bs} (q : SqT K H t xs) (p : Paired (Th K H) xs bs) (z : xs.length ≤ 100) : Rw K H (.ref t) (some bs)
def rwB : Option (List Bool) → Int → Bool
  | none, _ => false
  | some bs, k => decide ((bs.length : Int) = k) && bs.all id
def spIsRw (K : PySem.W.Frag) : Sp := fun vs H Q _ => ∃ (v : V) (k : Int) (f : Option (List Bool)), vs = [v, .int k] ∧ Rw K H v f ∧ ∀ H', Ex H H' → Q (.bl (rwB f k)) H'
theorem ifB {b : Bool} {A B : Prop} (h1 : b = true → A) (h2 : b = false → B) : if b = true then A else B := by
  cases b
  · exact iteF (h2 rfl)
  · exact iteT (h1 rfl)
theorem th_ex {K : PySem.W.Frag} {H H' : Hp} {v : V} {b : Bool} (kd : ∀ {v k}, KdV K H v k → KdV K H' v k) (e : Ex H H') (h : Th K H v b) : Th K H' v b := by
  cases h with
  | oth h n => exact .oth (kd h) n
  | tupN q n => exact .tupN (ex_t e q) n
  | two q hx hy n => exact .two (ex_t e q) (kd hx) (kd hy) n
  | nums q => exact .nums (ex_t e q)
theorem tyx_ex {K : PySem.W.Frag} {H H' : Hp} {v : V} {t : Value} (e : Ex H H') (h : TyX K H v t) : TyX K H' v t := by
  cases h with
  | base h =>
    cases h with
    | non => exact .base .non
    | bl x => exact .base (.bl x)
    | int x => exact .base (.int x)
    | str x => exact .base (.str x)
    | flt x => exact .base (.flt x)
    | lst q => exact .base (.lst (e _ _ q))
    | frz q => exact .base (.frz (e _ _ q))
    | tup q => exact .base (.tup (e _ _ q))
    | dK q => exact .base (.dK (e _ _ q))
    | dT q => exact .base (.dT (e _ _ q))
    | ins q cl ha hn htk hm => exact .base (.ins (e _ _ q) cl ha hn htk hm)
  | byt b => exact .byt b
  | set q => exact .set (e _ _ q)
  | kList q c => exact .kList q c
  | kTuple q c => exact .kTuple q c
  | kDict q c => exact .kDict q c
  | fTuple q => exact .fTuple (e _ _ q)
  | fDict q => exact .fDict (e _ _ q)
theorem kd_ex {K : PySem.W.Frag} {H H' : Hp} {v : V} {k : Kn} (e : Ex H H') (h : KdV K H v k) : KdV K H' v k := ⟨tyx_ex e h.1, h.2⟩
theorem th_exx {K : PySem.W.Frag} {H H' : Hp} {v : V} {b : Bool} (e : Ex H H') (h : Th K H v b) : Th K H' v b := th_ex (kd_ex e) e h
theorem eq_of_nd {a b : Int} (e : (!decide (V.int a = V.int b)) = false) : a = b := by
  by_cases h : V.int a = V.int b
  · exact V.int.inj h
  · rw [decide_eq_false h] at e
    cases e
theorem dec_int (n : Nat) : decide (V.int (n : Int) = V.int 1) = decide (n = 1) := by
  by_cases h : n = 1
  · rw [decide_eq_true h, h]
    decide
  · rw [decide_eq_false h]
    refine decide_eq_false fun z => h ?_
    have := V.int.inj z
    omega
theorem q_bl {a b : Bool} {Q : VK} {H : Hp} (q : Q (.bl b) H) (e : a = b) : Q (.bl a) H := by
  rw [e]
  exact q
theorem ne_of_nd {a b : Int} (e : (!decide (V.int a = V.int b)) = true) : decide (a = b) = false := by
  by_cases h : a = b
  · rw [decide_eq_true (congrArg V.int h)] at e
    cases e
  · exact decide_eq_false h
theorem of_nd {p : Prop} [Decidable p] (e : (!decide p) = false) : p := by
  by_cases h : p
  · exact h
  · rw [decide_eq_false h] at e
    cases e

section
variable {X : Cx} {e : Expr} {t1 t2 : TE}
/-- a term that is read in one of two ways -/
def tOr (t1 t2 : TE) : TE := fun σ H Q => t1 σ H Q ∨ t2 σ H Q
theorem pe_or (h1 : PE X e t1) (h2 : PE X e t2) : PE X e (tOr t1 t2) := ⟨fun pins s σ H Q I h => h.elim (h1.run pins s σ H Q I) (h2.run pins s σ H Q I)⟩
end
/-! ### the stream: a list, the last item of which tells how many long numbers are left -/
def Lst (s : Addr) (H : Hp) : Prop := ∃ xs, H s = some (.lst xs)
structure Dk (s : Addr) (H H' : Hp) : Prop where
  keep : ∀ a o, a ≠ s → H a = some o → H' a = some o
  st : Lst s H'
def St4 (s : Addr) (k : Nat) (H : Hp) : Prop := ∃ a b c : Int, H s = some (.lst [.int a, .int b, .int c, .int (k : Int)])
section
variable {K : PySem.W.Frag} {s p : Addr} {H H' H2 : Hp} {k : Nat}
theorem St4.lst (h : St4 s k H) : Lst s H := by
  obtain ⟨a, b, c, e⟩ := h
  exact ⟨_, e⟩
theorem Lst.ne (h : Lst s H) (hp : H p = none) : s ≠ p := by
  obtain ⟨xs, e⟩ := h
  exact ne_of_none e hp
theorem Lst.ex (h : Lst s H) (e : Ex H H') : Lst s H' := by
  obtain ⟨xs, q⟩ := h
  exact ⟨xs, e _ _ q⟩
theorem St4.ex (h : St4 s k H) (e : Ex H H') : St4 s k H' := by
  obtain ⟨a, b, c, q⟩ := h
  exact ⟨a, b, c, e _ _ q⟩
theorem St4.new {o : HO} (h : St4 s k H) (hp : H p = none) : St4 s k (upd H p o) := h.ex (Ex.new hp)
theorem St4.mut {o : HO} (h : St4 s k H) (hs : s ≠ p) : St4 s k (upd H p o) := by
  obtain ⟨a, b, c, q⟩ := h
  exact ⟨a, b, c, by rw [upd_ne hs]; exact q⟩
theorem Dk.refl (h : Lst s H) : Dk s H H := ⟨fun _ _ _ q => q, h⟩
theorem Dk.trans (a : Dk s H H') (b : Dk s H' H2) : Dk s H H2 := ⟨fun x o hx q => b.keep x o hx (a.keep x o hx q), b.st⟩
theorem Dk.ex (h : Lst s H) (e : Ex H H') : Dk s H H' := ⟨fun a o _ q => e a o q, h.ex e⟩
theorem Dk.new {o : HO} (h : Lst s H) (hp : H p = none) : Dk s H (upd H p o) := Dk.ex h (Ex.new hp)
theorem Dk.then (a : Dk s H H') (e : Ex H' H2) : Dk s H H2 := a.trans (Dk.ex a.st e)
theorem Dk.mut {o : HO} (d : Dk s H H') (hp : H p = none) (hs : s ≠ p) : Dk s H (upd H' p o) := ⟨fun a u ha q => by rw [upd_ne (ne_of_none q hp)]; exact d.keep a u ha q, by
  obtain ⟨xs, e⟩ := d.st
  exact ⟨xs, by rw [upd_ne hs]; exact e⟩⟩
theorem Dk.put {xs ys : List V} (h : H s = some (.lst xs)) : Dk s H (upd H s (.lst ys)) := ⟨fun x o hx q => by rw [upd_ne hx]; exact q, ⟨ys, upd_same⟩⟩
theorem sqt_dk {t : Addr} {xs : List V} (h : Lst s H) (d : Dk s H H') (q : SqT K H t xs) : SqT K H' t xs := by
  obtain ⟨ys, e⟩ := h
  rcases q with (q | ⟨o, q⟩) | q
  · exact .inl (.inl (d.keep _ _ (ne_of q e (by intro z; cases z)) q))
  · exact .inl (.inr ⟨o, d.keep _ _ (ne_of q e (by intro z; cases z)) q⟩)
  · exact .inr q
theorem FrV.dk {v : V} {r : Rat} (h : Lst s H) (d : Dk s H H') (q : FrV K H v r) : FrV K H' v r := by
  obtain ⟨t, rfl, q⟩ := q
  exact ⟨t, rfl, sqt_dk h d q⟩
theorem RowV.dk {v : V} {rs : List Rat} (h : Lst s H) (d : Dk s H H') (q : RowV K H v rs) : RowV K H' v rs := by
  obtain ⟨t, xs, rfl, q, l⟩ := q
  exact ⟨t, xs, rfl, sqt_dk h d q, pmono (fun _ _ => FrV.dk h d) l⟩
theorem SumV.dk {v : V} {z : Sum2} (h : Lst s H) (d : Dk s H H') (q : SumV K H v z) : SumV K H' v z := by
  obtain ⟨t, a, b, rfl, q, l, n⟩ := q
  exact ⟨t, a, b, rfl, sqt_dk h d q, l.dk h d, n.dk h d⟩
theorem NodesV.dk {v : V} {zs : List Sum2} (h : Lst s H) (d : Dk s H H') (q : NodesV K H v zs) : NodesV K H' v zs := by
  obtain ⟨t, xs, rfl, q, l⟩ := q
  exact ⟨t, xs, rfl, sqt_dk h d q, pmono (fun _ _ => SumV.dk h d) l⟩
theorem NodesV.mut {D : Addr} {xs : List V} {o : HO} {v : V} {zs : List Sum2} (hD : H D = some (.lst xs)) (h : NodesV K H v zs) : NodesV K (upd H D o) v zs := by
  obtain ⟨t, us, rfl, qt, lu⟩ := h
  exact ⟨t, us, rfl, sqt_mut hD qt, pmono (fun _ _ => SumV.mut hD) lu⟩
end
/-! ### layers as lists of lists -/
def LyV (K : PySem.W.Frag) (H : Hp) (v : V) (l : List Sum2) : Prop := ∃ a xs, v = .ref a ∧ SqL K H a xs ∧ Paired (SumV K H) xs l
def LayI (K : PySem.W.Frag) (H : Hp) (v : V) (ls : List (List Sum2)) : Prop := ∃ D ys, v = .ref D ∧ SqL K H D ys ∧ Paired (LyV K H) ys ls
/-- the same, lists that are no stream -/
def LyS (K : PySem.W.Frag) (s : Addr) (H : Hp) (v : V) (l : List Sum2) : Prop := ∃ a xs, v = .ref a ∧ a ≠ s ∧ H a = some (.lst xs) ∧ Paired (SumV K H) xs l
def LayS (K : PySem.W.Frag) (s : Addr) (H : Hp) (D : Addr) (ls : List (List Sum2)) : Prop := D ≠ s ∧ ∃ ys, H D = some (.lst ys) ∧ Paired (LyS K s H) ys ls
section
variable {K : PySem.W.Frag} {s p D : Addr} {H H' H2 : Hp} {k : Nat} {v : V} {l : List Sum2} {ls : List (List Sum2)}
theorem LyV.ex (e : Ex H H') (h : LyV K H v l) : LyV K H' v l := by
  obtain ⟨a, xs, rfl, q, p⟩ := h
  exact ⟨a, xs, rfl, ex_l e q, pmono (fun _ _ => SumV.ex e) p⟩
theorem LayI.ex (e : Ex H H') (h : LayI K H v ls) : LayI K H' v ls := by
  obtain ⟨D, ys, rfl, q, p⟩ := h
  exact ⟨D, ys, rfl, ex_l e q, pmono (fun _ _ => LyV.ex e) p⟩
theorem LyS.ex (e : Ex H H') (h : LyS K s H v l) : LyS K s H' v l := by
  obtain ⟨a, xs, rfl, n, q, p⟩ := h
  exact ⟨a, xs, rfl, n, e _ _ q, pmono (fun _ _ => SumV.ex e) p⟩
theorem LyS.dk (h0 : Lst s H) (d : Dk s H H') (h : LyS K s H v l) : LyS K s H' v l := by
  obtain ⟨a, xs, rfl, n, q, p⟩ := h
  exact ⟨a, xs, rfl, n, d.keep _ _ n q, pmono (fun _ _ => SumV.dk h0 d) p⟩
theorem LyS.toV (h : LyS K s H v l) : LyV K H v l := by
  obtain ⟨a, xs, rfl, n, q, p⟩ := h
  exact ⟨a, xs, rfl, sq_of q, p⟩
theorem LayS.ex (e : Ex H H') (h : LayS K s H D ls) : LayS K s H' D ls := by
  obtain ⟨n, ys, q, p⟩ := h
  exact ⟨n, ys, e _ _ q, pmono (fun _ _ => LyS.ex e) p⟩
theorem LayS.dk (h0 : Lst s H) (d : Dk s H H') (h : LayS K s H D ls) : LayS K s H' D ls := by
  obtain ⟨n, ys, q, p⟩ := h
  exact ⟨n, ys, d.keep _ _ n q, pmono (fun _ _ => LyS.dk h0 d) p⟩
theorem LayS.i (h : LayS K s H D ls) : LayI K H (.ref D) ls := by
  obtain ⟨n, ys, q, p⟩ := h
  exact ⟨D, ys, rfl, sq_of q, pmono (fun _ _ => LyS.toV) p⟩
end
/-! ### nets -/
def LayV (K : PySem.W.Frag) (CL CC : Addr) (H : Hp) (v : V) (l : List Sum2) : Prop := ∃ p C nv, v = .ref p ∧ (C = CL ∨ C = CC) ∧ LayerAt C H p nv ∧ NodesV K H nv l
def NetV (K : PySem.W.Frag) (CN CL CC : Addr) (H : Hp) (p : Addr) (n : Nat) (ls : List (List Sum2)) : Prop := ∃ dx t ps, H p = some (.ins CN dx [(("_ins" : Str), .int (n : Int)), (("_layers" : Str), .ref t)]) ∧ SqT K H t ps ∧ Paired (LayV K CL CC H) ps ls
/-- what a net tells -/
def TdV (K : PySem.W.Frag) (H : Hp) (v : V) (n : Nat) (ls : List (List Sum2)) : Prop := ∃ t u ys, v = .ref t ∧ SqT K H t [.int (n : Int), .ref u] ∧ SqT K H u ys ∧ Paired (NodesV K H) ys ls
def nd (ls : List (List Sum2)) : List PyData := ls.map fun l => .tuple (l.map sd)
section
variable {K : PySem.W.Frag} {s p D CN CL CC : Addr} {H H' H2 : Hp} {k n : Nat} {v : V} {l : List Sum2} {ls : List (List Sum2)}
theorem LayV.ex (e : Ex H H') (h : LayV K CL CC H v l) : LayV K CL CC H' v l := by
  obtain ⟨p, C, nv, rfl, c, la, nn⟩ := h
  exact ⟨p, C, nv, rfl, c, la.ex e, nn.ex e⟩
theorem LayV.mut {xs : List V} {o : HO} (hD : H D = some (.lst xs)) (h : LayV K CL CC H v l) : LayV K CL CC (upd H D o) v l := by
  obtain ⟨p, C, nv, rfl, c, ⟨dx, la⟩, nn⟩ := h
  exact ⟨p, C, nv, rfl, c, ⟨dx, by rw [upd_ne (ne_of la hD (by intro z; cases z))]; exact la⟩, nn.mut hD⟩
theorem LayV.dk (h0 : Lst s H) (d : Dk s H H') (h : LayV K CL CC H v l) : LayV K CL CC H' v l := by
  obtain ⟨p, C, nv, rfl, c, ⟨dx, la⟩, nn⟩ := h
  obtain ⟨xs, hx⟩ := id h0
  exact ⟨p, C, nv, rfl, c, ⟨dx, d.keep _ _ (ne_of la hx (by intro z; cases z)) la⟩, nn.dk h0 d⟩
theorem stL : Stays (LayV K CL CC) := ⟨LayV.ex, LayV.mut⟩
theorem NetV.ex (e : Ex H H') (h : NetV K CN CL CC H p n ls) : NetV K CN CL CC H' p n ls := by
  obtain ⟨dx, t, ps, hp, q, l⟩ := h
  exact ⟨dx, t, ps, e _ _ hp, ex_t e q, pmono (fun _ _ => LayV.ex e) l⟩
theorem NetV.dk (h0 : Lst s H) (d : Dk s H H') (h : NetV K CN CL CC H p n ls) : NetV K CN CL CC H' p n ls := by
  obtain ⟨dx, t, ps, hp, q, l⟩ := h
  obtain ⟨xs, hx⟩ := id h0
  exact ⟨dx, t, ps, d.keep _ _ (ne_of hp hx (by intro z; cases z)) hp, sqt_dk h0 d q, pmono (fun _ _ => LayV.dk h0 d) l⟩
theorem TdV.ex (e : Ex H H') (h : TdV K H v n ls) : TdV K H' v n ls := by
  obtain ⟨t, u, ys, rfl, q, q2, l⟩ := h
  exact ⟨t, u, ys, rfl, ex_t e q, ex_t e q2, pmono (fun _ _ => NodesV.ex e) l⟩
theorem TdV.dk (h0 : Lst s H) (d : Dk s H H') (h : TdV K H v n ls) : TdV K H' v n ls := by
  obtain ⟨t, u, ys, rfl, q, q2, l⟩ := h
  exact ⟨t, u, ys, rfl, sqt_dk h0 d q, sqt_dk h0 d q2, pmono (fun _ _ => NodesV.dk h0 d) l⟩
theorem NodesV.dp (h : NodesV K H v l) : Dp K H v (.tuple (l.map sd)) := by
  obtain ⟨t, xs, rfl, q, p⟩ := h
  exact .tup q (sums_dp p)
theorem nds_dp : ∀ {xs : List V} {ls : List (List Sum2)}, Paired (NodesV K H) xs ls → DpAll K H xs (nd ls)
  | _, _, .nil => .nil
  | _, _, .cons a t => .cons a.dp (nds_dp t)
theorem TdV.dp (h : TdV K H v n ls) : Dp K H v (.tuple [.int (n : Int), .tuple (nd ls)]) := by
  obtain ⟨t, u, ys, rfl, q, q2, l⟩ := h
  exact .tup q (.cons (.int _) (.cons (.tup q2 (nds_dp l)) .nil))
end
theorem lay_nd : ∀ ls : List (List Sum2), PyData.canLayAll0 (nd ls) = true
  | [] => rfl
  | z :: zs => by
    show (PyData.canLayAll0 (z.map sd) && PyData.canLayAll0 (nd zs)) = true
    rw [lay_sds, lay_nd zs]
    rfl
theorem depth_nd : ∀ ls : List (List Sum2), PyData.depthAll (nd ls) ≤ 5
  | [] => Nat.zero_le _
  | z :: zs => by
    have ih := depth_nd zs
    have h1 := depth_sds z
    show max (PyData.depthAll (z.map sd) + 1) (PyData.depthAll (nd zs)) ≤ 5
    omega
theorem lay_td (n : Nat) (ls : List (List Sum2)) : (PyData.tuple [.int (n : Int), .tuple (nd ls)]).canLay0 = true := by
  show (true && (PyData.canLayAll0 (nd ls) && true)) = true
  rw [lay_nd]
  rfl
theorem shaped_td (n : Nat) (ls : List (List Sum2)) : SeqAt.shaped (.tuple [.int (n : Int), .tuple (nd ls)]) = true := by
  unfold SeqAt.shaped
  rw [lay_td, Bool.true_and]
  refine decide_eq_true ?_
  have := depth_nd ls
  show max 0 (max (PyData.depthAll (nd ls) + 1) 0) + 1 ≤ 64
  omega
theorem eqv_td (n : Nat) (ls : List (List Sum2)) : PyData.eqv (.tuple [.int (n : Int), .tuple (nd ls)]) (.tuple [.int (n : Int), .tuple (nd ls)]) = true := SeqAt.eqv_refl _ (lay_td n ls)
/-- a list of rows -/
def rd (rs : List (List Rat)) : List PyData := rs.map fun r => .tuple (r.map fd)
theorem rows_dp {K : PySem.W.Frag} {H : Hp} : ∀ {xs : List V} {rs : List (List Rat)}, Paired (RowV K H) xs rs → DpAll K H xs (rd rs)
  | _, _, .nil => .nil
  | _, _, .cons a t => .cons a.dp (rows_dp t)
theorem lay_rd : ∀ rs : List (List Rat), PyData.canLayAll0 (rd rs) = true
  | [] => rfl
  | r :: rs => by
    show (PyData.canLayAll0 (r.map fd) && PyData.canLayAll0 (rd rs)) = true
    rw [layAll_fd, lay_rd rs]
    rfl
theorem depth_rd : ∀ rs : List (List Rat), PyData.depthAll (rd rs) ≤ 2
  | [] => Nat.zero_le _
  | z :: zs => by
    have ih := depth_rd zs
    have h1 := depthAll_fd z
    show max (PyData.depthAll (z.map fd) + 1) (PyData.depthAll (rd zs)) ≤ 2
    omega
theorem shaped_rd (rs : List (List Rat)) : SeqAt.shaped (.list (rd rs)) = true := by
  unfold SeqAt.shaped
  have h : (PyData.list (rd rs)).canLay0 = true := lay_rd rs
  rw [h, Bool.true_and]
  refine decide_eq_true ?_
  have := depth_rd rs
  show PyData.depthAll (rd rs) + 1 ≤ 64
  omega
theorem eqv_rd (rs : List (List Rat)) : PyData.eqv (.list (rd rs)) (.list (rd rs)) = true := SeqAt.eqv_refl _ (lay_rd rs)
/-! ### what is known of a net's numbers -/
structure NetOk (n : Nat) (ls : List (List Sum2)) (W : Nat → Nat) : Prop where
  n1 : 1 ≤ n
  n3 : n ≤ 3
  over : Over n ls
  l1 : 1 ≤ ls.length
  l4 : ls.length ≤ 4
  num : Num 1500 W ls
  w0 : ∀ i, 0 < W i
/-- a spot's common bottom fits beside it -/
structure Fits (W : Nat → Nat) (D : Nat) : Prop where
  d0 : 0 < D
  lt : pw W 4 * D < 2 ^ 1600
theorem Fits.at {W : Nat → Nat} {D : Nat} (hW : ∀ i, 0 < W i) (h : Fits W D) {i : Nat} (hi : i ≤ 3) : 0 < W i * (pw W i * D) ∧ W i * (pw W i * D) < 2 ^ 1600 := by
  have h1 : W i * (pw W i * D) = pw W (i + 1) * D := (Nat.mul_assoc _ _ _).symm
  rw [h1]
  exact ⟨Nat.mul_pos (pw_pos hW _) h.d0, Nat.lt_of_le_of_lt (Nat.mul_le_mul_right D (pw_mono hW (by omega))) h.lt⟩
theorem Fits.dlt {W : Nat → Nat} {D : Nat} (hW : ∀ i, 0 < W i) (h : Fits W D) : D < 2 ^ 1600 := Nat.lt_of_le_of_lt (Nat.le_mul_of_pos_left D (pw_pos hW 4)) h.lt
/-! ### promises -/
def spTake4 : Sp := fun vs H Q _ => ∃ (s : Addr) (m : Int) (k : Nat), vs = [.ref s, .int m] ∧ St4 s k H ∧ 0 < m ∧ m < 2 ^ 200 ∧ ∀ d H', 0 ≤ d → d < m → Dk s H H' → St4 s k H' → Q (.int d) H'
def spStream4 : Sp := fun vs H Q _ => ∃ c : Int, vs = [.int c] ∧ ∀ s, H s = none → ∀ H', Ex H H' → St4 s 2 H' → Q (.ref s) H'
def spDraw4 : Sp := fun vs H Q _ => ∃ (s : Addr) (k : Nat), vs = [.ref s] ∧ St4 s k H ∧ ∀ d H', 0 < d → d.natAbs < 2 ^ 100 → Dk s H H' → St4 s k H' → Q (.int d) H'
/-- so many long numbers were drawn, their bottoms' product is M -/
structure Used (k k' M : Nat) : Prop where
  le : k' ≤ k
  pos : 0 < M
  lt : M ≤ 2 ^ (100 * (k - k'))
theorem Used.refl (k : Nat) : Used k k 1 := ⟨Nat.le_refl _, Nat.one_pos, by rw [Nat.sub_self]; decide⟩
theorem Used.trans {k k1 k2 M N : Nat} (a : Used k k1 M) (b : Used k1 k2 N) : Used k k2 (M * N) := by
  refine ⟨Nat.le_trans b.le a.le, Nat.mul_pos a.pos b.pos, Nat.le_trans (Nat.mul_le_mul a.lt b.lt) ?_⟩
  rw [← Nat.pow_add]
  have h1 := a.le
  have h2 := b.le
  exact Nat.pow_le_pow_right (by decide) (by omega)
theorem sv_l {n M N : Nat} {r : Rat} (h : Sv n (6 * M) r) : Sv n (6 * (M * N)) r := h.mono (Nat.le_refl _) (Nat.mul_dvd_mul_left 6 (Nat.dvd_mul_right _ _))
theorem sv_r {n M N : Nat} {r : Rat} (h : Sv n (6 * N) r) : Sv n (6 * (M * N)) r := h.mono (Nat.le_refl _) (Nat.mul_dvd_mul_left 6 (Nat.dvd_mul_left _ _))
def spNum4 (K : PySem.W.Frag) : Sp := fun vs H Q _ => ∃ (s : Addr) (k : Nat), vs = [.ref s] ∧ St4 s k H ∧ ∀ v r H' k' M, Dk s H H' → St4 s k' H' → Used k k' M → FrV K H' v r → Sv 1500 (6 * M) r → Q v H'
def spNode4 (K : PySem.W.Frag) : Sp := fun vs H Q _ => ∃ (s : Addr) (k n : Nat), vs = [.ref s, .int (n : Int)] ∧ St4 s k H ∧ n ≤ 20 ∧ ∀ v z H' k' M, Dk s H H' → St4 s k' H' → Used k k' M → SumV K H' v z → z.1.length = n → SvL 1500 (6 * M) z.1 → Sv 1500 (6 * M) z.2 → Q v H'
def spSpot4 (K : PySem.W.Frag) : Sp := fun vs H Q _ => ∃ (s : Addr) (k n : Nat), vs = [.ref s, .int (n : Int)] ∧ St4 s k H ∧ n ≤ 20 ∧ ∀ v L H' k' M, Dk s H H' → St4 s k' H' → Used k k' M → RowV K H' v L → L.length = n → SvL 1500 (6 * M) L → Q v H'
def spSize4 : Sp := fun vs H Q _ => ∃ (s : Addr) (m k : Nat), vs = [.ref s, .int (m : Int)] ∧ St4 s k H ∧ 2 ≤ m ∧ m ≤ 10 ∧ ∀ (d : Nat) H', 1 ≤ d → d ≤ m → Dk s H H' → St4 s k H' → Q (.int (d : Int)) H'
def spLays4 (K : PySem.W.Frag) : Sp := fun vs H Q _ => ∃ (s : Addr) (n k : Nat), vs = [.ref s, .int (n : Int)] ∧ St4 s k H ∧ 1 ≤ n ∧ n ≤ 3 ∧ ∀ D ls H' k' M, H D = none → Dk s H H' → St4 s k' H' → Used k k' M → LayS K s H' D ls → NetOk n ls (fun _ => 6 * M) → Q (.ref D) H'
def spWeighD (K : PySem.W.Frag) : Sp := fun vs H Q _ => ∃ (x y : V) (rs ss : List Rat) (m W D : Nat), vs = [x, y] ∧ RowV K H x rs ∧ RowV K H y ss ∧ rs.length = ss.length ∧ rs.length ≤ 4 ∧ SvL 1500 W rs ∧ SvL m D ss ∧ m ≤ 430000 ∧ 0 < W * D ∧ W * D < 2 ^ 1600 ∧ ∀ v H', Ex H H' → FrV K H' v (weighs (rs.zip ss)) → Q v H'
def spTellsD (K : PySem.W.Frag) : Sp := fun vs H Q _ => ∃ (x y : V) (z : Sum2) (ss : List Rat) (m W D : Nat), vs = [x, y] ∧ SumV K H x z ∧ RowV K H y ss ∧ z.1.length = ss.length ∧ z.1.length ≤ 4 ∧ SvL 1500 W z.1 ∧ Sv 1500 W z.2 ∧ SvL m D ss ∧ m ≤ 430000 ∧ 0 < W * D ∧ W * D < 2 ^ 1600 ∧ ∀ v H', Ex H H' → FrV K H' v (tells z ss) → Q v H'
def NodesOk (n W : Nat) (l : List Sum2) : Prop := ∀ z ∈ l, z.1.length = n ∧ SvL 1500 W z.1 ∧ Sv 1500 W z.2
/-- the facts of a reckoning: nodes, a row -/
structure Rk (l : List Sum2) (L : List Rat) (m W D : Nat) : Prop where
  nodes : NodesOk L.length W l
  len : L.length ≤ 4
  many : l.length ≤ 4
  row : SvL m D L
  top : m ≤ 430000
  pos : 0 < W * D
  lt : W * D < 2 ^ 1600
def spReckD (K : PySem.W.Frag) : Sp := fun vs H Q _ => ∃ (x y : V) (l : List Sum2) (L : List Rat) (m W D : Nat), vs = [x, y] ∧ NodesV K H x l ∧ RowV K H y L ∧ Rk l L m W D ∧ ∀ v H', Ex H H' → RowV K H' v (l.map fun z => tells z L) → Q v H'
def spPassD (K : PySem.W.Frag) (C : Addr) : Sp := fun vs H Q _ => ∃ (p : Addr) (nv y : V) (l : List Sum2) (L : List Rat) (m W D : Nat), vs = [.ref p, y] ∧ LayerAt C H p nv ∧ NodesV K H nv l ∧ RowV K H y L ∧ Rk l L m W D ∧ ∀ v H', Ex H H' → RowV K H' v (l.map fun z => tells z L) → Q v H'
def spCutQ (K : PySem.W.Frag) : Sp := fun vs H Q _ => ∃ (x : V) (r : Rat), vs = [x] ∧ FrV K H x r ∧ ∀ v, FrV K H v (cutQ r) → Q v H
def spCutRow (K : PySem.W.Frag) : Sp := fun vs H Q _ => ∃ (x : V) (L : List Rat), vs = [x] ∧ RowV K H x L ∧ L.length ≤ 100 ∧ ∀ v H', Ex H H' → RowV K H' v (L.map cutQ) → Q v H'
def spRowsD (K : PySem.W.Frag) : Sp := fun vs H Q _ => ∃ (x y : V) (ls : List (List Sum2)) (L : List Rat) (W : Nat → Nat) (D : Nat), vs = [x, y] ∧ LayI K H x ls ∧ RowV K H y L ∧ NetOk L.length ls W ∧ SvL 1500 D L ∧ Fits W D ∧
  ∀ F rs H', H F = none → Ex H H' → H' F = some (.lst rs) → Paired (RowV K H') rs (rowsAt ls L) → Q (.ref F) H'
def spSumsAt (K : PySem.W.Frag) (CN CL CC : Addr) : Sp := fun vs H Q _ => ∃ (p : Addr) (y : V) (ls : List (List Sum2)) (L : List Rat) (W : Nat → Nat) (D : Nat), vs = [.ref p, y] ∧ NetV K CN CL CC H p L.length ls ∧ RowV K H y L ∧ NetOk L.length ls W ∧ SvL 1500 D L ∧ Fits W D ∧
  ∀ F rs H', H F = none → Ex H H' → H' F = some (.lst rs) → Paired (RowV K H') rs (rowsAt ls L) → Q (.ref F) H'
def spOutsAt (K : PySem.W.Frag) (CN CL CC : Addr) : Sp := fun vs H Q _ => ∃ (p : Addr) (y : V) (ls : List (List Sum2)) (L : List Rat) (W : Nat → Nat) (D : Nat), vs = [.ref p, y] ∧ NetV K CN CL CC H p L.length ls ∧ RowV K H y L ∧ NetOk L.length ls W ∧ SvL 1500 D L ∧ Fits W D ∧
  ∀ v o H', Ex H H' → (rowsAt ls L)[ls.length - 1]? = some o → RowV K H' v o → Q v H'
def spToldN (K : PySem.W.Frag) (CN CL CC : Addr) : Sp := fun vs H Q _ => ∃ (p : Addr) (n : Nat) (ls : List (List Sum2)), vs = [.ref p] ∧ NetV K CN CL CC H p n ls ∧ ls.length ≤ 100 ∧ ∀ v H', Ex H H' → TdV K H' v n ls → Q v H'
def spInsN (K : PySem.W.Frag) (CN CL CC : Addr) : Sp := fun vs H Q _ => ∃ (p : Addr) (n : Nat) (ls : List (List Sum2)), vs = [.ref p] ∧ NetV K CN CL CC H p n ls ∧ Q (.int (n : Int)) H
def spLaysTold (K : PySem.W.Frag) (CN CL CC : Addr) : Sp := fun vs H Q _ => ∃ (p : Addr) (n : Nat) (ls : List (List Sum2)), vs = [.ref p] ∧ NetV K CN CL CC H p n ls ∧ ls.length ≤ 100 ∧ (∀ l ∈ ls, l.length ≤ 100) ∧
  ∀ F ys H', H F = none → Ex H H' → H' F = some (.lst ys) → Paired (fun v l => ∃ a xs, v = .ref a ∧ H a = none ∧ a ≠ F ∧ H' a = some (.lst xs) ∧ Paired (SumV K H') xs l) ys ls → Q (.ref F) H'
/-- the making of a net -/
def spInitN (K : PySem.W.Frag) (CN CL CC : Addr) : Sp := fun vs H Q _ => ∃ (p dx : Addr) (x : V) (n : Nat) (ls : List (List Sum2)) (W : Nat → Nat), vs = [.ref p, .int (n : Int), x] ∧ H p = some (.ins CN dx []) ∧ LayI K H x ls ∧ NetOk n ls W ∧
  ∀ H', (∀ b o, b ≠ p → H b = some o → H' b = some o) → NetV K CN CL CC H' p n ls → Q .non H'
def spIsSum (K : PySem.W.Frag) : Sp := fun vs H Q _ => ∃ (x : V) (z : Sum2), vs = [x, .int (z.1.length : Int)] ∧ SumV K H x z ∧ z.1.length ≤ 100 ∧ ∀ H', Ex H H' → Q (.bl true) H'
def spAreIns : Sp := fun vs H Q _ => ∃ n : Nat, vs = [.int (n : Int)] ∧ 1 ≤ n ∧ n ≤ 3 ∧ Q (.bl true) H
def spAreLays (K : PySem.W.Frag) : Sp := fun vs H Q _ => ∃ (x : V) (n : Nat) (ls : List (List Sum2)) (W : Nat → Nat), vs = [x, .int (n : Int)] ∧ LayI K H x ls ∧ NetOk n ls W ∧ ∀ H', Ex H H' → Q (.bl true) H'
/-- a good row, a good fraction -/
theorem FrV.th {K : PySem.W.Frag} {H : Hp} {v : V} {r : Rat} (h : FrV K H v r) : Th K H v true := by
  obtain ⟨t, rfl, q⟩ := h
  have e := Th.nums q
  have e1 : decide ((0 : Int) < (r.den : Int)) = true := decide_eq_true (den_pos r)
  have e2 : decide (Nat.gcd r.num.natAbs ((r.den : Int)).natAbs = 1) = true := decide_eq_true (by rw [Int.natAbs_natCast]; exact r.reduced)
  rw [e1, e2] at e
  exact e
theorem frl_th {K : PySem.W.Frag} {H : Hp} : ∀ {xs : List V} {rs : List Rat}, FrL K H xs rs → Paired (Th K H) xs (List.replicate rs.length true)
  | _, _, .nil => .nil
  | _, _, .cons a t => .cons a.th (frl_th t)
theorem RowV.rw {K : PySem.W.Frag} {H : Hp} {v : V} {rs : List Rat} (h : RowV K H v rs) (hl : rs.length ≤ 100) : Rw K H v (some (List.replicate rs.length true)) := by
  obtain ⟨t, xs, rfl, q, l⟩ := h
  exact .tup q (frl_th l) (by rw [Paired.length l]; exact hl)
theorem rwB_rep (n : Nat) : rwB (some (List.replicate n true)) (n : Int) = true := by
  show (decide (((List.replicate n true).length : Int) = (n : Int)) && (List.replicate n true).all id) = true
  rw [List.length_replicate, decide_eq_true rfl, Bool.true_and]
  simp
/-! ### a step of the reckoning -/
theorem rk_next {l : List Sum2} {A : List Rat} {i D : Nat} {W : Nat → Nat} (k : Rk l A (tb i) (W i) (pw W i * D)) : SvL (tb (i + 1)) (pw W (i + 1) * D) ((l.map fun z => tells z A).map cutQ) := by
  intro r hr
  obtain ⟨u, hu, rfl⟩ := List.mem_map.mp hr
  obtain ⟨z, hz, rfl⟩ := List.mem_map.mp hu
  obtain ⟨h1, h2, h3⟩ := k.nodes z hz
  have h := sv_tells k.pos k.lt h2 h3 k.row h1
  have hl : z.1.length ≤ 4 := by
    rw [h1]
    exact k.len
  have hb : z.1.length * (1500 + tb i + 1600 + 1) ≤ 4 * (1500 + tb i + 1600 + 1) := Nat.mul_le_mul_right _ hl
  have e : pw W (i + 1) * D = W i * (pw W i * D) := Nat.mul_assoc _ _ _
  rw [e]
  refine sv_cutQ (h.mono ?_ (Nat.dvd_refl _))
  show _ ≤ 1 + 4 * (1500 + tb i + 1601) + 3102
  omega
theorem drop_at {α : Type} {ls : List α} {i : Nat} {l : α} (h : ls[i]? = some l) : ls.drop i = l :: ls.drop (i + 1) := by
  obtain ⟨h1, h2⟩ := List.getElem?_eq_some_iff.mp h
  rw [List.drop_eq_getElem_cons h1, h2]
theorem rk_of {ls : List (List Sum2)} {n D i : Nat} {W : Nat → Nat} {l : List Sum2} {A : List Rat} (ok : NetOk n ls W) (f : Fits W D) (hi : ls[i]? = some l) (ov : Over A.length (ls.drop i)) (hA : SvL (tb i) (pw W i * D) A) (h4 : A.length ≤ 4) :
    Rk l A (tb i) (W i) (pw W i * D) ∧ Over l.length (ls.drop (i + 1)) ∧ l.length ≤ 4 ∧ 1 ≤ l.length ∧ i ≤ 3 := by
  have hi1 := (List.getElem?_eq_some_iff.mp hi).1
  have hl4 := ok.l4
  have hi3 : i ≤ 3 := by omega
  rw [drop_at hi] at ov
  obtain ⟨o1, o2, o3⟩ := ov
  have hm := List.mem_of_getElem? hi
  exact ⟨⟨fun z hz => ⟨o1 z hz, ok.num i l hi z hz⟩, h4, o2.2, hA, tb_le3 i hi3, (f.at ok.w0 hi3).1, (f.at ok.w0 hi3).2⟩, o3, o2.2, o2.1, hi3⟩
theorem rowsAt_cons {ls : List (List Sum2)} {i : Nat} {l : List Sum2} {A : List Rat} (hi : ls[i]? = some l) : rowsAt (ls.drop i) A = (l.map fun z => tells z A) :: rowsAt (ls.drop (i + 1)) ((l.map fun z => tells z A).map cutQ) := by
  rw [drop_at hi]
  rfl
/-- what stands behind i layers: the rows told, the row ahead -/
structure Mid (ls : List (List Sum2)) (L : List Rat) (W : Nat → Nat) (D i : Nat) (dn : List (List Rat)) (A : List Rat) : Prop where
  len : dn.length = i
  eq : rowsAt ls L = dn ++ rowsAt (ls.drop i) A
  over : Over A.length (ls.drop i)
  row : SvL (tb i) (pw W i * D) A
  a4 : A.length ≤ 4
theorem mid0 {ls : List (List Sum2)} {L : List Rat} {W : Nat → Nat} {D : Nat} (ok : NetOk L.length ls W) (h : SvL 1500 D L) : Mid ls L W D 0 [] L := by
  have := ok.n3
  refine ⟨rfl, rfl, ok.over, ?_, by omega⟩
  rw [show pw W 0 = 1 from rfl, Nat.one_mul]
  exact h
theorem mid_step {ls : List (List Sum2)} {L A : List Rat} {n D i : Nat} {W : Nat → Nat} {dn : List (List Rat)} {l : List Sum2} (ok : NetOk n ls W) (f : Fits W D) (m : Mid ls L W D i dn A) (hi : ls[i]? = some l) :
    Rk l A (tb i) (W i) (pw W i * D) ∧ Mid ls L W D (i + 1) (dn ++ [l.map fun z => tells z A]) ((l.map fun z => tells z A).map cutQ) ∧ l.length ≤ 4 := by
  obtain ⟨k, o, l4, l1, i3⟩ := rk_of ok f hi m.over m.row m.a4
  refine ⟨k, ⟨by simp [m.len], ?_, ?_, rk_next k, by simpa using l4⟩, l4⟩
  · rw [m.eq, rowsAt_cons hi, List.append_assoc]
    rfl
  · simpa using o
theorem mid_end {ls : List (List Sum2)} {L A : List Rat} {W : Nat → Nat} {D : Nat} {dn : List (List Rat)} (m : Mid ls L W D ls.length dn A) : dn = rowsAt ls L := by
  rw [m.eq, List.drop_length]
  show dn = dn ++ []
  rw [List.append_nil]
theorem rowsAt_length : ∀ (ls : List (List Sum2)) (L : List Rat), (rowsAt ls L).length = ls.length
  | [], _ => rfl
  | l :: ls, L => by
    show (rowsAt ls _).length + 1 = _
    rw [rowsAt_length ls]
    rfl
/-! ### layers that grow -/
def lastN : Nat → List (List Sum2) → Nat
  | n, [] => n
  | _, l :: ls => lastN l.length ls
theorem over_snoc : ∀ {n : Nat} {ls : List (List Sum2)} {l : List Sum2}, Over n ls → (∀ z ∈ l, z.1.length = lastN n ls) → 1 ≤ l.length → l.length ≤ 4 → Over n (ls ++ [l]) ∧ lastN n (ls ++ [l]) = l.length
  | n, [], l, _, h, h1, h4 => ⟨⟨h, ⟨h1, h4⟩, trivial⟩, rfl⟩
  | n, a :: ls, l, o, h, h1, h4 => by
    obtain ⟨o1, o2, o3⟩ := o
    obtain ⟨i1, i2⟩ := over_snoc (n := a.length) (ls := ls) o3 h h1 h4
    exact ⟨⟨o1, o2, i1⟩, i2⟩
theorem sv_div {t b : Int} {n : Nat} (hb : 0 < b) (ht : t.natAbs < 2 ^ n) : Sv n b.toNat (Rat.divInt t b) := by
  constructor
  · rw [← num_div hb]
    exact Nat.lt_of_le_of_lt (natAbs_ediv_le _ _) ht
  · have h := den_of_div (k := t) (D := b.toNat) (by omega)
    rwa [Int.toNat_of_nonneg (by omega)] at h
theorem stN {K : PySem.W.Frag} : Stays (NodesV K) := ⟨NodesV.ex, NodesV.mut⟩
/-- a turn of the drawing of a row -/
theorem row_turn4 {K : PySem.W.Frag} {s D : Addr} {H H' H4 : Hp} {i k k2 N : Nat} {v : V} {r : Rat} (hS : Lst s H) (hD : H D = none) (hi : i < 1000)
    (h : ∃ L xs k' M, H' D = some (.lst xs) ∧ FrL K H' xs L ∧ L.length = i ∧ SvL 1500 (6 * M) L ∧ Dk s H H' ∧ St4 s k' H' ∧ Used k k' M ∧ Used k' k2 N) (r4 : Dk s H' H4) (t4 : St4 s k2 H4) (hv : FrV K H4 v r) (hs : Sv 1500 (6 * N) r) :
    ∃ acc, H4 D = some (.lst acc) ∧ acc.length < sizeLine ∧ ∃ L xs k' M, upd H4 D (.lst (acc ++ [v])) D = some (.lst xs) ∧ FrL K (upd H4 D (.lst (acc ++ [v]))) xs L ∧ L.length = i + 1 ∧ SvL 1500 (6 * M) L ∧ Dk s H (upd H4 D (.lst (acc ++ [v]))) ∧ St4 s k' (upd H4 D (.lst (acc ++ [v]))) ∧ Used k k' M := by
  obtain ⟨L, xs, k', M, hx, hl, hn, hz, r1, t1, u1, u2⟩ := h
  have hsD := hS.ne hD
  have h4 := r4.keep D _ (Ne.symm hsD) hx
  have hln := Paired.length hl
  refine ⟨xs, h4, sz_lt (by omega), L ++ [r], xs ++ [v], k2, M * N, upd_same, ?_, by simp [hn], ?_, (r1.trans r4).mut hD hsD, t4.mut hsD, u1.trans u2⟩
  · exact Paired.snoc (pmono (fun _ _ q => FrV.mut h4 (FrV.dk r1.st r4 q)) hl) (FrV.mut h4 hv)
  · intro a ha
    rcases List.mem_append.mp ha with ha | ha
    · exact sv_l (hz a ha)
    · rw [List.mem_singleton.mp ha]
      exact sv_r hs
end Nc
end
section
set_option maxRecDepth 100000
set_option maxHeartbeats 4000000
namespace Nc
open PySem PySem.Spec PyProof.Rows L2 Evl
theorem ite_t {b : Bool} {A B : Prop} (h : b = true) (x : A) : if b = true then A else B := by
  rw [if_pos h]
  exact x
theorem ite_f {b : Bool} {A B : Prop} (h : b = false) (x : B) : if b = true then A else B := by
  rw [if_neg (by rw [h]; decide)]
  exact x
theorem ite_nt {b : Bool} {A B : Prop} (h : b = true) (x : B) : if (!b) = true then A else B := by
  rw [if_neg (by rw [h]; decide)]
  exact x
theorem ite_nf {b : Bool} {A B : Prop} (h : b = false) (x : A) : if (!b) = true then A else B := by
  rw [if_pos (by rw [h]; decide)]
  exact x
theorem kitLT {K : PySem.W.Frag} : PySem.W.kitAny K (.type "list") [.type "list", .type "tuple"] = some true := by
  simp [PySem.W.kitAny, kit_ty (K := K) (a := "list") (b := "list") (r := true) (by decide +kernel)]
theorem kitTT {K : PySem.W.Frag} : PySem.W.kitAny K (.type "tuple") [.type "list", .type "tuple"] = some true := by
  simp [PySem.W.kitAny, kit_ty (K := K) (a := "tuple") (b := "list") (r := false) (by decide +kernel), kit_ty (K := K) (a := "tuple") (b := "tuple") (r := true) (by decide +kernel)]
theorem cut_init {ys : List V} (h : ys ≠ []) : cutV ys none (some (-1)) = ys.dropLast := by
  have : ys.length ≠ 0 := fun z => h (List.eq_nil_of_length_eq_zero z)
  unfold cutV
  simp [HT.sIx, List.dropLast_eq_take]
  omega
theorem cut_to {ys : List V} {i : Nat} (h : i ≤ ys.length) : cutV ys none (some (i : Int)) = ys.take i := by
  unfold cutV
  simp only [HT.sIx]
  rw [if_neg (by omega), List.drop_zero, Int.toNat_natCast, Nat.min_eq_left h, Nat.sub_zero]
theorem cut_from {ys : List V} {i : Nat} (h : i ≤ ys.length) : cutV ys (some (i : Int)) none = ys.drop i := by
  unfold cutV
  simp only [HT.sIx]
  rw [if_neg (by omega), Int.toNat_natCast, Nat.min_eq_left h]
  exact List.take_of_length_le (by rw [List.length_drop]; omega)
theorem at_last {ys : List V} {v : V} (h : ys[ys.length - 1]? = some v) : atI ys (-1) = some v := by
  have hn : ys ≠ [] := fun z => by
    rw [z] at h
    cases h
  have e := List.dropLast_concat_getLast hn
  have hl : ys.getLast hn = v := by
    rw [List.getLast_eq_getElem]
    rw [List.getElem?_eq_getElem (by have := List.length_pos_iff.mpr hn; omega)] at h
    exact Option.some.inj h
  rw [hl] at e
  rw [← e]
  exact atI_last _ _
/-! ### where one object changes that is no list and no tuple -/
def Ch (p : Addr) (H H' : Hp) : Prop := ∀ b o, b ≠ p → H b = some o → H' b = some o
section
variable {K : PySem.W.Frag} {H H' H2 : Hp} {p C dx : Addr} {fs : List (Str × V)}
theorem Ch.trans (a : Ch p H H') (b : Ch p H' H2) : Ch p H H2 := fun x o hx q => b x o hx (a x o hx q)
theorem Ch.ex (e : Ex H H') : Ch p H H' := fun x o _ q => e x o q
theorem Ch.put {o : HO} : Ch p H (upd H p o) := fun x u hx q => by
  rw [upd_ne hx]
  exact q
theorem sqt_ch {t : Addr} {xs : List V} (hp : H p = some (.ins C dx fs)) (c : Ch p H H') (q : SqT K H t xs) : SqT K H' t xs := by
  rcases q with (q | ⟨o, q⟩) | q
  · exact .inl (.inl (c _ _ (ne_of q hp (by intro z; cases z)) q))
  · exact .inl (.inr ⟨o, c _ _ (ne_of q hp (by intro z; cases z)) q⟩)
  · exact .inr q
theorem sql_ch {t : Addr} {xs : List V} (hp : H p = some (.ins C dx fs)) (c : Ch p H H') (q : SqL K H t xs) : SqL K H' t xs := by
  rcases q with (q | ⟨o, q⟩) | q
  · exact .inl (.inl (c _ _ (ne_of q hp (by intro z; cases z)) q))
  · exact .inl (.inr ⟨o, c _ _ (ne_of q hp (by intro z; cases z)) q⟩)
  · exact .inr q
theorem FrV.ch {v : V} {r : Rat} (hp : H p = some (.ins C dx fs)) (c : Ch p H H') (q : FrV K H v r) : FrV K H' v r := by
  obtain ⟨t, rfl, q⟩ := q
  exact ⟨t, rfl, sqt_ch hp c q⟩
theorem RowV.ch {v : V} {rs : List Rat} (hp : H p = some (.ins C dx fs)) (c : Ch p H H') (q : RowV K H v rs) : RowV K H' v rs := by
  obtain ⟨t, xs, rfl, q, l⟩ := q
  exact ⟨t, xs, rfl, sqt_ch hp c q, pmono (fun _ _ => FrV.ch hp c) l⟩
theorem SumV.ch {v : V} {z : Sum2} (hp : H p = some (.ins C dx fs)) (c : Ch p H H') (q : SumV K H v z) : SumV K H' v z := by
  obtain ⟨t, a, b, rfl, q, l, n⟩ := q
  exact ⟨t, a, b, rfl, sqt_ch hp c q, l.ch hp c, n.ch hp c⟩
theorem LyV.ch {v : V} {l : List Sum2} (hp : H p = some (.ins C dx fs)) (c : Ch p H H') (q : LyV K H v l) : LyV K H' v l := by
  obtain ⟨a, xs, rfl, q, l⟩ := q
  exact ⟨a, xs, rfl, sql_ch hp c q, pmono (fun _ _ => SumV.ch hp c) l⟩
theorem LayI.ch {v : V} {ls : List (List Sum2)} (hp : H p = some (.ins C dx fs)) (c : Ch p H H') (q : LayI K H v ls) : LayI K H' v ls := by
  obtain ⟨D, ys, rfl, q, l⟩ := q
  exact ⟨D, ys, rfl, sql_ch hp c q, pmono (fun _ _ => LyV.ch hp c) l⟩
theorem NodesV.ch {v : V} {l : List Sum2} (hp : H p = some (.ins C dx fs)) (c : Ch p H H') (q : NodesV K H v l) : NodesV K H' v l := by
  obtain ⟨a, xs, rfl, q, l⟩ := q
  exact ⟨a, xs, rfl, sqt_ch hp c q, pmono (fun _ _ => SumV.ch hp c) l⟩
theorem LayV.ch {CL CC : Addr} {v : V} {l : List Sum2} {n : Int} (hp : H p = some (.ins C dx [(("_ins" : Str), .int n)])) (c : Ch p H H') (q : LayV K CL CC H v l) : LayV K CL CC H' v l := by
  obtain ⟨a, D, nv, rfl, hc, ⟨dy, la⟩, nn⟩ := q
  refine ⟨a, D, nv, rfl, hc, ⟨dy, c _ _ (fun z => ?_) la⟩, nn.ch hp c⟩
  subst z
  rw [hp] at la
  have h1 := Option.some.inj la
  injection h1 with _ _ h2
  have h3 := congrArg (List.map Prod.fst) h2
  have h4 : (("_ins" : Str) == ("_nodes" : Str)) = true := by
    have h5 : [("_ins" : Str)] = [("_nodes" : Str)] := h3
    have h6 := List.head_eq_of_cons_eq h5
    rw [h6]
    exact beq_self_eq_true _
  exact absurd h4 (by decide +kernel)
end
theorem pair_init {α β : Type} {R : α → β → Prop} : ∀ {xs : List α} {ys : List β}, Paired R xs ys → Paired R xs.dropLast ys.dropLast
  | _, _, .nil => .nil
  | _, _, .cons a .nil => .nil
  | _, _, .cons a (.cons b t) => .cons a (pair_init (.cons b t))
theorem pair_app {α β : Type} {R : α → β → Prop} : ∀ {xs us : List α} {ys vs : List β}, Paired R xs ys → Paired R us vs → Paired R (xs ++ us) (ys ++ vs)
  | _, _, _, _, .nil, h => h
  | _, _, _, _, .cons a t, h => .cons a (pair_app t h)
theorem init_last {α : Type} {l : List α} {a : α} (h : l[l.length - 1]? = some a) : l.dropLast ++ [a] = l := by
  have hn : l ≠ [] := fun z => by
    rw [z] at h
    cases h
  have e := List.dropLast_concat_getLast hn
  have hl : l.getLast hn = a := by
    rw [List.getLast_eq_getElem]
    rw [List.getElem?_eq_getElem (by have := List.length_pos_iff.mpr hn; omega)] at h
    exact Option.some.inj h
  rwa [hl] at e
/-! ### rules with K written out, for the blocks of comprehensions -/
def rTupK (K : PySem.W.Frag) : List V → Hp → VK → Prop := fun xs H Q => ∃ p ys, xs = [.ref p] ∧ ((SqL K H p ys ∧ ∀ l, H l = none → Q (.ref l) (upd H l (.tup ys))) ∨ (SqT K H p ys ∧ Q (.ref p) H))
theorem call_tupK {X : Cx} (K : PySem.W.Frag) (h : X.K = K := by rfl) : CallR X (.type "tuple") (rTupK K) := by
  subst h
  exact call_tuple_of
def rLstK (K : PySem.W.Frag) : List V → Hp → VK → Prop := fun xs H Q => ∃ p ys, xs = [.ref p] ∧ (SqL K H p ys ∨ SqT K H p ys) ∧ ∀ l, H l = none → Q (.ref l) (upd H l (.lst ys))
theorem call_lstK {X : Cx} (K : PySem.W.Frag) (h : X.K = K := by rfl) : CallR X (.type "list") (rLstK K) := by
  subst h
  exact call_list_of
/-- the classes of layers and nets -/
structure NDefs (P : Program) (w : World) (K : PySem.W.Frag) (mg : Str → Option Value) (base : Heap) (CN CL CC : Addr) : Prop where
  tN : Cls K CN
  nI : NoAttr K CN "_ins"
  nL : NoAttr K CN "_layers"
  tL : Cls K CL
  tC : Cls K CC
  toldL : MOk P w K mg base 1 CL "told" ["self"] (spToldL CL)
  toldC : MOk P w K mg base 1 CC "told" ["self"] (spToldL CC)
  sumsL : MOk P w K mg base 6 CL "sums" ["self", "ahead"] (spPassD K CL)
  sumsC : MOk P w K mg base 6 CC "sums" ["self", "ahead"] (spPassD K CC)
theorem no_m {v : V} {m : Str} (h : ¬ m = "_nodes") : List.lookup m [(("_nodes" : Str), v)] = none := by
  have qw : (m == ("_nodes" : Str)) = false := by simpa using h
  simp [List.lookup, qw]
theorem no_n {v w : V} {m : Str} (h : ¬ m = "_ins") (h2 : ¬ m = "_layers") : List.lookup m [(("_ins" : Str), v), (("_layers" : Str), w)] = none := by
  have qw : (m == ("_ins" : Str)) = false := by simpa using h
  have qw2 : (m == ("_layers" : Str)) = false := by simpa using h2
  simp [List.lookup, qw, qw2]
end Nc
end
section
set_option maxRecDepth 100000
set_option maxHeartbeats 4000000
namespace Nc
open PySem PySem.Spec PyProof.Rows L2 Evl
/-! ### tuples put together, cut, of any length -/
def rCatTE (K : PySem.W.Frag) : R2 := fun x y H Q => ∃ a b xs ys, x = .ref a ∧ y = .ref b ∧ SqT K H a xs ∧ SqT K H b ys ∧ xs.length + ys.length ≤ sizeLine ∧ ∀ p H2, Ex H H2 → SqT K H2 p (xs ++ ys) → Q (.ref p) H2
theorem op_catTE {X : Cx} (K : PySem.W.Frag) (h : X.K = K := by rfl) : OpR X (binaryOp .Add) (rCatTE K) := by
  subst h
  intro pins s σ H x y v u Q I rx ry h
  obtain ⟨a, b, xs, ys, e1, e2, hx, hy, hz, q⟩ := h
  refine op_catA pins s σ H x y v u Q I rx ry ⟨a, b, xs, ys, e1, e2, hx, hy, hz, fun e => ?_, fun _ e => ?_, fun _ _ p hp => q p _ (Ex.new hp) (st_of upd_same)⟩
  · subst e
    exact q b H (Ex.refl H) hy
  · subst e
    exact q a H (Ex.refl H) (by rw [List.append_nil]; exact hx)
def rSlTE (K : PySem.W.Frag) : V → Option Int → Option Int → Hp → VK → Prop := fun x lo hi H Q => ∃ a xs, x = .ref a ∧ SqT K H a xs ∧ ∀ p H2, Ex H H2 → SqT K H2 p (cutV xs lo hi) → Q (.ref p) H2
theorem sl_tupE {X : Cx} (K : PySem.W.Frag) (h : X.K = K := by rfl) : SlR X (rSlTE K) := by
  subst h
  intro pins s σ H x v vl vu lo hi sl Q I rx hs pl pu h
  obtain ⟨a, xs, e, hx, q⟩ := h
  refine sl_tupA pins s σ H x v vl vu lo hi sl Q I rx hs pl pu ⟨a, xs, e, hx, fun hw => ?_, fun _ p hp => q p _ (Ex.new hp) (st_of upd_same)⟩
  refine q a H (Ex.refl H) ?_
  have : cutV xs lo hi = xs := by
    unfold cutV
    rw [hw.1, hw.2, List.drop_zero, Nat.sub_zero, List.take_length]
  rw [this]
  exact hx
theorem mem_cut {xs : List V} {lo hi : Option Int} {v : V} (h : v ∈ cutV xs lo hi) : v ∈ xs := List.mem_of_mem_drop (List.mem_of_mem_take h)
/-! ### the net of a node -/
theorem over_take : ∀ {n : Nat} {ls : List (List Sum2)} {i : Nat} {l : List Sum2}, Over n ls → ls[i]? = some l → Over n (ls.take i) ∧ ∀ z ∈ l, z.1.length = lastN n (ls.take i)
  | n, [], i, l, _, h => by simp at h
  | n, a :: ls, 0, l, o, h => by
    simp at h
    subst h
    exact ⟨trivial, o.1⟩
  | n, a :: ls, i + 1, l, o, h => by
    obtain ⟨o1, o2, o3⟩ := o
    obtain ⟨h1, h2⟩ := over_take (n := a.length) (ls := ls) (i := i) (l := l) o3 (by simpa using h)
    exact ⟨⟨o1, o2, h1⟩, h2⟩
def nodeNet (ls : List (List Sum2)) (i : Nat) (z : Sum2) : List (List Sum2) := ls.take i ++ [[z]]
theorem netok_node {n : Nat} {W : Nat → Nat} {ls : List (List Sum2)} {i : Nat} {l : List Sum2} {z : Sum2} (ok : NetOk n ls W) (hl : ls[i]? = some l) (hz : z ∈ l) : NetOk n (nodeNet ls i z) W := by
  obtain ⟨o1, o2⟩ := over_take ok.over hl
  have hi := (List.getElem?_eq_some_iff.mp hl).1
  have h4 := ok.l4
  have hm := List.mem_of_getElem? hl
  obtain ⟨o3, _⟩ := over_snoc o1 (l := [z]) (fun a ha => by rw [List.mem_singleton.mp ha]; exact o2 z hz) (by simp) (by simp)
  refine ⟨ok.n1, ok.n3, o3, ?_, ?_, ?_, ok.w0⟩
  · simp [nodeNet]
  · simp [nodeNet]
    omega
  · intro k a ha b hb
    unfold nodeNet at ha
    by_cases hk : k < i
    · rw [List.getElem?_append_left (by rw [List.length_take]; omega), List.getElem?_take_of_lt hk] at ha
      exact ok.num k a ha b hb
    · rw [List.getElem?_append_right (by rw [List.length_take]; omega), List.length_take, Nat.min_eq_left (by omega)] at ha
      have hk0 : k - i = 0 := by
        have := (List.getElem?_eq_some_iff.mp ha).1
        simp at this
        omega
      rw [hk0] at ha
      have e : [z] = a := Option.some.inj ha
      subst e
      have e2 : k = i := by omega
      subst e2
      rw [List.mem_singleton.mp hb]
      exact ok.num k l hl z hz
theorem node_len {ls : List (List Sum2)} {i : Nat} {l : List Sum2} {z : Sum2} (hl : ls[i]? = some l) : (nodeNet ls i z).length = i + 1 := by
  have hi := (List.getElem?_eq_some_iff.mp hl).1
  simp [nodeNet]
  omega
theorem node_last {ls : List (List Sum2)} {i : Nat} {l : List Sum2} {z : Sum2} (hl : ls[i]? = some l) : (nodeNet ls i z)[(nodeNet ls i z).length - 1]? = some [z] := by
  have hi := (List.getElem?_eq_some_iff.mp hl).1
  have h : (ls.take i).length = i := by
    rw [List.length_take]
    omega
  rw [node_len hl]
  unfold nodeNet
  rw [show i + 1 - 1 = (ls.take i).length by omega]
  exact List.getElem?_concat_length
theorem rows_node : ∀ {ls : List (List Sum2)} {i j : Nat} {L : List Rat} {l : List Sum2} {z : Sum2}, ls[i]? = some l → l[j]? = some z → ∃ r x, (rowsAt ls L)[i]? = some r ∧ r[j]? = some x ∧ (rowsAt (nodeNet ls i z) L)[i]? = some [x]
  | [], i, j, L, l, z, h, _ => by simp at h
  | a :: ls, 0, j, L, l, z, h, hz => by
    simp at h
    subst h
    refine ⟨_, tells z L, rfl, ?_, rfl⟩
    rw [List.getElem?_map, hz]
    rfl
  | a :: ls, i + 1, j, L, l, z, h, hz => rows_node (ls := ls) (i := i) (L := (a.map fun z => tells z L).map cutQ) (by simpa using h) hz
theorem pair_take {α β : Type} {R : α → β → Prop} : ∀ {xs : List α} {ys : List β} {i : Nat}, Paired R xs ys → Paired R (xs.take i) (ys.take i)
  | _, _, 0, _ => .nil
  | _, _, i + 1, .nil => .nil
  | _, _, i + 1, .cons a t => .cons a (pair_take t)
/-! ### promises -/
def spCheckN (K : PySem.W.Frag) (CN CL CC : Addr) : Sp := fun vs H Q _ => ∃ (p : Addr) (n i j : Nat) (ls : List (List Sum2)) (l : List Sum2) (z : Sum2), vs = [.ref p, .int (i : Int), .int (j : Int)] ∧ NetV K CN CL CC H p n ls ∧ ls.length ≤ 100 ∧ (∀ l ∈ ls, l.length ≤ 100) ∧ ls[i]? = some l ∧ l[j]? = some z ∧ ∀ H', Ex H H' → Q .non H'
def spNodeNet (K : PySem.W.Frag) (CN CL CC : Addr) : Sp := fun vs H Q _ => ∃ (p : Addr) (n i j : Nat) (W : Nat → Nat) (ls : List (List Sum2)) (l : List Sum2) (z : Sum2), vs = [.ref p, .int (i : Int), .int (j : Int)] ∧ NetV K CN CL CC H p n ls ∧ NetOk n ls W ∧ ls[i]? = some l ∧ l[j]? = some z ∧ ∀ q' H', Ex H H' → NetV K CN CL CC H' q' n (nodeNet ls i z) → Q (.ref q') H'
def spOutsN (K : PySem.W.Frag) (CN CL CC : Addr) : Sp := fun vs H Q _ => ∃ (p : Addr) (n : Nat) (ls : List (List Sum2)) (l : List Sum2), vs = [.ref p] ∧ NetV K CN CL CC H p n ls ∧ ls[ls.length - 1]? = some l ∧ Q (.int (l.length : Int)) H
theorem over_len : ∀ {n : Nat} {ls : List (List Sum2)}, Over n ls → ∀ l ∈ ls, l.length ≤ 4
  | _, [], _, l, h => by cases h
  | n, a :: ls, o, l, h => by
    rcases List.mem_cons.mp h with rfl | h
    · exact o.2.1.2
    · exact over_len o.2.2 l h
theorem ex_none {H H' : Hp} {p : Addr} (e : Ex H H') (h : H' p = none) : H p = none := Option.eq_none_iff_forall_ne_some.mpr fun o ho => by
  rw [e _ _ ho] at h
  cases h
end Nc
end
section
set_option maxRecDepth 100000
set_option maxHeartbeats 4000000
namespace Nc
open PySem PySem.Spec PyProof.Rows L2 Evl
/-! ### patterns -/
def pstep (pw : Int × Int) (r : Rat) : Int × Int := (if 0 < r.num then pw.1 + pw.2 else pw.1, 2 * pw.2)
def pfold (rows : List (List Rat)) : Int × Int := rows.flatten.foldl pstep (0, 1)
def patR (rows : List (List Rat)) : Int := (pfold rows.dropLast).1
theorem pfold_take {rows : List (List Rat)} {i : Nat} {r : List Rat} (h : rows[i]? = some r) : pfold (rows.take (i + 1)) = r.foldl pstep (pfold (rows.take i)) := by
  unfold pfold
  rw [List.take_add_one, h, List.flatten_append, List.foldl_append]
  simp
theorem fold_take {r : List Rat} {j : Nat} {x : Rat} {st : Int × Int} (h : r[j]? = some x) : (r.take (j + 1)).foldl pstep st = pstep ((r.take j).foldl pstep st) x := by
  rw [List.take_add_one, h, List.foldl_append]
  rfl
def spPatAt (K : PySem.W.Frag) (CN CL CC : Addr) : Sp := fun vs H Q _ => ∃ (p : Addr) (y : V) (ls : List (List Sum2)) (L : List Rat) (W : Nat → Nat) (D : Nat), vs = [.ref p, y] ∧ NetV K CN CL CC H p L.length ls ∧ RowV K H y L ∧ NetOk L.length ls W ∧ SvL 1500 D L ∧ Fits W D ∧ ∀ H', Ex H H' → Q (.int (patR (rowsAt ls L))) H'
def spPatL (K : PySem.W.Frag) : Sp := fun vs H Q _ => ∃ (F : Addr) (rs : List V) (rows : List (List Rat)), vs = [.ref F] ∧ SqL K H F rs ∧ Paired (RowV K H) rs rows ∧ rows ≠ [] ∧ ∀ H', Ex H H' → Q (.int (patR rows)) H'
/-! ### short numbers -/
def short (r : Rat) : Bool := decide (((r.num.natAbs : Nat) : Int) < 100) && decide ((r.den : Int) < 100)
theorem short_sz {r : Rat} (h : short r = true) : Sz 7 7 r := by
  unfold short at h
  rw [Bool.and_eq_true] at h
  have h1 := of_decide_eq_true h.1
  have h2 := of_decide_eq_true h.2
  exact ⟨by omega, by omega⟩
def spShort (K : PySem.W.Frag) : Sp := fun vs H Q _ => ∃ (x : V) (L : List Rat), vs = [x] ∧ RowV K H x L ∧ L.length ≤ 100 ∧ ∀ H', Ex H H' → Q (.bl ((L.map short).all id)) H'
theorem all_short {L : List Rat} (h : (L.map short).all id = true) : SzL 7 7 L := by
  intro r hr
  rw [List.all_map] at h
  have := List.all_eq_true.mp h r hr
  exact short_sz this
theorem pair_drop {α β : Type} {R : α → β → Prop} : ∀ {xs : List α} {ys : List β} {i : Nat}, Paired R xs ys → Paired R (xs.drop i) (ys.drop i)
  | _, _, 0, h => h
  | _, _, i + 1, .nil => .nil
  | _, _, i + 1, .cons a t => pair_drop (i := i) t
def spNought (K : PySem.W.Frag) : Sp := fun vs H Q _ => ∃ (x y : V) (ls : List (List Sum2)) (L : List Rat) (W : Nat → Nat) (D : Nat), vs = [x, y] ∧ LayI K H x ls ∧ RowV K H y L ∧ NetOk L.length ls W ∧ SvL 1500 D L ∧ 0 < D ∧ (∀ i, W i ≤ 2 ^ 203) ∧ D ≤ 2 ^ 203 ∧
  ∀ v L' D' H', Ex H H' → RowV K H' v L' → L'.length = L.length → SvL 1500 D' L' → Fits W D' → Q v H'
def spPlain (K : PySem.W.Frag) : Sp := fun vs H Q _ => ∃ (x : V) (L : List Rat), vs = [x] ∧ RowV K H x L ∧ Q (.bl true) H
/-- a spot put so -/
def putAt (L : List Rat) (i : Nat) (r : Rat) : List Rat := L.take i ++ [r] ++ L.drop (i + 1)
theorem len_put {L : List Rat} {i : Nat} {r : Rat} (h : i < L.length) : (putAt L i r).length = L.length := by
  simp [putAt]
  omega
theorem sv_put {n D E : Nat} {L : List Rat} {i : Nat} {r : Rat} (h : SvL n D L) (hr : Sv n E r) (hD : D ∣ E) : SvL n E (putAt L i r) := by
  intro a ha
  rcases List.mem_append.mp ha with ha | ha
  · rcases List.mem_append.mp ha with ha | ha
    · exact (h a (List.mem_of_mem_take ha)).mono (Nat.le_refl _) hD
    · rw [List.mem_singleton.mp ha]
      exact hr
  · exact (h a (List.mem_of_mem_drop ha)).mono (Nat.le_refl _) hD
theorem sz_put {n d : Nat} {L : List Rat} {i : Nat} {r : Rat} (h : SzL n d L) (hr : Sz n d r) : SzL n d (putAt L i r) := by
  intro a ha
  rcases List.mem_append.mp ha with ha | ha
  · rcases List.mem_append.mp ha with ha | ha
    · exact h a (List.mem_of_mem_take ha)
    · rw [List.mem_singleton.mp ha]
      exact hr
  · exact h a (List.mem_of_mem_drop ha)
theorem fits_put {W : Nat → Nat} {D E : Nat} (hW : ∀ i, W i ≤ 2 ^ 203) (hD : D ≤ 2 ^ 203) (d0 : 0 < D) (e0 : 0 < E) (hE : E ≤ 2 ^ 70) : Fits W (D * E) := by
  refine ⟨Nat.mul_pos d0 e0, ?_⟩
  have h3 : pw W 4 * (D * E) ≤ (2 ^ 203 * (2 ^ 203 * (2 ^ 203 * (2 ^ 203 * 1)))) * (2 ^ 203 * 2 ^ 70) := Nat.mul_le_mul (Nat.mul_le_mul (hW 3) (Nat.mul_le_mul (hW 2) (Nat.mul_le_mul (hW 1) (Nat.mul_le_mul (hW 0) (Nat.le_refl 1))))) (Nat.mul_le_mul hD hE)
  exact Nat.lt_of_le_of_lt h3 (by decide +kernel)
end Nc
end
section
set_option maxRecDepth 100000
set_option maxHeartbeats 4000000
namespace Nc
open PySem PySem.Spec PyProof.Rows L2
/-- an iterator at it over what stands at l: J its place, C what stands -/
structure Itr (it l : Addr) (J : Heap → Nat → Prop) (C : Heap → Array Value → Prop) : Prop where
  keepJ : ∀ {h h' : Heap} {k : Nat}, J h k → h'.get? it = h.get? it → J h' k
  keepC : ∀ {h h' : Heap} {xs : Array Value}, C h xs → h'.get? l = h.get? l → C h' xs
  item : ∀ {prog : Program} {w : World} {A : Around} {E : Value → Shared → Prop} {s : Shared} {k : Nat} {xs : Array Value} {x : Value} {Q : Value → Shared → Prop}, J s.heap k → C s.heap xs → xs[k]? = some x → (∀ h' : Heap, J h' (k + 1) → Heap.SameBut it s.heap h' → Q x { heap := h', gens := s.gens, drawn := s.drawn, toks := s.toks, os := s.os }) → wpAny (model prog w) A (Builtin.SmallTypes.nextOf (Value.ref it)) Q E s
  stop : ∀ {prog : Program} {w : World} {A : Around} {E : Value → Shared → Prop} {s : Shared} {k : Nat} {xs : Array Value} {Q : Value → Shared → Prop}, A.handled = none → J s.heap k → C s.heap xs → xs[k]? = none → (∀ (h' : Heap) (e : Addr), Heap.ExtBut it s.heap h' → (∃ o, h'.get? e = some o ∧ o.cls = Value.type "StopIteration") → E (Value.ref e) { heap := h', gens := s.gens, drawn := s.drawn, toks := s.toks, os := s.os }) → wpAny (model prog w) A (Builtin.SmallTypes.nextOf (Value.ref it)) Q E s
theorem itrL {it l : Addr} : Itr it l (fun h k => h.IsListIter it l k) (fun h xs => h.IsList l xs) :=
  ⟨fun ⟨o, h, r⟩ e => ⟨o, by rw [e]; exact h, r⟩, fun ⟨o, h, r⟩ e => ⟨o, by rw [e]; exact h, r⟩, fun a b c d => wpAny_nextOf_list_item a b c d, fun z a b c d => wpAny_nextOf_list_end z a b c d⟩
theorem itrT {it l : Addr} : Itr it l (fun h k => h.IsTupleIter it l k) (fun h xs => h.IsTuple l xs) :=
  ⟨fun ⟨o, h, r⟩ e => ⟨o, by rw [e]; exact h, r⟩, fun ⟨o, h, r⟩ e => ⟨o, by rw [e]; exact h, r⟩, fun a b c d => RZ.nextOf_tuple_item a b c d, fun z a b c d => RZ.nextOf_tuple_end z a b c d⟩
theorem push_ne {h : Heap} {o : Obj} {c : Addr} (hc : c < h.objs.size) : (h.push o).get? c = h.get? c := by
  cases e : h.get? c with
  | some u => exact Heap.get?_push_of_some _ e
  | none =>
    unfold Heap.get? Heap.push at *
    simp only [Array.getElem?_push] at *
    rw [if_neg (by exact Nat.ne_of_lt hc)]
    exact e
theorem zipG_next_item {J1 J2 : Heap → Nat → Prop} {C1 C2 : Heap → Array Value → Prop} {prog : Program} {w : World} {A : Around} {E : Value → Shared → Prop} {s : Shared} {z TI TO i1 i2 l1 l2 : Addr} {k1 k2 : Nat} {xs ys : Array Value} {x y a b : Value} {Q : Value → Shared → Prop}
    (ap : ZipApart z TI TO i1 i2 l1 l2) (hz : IsZip s.heap z TI TO Value.none) (hI : IsPair s.heap TI (Value.ref i1) (Value.ref i2)) (hO : IsPair s.heap TO a b) (I1 : Itr i1 l1 J1 C1) (I2 : Itr i2 l2 J2 C2) (h1 : J1 s.heap k1) (h2 : J2 s.heap k2) (t1 : C1 s.heap xs) (t2 : C2 s.heap ys)
    (li1 : i1 < s.heap.objs.size) (li2 : i2 < s.heap.objs.size) (x1 : xs[k1]? = some x) (x2 : ys[k2]? = some y)
    (q : ∀ h' : Heap, IsZip h' z TI TO (rawInt ↑s.heap.objs.size) → IsPair h' TO x y → J1 h' (k1 + 1) → J2 h' (k2 + 1) → IsPair h' s.heap.objs.size x y → h'.objs.size = s.heap.objs.size + 1 → (∀ (c : Addr) (o : Obj), c ≠ z → c ≠ TO → c ≠ i1 → c ≠ i2 → s.heap.get? c = some o → h'.get? c = some o) → Q (Value.ref s.heap.objs.size) { heap := h', gens := s.gens, drawn := s.drawn, toks := s.toks, os := s.os }) :
    wpAny (model prog w) A (Builtin.«zip.__next__» { pos := [Value.ref z] }) (fun fin s' => ∃ v, fin = Fin.done (Flow.ret v) ∧ Q v s') E s := by
  obtain ⟨hp, g, d, tk, os⟩ := s
  simp only at hz hI hO q li1 li2
  have ap0 := ap
  obtain ⟨a1, a2, a3, a4, a5, a6, a7, a8, a9, a10, b1, b2, b3, b4, b5, b6, b7, b8⟩ := ap
  wp_walk
  show wpAny (model prog w) A (((Builtin.SmallTypes.nextOf (Value.ref i1)).bind fun x => Sem.pure (some x)).onRaise fun _ => setField (Value.ref z) 0 Value.none) _ _ _
  refine wpAny_onRaise (wpAny_bind ?_)
  refine I1.item (k := k1) (xs := xs) (x := x) ?_ ?_ x1 fun h' t' sb => ?_
  · exact I1.keepJ h1 (Heap.get?_update_ne _ _ _ _ a3)
  · exact I1.keepC t1 (Heap.get?_update_ne _ _ _ _ b1)
  · have hO' : IsPair h' TO a b := by
      show h'.get? TO = _
      rw [sb.2 TO a8]
      show (hp.update z _).get? TO = _
      heap_get
    have h2' : J2 h' k2 := I2.keepJ h2 ((sb.2 i2 (Ne.symm a10)).trans (Heap.get?_update_ne _ _ _ _ a4))
    have t2' : C2 h' ys := I2.keepC t2 ((sb.2 l2 b7).trans (Heap.get?_update_ne _ _ _ _ b5))
    have hz' : h'.get? z = some { cls := Value.type "zip", data := Data.fields #[Value.ellipsis, Value.bool false, Value.bool false, Value.ref TI, Value.ref TO] } := by
      rw [sb.2 z (Ne.symm a3)]
      exact Heap.get?_update_self _ hz rfl
    refine wpAny_pure ?_
    wp_walk
    show wpAny (model prog w) A (((Builtin.SmallTypes.nextOf (Value.ref i2)).bind fun x => Sem.pure (some x)).onRaise fun _ => setField (Value.ref z) 0 Value.none) _ _ _
    refine wpAny_onRaise (wpAny_bind ?_)
    refine I2.item (k := k2) (xs := ys) (x := y) ?_ ?_ x2 fun h'' t'' sb2 => ?_
    · exact I2.keepJ h2' (Heap.get?_update_ne _ _ _ _ (Ne.symm a9))
    · exact I2.keepC t2' (Heap.get?_update_ne _ _ _ _ b6)
    · have hO2 : h''.get? TO = some { cls := Value.type "tuple", data := Data.seq #[x, b] } := by
        rw [sb2.2 TO a9]
        exact Heap.get?_update_self _ hO' rfl
      have hz2 : h''.get? z = some { cls := Value.type "zip", data := Data.fields #[Value.ellipsis, Value.bool false, Value.bool false, Value.ref TI, Value.ref TO] } := by
        rw [sb2.2 z (Ne.symm a4)]
        show (h'.update TO _).get? z = _
        heap_get
      refine wpAny_pure ?_
      wp_walk
      have es : (h''.update TO (Obj.mapSeq fun x => x.setIfInBounds (0 + 1) y)).objs.size = hp.objs.size := by
        rw [Heap.size_update, sb2.1]
        show (h'.update TO _).objs.size = _
        rw [Heap.size_update, sb.1]
        exact Heap.size_update _ _ _
      have k1' : ∀ (c : Addr) (o : Obj), c ≠ z → c ≠ TO → c ≠ i1 → c ≠ i2 → hp.get? c = some o → (h''.update TO (Obj.mapSeq fun x => x.setIfInBounds (0 + 1) y)).get? c = some o := by
        intro c o n1 n2 n3 n4 hc
        rw [Heap.get?_update_ne _ _ _ _ n2, sb2.2 c n4]
        show (h'.update TO _).get? c = some o
        rw [Heap.get?_update_ne _ _ _ _ n2, sb.2 c n3]
        show (hp.update z _).get? c = some o
        rw [Heap.get?_update_ne _ _ _ _ n1]
        exact hc
      have kTO : (h''.update TO (Obj.mapSeq fun x => x.setIfInBounds (0 + 1) y)).get? TO = some { cls := Value.type "tuple", data := Data.seq #[x, y] } := Heap.get?_update_self _ hO2 rfl
      have kz : (h''.update TO (Obj.mapSeq fun x => x.setIfInBounds (0 + 1) y)).get? z = some { cls := Value.type "zip", data := Data.fields #[Value.ellipsis, Value.bool false, Value.bool false, Value.ref TI, Value.ref TO] } := by
        rw [Heap.get?_update_ne _ _ _ _ (Ne.symm a2)]
        exact hz2
      have ki1 : J1 (h''.update TO (Obj.mapSeq fun x => x.setIfInBounds (0 + 1) y)) (k1 + 1) := I1.keepJ t' ((Heap.get?_update_ne _ _ _ _ (Ne.symm a8)).trans ((sb2.2 i1 a10).trans (Heap.get?_update_ne _ _ _ _ (Ne.symm a8))))
      have ki2 : J2 (h''.update TO (Obj.mapSeq fun x => x.setIfInBounds (0 + 1) y)) (k2 + 1) := I2.keepJ t'' (Heap.get?_update_ne _ _ _ _ (Ne.symm a9))
      rw [es]
      generalize h''.update TO (Obj.mapSeq fun x => x.setIfInBounds (0 + 1) y) = hu at es k1' kTO kz ki1 ki2 ⊢
      have up : ∀ {c : Addr} {o : Obj} {t f g}, c ≠ z → hu.get? c = some o → (((hu.push t).update z f).update z g).get? c = some o := fun n hc => by
        rw [Heap.get?_update_ne _ _ _ _ n, Heap.get?_update_ne _ _ _ _ n]
        exact Heap.get?_push_of_some _ hc
      refine ⟨_, rfl, q _ ?_ ?_ ?_ ?_ ?_ ?_ fun c o n1 n2 n3 n4 hc => up n1 (k1' c o n1 n2 n3 n4 hc)⟩
      · exact Heap.get?_update_self _ (Heap.get?_update_self _ (Heap.get?_push_of_some _ kz) rfl) rfl
      · exact up a2 kTO
      · refine I1.keepJ ki1 ?_
        rw [Heap.get?_update_ne _ _ _ _ a3, Heap.get?_update_ne _ _ _ _ a3]
        exact push_ne (by rw [es]; exact li1)
      · refine I2.keepJ ki2 ?_
        rw [Heap.get?_update_ne _ _ _ _ a4, Heap.get?_update_ne _ _ _ _ a4]
        exact push_ne (by rw [es]; exact li2)
      · have nz : hp.objs.size ≠ z := fun e => by
          exact absurd e (Nat.ne_of_gt (Heap.lt_size hz))
        show Heap.get? _ _ = _
        rw [Heap.get?_update_ne _ _ _ _ nz, Heap.get?_update_ne _ _ _ _ nz]
        rw [← es]; exact Heap.get?_push_size _ rfl
      · rw [Heap.size_update, Heap.size_update]
        show (hu.objs.push _).size = _
        rw [Array.size_push, es]
end Nc
end
section
set_option maxRecDepth 100000
set_option maxHeartbeats 4000000
namespace Nc
open PySem PySem.Spec PyProof.Rows L2
theorem zipG_next_end {J1 J2 : Heap → Nat → Prop} {C1 C2 : Heap → Array Value → Prop} {prog : Program} {w : World} {A : Around} {E : Value → Shared → Prop} {s : Shared} {z TI TO i1 i2 l1 l2 : Addr} {k1 k2 : Nat} {xs ys : Array Value} {a b : Value} {Q : PySem.Fin → Shared → Prop}
    (hA : A.handled = none) (ap : ZipApart z TI TO i1 i2 l1 l2) (hz : IsZip s.heap z TI TO Value.none) (hI : IsPair s.heap TI (Value.ref i1) (Value.ref i2)) (hO : IsPair s.heap TO a b) (I1 : Itr i1 l1 J1 C1) (I2 : Itr i2 l2 J2 C2) (h1 : J1 s.heap k1) (h2 : J2 s.heap k2) (t1 : C1 s.heap xs) (t2 : C2 s.heap ys)
    (x12 : xs[k1]? = none ∨ ys[k2]? = none)
    (q : ∀ (h' : Heap) (e : Addr), (∀ (c : Addr) (o : Obj), c ≠ z → c ≠ TO → c ≠ i1 → c ≠ i2 → s.heap.get? c = some o → h'.get? c = some o) → (∃ o, h'.get? e = some o ∧ o.cls = Value.type "StopIteration") → E (Value.ref e) { heap := h', gens := s.gens, drawn := s.drawn, toks := s.toks, os := s.os }) :
    wpAny (model prog w) A (Builtin.«zip.__next__» { pos := [Value.ref z] }) Q E s := by
  obtain ⟨hp, g, d, tk, os⟩ := s
  simp only at hz hI hO q
  obtain ⟨a1, a2, a3, a4, a5, a6, a7, a8, a9, a10, b1, b2, b3, b4, b5, b6, b7, b8⟩ := ap
  have fin : ∀ (h' : Heap) (e : Addr), (∀ (c : Addr) (o : Obj), c ≠ z → c ≠ TO → c ≠ i1 → c ≠ i2 → hp.get? c = some o → h'.get? c = some o) → (∃ o, h'.get? e = some o ∧ o.cls = Value.type "StopIteration") → h'.get? z = some { cls := Value.type "zip", data := Data.fields #[Value.ellipsis, Value.bool false, Value.bool false, Value.ref TI, Value.ref TO] } → E (Value.ref e) { heap := h'.update z (Obj.mapFields fun x => x.setIfInBounds 0 Value.none), gens := g, drawn := d, toks := tk, os := os } := by
    intro h' e kp se hz'
    refine q _ e (fun c o n1 n2 n3 n4 hc => by rw [Heap.get?_update_ne _ _ _ _ n1]; exact kp c o n1 n2 n3 n4 hc) ?_
    obtain ⟨o, ho, hc⟩ := se
    have ne : e ≠ z := fun eq => by
      rw [eq, hz'] at ho
      rw [← Option.some.inj ho] at hc
      have := Value.type.inj hc
      exact absurd this (by decide)
    exact ⟨o, by rw [Heap.get?_update_ne _ _ _ _ ne]; exact ho, hc⟩
  cases x1 : xs[k1]? with
  | none =>
    wp_walk
    show wpAny (model prog w) A (((Builtin.SmallTypes.nextOf (Value.ref i1)).bind fun x => Sem.pure (some x)).onRaise fun _ => setField (Value.ref z) 0 Value.none) _ _ _
    refine wpAny_onRaise (wpAny_bind ?_)
    refine I1.stop (k := k1) (xs := xs) hA ?_ ?_ x1 fun h' e ex se => ?_
    · exact I1.keepJ h1 (Heap.get?_update_ne _ _ _ _ a3)
    · exact I1.keepC t1 (Heap.get?_update_ne _ _ _ _ b1)
    · have hz' : h'.get? z = some { cls := Value.type "zip", data := Data.fields #[Value.ellipsis, Value.bool false, Value.bool false, Value.ref TI, Value.ref TO] } := ex z _ (Ne.symm a3) (Heap.get?_update_self _ hz rfl)
      wp_walk
      exact fin h' e (fun c o n1 n2 n3 n4 hc => ex c o n3 ((Heap.get?_update_ne _ _ _ _ n1).trans hc)) se hz'
  | some x =>
    have x2 : ys[k2]? = none := by
      rcases x12 with h | h
      · rw [x1] at h
        cases h
      · exact h
    wp_walk
    show wpAny (model prog w) A (((Builtin.SmallTypes.nextOf (Value.ref i1)).bind fun x => Sem.pure (some x)).onRaise fun _ => setField (Value.ref z) 0 Value.none) _ _ _
    refine wpAny_onRaise (wpAny_bind ?_)
    refine I1.item (k := k1) (xs := xs) (x := x) ?_ ?_ x1 fun h' t' sb => ?_
    · exact I1.keepJ h1 (Heap.get?_update_ne _ _ _ _ a3)
    · exact I1.keepC t1 (Heap.get?_update_ne _ _ _ _ b1)
    · have hO' : IsPair h' TO a b := by
        show h'.get? TO = _
        rw [sb.2 TO a8]
        show (hp.update z _).get? TO = _
        heap_get
      have h2' : J2 h' k2 := I2.keepJ h2 ((sb.2 i2 (Ne.symm a10)).trans (Heap.get?_update_ne _ _ _ _ a4))
      have t2' : C2 h' ys := I2.keepC t2 ((sb.2 l2 b7).trans (Heap.get?_update_ne _ _ _ _ b5))
      have hz' : h'.get? z = some { cls := Value.type "zip", data := Data.fields #[Value.ellipsis, Value.bool false, Value.bool false, Value.ref TI, Value.ref TO] } := by
        rw [sb.2 z (Ne.symm a3)]
        exact Heap.get?_update_self _ hz rfl
      refine wpAny_pure ?_
      wp_walk
      show wpAny (model prog w) A (((Builtin.SmallTypes.nextOf (Value.ref i2)).bind fun x => Sem.pure (some x)).onRaise fun _ => setField (Value.ref z) 0 Value.none) _ _ _
      refine wpAny_onRaise (wpAny_bind ?_)
      refine I2.stop (k := k2) (xs := ys) hA ?_ ?_ x2 fun h'' e ex se => ?_
      · exact I2.keepJ h2' (Heap.get?_update_ne _ _ _ _ (Ne.symm a9))
      · exact I2.keepC t2' (Heap.get?_update_ne _ _ _ _ b6)
      · have hz2 : h''.get? z = some { cls := Value.type "zip", data := Data.fields #[Value.ellipsis, Value.bool false, Value.bool false, Value.ref TI, Value.ref TO] } := ex z _ (Ne.symm a4) ((Heap.get?_update_ne _ _ _ _ (Ne.symm a2)).trans hz')
        wp_walk
        refine fin h'' e (fun c o n1 n2 n3 n4 hc => ex c o n4 ((Heap.get?_update_ne _ _ _ _ n2).trans ?_)) se hz2
        rw [sb.2 c n3]
        exact (Heap.get?_update_ne _ _ _ _ n1).trans hc
end Nc
end
section
set_option maxRecDepth 100000
set_option maxHeartbeats 4000000
namespace Nc
open PySem PySem.Spec PyProof.Rows L2
/-! zip of any two kinds of sequences: true a tuple, false a list -/
def SqX (K : PySem.W.Frag) : Bool → Hp → Addr → List V → Prop
  | true => fun H a xs => SqT K H a xs
  | false => fun H a xs => SqL K H a xs
def JX : Bool → Addr → Addr → Heap → Nat → Prop
  | true => fun it l h k => h.IsTupleIter it l k
  | false => fun it l h k => h.IsListIter it l k
def CX : Bool → Addr → Heap → Array Value → Prop
  | true => fun l h xs => h.IsTuple l xs
  | false => fun l h xs => h.IsList l xs
def itN : Bool → String
  | true => "tuple_iterator"
  | false => "list_iterator"
theorem itrX {it l : Addr} : (c : Bool) → Itr it l (JX c it l) (CX c l)
  | true => itrT
  | false => itrL
theorem JX.lt {it l : Addr} {h : Heap} {k : Nat} : {c : Bool} → JX c it l h k → it < h.objs.size
  | true, ⟨_, e, _⟩ => Heap.lt_size e
  | false, ⟨_, e, _⟩ => Heap.lt_size e
theorem JX.at' {it l : Addr} {h h' : Heap} {k : Nat} : {c : Bool} → JX c it l h k → (∀ o, h.get? it = some o → h'.get? it = some o) → JX c it l h' k
  | true, j, f => Heap.IsTupleIter.at j f
  | false, j, f => Heap.IsListIter.at j f
theorem CX.lt {l : Addr} {h : Heap} {xs : Array Value} : {c : Bool} → CX c l h xs → l < h.objs.size
  | true, ⟨_, e, _⟩ => Heap.lt_size e
  | false, ⟨_, e, _⟩ => Heap.lt_size e
theorem CX.push {l : Addr} {h : Heap} {xs : Array Value} {o : Obj} : {c : Bool} → CX c l h xs → CX c l (h.push o) xs
  | true, ⟨o', e, r⟩ => ⟨o', Heap.get?_push_of_some _ e, r⟩
  | false, ⟨o', e, r⟩ => ⟨o', Heap.get?_push_of_some _ e, r⟩
theorem invX {X : Cx} {pins : List (Addr × Obj)} {σ : L2.St} {H : Hp} {s : Shared} (I : Inv X pins σ H s) {a : Addr} {xs : List V} : {c : Bool} → SqX X.K c H a xs → ∃ its, Vals xs its ∧ CX c a s.heap its.toArray
  | true, q => by obtain ⟨its, r, p, _⟩ := I.tuple q; exact ⟨its, r, p⟩
  | false, q => by obtain ⟨its, r, p, _⟩ := I.list q; exact ⟨its, r, p.isList⟩
theorem injX {X : Cx} {pins : List (Addr × Obj)} {σ : L2.St} {H : Hp} {s : Shared} (I : Inv X pins σ H s) {a : Addr} {xs ys : List V} : {c : Bool} → SqX X.K c H a xs → SqX X.K c H a ys → xs = ys
  | true, q, r => I.tuple_inj q r
  | false, q, r => I.list_inj q r
section
variable {prog : Program} {w : World} {A : Around} {E : Value → Shared → Prop} {s : Shared}
theorem pyNext_zipX_item {c1 c2 : Bool} {z TI TO i1 i2 l1 l2 : Addr} {k1 k2 : Nat} {xs ys : Array Value} {x y a b : Value} {Q : Option Value → Shared → Prop} (D : ZipApart z TI TO i1 i2 l1 l2)
    (hz : IsZip s.heap z TI TO .none) (hTI : IsPair s.heap TI (.ref i1) (.ref i2)) (hTO : IsPair s.heap TO a b)
    (h1 : JX c1 i1 l1 s.heap k1) (h2 : JX c2 i2 l2 s.heap k2) (hl1 : CX c1 l1 s.heap xs) (hl2 : CX c2 l2 s.heap ys) (hx : xs[k1]? = some x) (hy : ys[k2]? = some y)
    (hQ : ∀ h', IsZip h' z TI TO (rawInt s.heap.objs.size) → IsPair h' TO x y → JX c1 i1 l1 h' (k1 + 1) → JX c2 i2 l2 h' (k2 + 1) → IsPair h' s.heap.objs.size x y → h'.objs.size = s.heap.objs.size + 1 →
      (∀ c o, c ≠ z → c ≠ TO → c ≠ i1 → c ≠ i2 → s.heap.get? c = some o → h'.get? c = some o) → Q (some (.ref s.heap.objs.size)) { s with heap := h' }) :
    wpAny (model prog w) A (pyNext (.ref z)) Q E s := by
  have hT : s.TypeIs (.ref z) "zip" := ⟨_, hz, rfl⟩
  unfold pyNext
  exact wpAny_bind (wpAny_attempt (wpAny_callSpecial?_slot (name := Str.ofString "__next__") hT F.slot_zip_next
    (wpAny_call_entry F.slot_zip_next hT F.entry_zip_next
      (zipG_next_item D hz hTI hTO (itrX c1) (itrX c2) h1 h2 hl1 hl2 h1.lt h2.lt hx hy fun h' a1 a2 a3 a4 a5 a6 a7 => wpAny_pure (hQ h' a1 a2 a3 a4 a5 a6 a7)) (F.args_zip_next_1 _))))
theorem pyNext_zipX_end {c1 c2 : Bool} {z TI TO i1 i2 l1 l2 : Addr} {k1 k2 : Nat} {xs ys : Array Value} {a b : Value} {Q : Option Value → Shared → Prop} (hh : A.handled = none) (D : ZipApart z TI TO i1 i2 l1 l2)
    (hz : IsZip s.heap z TI TO .none) (hTI : IsPair s.heap TI (.ref i1) (.ref i2)) (hTO : IsPair s.heap TO a b)
    (h1 : JX c1 i1 l1 s.heap k1) (h2 : JX c2 i2 l2 s.heap k2) (hl1 : CX c1 l1 s.heap xs) (hl2 : CX c2 l2 s.heap ys) (hend : xs[k1]? = none ∨ ys[k2]? = none)
    (hQ : ∀ h', (∀ c o, c ≠ z → c ≠ TO → c ≠ i1 → c ≠ i2 → s.heap.get? c = some o → h'.get? c = some o) → Q none { s with heap := h' }) : wpAny (model prog w) A (pyNext (.ref z)) Q E s := by
  have hT : s.TypeIs (.ref z) "zip" := ⟨_, hz, rfl⟩
  unfold pyNext
  refine wpAny_bind (wpAny_attempt (wpAny_callSpecial?_slot (name := Str.ofString "__next__") hT F.slot_zip_next
    (wpAny_call_entry F.slot_zip_next hT F.entry_zip_next (zipG_next_end hh D hz hTI hTO (itrX c1) (itrX c2) h1 h2 hl1 hl2 hend fun h' e hk he => ?_) (F.args_zip_next_1 _))))
  obtain ⟨o, ho, hc⟩ := he
  refine wpAny_bind (wpAny_isInstance (T := "StopIteration") (b := true) ⟨o, ho, hc⟩ isSubtype_stop ?_)
  exact wpAny_pure (hQ _ hk)
end
/-- the sequences at a and b as they stand at each turn, the items in new pairs -/
def ItzX (K : PySem.W.Frag) (c1 c2 : Bool) (a b : Addr) : It :=
  ⟨fun i H => ∃ (xs ys : List V) (x y : V), SqX K c1 H a xs ∧ SqX K c2 H b ys ∧ xs[i]? = some x ∧ ys[i]? = some y,
    fun i H v H' => ∃ T x y, v = .ref T ∧ H T = none ∧ H' = upd H T (.tup [x, y]) ∧ (∀ xs, SqX K c1 H a xs → xs[i]? = some x) ∧ ∀ ys, SqX K c2 H b ys → ys[i]? = some y,
    fun i H => ∃ xs ys : List V, SqX K c1 H a xs ∧ SqX K c2 H b ys ∧ (xs.length ≤ i ∨ ys.length ≤ i)⟩
theorem turn_zipX {c1 c2 : Bool} {P : Program} {w : World} {K : PySem.W.Frag} {elts : List Expr} {kk : Nat} {tpos : Pos} {a b z TI TO i1 i2 : Addr} (D : ZipApart z TI TO i1 i2 a b) :
    Turn P w K (.Tuple elts kk tpos) (ItzX K c1 c2 a b) [z, TI, TO, i1, i2] z (fun i h => IsZip h z TI TO .none ∧ IsPair h TI (.ref i1) (.ref i2) ∧ (∃ x y, IsPair h TO x y) ∧ JX c1 i1 a h i ∧ JX c2 i2 b h i) where
  mem := by simp
  obj := fun i h st c hc => by
    obtain ⟨hz, hTI, ⟨x, y, hTO⟩, h1, h2⟩ := st
    have e' : c = z ∨ c = TI ∨ c = TO ∨ c = i1 ∨ c = i2 := by simpa using hc
    rcases e' with q | q | q | q | q
    · rw [q]; exact ⟨_, hz, fun v q => nomatch q⟩
    · rw [q]; exact ⟨_, hTI, fun v q => nomatch q⟩
    · rw [q]; exact ⟨_, hTO, fun v q => nomatch q⟩
    · rw [q]
      cases c1
      · obtain ⟨o1, e1, _, d1⟩ := h1
        exact ⟨o1, e1, fun v q => by rw [d1] at q; cases q⟩
      · obtain ⟨o1, e1, _, d1⟩ := h1
        exact ⟨o1, e1, fun v q => by rw [d1] at q; cases q⟩
    · rw [q]
      cases c2
      · obtain ⟨o1, e1, _, d1⟩ := h2
        exact ⟨o1, e1, fun v q => by rw [d1] at q; cases q⟩
      · obtain ⟨o1, e1, _, d1⟩ := h2
        exact ⟨o1, e1, fun v q => by rw [d1] at q; cases q⟩
  keep := fun i h h' st k => by
    obtain ⟨hz, hTI, ⟨x, y, hTO⟩, h1, h2⟩ := st
    exact ⟨k z (by simp) _ hz, k TI (by simp) _ hTI, ⟨x, y, k TO (by simp) _ hTO⟩, h1.at' fun o q => k i1 (by simp) o q, h2.at' fun o q => k i2 (by simp) o q⟩
  item := by
    intro X hP hw hK hc i pins s σ H E I hf st hg
    subst hP hw hK
    obtain ⟨hz, hTI, ⟨x0, y0, hTO⟩, h1, h2⟩ := st
    obtain ⟨xs, ys, x, y, hqx, hqy, hx, hy⟩ := hg
    obtain ⟨its, rv, p⟩ := invX I hqx
    obtain ⟨its2, rv2, p2⟩ := invX I hqy
    obtain ⟨u, hu, ru⟩ := rv.get hx
    obtain ⟨u2, hu2, ru2⟩ := rv2.get hy
    have hzl : z < s.heap.objs.size := Heap.lt_size hz
    refine pyNext_zipX_item D hz hTI hTO h1 h2 p p2 (x := u) (y := u2) (by simpa using hu) (by simpa using hu2) fun h' z' TO' h1' h2' hT hsz hk => ?_
    refine ⟨_, rfl, wpAny_letOwnedTupleGo_zip (s := { s with heap := h' }) z' fun h'' z'' sb => ?_⟩
    have hT2 : h''.get? s.heap.objs.size = some { cls := .type "tuple", data := .seq #[u, u2] } := (sb.2 _ (Nat.ne_of_gt hzl)).trans hT
    have new : ObjOk X.prog X.w (upd H s.heap.objs.size (.tup [x, y])) h'' s.heap.objs.size (.tup [x, y]) :=
      ⟨by show 2 ≤ sizeLine; decide, [u, u2], .cons ru (.cons ru2 .nil), ⟨_, hT2, rfl, _, rfl⟩⟩
    have I1 : Inv X pins σ (upd H s.heap.objs.size (.tup [x, y])) { s with heap := h'' } :=
      I.turnedNew (t' := s.toks) (ch := [z, TI, TO, i1, i2]) (fun c o hb q => (sb.2 c (fun q' => hb (by simp [q']))).trans (hk c o (fun q' => hb (by simp [q'])) (fun q' => hb (by simp [q'])) (fun q' => hb (by simp [q'])) (fun q' => hb (by simp [q'])) q)) hf (Nat.le_refl _) new
    refine ⟨.ref s.heap.objs.size, _, I1, rfl, ⟨_, x, y, rfl, I.hok.fresh (Nat.le_refl _), rfl, fun l hl => by rw [injX I hl hqx]; exact hx, fun l hl => by rw [injX I hl hqy]; exact hy⟩, ⟨z'', ?_, ⟨u, u2, ?_⟩, ?_, ?_⟩, fun c hcm => ?_⟩
    · exact (sb.2 _ D.TIz).trans (hk _ _ D.TIz D.TITO D.TIi1 D.TIi2 hTI)
    · exact (sb.2 _ D.TOz).trans TO'
    · exact h1'.at' fun o q => (sb.2 _ D.i1z).trans q
    · exact h2'.at' fun o q => (sb.2 _ D.i2z).trans q
    · have hlt : c < s.heap.objs.size := by
        have e' : c = z ∨ c = TI ∨ c = TO ∨ c = i1 ∨ c = i2 := by simpa using hcm
        rcases e' with q | q | q | q | q
        · rw [q]; exact hzl
        · rw [q]; exact Heap.lt_size hTI
        · rw [q]; exact Heap.lt_size hTO
        · rw [q]; exact h1.lt
        · rw [q]; exact h2.lt
      rw [upd_ne (Nat.ne_of_lt hlt)]
      exact (hf c hcm).1
  done := by
    intro X hP hw hK hc i pins s σ H E I hf st hg
    subst hP hw hK
    obtain ⟨hz, hTI, ⟨x0, y0, hTO⟩, h1, h2⟩ := st
    obtain ⟨xs, ys, hqx, hqy, hend⟩ := hg
    obtain ⟨its, rv, p⟩ := invX I hqx
    obtain ⟨its2, rv2, p2⟩ := invX I hqy
    have l1 := rv.length
    have l2 := rv2.length
    have he : its.toArray[i]? = none ∨ its2.toArray[i]? = none := by
      rcases hend with q | q
      · exact .inl (by simp; omega)
      · exact .inr (by simp; omega)
    exact pyNext_zipX_end (I.ok.hd hc) D hz hTI hTO h1 h2 p p2 he fun h' hk => ⟨rfl, I.turnedL (t' := s.toks) (ch := [z, TI, TO, i1, i2]) (fun c o hb q =>
      hk c o (fun q' => hb (by simp [q'])) (fun q' => hb (by simp [q'])) (fun q' => hb (by simp [q'])) (fun q' => hb (by simp [q'])) q) hf⟩
  self := fun A i s Q E st h => wpAny_pyIter_zip st.1 h
end Nc
end
section
set_option maxRecDepth 100000
set_option maxHeartbeats 4000000
namespace Nc
open PySem PySem.Spec PyProof.Rows L2
abbrev zh1 (c : Bool) (h : Heap) (l1 : Addr) : Heap := h.push { cls := .type (itN c), data := .fields #[.ref l1, .int 0 0] }
abbrev zh2 (c c' : Bool) (h : Heap) (l1 l2 : Addr) : Heap := (zh1 c h l1).push { cls := .type (itN c'), data := .fields #[.ref l2, .int 0 0] }
abbrev zh3 (c c' : Bool) (h : Heap) (l1 l2 : Addr) : Heap := (zh2 c c' h l1 l2).push { cls := .type "tuple", data := .seq #[.ref h.objs.size, .ref (zh1 c h l1).objs.size] }
abbrev zh4 (c c' : Bool) (h : Heap) (l1 l2 : Addr) : Heap := (zh3 c c' h l1 l2).push { cls := .type "tuple", data := .seq #[.none, .none] }
abbrev zh5 (c c' : Bool) (h : Heap) (l1 l2 : Addr) : Heap := (zh4 c c' h l1 l2).push { cls := .type "zip", data := .fields #[.none, .bool false, .bool false, .ref (zh2 c c' h l1 l2).objs.size, .ref (zh3 c c' h l1 l2).objs.size] }
theorem pyIterX {c : Bool} {prog : Program} {w : World} {A : Around} {E : Value → Shared → Prop} {s : Shared} {l : Addr} {items : Array Value} {Q : Value → Shared → Prop} (h : CX c l s.heap items)
    (q : Q (Value.ref s.heap.objs.size) { heap := s.heap.push { cls := .type (itN c), data := .fields #[.ref l, .int 0 0] }, gens := s.gens, drawn := s.drawn, toks := s.toks, os := s.os }) : wpAny (model prog w) A (pyIter (Value.ref l)) Q E s := by
  cases c
  · exact wpAny_pyIter_list h q
  · exact wpAny_pyIter_tuple h q
theorem meets_zipX_new (c c' : Bool) (l1 l2 : Addr) (xs ys : Array Value) :
    Meets (Builtin.«zip.__new__» ⟨[.type "zip", .ref l1, .ref l2], []⟩) (fun _ R s => CX c l1 s.heap xs ∧ CX c' l2 s.heap ys ∧
      R (.ok (.ret (.ref (zh4 c c' s.heap l1 l2).objs.size))) { s with heap := zh5 c c' s.heap l1 l2 }) :=
  .of_wp fun prog w A R s h => by
    obtain ⟨hp, g, d, tk, os⟩ := s; obtain ⟨hl1, hl2, h⟩ := h
    have hsub := sub_zip
    have hL1 : CX c l1 (Shared.heap ⟨hp, g, d, tk, os⟩) xs := hl1
    have hL2 : CX c' l2 (Shared.heap ⟨hp.push { cls := .type (itN c), data := .fields #[.ref l1, .int 0 0] }, g, d, tk, os⟩) ys := CX.push hl2
    wp_walk using pyIterX hL1, pyIterX hL2
    exact ⟨_, rfl, h⟩
theorem JX.new {c : Bool} {h : Heap} {it l : Addr} (e : h.get? it = some { cls := .type (itN c), data := .fields #[.ref l, .int 0 0] }) : JX c it l h 0 := by
  cases c
  · exact ⟨_, e, rfl, rfl⟩
  · exact ⟨_, e, rfl, rfl⟩
theorem call_zipX {c c' : Bool} {prog : Program} {w : World} {A : Around} {E : Value → Shared → Prop} {s : Shared} {l1 l2 : Addr} {xs ys : Array Value} {Q : Value → Shared → Prop} (hl1 : CX c l1 s.heap xs) (hl2 : CX c' l2 s.heap ys)
    (h : ∀ h', IsZip h' (s.heap.objs.size + 4) (s.heap.objs.size + 2) (s.heap.objs.size + 3) .none → IsPair h' (s.heap.objs.size + 2) (.ref s.heap.objs.size) (.ref (s.heap.objs.size + 1)) →
      IsPair h' (s.heap.objs.size + 3) .none .none → JX c s.heap.objs.size l1 h' 0 → JX c' (s.heap.objs.size + 1) l2 h' 0 → h'.objs.size = s.heap.objs.size + 5 →
      (∀ c o, s.heap.get? c = some o → h'.get? c = some o) → Q (.ref (s.heap.objs.size + 4)) { s with heap := h' }) :
    wpAny (model prog w) A (call (.type "zip") [.ref l1, .ref l2]) Q E s := by
  refine callType_new F.called_zip (by decide) (F.typeCall_zip_2 _ _) (F.newCall_zip_2 _ _) (fun obj => F.args_object_init_3 obj _ _) F.entry_zip_new
    (meets_zipX_new c c' l1 l2 xs ys) ⟨hl1, hl2, ?_⟩
  have z1 : (zh1 c s.heap l1).objs.size = s.heap.objs.size + 1 := Heap.size_push ..
  have z2 : (zh2 c c' s.heap l1 l2).objs.size = s.heap.objs.size + 2 := by rw [Heap.size_push, z1]
  have z3 : (zh3 c c' s.heap l1 l2).objs.size = s.heap.objs.size + 3 := by rw [Heap.size_push, z2]
  have z4 : (zh4 c c' s.heap l1 l2).objs.size = s.heap.objs.size + 4 := by rw [Heap.size_push, z3]
  have z5 : (zh5 c c' s.heap l1 l2).objs.size = s.heap.objs.size + 5 := by rw [Heap.size_push, z4]
  have g5 : (zh5 c c' s.heap l1 l2).get? (zh4 c c' s.heap l1 l2).objs.size = some _ := Heap.get?_push_size _ rfl
  have g4 : (zh5 c c' s.heap l1 l2).get? (zh3 c c' s.heap l1 l2).objs.size = some _ := Heap.get?_push_of_some _ (Heap.get?_push_size _ rfl)
  have g3 : (zh5 c c' s.heap l1 l2).get? (zh2 c c' s.heap l1 l2).objs.size = some _ := Heap.get?_push_of_some _ (Heap.get?_push_of_some _ (Heap.get?_push_size _ rfl))
  have g2 : (zh5 c c' s.heap l1 l2).get? (zh1 c s.heap l1).objs.size = some _ := Heap.get?_push_of_some _ (Heap.get?_push_of_some _ (Heap.get?_push_of_some _ (Heap.get?_push_size _ rfl)))
  have g1 : (zh5 c c' s.heap l1 l2).get? s.heap.objs.size = some _ := Heap.get?_push_of_some _ (Heap.get?_push_of_some _ (Heap.get?_push_of_some _ (Heap.get?_push_of_some _ (Heap.get?_push_size _ rfl))))
  show _ ∧ _
  rw [z2, z3, z4] at g5
  rw [z1, z2] at g3
  rw [z3] at g4
  rw [z1] at g2
  rw [z4]
  exact ⟨⟨_, g5, rfl⟩, h _ g5 g3 g4 (JX.new g1) (JX.new g2) z5 fun c o x =>
    Heap.get?_push_of_some _ (Heap.get?_push_of_some _ (Heap.get?_push_of_some _ (Heap.get?_push_of_some _ (Heap.get?_push_of_some _ x))))⟩
def iZipX (K : PySem.W.Frag) (ta : TA) : TI := fun σ H R => ta σ H fun vs H1 => ∃ (c c' : Bool) (a b : Addr) (xs ys : List V), vs = [.ref a, .ref b] ∧ SqX K c H1 a xs ∧ SqX K c' H1 b ys ∧ R (ItzX K c c' a b) H1
/-- zip of any two: .. in zip(e, e2) -/
theorem pi_zipX {X : Cx} {e e2 : Expr} {ta : TA} {p pos tpos : Pos} {elts : List Expr} {kk : Nat} (hg : Gl X "zip") (hm : X.mg "zip" = none) (ha : PA X [e, e2] ta)
    (hs : starEach [e, e2] X.env = (false, eval e X.env) :: starEach [e2] X.env := by rfl) (hpl : (backTo pos (starEach [e2] X.env)).any (·.1) = false := by rfl) :
    PI X (.Tuple elts kk tpos) (.Call (.Name "zip" p) [e, e2] [] pos) (iZipX X.K ta) := by
  refine ⟨fun pins s σ H R I h => ?_⟩
  refine Call_ (ld_blt I hg hm PyProof.Rows.boot_zip (PyProof.Rows.callWith_type1 (thn (ha.run pos pins s σ H _ I h) fun us s1 ⟨vs, H1, I1, r1, q1⟩ => ?_) hs hpl))
  obtain ⟨c, c', a, b, xs, ys, ex, hqx, hqy, q⟩ := q1
  subst ex
  cases r1 with
  | cons r rr =>
    cases rr with
    | cons r' rr =>
      cases rr
      cases r
      cases r'
      obtain ⟨its, rv, p1⟩ := invX I1 hqx
      obtain ⟨its2, rv2, p2⟩ := invX I1 hqy
      refine call_zipX p1 p2 fun h' hz hTI hTO h1 h2 hsz hk => wpAny_pyIter_zip hz ?_
      have I2 : Inv X pins σ H1 { s1 with heap := h' } := I1.kept (t' := s1.toks) hk
      refine ⟨s1.heap.objs.size + 4, [s1.heap.objs.size + 4, s1.heap.objs.size + 2, s1.heap.objs.size + 3, s1.heap.objs.size, s1.heap.objs.size + 1], _, _, H1, rfl, I2, turn_zipX (PySem.W.ktu_apart s1.heap.objs.size a b p1.lt p2.lt), ⟨hz, hTI, ⟨_, _, hTO⟩, h1, h2⟩, fun c hcm => ?_, q⟩
      have e' : c = s1.heap.objs.size + 4 ∨ c = s1.heap.objs.size + 2 ∨ c = s1.heap.objs.size + 3 ∨ c = s1.heap.objs.size ∨ c = s1.heap.objs.size + 1 := by simpa using hcm
      have hle : s1.heap.objs.size ≤ c := by
        rcases e' with z | z | z | z | z
        · rw [z]; exact Nat.le_add_right _ _
        · rw [z]; exact Nat.le_add_right _ _
        · rw [z]; exact Nat.le_add_right _ _
        · rw [z]; exact Nat.le_refl _
        · rw [z]; exact Nat.le_add_right _ _
      exact I1.fpOk hle (I1.hok.fresh hle)
/-- a loop over zip of two of one length -/
theorem for_zipX {c c' : Bool} {K : PySem.W.Frag} {a b : Addr} {xs ys : List V} {g : TG} {tb : TS} {D : Ends} {σ : L2.St} {H : Hp} (hl : xs.length = ys.length) (Pv : Nat → L2.St → Hp → Prop) (h0 : Pv 0 σ H) (hq : ∀ i σ H, Pv i σ H → SqX K c H a xs ∧ SqX K c' H b ys)
    (hs : ∀ (i : Nat) (x y : V) (T : Addr) (σ : L2.St) (H : Hp), xs[i]? = some x → ys[i]? = some y → Pv i σ H → H T = none → g (.ref T) σ (upd H T (.tup [x, y])) fun σ2 H2 => tb { D with nx := Pv (i + 1), ct := Pv (i + 1), bk := D.nx } σ2 H2) (hd : ∀ σ H, Pv xs.length σ H → D.nx σ H) :
    ∃ W : Nat → Nat → L2.St → Hp → Prop, (∃ m, W 0 m σ H) ∧ ∀ i m σ H, W i m σ H →
      ((ItzX K c c' a b).stop i H ∧ D.nx σ H) ∨ ((ItzX K c c' a b).go i H ∧ ∃ N : L2.St → Hp → Prop, (∀ σ' H', N σ' H' → ∃ m', m' < m ∧ W (i + 1) m' σ' H') ∧ ∀ v H', (ItzX K c c' a b).yld i H v H' → g v σ H' fun σ2 H2 => tb { D with nx := N, ct := N, bk := D.nx } σ2 H2) := by
  refine ⟨fun i m σ H => m = xs.length - i ∧ i ≤ xs.length ∧ Pv i σ H, ⟨xs.length, rfl, Nat.zero_le _, h0⟩, ?_⟩
  rintro i m σ H ⟨rfl, hi, p⟩
  obtain ⟨qx, qy⟩ := hq i σ H p
  by_cases hlt : i < xs.length
  · have hx : xs[i]? = some xs[i] := List.getElem?_eq_getElem hlt
    have hlt2 : i < ys.length := by omega
    have hy : ys[i]? = some ys[i] := List.getElem?_eq_getElem hlt2
    refine .inr ⟨⟨xs, ys, _, _, qx, qy, hx, hy⟩, Pv (i + 1), fun σ' H' p' => ⟨xs.length - (i + 1), by omega, rfl, hlt, p'⟩, fun v H' y => ?_⟩
    obtain ⟨T, x', y', rfl, hT, rfl, f1, f2⟩ := y
    exact hs i x' y' T σ H (f1 xs qx) (f2 ys qy) p hT
  · have e : i = xs.length := by omega
    subst e
    exact .inl ⟨⟨xs, ys, qx, qy, Or.inl (Nat.le_refl _)⟩, hd σ H p⟩
/-- a comprehension over zip of two of one length -/
theorem lc_zipX {c c' : Bool} {K : PySem.W.Frag} {a b : Addr} {xs ys : List V} {g : TG} {tt : TT} {te : TE} {vs : List Nat} {σ : L2.St} {H1 : Hp} {D : Addr} {Qd : Hp → Prop} (hl : xs.length = ys.length) (Pv : Nat → Hp → Prop) (h0 : Pv 0 (upd H1 D (.lst []))) (hq : ∀ i H, Pv i H → SqX K c H a xs ∧ SqX K c' H b ys)
    (hs : ∀ (i : Nat) (x y : V) (T : Addr) (H : Hp), xs[i]? = some x → ys[i]? = some y → Pv i H → H T = none → g (.ref T) (wipe σ vs) (upd H T (.tup [x, y])) fun σ2 H2 => wipe σ2 vs = wipe σ vs ∧ tt σ2 H2 fun b H3 =>
      if b = true then te σ2 H3 fun y H4 => ∃ acc, H4 D = some (.lst acc) ∧ acc.length < sizeLine ∧ Pv (i + 1) (upd H4 D (.lst (acc ++ [y]))) else Pv (i + 1) H3) (hd : ∀ H, Pv xs.length H → Qd H) :
    ∃ W : Nat → Nat → Hp → Prop, (∃ m, W 0 m (upd H1 D (.lst []))) ∧ ∀ i m H, W i m H →
      ((ItzX K c c' a b).stop i H ∧ Qd H) ∨ ((ItzX K c c' a b).go i H ∧ ∃ Nx : Hp → Prop, (∀ H', Nx H' → ∃ m', m' < m ∧ W (i + 1) m' H') ∧ ∀ x H', (ItzX K c c' a b).yld i H x H' → g x (wipe σ vs) H' fun σ2 H2 => wipe σ2 vs = wipe σ vs ∧ tt σ2 H2 fun b H3 =>
        if b = true then te σ2 H3 fun y H4 => ∃ acc, H4 D = some (.lst acc) ∧ acc.length < sizeLine ∧ Nx (upd H4 D (.lst (acc ++ [y]))) else Nx H3) := by
  refine ⟨fun i m H => m = xs.length - i ∧ i ≤ xs.length ∧ Pv i H, ⟨xs.length, rfl, Nat.zero_le _, h0⟩, ?_⟩
  rintro i m H ⟨rfl, hi, p⟩
  obtain ⟨qx, qy⟩ := hq i H p
  by_cases hlt : i < xs.length
  · have hx : xs[i]? = some xs[i] := List.getElem?_eq_getElem hlt
    have hlt2 : i < ys.length := by omega
    have hy : ys[i]? = some ys[i] := List.getElem?_eq_getElem hlt2
    refine .inr ⟨⟨xs, ys, _, _, qx, qy, hx, hy⟩, Pv (i + 1), fun H' p' => ⟨xs.length - (i + 1), by omega, rfl, hlt, p'⟩, fun v H' y => ?_⟩
    obtain ⟨T, x', y', rfl, hT, rfl, f1, f2⟩ := y
    exact hs i x' y' T H (f1 xs qx) (f2 ys qy) p hT
  · have e : i = xs.length := by omega
    subst e
    exact .inl ⟨⟨xs, ys, qx, qy, Or.inl (Nat.le_refl _)⟩, hd H p⟩
end Nc
end
section
set_option maxRecDepth 100000
set_option maxHeartbeats 4000000
namespace Nc
open PySem PySem.Spec PyProof.Rows L2
/-! ### bounds handed on: mathematics -/
abbrev Span := Rat × Rat
def pickB (p : Span) (b : Bool) : Rat := if b = true then p.2 else p.1
def picks (sp : List Span) (bs : List Bool) : List Rat := List.zipWith pickB sp bs
def lowB (z : Sum2) : List Bool := z.1.map fun w => decide (w.num < 0)
def highB (z : Sum2) : List Bool := z.1.map fun w => decide (0 < w.num)
def lowT (z : Sum2) (sp : List Span) : Rat := tells z (picks sp (lowB z))
def highT (z : Sum2) (sp : List Span) : Rat := tells z (picks sp (highB z))
def bnd (sp : List Span) (z : Sum2) : Span := (lowT z sp, highT z sp)
def cutS (p : Span) : Span := (cutQ p.1, cutQ p.2)
def boundsAt : List (List Sum2) → List Span → List (List Span)
  | [], _ => []
  | l :: ls, sp => (l.map (bnd sp)) :: boundsAt ls ((l.map (bnd sp)).map cutS)
/-- a row within spans -/
abbrev Within : List Rat → List Span → Prop := Paired fun r p => p.1 ≤ r ∧ r ≤ p.2
theorem num_lt {r : Rat} : r.num < 0 ↔ r < 0 := by
  have h := Rat.num_nonneg (q := r)
  constructor
  · intro a
    refine Rat.not_le.mp fun z => ?_
    have := h.mpr z
    omega
  · intro a
    refine Int.not_le.mp fun z => ?_
    exact Rat.not_le.mpr a (h.mp z)
theorem numPos {r : Rat} : 0 < r.num ↔ 0 < r := by
  have h := Rat.num_nonneg (q := -r)
  rw [Rat.neg_num] at h
  constructor
  · intro a
    refine Rat.not_le.mp fun z => ?_
    have := h.mpr (by grind)
    omega
  · intro a
    refine Int.not_le.mp fun z => ?_
    have := h.mp (by omega)
    exact absurd a (Rat.not_lt.mpr (by grind))
theorem cutQ_mono {a b : Rat} (h : a ≤ b) : cutQ a ≤ cutQ b := by
  unfold cutQ
  split
  · rename_i ha
    split
    · exact Rat.le_refl
    · rename_i hb
      exact Rat.not_lt.mp fun z => hb (num_lt.mpr z)
  · rename_i ha
    have ha' : ¬ a < 0 := fun z => ha (num_lt.mpr z)
    rw [if_neg (fun z => ha' (by have := num_lt.mp z; grind))]
    exact h
theorem low_le : ∀ {ws : List Rat} {x : List Rat} {sp : List Span}, Within x sp → ws.length = x.length → weighs (ws.zip (picks sp (ws.map fun w => decide (w.num < 0)))) ≤ weighs (ws.zip x) ∧ weighs (ws.zip x) ≤ weighs (ws.zip (picks sp (ws.map fun w => decide (0 < w.num))))
  | [], _, _, _, _ => ⟨Rat.le_refl, Rat.le_refl⟩
  | w :: ws, r :: x, p :: sp, .cons h t, hl => by
    have ih := low_le (ws := ws) t (by simpa using hl)
    simp only [List.map_cons, picks, List.zipWith_cons_cons, List.zip_cons_cons, weighs_cons] at ih ⊢
    have h1 : w * pickB p (decide (w.num < 0)) ≤ w * r := by
      unfold pickB
      by_cases c : w.num < 0
      · rw [if_pos (decide_eq_true c)]
        have := Rat.mul_le_mul_of_nonneg_left h.2 (c := -w) (by have := num_lt.mp c; grind)
        grind
      · rw [if_neg (by simpa using c)]
        exact Rat.mul_le_mul_of_nonneg_left h.1 (Rat.num_nonneg.mp (by omega))
    have h2 : w * r ≤ w * pickB p (decide (0 < w.num)) := by
      unfold pickB
      by_cases c : 0 < w.num
      · rw [if_pos (decide_eq_true c)]
        exact Rat.mul_le_mul_of_nonneg_left h.2 (Rat.num_nonneg.mp (by omega))
      · rw [if_neg (by simpa using c)]
        have := Rat.mul_le_mul_of_nonneg_left h.1 (c := -w) (by have := (numPos (r := w)); grind)
        grind
    obtain ⟨i1, i2⟩ := ih
    constructor
    · grind
    · grind
theorem within_tells {z : Sum2} {x : List Rat} {sp : List Span} (h : Within x sp) (hl : z.1.length = x.length) : (bnd sp z).1 ≤ tells z x ∧ tells z x ≤ (bnd sp z).2 := by
  obtain ⟨h1, h2⟩ := low_le (ws := z.1) h hl
  unfold bnd lowT highT tells lowB highB
  constructor
  · grind
  · grind
theorem within_map : ∀ {l : List Sum2} {x : List Rat} {sp : List Span}, Within x sp → (∀ z ∈ l, z.1.length = x.length) → Within (l.map fun z => tells z x) (l.map (bnd sp))
  | [], _, _, _, _ => .nil
  | z :: l, x, sp, h, hl => .cons (within_tells h (hl z (by simp))) (within_map h fun y hy => hl y (by simp [hy]))
theorem within_cut : ∀ {x : List Rat} {sp : List Span}, Within x sp → Within (x.map cutQ) (sp.map cutS)
  | _, _, .nil => .nil
  | _, _, .cons h t => .cons ⟨cutQ_mono h.1, cutQ_mono h.2⟩ (within_cut t)
/-- all nodes come to what lies within their bounds -/
theorem within_all : ∀ {ls : List (List Sum2)} {x : List Rat} {sp : List Span}, Within x sp → Over x.length ls → Paired Within (rowsAt ls x) (boundsAt ls sp)
  | [], _, _, _, _ => .nil
  | l :: ls, x, sp, h, ⟨o1, o2, o3⟩ => .cons (within_map h o1) (within_all (within_cut (within_map h o1)) (by simpa using o3))
/-! ### sizes -/
def SpSv (n D : Nat) (sp : List Span) : Prop := ∀ p ∈ sp, Sv n D p.1 ∧ Sv n D p.2
theorem picks_mem {n D : Nat} : ∀ {sp : List Span} {bs : List Bool}, SpSv n D sp → SvL n D (picks sp bs)
  | [], _, _ => by
    intro r hr
    cases hr
  | _ :: _, [], _ => by
    intro r hr
    cases hr
  | p :: sp, b :: bs, h => by
    intro r hr
    rcases List.mem_cons.mp hr with rfl | hr
    · unfold pickB
      split
      · exact (h p (by simp)).2
      · exact (h p (by simp)).1
    · exact picks_mem (fun q hq => h q (by simp [hq])) r hr
theorem picks_len {sp : List Span} {bs : List Bool} (h : bs.length = sp.length) : (picks sp bs).length = sp.length := by
  unfold picks
  rw [List.length_zipWith]
  omega
theorem lowB_len (z : Sum2) : (lowB z).length = z.1.length := List.length_map ..
theorem highB_len (z : Sum2) : (highB z).length = z.1.length := List.length_map ..
/-- the facts of a layer over spans -/
structure RkS (l : List Sum2) (A : List Span) (m W D : Nat) : Prop where
  nodes : NodesOk A.length W l
  len : A.length ≤ 4
  many : l.length ≤ 4
  sp : SpSv m D A
  top : m ≤ 430000
  pos : 0 < W * D
  lt : W * D < 2 ^ 1600
theorem RkS.row {l : List Sum2} {A : List Span} {m W D : Nat} (k : RkS l A m W D) {bs : List Bool} (h : bs.length = A.length) : Rk l (picks A bs) m W D :=
  ⟨by rw [picks_len h]; exact k.nodes, by rw [picks_len h]; exact k.len, k.many, picks_mem k.sp, k.top, k.pos, k.lt⟩
theorem sv_node {l : List Sum2} {A : List Rat} {i D : Nat} {W : Nat → Nat} (k : Rk l A (tb i) (W i) (pw W i * D)) {z : Sum2} (hz : z ∈ l) : Sv (tb (i + 1)) (pw W (i + 1) * D) (tells z A) := by
  obtain ⟨h1, h2, h3⟩ := k.nodes z hz
  have h := sv_tells k.pos k.lt h2 h3 k.row h1
  have hl : z.1.length ≤ 4 := by
    rw [h1]
    exact k.len
  have hb : z.1.length * (1500 + tb i + 1600 + 1) ≤ 4 * (1500 + tb i + 1600 + 1) := Nat.mul_le_mul_right _ hl
  have e : pw W (i + 1) * D = W i * (pw W i * D) := Nat.mul_assoc _ _ _
  rw [e]
  refine h.mono ?_ (Nat.dvd_refl _)
  show _ ≤ 1 + 4 * (1500 + tb i + 1601) + 3102
  omega
theorem sp_node {l : List Sum2} {A : List Span} {i D : Nat} {W : Nat → Nat} (k : RkS l A (tb i) (W i) (pw W i * D)) {z : Sum2} (hz : z ∈ l) : Sv (tb (i + 1)) (pw W (i + 1) * D) (bnd A z).1 ∧ Sv (tb (i + 1)) (pw W (i + 1) * D) (bnd A z).2 := by
  have h1 := (k.nodes z hz).1
  exact ⟨sv_node (k.row (by rw [lowB_len, h1])) hz, sv_node (k.row (by rw [highB_len, h1])) hz⟩
theorem rkS_of {ls : List (List Sum2)} {n D i : Nat} {W : Nat → Nat} {l : List Sum2} {A : List Span} (ok : NetOk n ls W) (f : Fits W D) (hi : ls[i]? = some l) (ov : Over A.length (ls.drop i)) (hA : SpSv (tb i) (pw W i * D) A) (h4 : A.length ≤ 4) :
    RkS l A (tb i) (W i) (pw W i * D) ∧ Over l.length (ls.drop (i + 1)) ∧ l.length ≤ 4 ∧ 1 ≤ l.length ∧ i ≤ 3 := by
  have hi1 := (List.getElem?_eq_some_iff.mp hi).1
  have hl4 := ok.l4
  have hi3 : i ≤ 3 := by omega
  rw [drop_at hi] at ov
  obtain ⟨o1, o2, o3⟩ := ov
  have hm := List.mem_of_getElem? hi
  exact ⟨⟨fun z hz => ⟨o1 z hz, ok.num i l hi z hz⟩, h4, o2.2, hA, tb_le3 i hi3, (f.at ok.w0 hi3).1, (f.at ok.w0 hi3).2⟩, o3, o2.2, o2.1, hi3⟩
/-- what handed_on tells of a node: low, high, corners -/
abbrev Four := Span × (List Bool × List Bool)
def four (sp : List Span) (z : Sum2) : Four := (bnd sp z, lowB z, highB z)
def foursAt : List (List Sum2) → List Span → List (List Four)
  | [], _ => []
  | l :: ls, sp => (l.map (four sp)) :: foursAt ls ((l.map (bnd sp)).map cutS)
theorem fours_bounds : ∀ (ls : List (List Sum2)) (sp : List Span), (foursAt ls sp).map (fun l => l.map (·.1)) = boundsAt ls sp
  | [], _ => rfl
  | l :: ls, sp => by
    show ((l.map (four sp)).map (·.1)) :: _ = _ :: _
    rw [fours_bounds ls, List.map_map]
    rfl
theorem four_1 (sp : List Span) (l : List Sum2) : (l.map (four sp)).map (fun f => cutS f.1) = (l.map (bnd sp)).map cutS := by
  rw [List.map_map, List.map_map]
  rfl
theorem foursAt_cons {ls : List (List Sum2)} {i : Nat} {l : List Sum2} {A : List Span} (hi : ls[i]? = some l) : foursAt (ls.drop i) A = (l.map (four A)) :: foursAt (ls.drop (i + 1)) ((l.map (bnd A)).map cutS) := by
  rw [drop_at hi]
  rfl
theorem boundsAt_cons {ls : List (List Sum2)} {i : Nat} {l : List Sum2} {A : List Span} (hi : ls[i]? = some l) : boundsAt (ls.drop i) A = (l.map (bnd A)) :: boundsAt (ls.drop (i + 1)) ((l.map (bnd A)).map cutS) := by
  rw [drop_at hi]
  rfl
/-- what stands behind i layers: the bounds told, the spans ahead -/
structure MidS (ls : List (List Sum2)) (L : List Span) (W : Nat → Nat) (D i : Nat) (dn : List (List Four)) (A : List Span) : Prop where
  len : dn.length = i
  eq : foursAt ls L = dn ++ foursAt (ls.drop i) A
  over : Over A.length (ls.drop i)
  sp : SpSv (tb i) (pw W i * D) A
  a4 : A.length ≤ 4
theorem midS0 {ls : List (List Sum2)} {L : List Span} {W : Nat → Nat} {D : Nat} (ok : NetOk L.length ls W) (h : SpSv 1500 D L) : MidS ls L W D 0 [] L := by
  have := ok.n3
  refine ⟨rfl, rfl, ok.over, ?_, by omega⟩
  rw [show pw W 0 = 1 from rfl, Nat.one_mul]
  exact h
theorem midS_step {ls : List (List Sum2)} {L A : List Span} {n D i : Nat} {W : Nat → Nat} {dn : List (List Four)} {l : List Sum2} (ok : NetOk n ls W) (f : Fits W D) (m : MidS ls L W D i dn A) (hi : ls[i]? = some l) :
    RkS l A (tb i) (W i) (pw W i * D) ∧ MidS ls L W D (i + 1) (dn ++ [l.map (four A)]) ((l.map (bnd A)).map cutS) ∧ l.length ≤ 4 := by
  obtain ⟨k, o, l4, l1, i3⟩ := rkS_of ok f hi m.over m.sp m.a4
  refine ⟨k, ⟨by simp [m.len], ?_, ?_, ?_, by simpa using l4⟩, l4⟩
  · rw [m.eq, foursAt_cons hi, List.append_assoc]
    rfl
  · simpa using o
  · intro p hp
    obtain ⟨u, hu, rfl⟩ := List.mem_map.mp hp
    obtain ⟨z, hz, rfl⟩ := List.mem_map.mp hu
    obtain ⟨h1, h2⟩ := sp_node k hz
    exact ⟨sv_cutQ h1, sv_cutQ h2⟩
theorem midS_end {ls : List (List Sum2)} {L A : List Span} {W : Nat → Nat} {D : Nat} {dn : List (List Four)} (m : MidS ls L W D ls.length dn A) : dn = foursAt ls L := by
  rw [m.eq, List.drop_length]
  show dn = dn ++ []
  rw [List.append_nil]
theorem boundsAt_length : ∀ (ls : List (List Sum2)) (L : List Span), (boundsAt ls L).length = ls.length
  | [], _ => rfl
  | l :: ls, L => by
    show (boundsAt ls _).length + 1 = _
    rw [boundsAt_length ls]
    rfl
theorem foursAt_length : ∀ (ls : List (List Sum2)) (L : List Span), (foursAt ls L).length = ls.length
  | [], _ => rfl
  | l :: ls, L => by
    show (foursAt ls _).length + 1 = _
    rw [foursAt_length ls]
    rfl
/-! ### as the law sums: from the number on, the high by the other end -/
def lawLow (z : Sum2) (sp : List Span) (i : Nat) : Rat := z.2 + weighs ((z.1.zip (picks sp (lowB z))).take i)
def lawHigh (z : Sum2) (sp : List Span) (i : Nat) : Rat := z.2 + weighs ((z.1.zip (picks sp ((lowB z).map (!·)))).take i)
theorem high_same : ∀ {ws : List Rat} {sp : List Span}, ws.length = sp.length → weighs (ws.zip (picks sp ((ws.map fun w => decide (w.num < 0)).map (!·)))) = weighs (ws.zip (picks sp (ws.map fun w => decide (0 < w.num))))
  | [], _, _ => rfl
  | w :: ws, p :: sp, hl => by
    have ih := high_same (ws := ws) (sp := sp) (by simpa using hl)
    simp only [List.map_cons, picks, List.zipWith_cons_cons, List.zip_cons_cons, weighs_cons] at ih ⊢
    rw [ih]
    congr 1
    unfold pickB
    by_cases c : w.num < 0
    · rw [if_neg (by simp [c]), if_neg (by simp; omega)]
    · by_cases c2 : 0 < w.num
      · rw [if_pos (by simpa using c), if_pos (by simpa using c2)]
      · have : w = 0 := Rat.num_eq_zero.mp (by omega)
        rw [this, Rat.zero_mul, Rat.zero_mul]
theorem lawLow_end {z : Sum2} {sp : List Span} (h : z.1.length = sp.length) : lawLow z sp z.1.length = lowT z sp := by
  unfold lawLow lowT tells
  rw [List.take_of_length_le (by rw [List.length_zip]; omega), Rat.add_comm]
theorem lawHigh_end {z : Sum2} {sp : List Span} (h : z.1.length = sp.length) : lawHigh z sp z.1.length = highT z sp := by
  unfold lawHigh highT tells
  rw [List.take_of_length_le (by rw [List.length_zip]; omega), Rat.add_comm]
  congr 1
  exact high_same h
end Nc
end
section
set_option maxRecDepth 100000
set_option maxHeartbeats 4000000
namespace Nc
open PySem PySem.Spec PyProof.Rows L2
/-! ### values and bottoms -/
/-- between -v and v, a bottom that divides D -/
def Bd (v D : Nat) (r : Rat) : Prop := (-(v : Rat) ≤ r ∧ r ≤ (v : Rat)) ∧ r.den ∣ D
def BdL (v D : Nat) (l : List Rat) : Prop := ∀ r ∈ l, Bd v D r
theorem Bd.mono {v u D E : Nat} {r : Rat} (h : Bd v D r) (hv : v ≤ u) (hD : D ∣ E) : Bd u E r := by
  have k : (v : Rat) ≤ (u : Rat) := Rat.natCast_le_natCast.mpr hv
  obtain ⟨⟨h1, h2⟩, h3⟩ := h
  exact ⟨⟨by grind, by grind⟩, Nat.dvd_trans h3 hD⟩
theorem BdL.mono {v u D E : Nat} {l : List Rat} (h : BdL v D l) (hv : v ≤ u) (hD : D ∣ E) : BdL u E l := fun r hr => (h r hr).mono hv hD
theorem Bd.num {v D : Nat} {r : Rat} (h : Bd v D r) : r.num.natAbs ≤ v * r.den := by
  obtain ⟨⟨h1, h2⟩, _⟩ := h
  have a := (Rat.le_iff r v).mp h2
  have b := (Rat.le_iff (-(v : Rat)) r).mp h1
  rw [Rat.num_natCast, Rat.den_natCast] at a
  rw [Rat.neg_num, Rat.neg_den, Rat.num_natCast, Rat.den_natCast] at b
  have e : ((v * r.den : Nat) : Int) = (v : Int) * (r.den : Int) := Int.natCast_mul ..
  have e2 : -(v : Int) * (r.den : Int) = -((v : Int) * (r.den : Int)) := Int.neg_mul ..
  rw [e2] at b
  generalize (v : Int) * (r.den : Int) = P at a b e
  omega
theorem Bd.sz {v D k b : Nat} {r : Rat} (h : Bd v D r) (D0 : 0 < D) (hD : D < 2 ^ b) (hv : v ≤ 2 ^ k) : Sz (k + b) b r := by
  have d := Nat.lt_of_le_of_lt (Nat.le_of_dvd D0 h.2) hD
  refine ⟨Nat.lt_of_le_of_lt h.num ?_, d⟩
  rw [Nat.pow_add]
  exact Nat.lt_of_le_of_lt (Nat.mul_le_mul_right _ hv) (Nat.mul_lt_mul_of_pos_left d (Nat.two_pow_pos k))
theorem Bd.sv {v D n : Nat} {r : Rat} (h : Bd v D r) (D0 : 0 < D) (hn : v * D < 2 ^ n) : Sv n D r :=
  ⟨Nat.lt_of_le_of_lt h.num (Nat.lt_of_le_of_lt (Nat.mul_le_mul_left v (Nat.le_of_dvd D0 h.2)) hn), h.2⟩
theorem Bd.add {v u D : Nat} {r s : Rat} (D0 : 0 < D) (h : Bd v D r) (g : Bd u D s) : Bd (v + u) D (r + s) := by
  have e := Rat.natCast_add v u
  obtain ⟨⟨h1, h2⟩, h3⟩ := h
  obtain ⟨⟨g1, g2⟩, g3⟩ := g
  exact ⟨⟨by grind, by grind⟩, den_add D0 h3 g3⟩
theorem Bd.neg {v D : Nat} {r : Rat} (h : Bd v D r) : Bd v D (-r) := by
  obtain ⟨⟨h1, h2⟩, h3⟩ := h
  exact ⟨⟨by grind, by grind⟩, by rw [Rat.neg_den]; exact h3⟩
theorem Bd.sub {v u D : Nat} {r s : Rat} (D0 : 0 < D) (h : Bd v D r) (g : Bd u D s) : Bd (v + u) D (r - s) := by
  rw [Rat.sub_eq_add_neg]
  exact h.add D0 g.neg
theorem Bd.mul {v u D E : Nat} {r s : Rat} (h : Bd v D r) (g : Bd u E s) : Bd (v * u) (D * E) (r * s) := by
  have e := Rat.natCast_mul v u
  obtain ⟨⟨h1, h2⟩, h3⟩ := h
  obtain ⟨⟨g1, g2⟩, g3⟩ := g
  refine ⟨?_, Nat.dvd_trans (den_mul r s) (Nat.mul_dvd_mul h3 g3)⟩
  rw [e]
  generalize (v : Rat) = v at *
  generalize (u : Rat) = u at *
  have a := Rat.mul_nonneg (a := v - r) (b := u + s) (by grind) (by grind)
  have b := Rat.mul_nonneg (a := v + r) (b := u - s) (by grind) (by grind)
  have c := Rat.mul_nonneg (a := v - r) (b := u - s) (by grind) (by grind)
  have d := Rat.mul_nonneg (a := v + r) (b := u + s) (by grind) (by grind)
  exact ⟨by grind, by grind⟩
theorem bd_zero (v D : Nat) : Bd v D 0 := by
  have : (0 : Rat) ≤ (v : Rat) := Rat.natCast_nonneg
  exact ⟨⟨by grind, by grind⟩, Nat.one_dvd D⟩
theorem bdl_snoc {v D : Nat} {L : List Rat} {r : Rat} (h : BdL v D L) (hr : Bd v D r) : BdL v D (L ++ [r]) := by
  intro a ha
  rcases List.mem_append.mp ha with ha | ha
  · exact h a ha
  · rw [List.mem_singleton.mp ha]
    exact hr
theorem bd_weighs {v u D E : Nat} (D0 : 0 < D * E) : ∀ {l : List (Rat × Rat)}, (∀ p ∈ l, Bd v D p.1 ∧ Bd u E p.2) → Bd (l.length * (v * u)) (D * E) (weighs l)
  | [], _ => bd_zero _ _
  | p :: l, h => by
    rw [weighs_cons]
    have ih := bd_weighs D0 (l := l) fun q hq => h q (by simp [hq])
    have hp := h p (by simp)
    refine ((hp.1.mul hp.2).add D0 ih).mono ?_ (Nat.dvd_refl _)
    rw [List.length_cons, Nat.add_mul]
    omega
theorem bd_tells {v c u D E F : Nat} {s : Sum2} {x : List Rat} (D0 : 0 < D * E) (F0 : 0 < F) (hD : D * E ∣ F) (h : BdL v D s.1) (hc : Bd c F s.2) (hx : BdL u E x) (hl : s.1.length = x.length) : Bd (s.1.length * (v * u) + c) F (tells s x) := by
  have a := bd_weighs (v := v) (u := u) D0 (l := s.1.zip x) fun p hp => ⟨h _ (List.of_mem_zip hp).1, hx _ (List.of_mem_zip hp).2⟩
  rw [List.length_zip, ← hl, Nat.min_self] at a
  exact (a.mono (Nat.le_refl _) hD).add F0 hc
/-! ### a node taken through sums -/
def stp (t : Sum2) (p : Rat × Sum2 × Sum2) : Sum2 := if 0 < p.1.num then splus t (stimes p.1 p.2.1) else if p.1.num < 0 then splus t (stimes p.1 p.2.2) else t
def thrL (n : Nat) (c : Rat) (ps : List (Rat × Sum2 × Sum2)) : Sum2 := ps.foldl stp (List.replicate n 0, c)
def thr (z : Sum2) (A B : List Sum2) (n : Nat) : Sum2 := thrL n z.2 (z.1.zip (A.zip B))
theorem thrL_take {n i : Nat} {c : Rat} {ps : List (Rat × Sum2 × Sum2)} {p : Rat × Sum2 × Sum2} (h : ps[i]? = some p) : thrL n c (ps.take (i + 1)) = stp (thrL n c (ps.take i)) p := by
  unfold thrL
  rw [List.take_add_one, h, List.foldl_append]
  rfl
/-- a sum over n things, all its fractions small -/
structure BdS (n v Dc Dn : Nat) (s : Sum2) : Prop where
  len : s.1.length = n
  row : BdL v Dc s.1
  num : Bd v Dn s.2
theorem BdS.mono {n v u Dc Dn Ec En : Nat} {s : Sum2} (h : BdS n v Dc Dn s) (hv : v ≤ u) (hc : Dc ∣ Ec) (hn : Dn ∣ En) : BdS n u Ec En s := ⟨h.len, h.row.mono hv hc, h.num.mono hv hn⟩
theorem bds_plus {n v u Dc Dn : Nat} {s t : Sum2} (c0 : 0 < Dc) (n0 : 0 < Dn) (h : BdS n v Dc Dn s) (g : BdS n u Dc Dn t) : BdS n (v + u) Dc Dn (splus s t) := by
  refine ⟨?_, ?_, h.num.add n0 g.num⟩
  · unfold splus
    rw [List.length_map, List.length_zip, h.len, g.len, Nat.min_self]
  · intro r hr
    unfold splus at hr
    obtain ⟨p, hp, rfl⟩ := List.mem_map.mp hr
    exact (h.row _ (List.of_mem_zip hp).1).add c0 (g.row _ (List.of_mem_zip hp).2)
theorem bds_times {n v u D Dc Dn : Nat} {q : Rat} {s : Sum2} (hq : Bd v D q) (h : BdS n u Dc Dn s) : BdS n (v * u) (D * Dc) (D * Dn) (stimes q s) := by
  refine ⟨?_, ?_, hq.mul h.num⟩
  · unfold stimes
    rw [List.length_map, h.len]
  · intro r hr
    unfold stimes at hr
    obtain ⟨p, hp, rfl⟩ := List.mem_map.mp hr
    exact hq.mul (h.row _ hp)
theorem bds_flat (n : Nat) {v Dc Dn : Nat} {c : Rat} (h : Bd v Dn c) : BdS n v Dc Dn (List.replicate n 0, c) := by
  refine ⟨List.length_replicate .., fun r hr => ?_, h⟩
  rw [List.eq_of_mem_replicate hr]
  exact bd_zero _ _
/-- what a step puts to the total -/
theorem bds_stp {n a v u D Dc Dn : Nat} {t : Sum2} {p : Rat × Sum2 × Sum2} (c0 : 0 < D * Dc) (n0 : 0 < D * Dn) (ht : BdS n a (D * Dc) (D * Dn) t) (hw : Bd v D p.1) (h1 : BdS n u Dc Dn p.2.1) (h2 : BdS n u Dc Dn p.2.2) : BdS n (a + v * u) (D * Dc) (D * Dn) (stp t p) := by
  unfold stp
  split
  · exact bds_plus c0 n0 ht (bds_times hw h1)
  · split
    · exact bds_plus c0 n0 ht (bds_times hw h2)
    · exact ht.mono (Nat.le_add_right _ _) (Nat.dvd_refl _) (Nat.dvd_refl _)
theorem bds_thrL {n a v u D Dc Dn : Nat} {c : Rat} (c0 : 0 < D * Dc) (n0 : 0 < D * Dn) (hc : Bd a (D * Dn) c) {ps : List (Rat × Sum2 × Sum2)} (hp : ∀ p ∈ ps, Bd v D p.1 ∧ BdS n u Dc Dn p.2.1 ∧ BdS n u Dc Dn p.2.2) :
    ∀ i, i ≤ ps.length → BdS n (a + i * (v * u)) (D * Dc) (D * Dn) (thrL n c (ps.take i))
  | 0, _ => by
    have := bds_flat n (Dc := D * Dc) hc
    simpa [thrL] using this
  | i + 1, h => by
    have e : ps[i]? = some ps[i] := List.getElem?_eq_getElem (by omega)
    rw [thrL_take e]
    have ih := bds_thrL c0 n0 hc hp i (by omega)
    obtain ⟨h1, h2, h3⟩ := hp ps[i] (List.getElem_mem _)
    refine (bds_stp c0 n0 ih h1 h2 h3).mono ?_ (Nat.dvd_refl _) (Nat.dvd_refl _)
    rw [Nat.add_mul]
    omega
theorem zip3_mem {w : List Rat} {A B : List Sum2} {p : Rat × Sum2 × Sum2} (h : p ∈ w.zip (A.zip B)) : p.1 ∈ w ∧ p.2.1 ∈ A ∧ p.2.2 ∈ B :=
  ⟨(List.of_mem_zip h).1, List.of_mem_zip (List.of_mem_zip h).2⟩
theorem bds_thr {n a v u D Dc Dn : Nat} {z : Sum2} {A B : List Sum2} (c0 : 0 < D * Dc) (n0 : 0 < D * Dn) (hz : BdL v D z.1) (hc : Bd a (D * Dn) z.2) (hA : ∀ s ∈ A, BdS n u Dc Dn s) (hB : ∀ s ∈ B, BdS n u Dc Dn s) (h1 : z.1.length = A.length) (h2 : A.length = B.length) :
    BdS n (a + z.1.length * (v * u)) (D * Dc) (D * Dn) (thr z A B n) := by
  have hl : (z.1.zip (A.zip B)).length = z.1.length := by rw [List.length_zip, List.length_zip]; omega
  have h := bds_thrL c0 n0 hc (ps := z.1.zip (A.zip B)) (fun p hp => ⟨hz _ (zip3_mem hp).1, hA _ (zip3_mem hp).2.1, hB _ (zip3_mem hp).2.2⟩) z.1.length (by omega)
  rw [List.take_of_length_le (by omega)] at h
  exact h
/-! ### what it tells -/
theorem weighs_reps : ∀ (n : Nat) (x : List Rat), weighs ((List.replicate n (0 : Rat)).zip x) = 0
  | 0, x => by simp [weighs]
  | n + 1, [] => by simp [weighs]
  | n + 1, y :: x => by
    rw [List.replicate_succ, List.zip_cons_cons, weighs_cons, weighs_reps n x]
    grind
theorem tells_flat (n : Nat) (c : Rat) (x : List Rat) : tells (List.replicate n 0, c) x = c := by
  unfold tells
  simp only
  rw [weighs_reps]
  grind
theorem tells_stp {n : Nat} {t : Sum2} {p : Rat × Sum2 × Sum2} {x : List Rat} (ht : t.1.length = n) (h1 : p.2.1.1.length = n) (h2 : p.2.2.1.length = n) :
    (stp t p).1.length = n ∧ tells (stp t p) x = tells t x + p.1 * (if 0 < p.1.num then tells p.2.1 x else tells p.2.2 x) := by
  have pl : ∀ s : Sum2, s.1.length = n → (splus t (stimes p.1 s)).1.length = n ∧ tells (splus t (stimes p.1 s)) x = tells t x + p.1 * tells s x := fun s hs => by
    refine ⟨?_, ?_⟩
    · unfold splus stimes
      rw [List.length_map, List.length_zip, List.length_map]
      omega
    · rw [tells_splus _ _ _ (by unfold stimes; rw [List.length_map]; omega), tells_stimes]
  unfold stp
  split
  · exact pl _ h1
  · split
    · exact pl _ h2
    · have : p.1 = 0 := Rat.num_eq_zero.mp (by omega)
      rw [this, Rat.zero_mul, Rat.add_zero]
      exact ⟨ht, rfl⟩
/-- no more than the node at what lies between -/
theorem thrL_le {n : Nat} {x : List Rat} : ∀ {ps : List (Rat × Sum2 × Sum2)} {y : List Rat} {c : Rat}, Paired (fun (p : Rat × Sum2 × Sum2) (r : Rat) => p.2.1.1.length = n ∧ p.2.2.1.length = n ∧ tells p.2.1 x ≤ r ∧ r ≤ tells p.2.2 x) ps y →
    ∀ {t : Sum2}, t.1.length = n → (ps.foldl stp t).1.length = n ∧ tells (ps.foldl stp t) x ≤ tells t x + weighs ((ps.map (·.1)).zip y)
  | [], _, _, _, t, ht => by
    refine ⟨ht, ?_⟩
    simp [weighs]
    rw [Rat.add_zero]
    exact Rat.le_refl
  | p :: ps, r :: y, c, .cons h hp, t, ht => by
    obtain ⟨h1, h2, h3, h4⟩ := h
    obtain ⟨k1, k2⟩ := tells_stp (x := x) ht h1 h2
    obtain ⟨i1, i2⟩ := thrL_le (c := c) hp k1
    refine ⟨i1, ?_⟩
    rw [List.foldl_cons]
    rw [List.map_cons, List.zip_cons_cons, weighs_cons]
    have : p.1 * (if 0 < p.1.num then tells p.2.1 x else tells p.2.2 x) ≤ p.1 * r := by
      split
      · rename_i c0
        have := Rat.mul_le_mul_of_nonneg_left h3 (c := p.1) (by have := numPos.mp c0; grind)
        exact this
      · rename_i c0
        have := Rat.mul_le_mul_of_nonneg_left h4 (c := -p.1) (by have := (numPos (r := p.1)); grind)
        grind
    show tells (List.foldl stp (stp t p) ps) x ≤ _
    grind
theorem thrL_ge {n : Nat} {x : List Rat} : ∀ {ps : List (Rat × Sum2 × Sum2)} {y : List Rat} {c : Rat}, Paired (fun (p : Rat × Sum2 × Sum2) (r : Rat) => p.2.1.1.length = n ∧ p.2.2.1.length = n ∧ tells p.2.2 x ≤ r ∧ r ≤ tells p.2.1 x) ps y →
    ∀ {t : Sum2}, t.1.length = n → (ps.foldl stp t).1.length = n ∧ tells t x + weighs ((ps.map (·.1)).zip y) ≤ tells (ps.foldl stp t) x
  | [], _, _, _, t, ht => by
    refine ⟨ht, ?_⟩
    simp [weighs]
    rw [Rat.add_zero]
    exact Rat.le_refl
  | p :: ps, r :: y, c, .cons h hp, t, ht => by
    obtain ⟨h1, h2, h3, h4⟩ := h
    obtain ⟨k1, k2⟩ := tells_stp (x := x) ht h1 h2
    obtain ⟨i1, i2⟩ := thrL_ge (c := c) hp k1
    refine ⟨i1, ?_⟩
    rw [List.foldl_cons]
    rw [List.map_cons, List.zip_cons_cons, weighs_cons]
    have : p.1 * r ≤ p.1 * (if 0 < p.1.num then tells p.2.1 x else tells p.2.2 x) := by
      split
      · rename_i c0
        have := Rat.mul_le_mul_of_nonneg_left h4 (c := p.1) (by have := numPos.mp c0; grind)
        exact this
      · rename_i c0
        have := Rat.mul_le_mul_of_nonneg_left h3 (c := -p.1) (by have := (numPos (r := p.1)); grind)
        grind
    show _ ≤ tells (List.foldl stp (stp t p) ps) x
    grind
end Nc
end
section
set_option maxRecDepth 100000
set_option maxHeartbeats 4000000
namespace Nc
open PySem PySem.Spec PyProof.Rows L2
/-! ### tighter sums -/
/-- under, over; low, high -/
abbrev Tg := (Sum2 × Sum2) × (Rat × Rat)
def maxQ (a b : Rat) : Rat := if a < b then b else a
def minQ (a b : Rat) : Rat := if b < a then b else a
def tgt (box : List Span) (n : Nat) (U O : List Sum2) (A : List Span) (z : Sum2) : Tg :=
  ((thr z U O n, thr z O U n), (maxQ (lowT (thr z U O n) box) (bnd A z).1, minQ (highT (thr z O U n) box) (bnd A z).2))
def flat0 (n : Nat) : Sum2 := (List.replicate n 0, 0)
def uPass (n : Nat) (t : Tg) : Sum2 := if 0 < (t.2.1 + t.2.2).num then t.1.1 else flat0 n
def oPass (n : Nat) (t : Tg) : Sum2 := if t.2.2.num ≤ 0 then flat0 n else if 0 ≤ t.2.1.num then t.1.2 else stimes (t.2.2 / (t.2.2 - t.2.1)) (t.1.2.1, t.1.2.2 - t.2.1)
def tightAt (box : List Span) (n : Nat) : List (List Sum2) → List Span → List Sum2 → List Sum2 → List (List Tg)
  | [], _, _, _ => []
  | l :: ls, A, U, O => (l.map (tgt box n U O A)) :: tightAt box n ls ((l.map (bnd A)).map cutS) ((l.map (tgt box n U O A)).map (uPass n)) ((l.map (tgt box n U O A)).map (oPass n))
theorem tightAt_cons {box : List Span} {n : Nat} {ls : List (List Sum2)} {i : Nat} {l : List Sum2} {A : List Span} {U O : List Sum2} (hi : ls[i]? = some l) :
    tightAt box n (ls.drop i) A U O = (l.map (tgt box n U O A)) :: tightAt box n (ls.drop (i + 1)) ((l.map (bnd A)).map cutS) ((l.map (tgt box n U O A)).map (uPass n)) ((l.map (tgt box n U O A)).map (oPass n)) := by
  rw [drop_at hi]
  rfl
theorem tightAt_length : ∀ {box : List Span} {n : Nat} (ls : List (List Sum2)) (A : List Span) (U O : List Sum2), (tightAt box n ls A U O).length = ls.length
  | _, _, [], _, _, _ => rfl
  | box, n, l :: ls, A, U, O => by
    show (tightAt box n ls _ _ _).length + 1 = _
    rw [tightAt_length ls]
    rfl
/-! ### they hold -/
/-- what the ins, or nodes, come to lies between two sums -/
abbrev Btw (n : Nat) (x : List Rat) (U O : List Sum2) (y : List Rat) : Prop := Paired (fun (p : Sum2 × Sum2) (r : Rat) => p.1.1.length = n ∧ p.2.1.length = n ∧ tells p.1 x ≤ r ∧ r ≤ tells p.2 x) (U.zip O) y
theorem btw_pair {n : Nat} {x : List Rat} : ∀ {w : List Rat} {U O : List Sum2} {y : List Rat}, w.length = U.length → U.length = O.length → Btw n x U O y →
    Paired (fun (p : Rat × Sum2 × Sum2) (r : Rat) => p.2.1.1.length = n ∧ p.2.2.1.length = n ∧ tells p.2.1 x ≤ r ∧ r ≤ tells p.2.2 x) (w.zip (U.zip O)) y ∧
    Paired (fun (p : Rat × Sum2 × Sum2) (r : Rat) => p.2.1.1.length = n ∧ p.2.2.1.length = n ∧ tells p.2.2 x ≤ r ∧ r ≤ tells p.2.1 x) (w.zip (O.zip U)) y
  | [], [], [], _, _, _, .nil => ⟨.nil, .nil⟩
  | a :: w, u :: U, o :: O, _, h1, h2, .cons ⟨k1, k2, k3, k4⟩ t => by
    obtain ⟨i1, i2⟩ := btw_pair (w := w) (by simpa using h1) (by simpa using h2) t
    exact ⟨.cons ⟨k1, k2, k3, k4⟩ i1, .cons ⟨k2, k1, k3, k4⟩ i2⟩
theorem map_zip3 {w : List Rat} {U O : List Sum2} (h1 : w.length = U.length) (h2 : U.length = O.length) : (w.zip (U.zip O)).map (·.1) = w := by
  rw [← List.unzip_fst, List.unzip_zip (by rw [List.length_zip]; omega)]
theorem btw_len {n : Nat} {x : List Rat} {U O : List Sum2} {y : List Rat} (h : Btw n x U O y) (hl : U.length = O.length) : y.length = U.length := by
  have := Paired.length h
  rw [List.length_zip] at this
  omega
theorem tells_swap (z : Sum2) (y : List Rat) : tells z y = z.2 + weighs (z.1.zip y) := by
  unfold tells
  grind
/-- the node lies between its two sums -/
theorem node_btw {n : Nat} {x y : List Rat} {U O : List Sum2} {z : Sum2} (hb : Btw n x U O y) (hl : U.length = O.length) (hz : z.1.length = U.length) :
    (thr z U O n).1.length = n ∧ (thr z O U n).1.length = n ∧ tells (thr z U O n) x ≤ tells z y ∧ tells z y ≤ tells (thr z O U n) x := by
  obtain ⟨p1, p2⟩ := btw_pair hz hl hb
  have f : (List.replicate n (0 : Rat), z.2).1.length = n := List.length_replicate ..
  obtain ⟨a1, a2⟩ := thrL_le (c := z.2) p1 (t := (List.replicate n 0, z.2)) f
  obtain ⟨b1, b2⟩ := thrL_ge (c := z.2) p2 (t := (List.replicate n 0, z.2)) f
  rw [map_zip3 hz hl, tells_flat, ← tells_swap] at a2
  rw [map_zip3 (by omega) (by omega), tells_flat, ← tells_swap] at b2
  exact ⟨a1, b1, a2, b2⟩
theorem maxQ_le {a b c : Rat} (h1 : a ≤ c) (h2 : b ≤ c) : maxQ a b ≤ c := by
  unfold maxQ
  split
  · exact h2
  · exact h1
theorem le_minQ {a b c : Rat} (h1 : c ≤ a) (h2 : c ≤ b) : c ≤ minQ a b := by
  unfold minQ
  split
  · exact h2
  · exact h1
theorem le_maxQ (a b : Rat) : b ≤ maxQ a b := by
  unfold maxQ
  split
  · exact Rat.le_refl
  · rename_i h
    exact Rat.not_lt.mp h
theorem minQ_le (a b : Rat) : minQ a b ≤ b := by
  unfold minQ
  split
  · exact Rat.le_refl
  · rename_i h
    exact Rat.not_lt.mp h
theorem cutQ_eq (r : Rat) : cutQ r = if r < 0 then 0 else r := by
  unfold cutQ
  by_cases h : r < 0
  · rw [if_pos (num_lt.mpr h), if_pos h]
  · rw [if_neg (fun z => h (num_lt.mp z)), if_neg h]
theorem flat0_tells (n : Nat) (x : List Rat) : tells (flat0 n) x = 0 := tells_flat n 0 x
theorem flat0_len (n : Nat) : (flat0 n).1.length = n := List.length_replicate ..
theorem div_line {h l t : Rat} (hl : l < 0) (hh : 0 < h) (h1 : l ≤ t) (h2 : t ≤ h) : 0 ≤ h / (h - l) * (t - l) ∧ t ≤ h / (h - l) * (t - l) := by
  have d : 0 < h - l := by grind
  have dn : h - l ≠ 0 := by grind
  have iv : 0 ≤ (h - l)⁻¹ := Rat.not_lt.mp fun z => by
    have := Rat.mul_inv_cancel (h - l) dn
    have k := Rat.mul_nonneg (a := h - l) (b := -(h - l)⁻¹) (by grind) (by grind)
    grind
  rw [Rat.div_def]
  have e := Rat.mul_inv_cancel (h - l) dn
  generalize (h - l)⁻¹ = i at iv e
  have a1 := Rat.mul_nonneg (a := h * (t - l)) (b := i) (Rat.mul_nonneg (by grind) (by grind)) iv
  have a2 := Rat.mul_nonneg (a := (h - t) * (-l)) (b := i) (Rat.mul_nonneg (by grind) (by grind)) iv
  have e2 : t * ((h - l) * i) = t := by rw [e, Rat.mul_one]
  have e3 : h * i * (t - l) = h * (t - l) * i := by grind
  have e4 : h * (t - l) * i = t * ((h - l) * i) + (h - t) * -l * i := by grind
  rw [e3]
  refine ⟨a1, ?_⟩
  rw [e4, e2]
  generalize (h - t) * -l * i = q at a2
  grind
/-- what is passed on lies between what is passed on of the sums -/
theorem pass_btw {n : Nat} {x : List Rat} {t : Tg} {r : Rat} (l1 : t.1.1.1.length = n) (l2 : t.1.2.1.length = n) (h1 : tells t.1.1 x ≤ r) (h2 : r ≤ tells t.1.2 x) (h3 : t.2.1 ≤ r) (h4 : r ≤ t.2.2) :
    (uPass n t).1.length = n ∧ (oPass n t).1.length = n ∧ tells (uPass n t) x ≤ cutQ r ∧ cutQ r ≤ tells (oPass n t) x := by
  obtain ⟨⟨u, o⟩, ⟨lo, hi⟩⟩ := t
  simp only at l1 l2 h1 h2 h3 h4
  have hc : (r < 0 ∧ cutQ r = 0) ∨ (0 ≤ r ∧ cutQ r = r) := by
    rw [cutQ_eq]
    by_cases h : r < 0
    · rw [if_pos h]
      exact .inl ⟨h, rfl⟩
    · rw [if_neg h]
      exact .inr ⟨Rat.not_lt.mp h, rfl⟩
  generalize cutQ r = c at hc
  have cu : tells (uPass n ((u, o), (lo, hi))) x ≤ c ∧ (uPass n ((u, o), (lo, hi))).1.length = n := by
    unfold uPass
    split
    · exact ⟨by simp only; grind, l1⟩
    · rw [flat0_tells]
      exact ⟨by grind, flat0_len n⟩
  have co : c ≤ tells (oPass n ((u, o), (lo, hi))) x ∧ (oPass n ((u, o), (lo, hi))).1.length = n := by
    unfold oPass
    simp only
    by_cases c1 : hi.num ≤ 0
    · rw [if_pos c1, flat0_tells]
      have : hi ≤ 0 := Rat.not_lt.mp fun z => by have := numPos.mpr z; omega
      exact ⟨by grind, flat0_len n⟩
    · rw [if_neg c1]
      have hp : 0 < hi := numPos.mp (by omega)
      by_cases c2 : 0 ≤ lo.num
      · rw [if_pos c2]
        have : 0 ≤ lo := Rat.num_nonneg.mp c2
        exact ⟨by grind, l2⟩
      · rw [if_neg c2]
        have hl : lo < 0 := num_lt.mp (by omega)
        have e : tells (o.1, o.2 - lo) x = tells o x - lo := by
          unfold tells
          grind
        rw [tells_stimes, e]
        obtain ⟨d1, d2⟩ := div_line hl hp h3 h4
        have q0 : 0 ≤ hi / (hi - lo) := by
          have dn : hi - lo ≠ 0 := by grind
          rw [Rat.div_def]
          have e := Rat.mul_inv_cancel (hi - lo) dn
          generalize (hi - lo)⁻¹ = i at *
          have k : 0 ≤ i := Rat.not_lt.mp fun z => by
            have k := Rat.mul_nonneg (a := hi - lo) (b := -i) (by grind) (by grind)
            grind
          exact Rat.mul_nonneg (by grind) k
        have d3 := Rat.mul_le_mul_of_nonneg_left (show r - lo ≤ tells o x - lo by grind) q0
        refine ⟨by grind, ?_⟩
        unfold stimes
        rw [List.length_map]
        exact l2
  exact ⟨cu.2, co.2, cu.1, co.1⟩
/-- a spot's row of what nodes come to, and all four of each node -/
def Holds (n : Nat) (x : List Rat) (t : Tg) (r : Rat) : Prop := t.1.1.1.length = n ∧ t.1.2.1.length = n ∧ tells t.1.1 x ≤ r ∧ r ≤ tells t.1.2 x ∧ t.2.1 ≤ r ∧ r ≤ t.2.2
theorem tgt_holds {box A : List Span} {n : Nat} {x y : List Rat} {U O : List Sum2} {z : Sum2} (hx : Within x box) (hn : n = box.length) (hy : Within y A) (hb : Btw n x U O y) (hl : U.length = O.length) (hz : z.1.length = U.length) : Holds n x (tgt box n U O A z) (tells z y) := by
  have hyl := btw_len hb hl
  have hxl := Paired.length hx
  obtain ⟨a, b, c, d⟩ := node_btw hb hl hz
  have w1 := within_tells hy (z := z) (by omega)
  have w2 := within_tells hx (z := thr z U O n) (by omega)
  have w3 := within_tells hx (z := thr z O U n) (by omega)
  refine ⟨a, b, c, d, maxQ_le ?_ w1.1, le_minQ ?_ w1.2⟩
  · exact Rat.le_trans w2.1 c
  · exact Rat.le_trans d w3.2
theorem holds_map {box A : List Span} {n : Nat} {x y : List Rat} {U O : List Sum2} (hx : Within x box) (hn : n = box.length) (hy : Within y A) (hb : Btw n x U O y) (hl : U.length = O.length) : ∀ {l : List Sum2}, (∀ z ∈ l, z.1.length = U.length) → Paired (Holds n x) (l.map (tgt box n U O A)) (l.map fun z => tells z y)
  | [], _ => .nil
  | z :: l, h => .cons (tgt_holds hx hn hy hb hl (h z (by simp))) (holds_map hx hn hy hb hl fun q hq => h q (by simp [hq]))
theorem pass_map {n : Nat} {x : List Rat} : ∀ {ts : List Tg} {rs : List Rat}, Paired (Holds n x) ts rs → Btw n x (ts.map (uPass n)) (ts.map (oPass n)) (rs.map cutQ)
  | _, _, .nil => .nil
  | _, _, .cons ⟨a, b, c, d, e, f⟩ t => .cons (pass_btw a b c d e f) (pass_map t)
/-- at every spot in the box each node lies between its four -/
theorem tight_all {box : List Span} {n : Nat} {x : List Rat} (hx : Within x box) (hn : n = box.length) : ∀ {ls : List (List Sum2)} {y : List Rat} {A : List Span} {U O : List Sum2}, Within y A → Btw n x U O y → U.length = O.length → Over y.length ls → Paired (Paired (Holds n x)) (tightAt box n ls A U O) (rowsAt ls y)
  | [], _, _, _, _, _, _, _, _ => .nil
  | l :: ls, y, A, U, O, hy, hb, hl, ⟨o1, o2, o3⟩ => by
    have hyl := btw_len hb hl
    have h := holds_map hx hn hy hb hl (l := l) fun z hz => by rw [o1 z hz]; exact hyl
    exact .cons h (tight_all hx hn (within_cut (within_map hy o1)) (pass_map h) (by rw [List.length_map, List.length_map, List.length_map, List.length_map]) (by simpa using o3))
/-- the ins' own sums -/
def units (n : Nat) : List Sum2 := (List.range n).map fun p => (unit n p, 0)
end Nc
end
section
set_option maxRecDepth 100000
set_option maxHeartbeats 4000000
namespace Nc
open PySem PySem.Spec PyProof.Rows L2
/-! ### the ins' own sums -/
theorem weighs_unit (p : Nat) : ∀ (k s : Nat) (x : List Rat), x.length = k → weighs (((List.range' s k).map fun i => if i = p then (1 : Rat) else 0).zip x) = if s ≤ p then x.getD (p - s) 0 else 0
  | 0, s, [], _ => by simp [weighs]
  | k + 1, s, y :: x, h => by
    have ih := weighs_unit p k (s + 1) x (by simpa using h)
    rw [List.range'_succ, List.map_cons, List.zip_cons_cons, weighs_cons, ih]
    by_cases e : s = p
    · subst e
      rw [if_pos rfl, if_neg (by omega), if_pos (Nat.le_refl _), Nat.sub_self]
      show 1 * y + 0 = y
      grind
    · rw [if_neg e]
      by_cases l : s ≤ p
      · rw [if_pos (by omega), if_pos l, show p - s = (p - (s + 1)) + 1 by omega]
        show 0 * y + _ = (y :: x).getD (p - (s + 1) + 1) 0
        rw [List.getD_cons_succ]
        grind
      · rw [if_neg (by omega), if_neg l]
        show 0 * y + 0 = 0
        grind
theorem tells_unit {n p : Nat} {x : List Rat} (h : x.length = n) : tells (unit n p, 0) x = x.getD p 0 := by
  have e := weighs_unit p n 0 x h
  unfold tells unit
  simp only
  rw [List.range_eq_range', e, if_pos (Nat.zero_le _), Nat.sub_zero]
  grind
theorem unit_len (n p : Nat) : (unit n p).length = n := by
  unfold unit
  rw [List.length_map, List.length_range]
theorem units_len (n : Nat) : (units n).length = n := by
  unfold units
  rw [List.length_map, List.length_range]
theorem pairs_at {α β : Type} {R : α → β → Prop} : ∀ {xs : List α} {ys : List β}, xs.length = ys.length → (∀ (k : Nat) x y, xs[k]? = some x → ys[k]? = some y → R x y) → Paired R xs ys
  | [], [], _, _ => .nil
  | x :: xs, y :: ys, h, f => .cons (f 0 x y rfl rfl) (pairs_at (by simpa using h) fun k a b h1 h2 => f (k + 1) a b (by simpa using h1) (by simpa using h2))
theorem btw_units {n : Nat} {x : List Rat} (h : x.length = n) : Btw n x (units n) (units n) x := by
  refine pairs_at (by rw [List.length_zip, units_len]; omega) fun k p r hp hr => ?_
  rw [List.getElem?_zip_eq_some] at hp
  obtain ⟨h1, h2⟩ := hp
  have hk := (List.getElem?_eq_some_iff.mp hr).1
  have e : (units n)[k]? = some (unit n k, 0) := by
    unfold units
    rw [List.getElem?_map, List.getElem?_range (by omega)]
    rfl
  rw [e] at h1 h2
  obtain ⟨p1, p2⟩ := p
  cases h1
  cases h2
  have v : tells (unit n k, 0) x = r := by
    rw [tells_unit h, List.getD_eq_getElem?_getD, hr]
    rfl
  exact ⟨unit_len n k, unit_len n k, by rw [v]; exact Rat.le_refl, by rw [v]; exact Rat.le_refl⟩
theorem unit_get {n i p : Nat} (hp : p < n) : (unit n i)[p]? = some (if p = i then 1 else 0) := by
  unfold unit
  rw [List.getElem?_map, List.getElem?_range hp]
  rfl
/-- a node taken through the ins themselves is itself -/
theorem thr_units_take {n : Nat} {z : Sum2} (hz : z.1.length = n) : ∀ i, i ≤ n → (thrL n z.2 ((z.1.zip ((units n).zip (units n))).take i)).1.length = n ∧ (thrL n z.2 ((z.1.zip ((units n).zip (units n))).take i)).2 = z.2 ∧
    ∀ p, p < n → (thrL n z.2 ((z.1.zip ((units n).zip (units n))).take i)).1[p]? = some (if p < i then z.1.getD p 0 else 0)
  | 0, _ => by
    refine ⟨by simp [thrL], by simp [thrL], fun p hp => ?_⟩
    simp [thrL, hp]
  | i + 1, h => by
    obtain ⟨a, b, c⟩ := thr_units_take hz i (by omega)
    have hi : i < z.1.length := by omega
    have hw : z.1[i]? = some z.1[i] := List.getElem?_eq_getElem hi
    have hu : (units n)[i]? = some (unit n i, 0) := by
      unfold units
      rw [List.getElem?_map, List.getElem?_range (by omega)]
      rfl
    have e : (z.1.zip ((units n).zip (units n)))[i]? = some (z.1[i], ((unit n i, 0), (unit n i, 0))) := by
      rw [List.getElem?_zip_eq_some, List.getElem?_zip_eq_some]
      exact ⟨hw, hu, hu⟩
    rw [thrL_take e]
    generalize thrL n z.2 ((z.1.zip ((units n).zip (units n))).take i) = t at a b c
    have hd : z.1.getD i 0 = z.1[i] := by
      rw [List.getD_eq_getElem?_getD, hw]
      rfl
    have pl : (splus t (stimes z.1[i] (unit n i, 0))).1.length = n ∧ (splus t (stimes z.1[i] (unit n i, 0))).2 = z.2 ∧ ∀ p, p < n → (splus t (stimes z.1[i] (unit n i, 0))).1[p]? = some (if p < i + 1 then z.1.getD p 0 else 0) := by
      refine ⟨?_, ?_, fun p hp => ?_⟩
      · unfold splus stimes
        rw [List.length_map, List.length_zip, List.length_map, unit_len]
        omega
      · show t.2 + z.1[i] * 0 = z.2
        rw [b]
        grind
      · unfold splus stimes
        simp only
        have k2 : ((unit n i).map fun x => z.1[i] * x)[p]? = some (z.1[i] * (if p = i then 1 else 0)) := by
          rw [List.getElem?_map, unit_get hp]
          rfl
        have kz : (t.1.zip ((unit n i).map fun x => z.1[i] * x))[p]? = some ((if p < i then z.1.getD p 0 else 0), z.1[i] * (if p = i then 1 else 0)) := by
          rw [List.getElem?_zip_eq_some]
          exact ⟨c p hp, k2⟩
        rw [List.getElem?_map, kz]
        show some (_ + _) = _
        congr 1
        by_cases e1 : p = i
        · subst e1
          rw [if_neg (by omega), if_pos rfl, if_pos (by omega), hd]
          grind
        · rw [if_neg e1]
          by_cases e2 : p < i
          · rw [if_pos e2, if_pos (by omega)]
            grind
          · rw [if_neg e2, if_neg (by omega)]
            grind
    unfold stp
    split
    · exact pl
    · split
      · exact pl
      · rename_i c1 c2
        have z0 : z.1[i] = 0 := Rat.num_eq_zero.mp (by
          have c1' : ¬ 0 < z.1[i].num := c1
          have c2' : ¬ z.1[i].num < 0 := c2
          omega)
        refine ⟨a, b, fun p hp => ?_⟩
        rw [c p hp]
        congr 1
        by_cases e2 : p < i
        · rw [if_pos e2, if_pos (by omega)]
        · rw [if_neg e2]
          by_cases e1 : p = i
          · subst e1
            rw [if_pos (by omega), hd, z0]
          · rw [if_neg (by omega)]
theorem thr_units {n : Nat} {z : Sum2} (hz : z.1.length = n) : thr z (units n) (units n) n = z := by
  obtain ⟨a, b, c⟩ := thr_units_take hz n (Nat.le_refl n)
  rw [List.take_of_length_le (by rw [List.length_zip, hz]; omega)] at a b c
  refine Prod.ext (List.ext_getElem? fun p => ?_) b
  by_cases hp : p < n
  · show (thrL n z.2 _).1[p]? = _
    rw [c p hp, if_pos hp, List.getD_eq_getElem?_getD, List.getElem?_eq_getElem (by omega)]
    rfl
  · have e : (thr z (units n) (units n) n).1.length = n := a
    rw [List.getElem?_eq_none (by omega), List.getElem?_eq_none (by omega)]
/-! ### spreads and values of what is handed on -/
def va : Nat → Nat
  | 0 => 22
  | i + 1 => 16 * va i + 10
def sa : Nat → Nat
  | 0 => 18
  | i + 1 => 16 * sa i
/-- spans ahead: how large, how wide, their bottoms -/
structure SpB (v s D : Nat) (A : List Span) : Prop where
  bd : ∀ p ∈ A, Bd v D p.1 ∧ Bd v D p.2
  le : ∀ p ∈ A, p.1 ≤ p.2
  wide : ∀ p ∈ A, p.2 - p.1 ≤ (s : Rat)
theorem spread_w {u s : Nat} : ∀ {ws : List Rat} {A : List Span}, (∀ w ∈ ws, -(u : Rat) ≤ w ∧ w ≤ (u : Rat)) → (∀ p ∈ A, p.1 ≤ p.2 ∧ p.2 - p.1 ≤ (s : Rat)) → ws.length = A.length →
    weighs (ws.zip (picks A (ws.map fun w => decide (w.num < 0)))) ≤ weighs (ws.zip (picks A (ws.map fun w => decide (0 < w.num)))) ∧
    weighs (ws.zip (picks A (ws.map fun w => decide (0 < w.num)))) - weighs (ws.zip (picks A (ws.map fun w => decide (w.num < 0)))) ≤ ((ws.length * (u * s) : Nat) : Rat)
  | [], A, _, _, _ => by
    refine ⟨Rat.le_refl, ?_⟩
    rw [List.length_nil, Nat.zero_mul]
    show (0 : Rat) - 0 ≤ 0
    grind
  | w :: ws, p :: A, hw, hA, hl => by
    obtain ⟨i1, i2⟩ := spread_w (ws := ws) (A := A) (fun a ha => hw a (by simp [ha])) (fun a ha => hA a (by simp [ha])) (by simpa using hl)
    obtain ⟨w1, w2⟩ := hw w (by simp)
    obtain ⟨p1, p2⟩ := hA p (by simp)
    simp only [List.map_cons, picks, List.zipWith_cons_cons, List.zip_cons_cons, weighs_cons, List.length_cons] at i1 i2 ⊢
    have e : (((ws.length + 1) * (u * s) : Nat) : Rat) = ((ws.length * (u * s) : Nat) : Rat) + (u : Rat) * (s : Rat) := by
      rw [Nat.add_mul, Nat.one_mul, Rat.natCast_add, Rat.natCast_mul u s]
    rw [e]
    generalize ((ws.length * (u * s) : Nat) : Rat) = T at i2
    generalize (u : Rat) = U at w1 w2
    generalize (s : Rat) = S at p2
    have key : w * pickB p (decide (w.num < 0)) ≤ w * pickB p (decide (0 < w.num)) ∧ w * pickB p (decide (0 < w.num)) - w * pickB p (decide (w.num < 0)) ≤ U * S := by
      unfold pickB
      by_cases c1 : w.num < 0
      · have c1' := num_lt.mp c1
        rw [if_pos (by simpa using c1), if_neg (by simp; omega)]
        have k1 := Rat.mul_nonneg (a := -w) (b := p.2 - p.1) (by grind) (by grind)
        have k2 := Rat.mul_nonneg (a := U + w) (b := p.2 - p.1) (by grind) (by grind)
        have k3 := Rat.mul_nonneg (a := U) (b := S - (p.2 - p.1)) (by grind) (by grind)
        exact ⟨by grind, by grind⟩
      · by_cases c2 : 0 < w.num
        · have c2' := numPos.mp c2
          rw [if_neg (by simpa using c1), if_pos (by simpa using c2)]
          have k1 := Rat.mul_nonneg (a := w) (b := p.2 - p.1) (by grind) (by grind)
          have k2 := Rat.mul_nonneg (a := U - w) (b := p.2 - p.1) (by grind) (by grind)
          have k3 := Rat.mul_nonneg (a := U) (b := S - (p.2 - p.1)) (by grind) (by grind)
          exact ⟨by grind, by grind⟩
        · have z : w = 0 := Rat.num_eq_zero.mp (by omega)
          subst z
          rw [Rat.zero_mul, Rat.zero_mul]
          have k3 := Rat.mul_nonneg (a := U) (b := S) (by grind) (by grind)
          exact ⟨Rat.le_refl, by grind⟩
    exact ⟨by grind, by grind⟩
/-- the bounds of a node over such spans -/
theorem spb_node {v s D w : Nat} {A : List Span} {z : Sum2} (D0 : 0 < w * D) (h : SpB v s D A) (h4 : A.length ≤ 4) (hz : z.1.length = A.length) (hw : BdL 4 w z.1) (hc : Bd 10 w z.2) :
    (Bd (16 * v + 10) (w * D) (bnd A z).1 ∧ Bd (16 * v + 10) (w * D) (bnd A z).2) ∧ (bnd A z).1 ≤ (bnd A z).2 ∧ (bnd A z).2 - (bnd A z).1 ≤ ((16 * s : Nat) : Rat) := by
  have pk : ∀ bs : List Bool, bs.length = A.length → Bd (16 * v + 10) (w * D) (tells z (picks A bs)) := fun bs hb => by
    have hp : BdL v D (picks A bs) := fun r hr => by
      unfold picks at hr
      obtain ⟨i, hi⟩ := List.mem_iff_getElem?.mp hr
      rw [List.getElem?_zipWith] at hi
      cases h1 : A[i]? with
      | none => rw [h1] at hi; cases hb' : bs[i]? <;> (rw [hb'] at hi; cases hi)
      | some p =>
        rw [h1] at hi
        cases h2 : bs[i]? with
        | none => rw [h2] at hi; cases hi
        | some b =>
          rw [h2] at hi
          have e : pickB p b = r := Option.some.inj hi
          rw [← e]
          unfold pickB
          obtain ⟨k1, k2⟩ := h.bd p (List.mem_of_getElem? h1)
          split
          · exact k2
          · exact k1
    have t := bd_tells (v := 4) (u := v) D0 D0 (Nat.dvd_refl _) hw (hc.mono (Nat.le_refl _) (Nat.dvd_mul_right w D)) hp (by rw [picks_len hb, hz])
    have : z.1.length * (4 * v) ≤ 4 * (4 * v) := Nat.mul_le_mul_right _ (by omega)
    exact t.mono (by omega) (Nat.dvd_refl _)
  obtain ⟨s1, s2⟩ := spread_w (u := 4) (s := s) (ws := z.1) (A := A) (fun a ha => (hw a ha).1) (fun p hp => ⟨h.le p hp, h.wide p hp⟩) hz
  refine ⟨⟨pk _ (by rw [lowB_len, hz]), pk _ (by rw [highB_len, hz])⟩, ?_, ?_⟩
  · unfold bnd lowT highT tells lowB highB
    grind
  · have m : ((z.1.length * (4 * s) : Nat) : Rat) ≤ ((16 * s : Nat) : Rat) := by
      refine Rat.natCast_le_natCast.mpr ?_
      have : z.1.length * (4 * s) ≤ 4 * (4 * s) := Nat.mul_le_mul_right _ (by omega)
      omega
    unfold bnd lowT highT tells lowB highB
    grind
theorem bd_cut {v D : Nat} {r : Rat} (h : Bd v D r) : Bd v D (cutQ r) := by
  unfold cutQ
  split
  · exact bd_zero v D
  · exact h
theorem spb_cut {v s D : Nat} {A : List Span} (h : SpB v s D A) : SpB v s D (A.map cutS) := by
  refine ⟨fun p hp => ?_, fun p hp => ?_, fun p hp => ?_⟩ <;> obtain ⟨q, hq, rfl⟩ := List.mem_map.mp hp
  · exact ⟨bd_cut (h.bd q hq).1, bd_cut (h.bd q hq).2⟩
  · exact cutQ_mono (h.le q hq)
  · have a := h.le q hq
    have b := h.wide q hq
    have s0 : (0 : Rat) ≤ (s : Rat) := Rat.natCast_nonneg
    show cutQ q.2 - cutQ q.1 ≤ _
    rw [cutQ_eq, cutQ_eq]
    generalize (s : Rat) = S at *
    by_cases c1 : q.1 < 0
    · rw [if_pos c1]
      by_cases c2 : q.2 < 0
      · rw [if_pos c2]
        grind
      · rw [if_neg c2]
        grind
    · rw [if_neg c1, if_neg (by grind)]
      exact b
end Nc
end
section
set_option maxRecDepth 100000
set_option maxHeartbeats 4000000
namespace Nc
open PySem PySem.Spec PyProof.Rows L2
/-! ### tighter sums: sizes -/
def M0 : Nat := 10 ^ 29 + 1000
def wN (g M i j : Nat) : Nat := if i = g ∧ j = 0 then 6 * M else 6
def wL (g M i : Nat) : Nat := if i = g then 6 * M else 6
theorem wN_dvd (g M i j : Nat) : wN g M i j ∣ wL g M i := by
  unfold wN wL
  by_cases h : i = g
  · rw [if_pos h]
    split
    · exact Nat.dvd_refl _
    · exact Nat.dvd_mul_right 6 M
  · rw [if_neg h, if_neg (fun z => h z.1)]
    exact Nat.dvd_refl _
theorem wN_pos {g M i j : Nat} (h : 0 < M) : 0 < wN g M i j := by
  unfold wN
  split <;> omega
theorem wL_pos {g M i : Nat} (h : 0 < M) : 0 < wL g M i := by
  unfold wL
  split <;> omega
/-- one number at most of the layers is long: that of the first node of layer g, its bottom M -/
structure GrB (g M : Nat) (ls : List (List Sum2)) : Prop where
  m0 : 0 < M
  mle : M ≤ M0
  num : ∀ (i : Nat) (l : List Sum2), ls[i]? = some l → ∀ (j : Nat) (z : Sum2), l[j]? = some z → BdL 4 (wN g M i j) z.1 ∧ Bd 10 (wN g M i j) z.2
def pr (c : Nat → Nat) : Nat → Nat
  | 0 => 1
  | j + 1 => c j * pr c j
theorem pr_pos {c : Nat → Nat} : ∀ {m : Nat}, (∀ j, j < m → 0 < c j) → 0 < pr c m
  | 0, _ => Nat.one_pos
  | m + 1, h => Nat.mul_pos (h m (by omega)) (pr_pos fun j hj => h j (by omega))
theorem pr_dvd {c : Nat → Nat} : ∀ {m j : Nat}, j < m → c j ∣ pr c m
  | m + 1, j, h => by
    by_cases e : j = m
    · subst e
      exact Nat.dvd_mul_right _ _
    · exact Nat.dvd_trans (pr_dvd (by omega)) (Nat.dvd_mul_left _ _)
theorem pr_le {c b : Nat → Nat} : ∀ {m : Nat}, (∀ j, j < m → c j ≤ b j) → pr c m ≤ pr b m
  | 0, _ => Nat.le_refl _
  | m + 1, h => Nat.mul_le_mul (h m (by omega)) (pr_le fun j hj => h j (by omega))
theorem pr_more {b : Nat → Nat} (h : ∀ j, 0 < b j) : ∀ {m k : Nat}, m ≤ k → pr b m ≤ pr b k
  | m, 0, hk => by
    have : m = 0 := by omega
    subst this
    exact Nat.le_refl _
  | m, k + 1, hk => by
    by_cases e : m = k + 1
    · subst e
      exact Nat.le_refl _
    · exact Nat.le_trans (pr_more h (show m ≤ k by omega)) (Nat.le_mul_of_pos_left _ (h k))
def ubs : Nat → Nat × Nat
  | 0 => (1, 26)
  | i + 1 => let u := (ubs i).2 + (67 * (ubs i).2 + va (i + 1)); (u, 10 + 16 * u)
/-- how large the sums ahead are, the nodes' own, what they tell in the box -/
def ub (i : Nat) : Nat := (ubs i).1
def vs (i : Nat) : Nat := (ubs i).2
def vl (i : Nat) : Nat := 67 * vs i + va (i + 1)
theorem vs_eq : ∀ i, vs i = 10 + 16 * ub i
  | 0 => rfl
  | _ + 1 => rfl
theorem ub_step (i : Nat) : ub (i + 1) = vs i + vl i := rfl
theorem vl_lt : ∀ i, i ≤ 3 → vl i ≤ 2 ^ 44 ∧ vs i ≤ 2 ^ 40 ∧ ub i ≤ 2 ^ 40 ∧ va (i + 1) ≤ 2 ^ 24 ∧ sa (i + 1) ≤ 2 ^ 24
  | 0, _ => by decide
  | 1, _ => by decide
  | 2, _ => by decide
  | 3, _ => by decide
def rb (g : Nat) : Nat → Nat
  | 0 => 1
  | i + 1 => 6 * rb g i * (sa (i + 1) * 36 * rb g i) ^ 4 * (if i = g then M0 * M0 else 1)
theorem rb_far {g : Nat} (h : 4 ≤ g) : ∀ i, i ≤ 4 → rb g i = rb 4 i
  | 0, _ => rfl
  | i + 1, hi => by
    show 6 * rb g i * (sa (i + 1) * 36 * rb g i) ^ 4 * (if i = g then M0 * M0 else 1) = 6 * rb 4 i * (sa (i + 1) * 36 * rb 4 i) ^ 4 * (if i = 4 then M0 * M0 else 1)
    rw [rb_far h i (by omega), if_neg (by omega), if_neg (by omega)]
theorem rb_lt {g i : Nat} (hi : i ≤ 3) : (if i = g then 6 * M0 else 6) * (6 * rb g i) < 2 ^ 6672 := by
  have d : ∀ g, g ≤ 4 → ∀ i, i ≤ 3 → (if i = g then 6 * M0 else 6) * (6 * rb g i) < 2 ^ 6672 := by decide +kernel
  by_cases h : g ≤ 4
  · exact d g h i hi
  · rw [rb_far (by omega) i (by omega), if_neg (by omega)]
    have := d 4 (by omega) i hi
    rwa [if_neg (by omega)] at this
/-! ### the ratio's bottom -/
def cI (t : Tg) (E : Nat) : Nat := if t.2.1 < 0 ∧ 0 < t.2.2 then (t.2.2 - t.2.1).num.natAbs * (E / (t.2.2 - t.2.1).den) else 1
theorem ratio_facts {h l : Rat} {E s : Nat} (E0 : 0 < E) (hl : l < 0) (hh : 0 < h) (dh : h.den ∣ E) (dl : l.den ∣ E) (hs : h - l ≤ (s : Rat)) :
    0 < (h - l).num.natAbs * (E / (h - l).den) ∧ Bd 1 ((h - l).num.natAbs * (E / (h - l).den)) (h / (h - l)) ∧ (h - l).num.natAbs * (E / (h - l).den) ≤ s * E := by
  have dq : (h - l).den ∣ E := by
    rw [Rat.sub_eq_add_neg]
    exact den_add E0 dh (by rw [Rat.neg_den]; exact dl)
  have q0 : 0 < h - l := by grind
  generalize hq : h - l = q at *
  have nq : 0 < q.num := numPos.mpr q0
  obtain ⟨m, hm⟩ := dq
  have dp := den_pos q
  have dn : 0 < q.den := by omega
  have m0 : 0 < m := Nat.pos_of_ne_zero fun z => by rw [z, Nat.mul_zero] at hm; omega
  have em : E / q.den = m := by rw [hm, Nat.mul_div_cancel_left _ dn]
  rw [em]
  have c0 : 0 < q.num.natAbs * m := Nat.mul_pos (by omega) m0
  have ec : ((q.num.natAbs * m : Nat) : Int) = q.num * (m : Int) := by
    rw [Int.natCast_mul, Int.natAbs_of_nonneg (by omega)]
  have eq : q = Rat.divInt ((q.num.natAbs * m : Nat) : Int) (E : Int) := by
    rw [ec, hm, Int.natCast_mul, Rat.divInt_mul_right (by omega), Rat.num_divInt_den]
  clear ec em
  generalize q.num.natAbs * m = c at c0 eq ⊢
  obtain ⟨k, hk⟩ := div_of_den E0 dh
  have eh : Rat.divInt k (c : Int) * q = h := by
    rw [hk, eq, Rat.divInt_mul_divInt, show (c : Int) * (E : Int) = (E : Int) * c from Int.mul_comm .., Rat.divInt_mul_right (by omega)]
  have er : h / q = Rat.divInt k (c : Int) := by
    rw [Rat.div_def, ← eh, Rat.mul_assoc, Rat.mul_inv_cancel q (by grind), Rat.mul_one]
  refine ⟨c0, ⟨?_, ?_⟩, ?_⟩
  · rw [er]
    generalize Rat.divInt k (c : Int) = r at eh
    have one : ((1 : Nat) : Rat) = 1 := rfl
    rw [one]
    constructor
    · refine Rat.not_lt.mp fun z => ?_
      have := Rat.mul_nonneg (a := -r) (b := q) (by grind) (by grind)
      grind
    · refine Rat.not_lt.mp fun z => ?_
      have := Rat.mul_nonneg (a := r - 1) (b := q) (by grind) (by grind)
      grind
  · rw [er]
    exact den_of_div c0
  · refine Rat.natCast_le_natCast.mp ?_
    rw [Rat.natCast_mul s E]
    have e0 : (0 : Rat) ≤ (E : Rat) := Rat.natCast_nonneg
    have eE : (E : Rat) ≠ 0 := fun z => by
      have : ((E : Nat) : Rat) ≤ ((0 : Nat) : Rat) := by
        rw [z]
        exact Rat.le_refl
      have := Rat.natCast_le_natCast.mp this
      omega
    have ev : (c : Rat) = q * (E : Rat) := by
      have e1 : q = (c : Rat) / (E : Rat) := by
        rw [eq, Rat.divInt_eq_div]
        rfl
      rw [e1, Rat.div_def, Rat.mul_assoc, Rat.inv_mul_cancel _ eE, Rat.mul_one]
    rw [ev]
    have := Rat.mul_nonneg (a := (s : Rat) - q) (b := (E : Rat)) (by grind) e0
    grind
/-- a node's four: sums over n things, low and high, how far apart -/
structure TgB (n v w s Dc E : Nat) (t : Tg) : Prop where
  u : BdS n v Dc E t.1.1
  o : BdS n v Dc E t.1.2
  lo : Bd w E t.2.1
  hi : Bd w E t.2.2
  wide : t.2.2 - t.2.1 ≤ (s : Rat)
theorem bds_flat0 (n v Dc E : Nat) : BdS n v Dc E (flat0 n) := bds_flat n (bd_zero v E)
theorem uPass_b {n v w s Dc E : Nat} {t : Tg} (h : TgB n v w s Dc E t) : BdS n v Dc E (uPass n t) := by
  unfold uPass
  split
  · exact h.u
  · exact bds_flat0 n v Dc E
theorem oPass_b {n v w s Dc E : Nat} {t : Tg} (E0 : 0 < E) (h : TgB n v w s Dc E t) (s1 : 1 ≤ s) : 0 < cI t E ∧ cI t E ≤ s * E ∧ BdS n (v + w) (cI t E * Dc) (cI t E * E) (oPass n t) := by
  unfold cI oPass
  by_cases c : t.2.1 < 0 ∧ 0 < t.2.2
  · obtain ⟨r0, r1, r2⟩ := ratio_facts E0 c.1 c.2 h.hi.2 h.lo.2 h.wide
    rw [if_pos c, if_neg (by have := numPos.mpr c.2; omega), if_neg (by have := num_lt.mpr c.1; omega)]
    refine ⟨r0, r2, ?_⟩
    have b : BdS n (v + w) Dc E (t.1.2.1, t.1.2.2 - t.2.1) := ⟨h.o.len, h.o.row.mono (Nat.le_add_right _ _) (Nat.dvd_refl _), h.o.num.sub E0 h.lo⟩
    have := bds_times r1 b
    rwa [Nat.one_mul] at this
  · rw [if_neg c]
    have sE : 1 ≤ s * E := Nat.mul_pos s1 E0
    refine ⟨Nat.one_pos, sE, ?_⟩
    rw [Nat.one_mul, Nat.one_mul]
    by_cases c1 : t.2.2.num ≤ 0
    · rw [if_pos c1]
      exact bds_flat0 n _ Dc E
    · rw [if_neg c1]
      have hp : 0 < t.2.2 := numPos.mp (by omega)
      rw [if_pos (Rat.num_nonneg.mpr (Rat.not_lt.mp fun z => c ⟨z, hp⟩))]
      exact h.o.mono (Nat.le_add_right _ _) (Nat.dvd_refl _) (Nat.dvd_refl _)
theorem bd_max {v u D : Nat} {a b : Rat} (ha : Bd v D a) (hb : Bd u D b) : Bd (v + u) D (maxQ a b) ∧ Bd (v + u) D (minQ a b) := by
  have h1 := ha.mono (Nat.le_add_right v u) (Nat.dvd_refl D)
  have h2 := hb.mono (Nat.le_add_left u v) (Nat.dvd_refl D)
  unfold maxQ minQ
  constructor
  · split
    · exact h2
    · exact h1
  · split
    · exact h2
    · exact h1
theorem bd_picks {v D : Nat} {A : List Span} (h : ∀ p ∈ A, Bd v D p.1 ∧ Bd v D p.2) (bs : List Bool) : BdL v D (picks A bs) := fun r hr => by
  unfold picks at hr
  obtain ⟨i, hi⟩ := List.mem_iff_getElem?.mp hr
  rw [List.getElem?_zipWith] at hi
  cases h1 : A[i]? with
  | none => rw [h1] at hi; cases hb' : bs[i]? <;> (rw [hb'] at hi; cases hi)
  | some p =>
    rw [h1] at hi
    cases h2 : bs[i]? with
    | none => rw [h2] at hi; cases hi
    | some b =>
      rw [h2] at hi
      have e : pickB p b = r := Option.some.inj hi
      rw [← e]
      unfold pickB
      obtain ⟨k1, k2⟩ := h p (List.mem_of_getElem? h1)
      split
      · exact k2
      · exact k1
theorem lt_of_rb {g M i R : Nat} (i3 : i ≤ 3) (mle : M ≤ M0) (rle : R ≤ rb g i) (j : Nat) : wN g M i j * (6 * R) < 2 ^ 6672 := by
  refine Nat.lt_of_le_of_lt ?_ (rb_lt (g := g) i3)
  refine Nat.mul_le_mul ?_ (Nat.mul_le_mul_left 6 rle)
  have m1 : 1 ≤ M0 := by decide
  unfold wN
  by_cases h : i = g
  · rw [if_pos h]
    split <;> omega
  · rw [if_neg h, if_neg (fun z => h z.1)]
    exact Nat.le_refl _
/-- a layer's facts: its nodes, what is ahead -/
structure Lk (D : Nat) (box : List Span) (n g M i : Nat) (l : List Sum2) (A : List Span) (U O : List Sum2) (R : Nat) : Prop where
  nodes : ∀ (j : Nat) (z : Sum2), l[j]? = some z → z.1.length = A.length ∧ BdL 4 (wN g M i j) z.1 ∧ Bd 10 (wN g M i j) z.2
  many : l.length ≤ 4
  a4 : A.length ≤ 4
  ul : U.length = A.length
  ol : O.length = A.length
  i3 : i ≤ 3
  sp : SpB (va i) (sa i) (pw (wL g M) i * D) A
  r0 : 0 < R
  d0 : 0 < D
  ltE : ∀ j, wN g M i j * (D * R) < 2 ^ 6672
  rdv : pw (wL g M) i ∣ R
  hu : ∀ s ∈ U, BdS n (ub i) R (D * R) s
  ho : ∀ s ∈ O, BdS n (ub i) R (D * R) s
  m0 : 0 < M
  mle : M ≤ M0
  bx : SpB 22 18 D box
  nb : n = box.length
  n3 : n ≤ 3
section
variable {box A : List Span} {n g M i R D : Nat} {l : List Sum2} {U O : List Sum2}
theorem Lk.pos (k : Lk D box n g M i l A U O R) (j : Nat) : 0 < wN g M i j * R ∧ 0 < wN g M i j * (D * R) :=
  ⟨Nat.mul_pos (wN_pos k.m0) k.r0, Nat.mul_pos (wN_pos k.m0) (Nat.mul_pos k.d0 k.r0)⟩
theorem Lk.lt (k : Lk D box n g M i l A U O R) (j : Nat) : wN g M i j * (D * R) < 2 ^ 6672 := k.ltE j
theorem Lk.sums (k : Lk D box n g M i l A U O R) {j : Nat} {z : Sum2} (hz : l[j]? = some z) : BdS n (vs i) (wN g M i j * R) (wN g M i j * (D * R)) (thr z U O n) ∧ BdS n (vs i) (wN g M i j * R) (wN g M i j * (D * R)) (thr z O U n) := by
  obtain ⟨h1, h2, h3⟩ := k.nodes j z hz
  obtain ⟨p1, p2⟩ := k.pos j
  have ul := k.ul
  have ol := k.ol
  have a4 := k.a4
  have hc := h3.mono (Nat.le_refl _) (Nat.dvd_mul_right (wN g M i j) (D * R))
  have e : 10 + z.1.length * (4 * ub i) ≤ vs i := by
    rw [vs_eq]
    have : z.1.length * (4 * ub i) ≤ 4 * (4 * ub i) := Nat.mul_le_mul_right _ (by omega)
    omega
  exact ⟨(bds_thr p1 p2 h2 hc k.hu k.ho (by omega) (by omega)).mono e (Nat.dvd_refl _) (Nat.dvd_refl _), (bds_thr p1 p2 h2 hc k.ho k.hu (by omega) (by omega)).mono e (Nat.dvd_refl _) (Nat.dvd_refl _)⟩
theorem Lk.ends (k : Lk D box n g M i l A U O R) {j : Nat} {z : Sum2} (hz : l[j]? = some z) : (Bd (va (i + 1)) (wN g M i j * (D * R)) (bnd A z).1 ∧ Bd (va (i + 1)) (wN g M i j * (D * R)) (bnd A z).2) ∧ (bnd A z).1 ≤ (bnd A z).2 ∧ (bnd A z).2 - (bnd A z).1 ≤ (sa (i + 1) : Rat) := by
  obtain ⟨h1, h2, h3⟩ := k.nodes j z hz
  have p0 : 0 < wN g M i j * (pw (wL g M) i * D) := Nat.mul_pos (wN_pos k.m0) (Nat.mul_pos (pw_pos (fun _ => wL_pos k.m0) i) k.d0)
  obtain ⟨b, c, d⟩ := spb_node p0 k.sp k.a4 h1 h2 h3
  have dv : wN g M i j * (pw (wL g M) i * D) ∣ wN g M i j * (D * R) := Nat.mul_dvd_mul_left _ (by rw [Nat.mul_comm]; exact Nat.mul_dvd_mul_left D k.rdv)
  exact ⟨⟨b.1.mono (Nat.le_refl _) dv, b.2.mono (Nat.le_refl _) dv⟩, c, d⟩
/-- what a small sum tells at a corner of the box -/
theorem Lk.corner (k : Lk D box n g M i l A U O R) {j : Nat} {s : Sum2} (hs : BdS n (vs i) (wN g M i j * R) (wN g M i j * (D * R)) s) (bs : List Bool) (hb : bs.length = box.length) : Bd (67 * vs i) (wN g M i j * (D * R)) (tells s (picks box bs)) := by
  obtain ⟨p1, p2⟩ := k.pos j
  have n3 := k.n3
  have nb := k.nb
  have sl := hs.len
  have e : wN g M i j * R * D = wN g M i j * (D * R) := by rw [Nat.mul_assoc, Nat.mul_comm R]
  have h := bd_tells (v := vs i) (u := 22) (D := wN g M i j * R) (E := D) (F := wN g M i j * (D * R)) (by rw [e]; exact p2) p2 (by rw [e]; exact Nat.dvd_refl _) hs.row hs.num (bd_picks k.bx.bd bs) (by rw [picks_len hb]; omega)
  refine h.mono ?_ (Nat.dvd_refl _)
  have : s.1.length * (vs i * 22) ≤ 3 * (vs i * 22) := Nat.mul_le_mul_right _ (by omega)
  omega
theorem Lk.tg (k : Lk D box n g M i l A U O R) {j : Nat} {z : Sum2} (hz : l[j]? = some z) : TgB n (vs i) (vl i) (sa (i + 1)) (wN g M i j * R) (wN g M i j * (D * R)) (tgt box n U O A z) := by
  obtain ⟨s1, s2⟩ := k.sums hz
  obtain ⟨⟨e1, e2⟩, e3, e4⟩ := k.ends hz
  have nb := k.nb
  have c1 := k.corner s1 (lowB (thr z U O n)) (by rw [lowB_len, s1.len, nb])
  have c2 := k.corner s2 (highB (thr z O U n)) (by rw [highB_len, s2.len, nb])
  refine ⟨s1, s2, (bd_max c1 e1).1, (bd_max c2 e2).2, ?_⟩
  have m1 := le_maxQ (lowT (thr z U O n) box) (bnd A z).1
  have m2 := minQ_le (highT (thr z O U n) box) (bnd A z).2
  show minQ (highT (thr z O U n) box) (bnd A z).2 - maxQ (lowT (thr z U O n) box) (bnd A z).1 ≤ _
  grind
end
/-- what stands behind i layers -/
structure MidT (box : List Span) (n g M : Nat) (ls : List (List Sum2)) (i : Nat) (dn : List (List Tg)) (A : List Span) (U O : List Sum2) : Prop where
  len : dn.length = i
  eq : tightAt box n ls box (units n) (units n) = dn ++ tightAt box n (ls.drop i) A U O
  over : Over A.length (ls.drop i)
  a4 : A.length ≤ 4
  ul : U.length = A.length
  ol : O.length = A.length
  sp : SpB (va i) (sa i) (pw (wL g M) i * 6) A
  r : ∃ R, 0 < R ∧ R ≤ rb g i ∧ pw (wL g M) i ∣ R ∧ (∀ s ∈ U, BdS n (ub i) R (6 * R) s) ∧ ∀ s ∈ O, BdS n (ub i) R (6 * R) s
theorem units_b {n : Nat} : ∀ s ∈ units n, BdS n 1 1 6 s := by
  intro s hs
  unfold units at hs
  obtain ⟨p, _, rfl⟩ := List.mem_map.mp hs
  refine ⟨unit_len n p, fun r hr => ?_, bd_zero _ _⟩
  unfold unit at hr
  obtain ⟨q, _, rfl⟩ := List.mem_map.mp hr
  split
  · exact ⟨by decide, by decide⟩
  · exact bd_zero _ _
theorem midT0 {box : List Span} {n g M : Nat} {ls : List (List Sum2)} (hb : SpB 22 18 6 box) (hn : n = box.length) (h3 : n ≤ 3) (ov : Over n ls) : MidT box n g M ls 0 [] box (units n) (units n) := by
  refine ⟨rfl, rfl, by rw [← hn]; exact ov, by omega, by rw [units_len, hn], by rw [units_len, hn], ?_, 1, Nat.one_pos, Nat.le_refl _, Nat.dvd_refl _, units_b, units_b⟩
  rw [show pw (wL g M) 0 * 6 = 6 from rfl]
  exact hb
theorem pr_b {g M i s R : Nat} (hM : M ≤ M0) (hR : 0 < R) (s1 : 1 ≤ s) (m0 : 0 < M) : pr (fun j => s * (wN g M i j * (6 * R))) 4 ≤ (s * 36 * R) ^ 4 * (if i = g then M0 else 1) := by
  have e : pr (fun j => s * (wN g M i j * (6 * R))) 4 = (s * (wN g M i 3 * (6 * R))) * ((s * (wN g M i 2 * (6 * R))) * ((s * (wN g M i 1 * (6 * R))) * ((s * (wN g M i 0 * (6 * R))) * 1))) := rfl
  have w : ∀ j, j ≠ 0 → wN g M i j = 6 := fun j hj => by
    unfold wN
    rw [if_neg (fun z => hj z.2)]
  have t : s * (6 * (6 * R)) = s * 36 * R := by rw [← Nat.mul_assoc 6 6 R, Nat.mul_assoc s]
  rw [e, w 3 (by decide), w 2 (by decide), w 1 (by decide), t, Nat.mul_one]
  have w0 : s * (wN g M i 0 * (6 * R)) ≤ (s * 36 * R) * (if i = g then M0 else 1) := by
    unfold wN
    by_cases h : i = g
    · rw [if_pos ⟨h, rfl⟩, if_pos h]
      have a : s * (6 * M * (6 * R)) = s * 36 * R * M := by grind
      rw [a]
      exact Nat.mul_le_mul_left _ hM
    · rw [if_neg (fun z => h z.1), if_neg h, t, Nat.mul_one]
      exact Nat.le_refl _
  generalize s * 36 * R = T at w0 ⊢
  generalize (if i = g then M0 else 1) = m at w0 ⊢
  refine Nat.le_trans (Nat.mul_le_mul_left T (Nat.mul_le_mul_left T (Nat.mul_le_mul_left T w0))) (Nat.le_of_eq ?_)
  grind
theorem midT_step {box A : List Span} {n g M i : Nat} {ls : List (List Sum2)} {dn : List (List Tg)} {U O : List Sum2} {l : List Sum2} (hb : SpB 22 18 6 box) (hn : n = box.length) (h3 : n ≤ 3) (h4 : ls.length ≤ 4) (gr : GrB g M ls) (m : MidT box n g M ls i dn A U O) (hi : ls[i]? = some l) :
    ∃ R, Lk 6 box n g M i l A U O R ∧ MidT box n g M ls (i + 1) (dn ++ [l.map (tgt box n U O A)]) ((l.map (bnd A)).map cutS) ((l.map (tgt box n U O A)).map (uPass n)) ((l.map (tgt box n U O A)).map (oPass n)) := by
  have hi1 := (List.getElem?_eq_some_iff.mp hi).1
  have ov := m.over
  rw [drop_at hi] at ov
  obtain ⟨o1, o2, o3⟩ := ov
  obtain ⟨R, r0, rle, rdv, hu, ho⟩ := m.r
  have i3 : i ≤ 3 := by omega
  have k : Lk 6 box n g M i l A U O R := ⟨fun j z hz => ⟨o1 z (List.mem_of_getElem? hz), gr.num i l hi j z hz⟩, o2.2, m.a4, m.ul, m.ol, i3, m.sp, r0, by decide, fun j => lt_of_rb i3 gr.mle rle j, rdv, hu, ho, gr.m0, gr.mle, hb, hn, h3⟩
  have s1 : 1 ≤ sa (i + 1) := by
    have : ∀ i, i ≤ 4 → 1 ≤ sa i := by decide
    exact this _ (by omega)
  refine ⟨R, k, ⟨by simp [m.len], ?_, by simpa using o3, by simpa using o2.2, by simp, by simp, ?_, ?_⟩⟩
  · rw [m.eq, tightAt_cons hi, List.append_assoc]
    rfl
  · refine spb_cut ⟨fun p hp => ?_, fun p hp => ?_, fun p hp => ?_⟩ <;> obtain ⟨z, hz, rfl⟩ := List.mem_map.mp hp <;> obtain ⟨j, hj⟩ := List.mem_iff_getElem?.mp hz
    · obtain ⟨h1, h2, h3⟩ := k.nodes j z hj
      have p0 : 0 < wN g M i j * (pw (wL g M) i * 6) := Nat.mul_pos (wN_pos gr.m0) (Nat.mul_pos (pw_pos (fun _ => wL_pos gr.m0) i) (by decide))
      obtain ⟨b, _, _⟩ := spb_node p0 k.sp k.a4 h1 h2 h3
      have dv : wN g M i j * (pw (wL g M) i * 6) ∣ pw (wL g M) (i + 1) * 6 := by
        show _ ∣ wL g M i * pw (wL g M) i * 6
        rw [Nat.mul_assoc]
        exact Nat.mul_dvd_mul_right (wN_dvd g M i j) _
      exact ⟨b.1.mono (Nat.le_refl _) dv, b.2.mono (Nat.le_refl _) dv⟩
    · exact (k.ends hj).2.1
    · exact (k.ends hj).2.2
  · let c : Nat → Nat := fun j => cI (tgt box n U O A (l.getD j ([], 0))) (wN g M i j * (6 * R))
    have cj : ∀ j z, l[j]? = some z → c j = cI (tgt box n U O A z) (wN g M i j * (6 * R)) := fun j z hz => by
      show cI (tgt box n U O A (l.getD j ([], 0))) _ = _
      rw [List.getD_eq_getElem?_getD, hz]
      rfl
    have cf : ∀ j, j < l.length → 0 < c j ∧ c j ≤ sa (i + 1) * (wN g M i j * (6 * R)) := fun j hj => by
      have hz : l[j]? = some l[j] := List.getElem?_eq_getElem hj
      rw [cj j _ hz]
      obtain ⟨a, b, _⟩ := oPass_b (k.pos j).2 (k.tg hz) s1
      exact ⟨a, b⟩
    have cp := pr_pos (c := c) (m := l.length) fun j hj => (cf j hj).1
    refine ⟨wL g M i * R * pr c l.length, Nat.mul_pos (Nat.mul_pos (wL_pos gr.m0) r0) cp, ?_, ?_, fun s hs => ?_, fun s hs => ?_⟩
    · have h1 : pr c l.length ≤ (sa (i + 1) * 36 * R) ^ 4 * (if i = g then M0 else 1) := by
        refine Nat.le_trans (pr_le (b := fun j => sa (i + 1) * (wN g M i j * (6 * R))) fun j hj => (cf j hj).2) (Nat.le_trans (pr_more (fun j => Nat.mul_pos s1 (k.pos j).2) o2.2) (pr_b gr.mle r0 s1 gr.m0))
      have h2 : wL g M i ≤ 6 * (if i = g then M0 else 1) := by
        unfold wL
        have := gr.mle
        split <;> omega
      have h3 : (sa (i + 1) * 36 * R) ^ 4 ≤ (sa (i + 1) * 36 * rb g i) ^ 4 := Nat.pow_le_pow_left (Nat.mul_le_mul_left _ rle) 4
      refine Nat.le_trans (Nat.mul_le_mul (Nat.mul_le_mul h2 rle) (Nat.le_trans h1 (Nat.mul_le_mul_right _ h3))) (Nat.le_of_eq ?_)
      show _ = 6 * rb g i * (sa (i + 1) * 36 * rb g i) ^ 4 * (if i = g then M0 * M0 else 1)
      have e : (if i = g then M0 * M0 else 1) = (if i = g then M0 else 1) * (if i = g then M0 else 1) := by split <;> rfl
      rw [e]
      generalize (if i = g then M0 else 1) = q
      generalize (sa (i + 1) * 36 * rb g i) ^ 4 = p
      generalize rb g i = r
      grind
    · show wL g M i * pw (wL g M) i ∣ _
      exact Nat.dvd_trans (Nat.mul_dvd_mul_left _ rdv) (Nat.dvd_mul_right _ _)
    · rw [List.map_map] at hs
      obtain ⟨z, hz, rfl⟩ := List.mem_map.mp hs
      obtain ⟨j, hj⟩ := List.mem_iff_getElem?.mp hz
      have jl := (List.getElem?_eq_some_iff.mp hj).1
      have d : wN g M i j * R ∣ wL g M i * R * pr c l.length := Nat.dvd_trans (Nat.mul_dvd_mul_right (wN_dvd g M i j) R) (Nat.dvd_mul_right _ _)
      have d6 : wN g M i j * (6 * R) ∣ 6 * (wL g M i * R * pr c l.length) := by
        rw [show wN g M i j * (6 * R) = 6 * (wN g M i j * R) by grind]
        exact Nat.mul_dvd_mul_left 6 d
      exact (uPass_b (k.tg hj)).mono (by rw [ub_step]; omega) d d6
    · rw [List.map_map] at hs
      obtain ⟨z, hz, rfl⟩ := List.mem_map.mp hs
      obtain ⟨j, hj⟩ := List.mem_iff_getElem?.mp hz
      have jl := (List.getElem?_eq_some_iff.mp hj).1
      obtain ⟨_, _, b⟩ := oPass_b (k.pos j).2 (k.tg hj) s1
      rw [← cj j z hj] at b
      have d : c j * (wN g M i j * R) ∣ wL g M i * R * pr c l.length := by
        rw [Nat.mul_comm]
        exact Nat.mul_dvd_mul (Nat.mul_dvd_mul_right (wN_dvd g M i j) R) (pr_dvd jl)
      have d6 : c j * (wN g M i j * (6 * R)) ∣ 6 * (wL g M i * R * pr c l.length) := by
        rw [show c j * (wN g M i j * (6 * R)) = 6 * (c j * (wN g M i j * R)) by grind]
        exact Nat.mul_dvd_mul_left 6 d
      exact b.mono (by rw [ub_step]; exact Nat.le_refl _) d d6
theorem midT_end {box A : List Span} {n g M : Nat} {ls : List (List Sum2)} {dn : List (List Tg)} {U O : List Sum2} (m : MidT box n g M ls ls.length dn A U O) : dn = tightAt box n ls box (units n) (units n) := by
  rw [m.eq, List.drop_length]
  show dn = dn ++ []
  rw [List.append_nil]
/-- any walk whose layers have what their nodes need -/
structure Fam (D : Nat) (box : List Span) (n g M : Nat) (ls : List (List Sum2)) (Md : Nat → List (List Tg) → List Span → List Sum2 → List Sum2 → Prop) : Prop where
  z : Md 0 [] box (units n) (units n)
  len : ∀ {i dn A U O}, Md i dn A U O → dn.length = i
  eq : ∀ {i dn A U O}, Md i dn A U O → tightAt box n ls box (units n) (units n) = dn ++ tightAt box n (ls.drop i) A U O
  step : ∀ {i dn A U O l}, Md i dn A U O → ls[i]? = some l → ∃ R, Lk D box n g M i l A U O R ∧ Md (i + 1) (dn ++ [l.map (tgt box n U O A)]) ((l.map (bnd A)).map cutS) ((l.map (tgt box n U O A)).map (uPass n)) ((l.map (tgt box n U O A)).map (oPass n))
theorem Fam.fin {D : Nat} {box A : List Span} {n g M : Nat} {ls : List (List Sum2)} {Md : Nat → List (List Tg) → List Span → List Sum2 → List Sum2 → Prop} {dn : List (List Tg)} {U O : List Sum2} (f : Fam D box n g M ls Md) (m : Md ls.length dn A U O) : dn = tightAt box n ls box (units n) (units n) := by
  rw [f.eq m, List.drop_length]
  show dn = dn ++ []
  rw [List.append_nil]
end Nc
end
section
set_option maxRecDepth 100000
set_option maxHeartbeats 4000000
namespace Nc
open PySem PySem.Spec PyProof.Rows L2
/-! zip of any three -/
theorem drX {prog : Program} {w : World} {A : Around} (hh : A.handled = none) (it l : Addr) (hne : l ≠ it) (items : Array Value) : (c : Bool) → Draws prog w A it [it, l] items.size (fun i v => items[i]? = some v) (fun i h => JX c it l h i ∧ CX c l h items)
  | true => Draws.tuple hh it l hne items
  | false => Draws.list hh it l hne items
theorem bgX (l : Addr) (items : Array Value) : (c : Bool) → Begins (.ref l) { cls := .type (itN c), data := .fields #[.ref l, .int 0 0] } fun h => CX c l h items
  | true => begins_tuple l items
  | false => begins_list l items
theorem sep3 {n a b c : Nat} (ha : a < n) (hb : b < n) (hc : c < n) : ZipSep3 (n + 5) (n + 3) (n + 4) n (n + 1) (n + 2) [n, a] [n + 1, b] [n + 2, c] := by
  have f : ∀ {x y : Nat}, x ≠ y → ∀ z : @Eq Addr x y, False := fun h z => h z
  have g : ∀ {x y z : Nat}, x ≠ y → x ≠ z → ¬ (@Membership.mem Addr (List Addr) _ [y, z] x) := fun h1 h2 z => by
    rcases List.mem_cons.mp z with z | z
    · exact h1 z
    · exact h2 (List.mem_singleton.mp z)
  constructor
  all_goals first
    | exact f (by omega)
    | exact g (by omega) (by omega)
    | exact List.mem_cons_self ..
def Itz3 (K : PySem.W.Frag) (c1 c2 c3 : Bool) (a b c : Addr) : It :=
  ⟨fun i H => ∃ (xs ys us : List V) (x y u : V), SqX K c1 H a xs ∧ SqX K c2 H b ys ∧ SqX K c3 H c us ∧ xs[i]? = some x ∧ ys[i]? = some y ∧ us[i]? = some u,
    fun i H v H' => ∃ T x y u, v = .ref T ∧ H T = none ∧ H' = upd H T (.tup [x, y, u]) ∧ (∀ xs, SqX K c1 H a xs → xs[i]? = some x) ∧ (∀ ys, SqX K c2 H b ys → ys[i]? = some y) ∧ ∀ us, SqX K c3 H c us → us[i]? = some u,
    fun i H => ∃ xs ys us : List V, SqX K c1 H a xs ∧ SqX K c2 H b ys ∧ SqX K c3 H c us ∧ i ≤ xs.length ∧ i ≤ ys.length ∧ i ≤ us.length ∧ (i = xs.length ∨ i = ys.length ∨ i = us.length)⟩
theorem turn_zip3 {c1 c2 c3 : Bool} {P : Program} {w : World} {K : PySem.W.Frag} {elts : List Expr} {kk : Nat} {tpos : Pos} {a b c z TI TO i1 i2 i3 : Addr} (S : ZipSep3 z TI TO i1 i2 i3 [i1, a] [i2, b] [i3, c]) (n1 : a ≠ i1) (n2 : b ≠ i2) (n3 : c ≠ i3) :
    Turn P w K (.Tuple elts kk tpos) (Itz3 K c1 c2 c3 a b c) [z, TI, TO, i1, i2, i3] z (fun i h => IsZip h z TI TO .none ∧ IsTupOf3 h TI (.ref i1) (.ref i2) (.ref i3) ∧ (∃ x y u, IsTupOf3 h TO x y u) ∧ JX c1 i1 a h i ∧ JX c2 i2 b h i ∧ JX c3 i3 c h i) where
  mem := by simp
  obj := fun i h st d hd => by
    obtain ⟨hz, hTI, ⟨x, y, u, hTO⟩, h1, h2, h3⟩ := st
    have jx : ∀ {cc : Bool} {it l : Addr} {k : Nat}, JX cc it l h k → ∃ o, h.get? it = some o ∧ ∀ v, o.data ≠ .cell v := by
      intro cc it l k hj
      cases cc
      · obtain ⟨o1, e1, _, d1⟩ := hj
        exact ⟨o1, e1, fun v q => by rw [d1] at q; cases q⟩
      · obtain ⟨o1, e1, _, d1⟩ := hj
        exact ⟨o1, e1, fun v q => by rw [d1] at q; cases q⟩
    have e' : d = z ∨ d = TI ∨ d = TO ∨ d = i1 ∨ d = i2 ∨ d = i3 := by simpa using hd
    rcases e' with q | q | q | q | q | q
    · rw [q]; exact ⟨_, hz, fun v q => nomatch q⟩
    · rw [q]; exact ⟨_, hTI, fun v q => nomatch q⟩
    · rw [q]; exact ⟨_, hTO, fun v q => nomatch q⟩
    · rw [q]; exact jx h1
    · rw [q]; exact jx h2
    · rw [q]; exact jx h3
  keep := fun i h h' st k => by
    obtain ⟨hz, hTI, ⟨x, y, u, hTO⟩, h1, h2, h3⟩ := st
    exact ⟨k z (by simp) _ hz, k TI (by simp) _ hTI, ⟨x, y, u, k TO (by simp) _ hTO⟩, h1.at' fun o q => k i1 (by simp) o q, h2.at' fun o q => k i2 (by simp) o q, h3.at' fun o q => k i3 (by simp) o q⟩
  item := by
    intro X hP hw hK hc i pins s σ H E I hf st hg
    subst hP hw hK
    obtain ⟨hz, hTI, ⟨x0, y0, u0, hTO⟩, h1, h2, h3⟩ := st
    obtain ⟨xs, ys, us, x, y, u, hqx, hqy, hqu, hx, hy, hu⟩ := hg
    obtain ⟨its, rv, p⟩ := invX I hqx
    obtain ⟨its2, rv2, p2⟩ := invX I hqy
    obtain ⟨its3, rv3, p3⟩ := invX I hqu
    obtain ⟨v1, hv1, ru1⟩ := rv.get hx
    obtain ⟨v2, hv2, ru2⟩ := rv2.get hy
    obtain ⟨v3, hv3, ru3⟩ := rv3.get hu
    have hzl : z < s.heap.objs.size := Heap.lt_size hz
    have hh : X.A.in1.handled = none := I.ok.hd hc
    have g1 := (List.getElem?_eq_some_iff.mp hv1).1
    have g2 := (List.getElem?_eq_some_iff.mp hv2).1
    have g3 := (List.getElem?_eq_some_iff.mp hv3).1
    refine wpAny_pyNext_zipD3_item S (drX hh i1 a n1 its.toArray c1) (drX hh i2 b n2 its2.toArray c2) (drX hh i3 c n3 its3.toArray c3) hz hTI hTO ⟨h1, p⟩ ⟨h2, p2⟩ ⟨h3, p3⟩ (by simpa using g1) (by simpa using g2) (by simpa using g3) fun x1 x2 x3 h' tk y1 y2 y3 z' TO' s1 s2 s3 hT hsz hk => ?_
    have e1 : x1 = v1 := by
      have : its[i]? = some x1 := by simpa using y1
      rw [hv1] at this
      exact (Option.some.inj this).symm
    have e2 : x2 = v2 := by
      have : its2[i]? = some x2 := by simpa using y2
      rw [hv2] at this
      exact (Option.some.inj this).symm
    have e3 : x3 = v3 := by
      have : its3[i]? = some x3 := by simpa using y3
      rw [hv3] at this
      exact (Option.some.inj this).symm
    subst e1 e2 e3
    refine ⟨_, rfl, wpAny_letOwnedTupleGo_zip (s := { s with heap := h', toks := tk }) z' fun h'' z'' sb => ?_⟩
    have hT2 : h''.get? s.heap.objs.size = some { cls := .type "tuple", data := .seq #[x1, x2, x3] } := (sb.2 _ (Nat.ne_of_gt hzl)).trans hT
    have new : ObjOk X.prog X.w (upd H s.heap.objs.size (.tup [x, y, u])) h'' s.heap.objs.size (.tup [x, y, u]) :=
      ⟨by show 3 ≤ sizeLine; decide, [x1, x2, x3], .cons ru1 (.cons ru2 (.cons ru3 .nil)), ⟨_, hT2, rfl, _, rfl⟩⟩
    have I1 : Inv X pins σ (upd H s.heap.objs.size (.tup [x, y, u])) { s with heap := h'', toks := tk } :=
      I.turnedNew (t' := tk) (ch := [z, TI, TO, i1, i2, i3]) (fun c o hb q => (sb.2 c (fun q' => hb (by simp [q']))).trans (hk c o (fun q' => hb (by simp [q'])) (fun q' => hb (by simp [q'])) (fun q' => hb (by simp [q'])) (fun q' => hb (by simp [q'])) (fun q' => hb (by simp [q'])) q)) hf (Nat.le_refl _) new
    refine ⟨.ref s.heap.objs.size, _, I1, rfl, ⟨_, x, y, u, rfl, I.hok.fresh (Nat.le_refl _), rfl, fun l hl => by rw [injX I hl hqx]; exact hx, fun l hl => by rw [injX I hl hqy]; exact hy, fun l hl => by rw [injX I hl hqu]; exact hu⟩, ⟨z'', ?_, ⟨x1, x2, x3, ?_⟩, ?_, ?_, ?_⟩, fun d hcm => ?_⟩
    · exact (sb.2 _ S.TIz).trans (hk _ _ S.TIz S.TITO S.TIi1 S.TIi2 S.TIi3 hTI)
    · exact (sb.2 _ S.TOz).trans TO'
    · exact s1.1.at' fun o q => (sb.2 _ S.zi1.symm).trans q
    · exact s2.1.at' fun o q => (sb.2 _ S.zi2.symm).trans q
    · exact s3.1.at' fun o q => (sb.2 _ S.zi3.symm).trans q
    · have hlt : d < s.heap.objs.size := by
        have e' : d = z ∨ d = TI ∨ d = TO ∨ d = i1 ∨ d = i2 ∨ d = i3 := by simpa using hcm
        rcases e' with q | q | q | q | q | q
        · rw [q]; exact hzl
        · rw [q]; exact Heap.lt_size hTI
        · rw [q]; exact Heap.lt_size hTO
        · rw [q]; exact h1.lt
        · rw [q]; exact h2.lt
        · rw [q]; exact h3.lt
      rw [upd_ne (Nat.ne_of_lt hlt)]
      exact (hf d hcm).1
  done := by
    intro X hP hw hK hc i pins s σ H E I hf st hg
    subst hP hw hK
    obtain ⟨hz, hTI, ⟨x0, y0, u0, hTO⟩, h1, h2, h3⟩ := st
    obtain ⟨xs, ys, us, hqx, hqy, hqu, k1, k2, k3, hend⟩ := hg
    obtain ⟨its, rv, p⟩ := invX I hqx
    obtain ⟨its2, rv2, p2⟩ := invX I hqy
    obtain ⟨its3, rv3, p3⟩ := invX I hqu
    have l1 := rv.length
    have l2 := rv2.length
    have l3 := rv3.length
    have hh : X.A.in1.handled = none := I.ok.hd hc
    have m1 : its.toArray.size = its.length := rfl
    have m2 : its2.toArray.size = its2.length := rfl
    have m3 : its3.toArray.size = its3.length := rfl
    refine wpAny_pyNext_zipD3_end S (drX hh i1 a n1 its.toArray c1) (drX hh i2 b n2 its2.toArray c2) (drX hh i3 c n3 its3.toArray c3) hz hTI hTO ⟨h1, p⟩ ⟨h2, p2⟩ ⟨h3, p3⟩ (by omega) (by omega) (by omega) (by omega) fun h' tk hk => ⟨rfl, I.turnedL (t' := tk) (ch := [z, TI, TO, i1, i2, i3]) (fun c o hb q =>
      hk c o (fun q' => hb (by simp [q'])) (fun q' => hb (by simp [q'])) (fun q' => hb (by simp [q'])) (fun q' => hb (by simp [q'])) (fun q' => hb (by simp [q'])) q) hf⟩
  self := fun A i s Q E st h => wpAny_pyIter_zip st.1 h
def iZip3 (K : PySem.W.Frag) (ta : TA) : TI := fun σ H R => ta σ H fun vs H1 => ∃ (c c' c'' : Bool) (a b d : Addr) (xs ys us : List V), vs = [.ref a, .ref b, .ref d] ∧ SqX K c H1 a xs ∧ SqX K c' H1 b ys ∧ SqX K c'' H1 d us ∧ R (Itz3 K c c' c'' a b d) H1
/-- zip of any three: .. in zip(e, e2, e3) -/
theorem pi_zip3 {X : Cx} {e e2 e3 : Expr} {ta : TA} {p pos tpos : Pos} {elts : List Expr} {kk : Nat} (hg : Gl X "zip") (hm : X.mg "zip" = none) (ha : PA X [e, e2, e3] ta)
    (hs : starEach [e, e2, e3] X.env = (false, eval e X.env) :: starEach [e2, e3] X.env := by rfl) (hpl : (backTo pos (starEach [e2, e3] X.env)).any (·.1) = false := by rfl) :
    PI X (.Tuple elts kk tpos) (.Call (.Name "zip" p) [e, e2, e3] [] pos) (iZip3 X.K ta) := by
  refine ⟨fun pins s σ H R I h => ?_⟩
  refine Call_ (ld_blt I hg hm PyProof.Rows.boot_zip (PyProof.Rows.callWith_type1 (thn (ha.run pos pins s σ H _ I h) fun us s1 ⟨vs, H1, I1, r1, q1⟩ => ?_) hs hpl))
  obtain ⟨c, c', c'', a, b, d, xs, ys, zs, ex, hqx, hqy, hqz, q⟩ := q1
  subst ex
  cases r1 with
  | cons r rr =>
    cases rr with
    | cons r' rr =>
      cases rr with
      | cons r'' rr =>
        cases rr
        cases r
        cases r'
        cases r''
        obtain ⟨its, rv, p1⟩ := invX I1 hqx
        obtain ⟨its2, rv2, p2⟩ := invX I1 hqy
        obtain ⟨its3, rv3, p3⟩ := invX I1 hqz
        refine zip_begins3 (bgX a its.toArray c) (bgX b its2.toArray c') (bgX d its3.toArray c'') p1 p2 p3 fun h' hz hTI hTO g1 g2 g3 hsz hk => wpAny_pyIter_zip hz ?_
        have I2 : Inv X pins σ H1 { s1 with heap := h' } := I1.kept (t' := s1.toks) hk
        have la := p1.lt
        have lb := p2.lt
        have ld := p3.lt
        refine ⟨s1.heap.objs.size + 5, [s1.heap.objs.size + 5, s1.heap.objs.size + 3, s1.heap.objs.size + 4, s1.heap.objs.size, s1.heap.objs.size + 1, s1.heap.objs.size + 2], _, _, H1, rfl, I2, turn_zip3 (sep3 la lb ld) (Nat.ne_of_lt la) (Nat.ne_of_lt (Nat.lt_succ_of_lt lb)) (Nat.ne_of_lt (Nat.lt_succ_of_lt (Nat.lt_succ_of_lt ld))), ⟨hz, hTI, ⟨_, _, _, hTO⟩, JX.new g1, JX.new g2, JX.new g3⟩, fun c hcm => ?_, q⟩
        have e' : c = s1.heap.objs.size + 5 ∨ c = s1.heap.objs.size + 3 ∨ c = s1.heap.objs.size + 4 ∨ c = s1.heap.objs.size ∨ c = s1.heap.objs.size + 1 ∨ c = s1.heap.objs.size + 2 := by simpa using hcm
        have hle : s1.heap.objs.size ≤ c := by
          rcases e' with z | z | z | z | z | z
          · rw [z]; exact Nat.le_add_right _ _
          · rw [z]; exact Nat.le_add_right _ _
          · rw [z]; exact Nat.le_add_right _ _
          · rw [z]; exact Nat.le_refl _
          · rw [z]; exact Nat.le_add_right _ _
          · rw [z]; exact Nat.le_add_right _ _
        exact I1.fpOk hle (I1.hok.fresh hle)
/-- a loop over zip of three of one length -/
theorem for_zip3 {c c' c'' : Bool} {K : PySem.W.Frag} {a b d : Addr} {xs ys us : List V} {g : TG} {tb : TS} {D : Ends} {σ : L2.St} {H : Hp} (hl : xs.length = ys.length) (hl2 : xs.length = us.length) (Pv : Nat → L2.St → Hp → Prop) (h0 : Pv 0 σ H) (hq : ∀ i σ H, Pv i σ H → SqX K c H a xs ∧ SqX K c' H b ys ∧ SqX K c'' H d us)
    (hs : ∀ (i : Nat) (x y u : V) (T : Addr) (σ : L2.St) (H : Hp), xs[i]? = some x → ys[i]? = some y → us[i]? = some u → Pv i σ H → H T = none → g (.ref T) σ (upd H T (.tup [x, y, u])) fun σ2 H2 => tb { D with nx := Pv (i + 1), ct := Pv (i + 1), bk := D.nx } σ2 H2) (hd : ∀ σ H, Pv xs.length σ H → D.nx σ H) :
    ∃ W : Nat → Nat → L2.St → Hp → Prop, (∃ m, W 0 m σ H) ∧ ∀ i m σ H, W i m σ H →
      ((Itz3 K c c' c'' a b d).stop i H ∧ D.nx σ H) ∨ ((Itz3 K c c' c'' a b d).go i H ∧ ∃ N : L2.St → Hp → Prop, (∀ σ' H', N σ' H' → ∃ m', m' < m ∧ W (i + 1) m' σ' H') ∧ ∀ v H', (Itz3 K c c' c'' a b d).yld i H v H' → g v σ H' fun σ2 H2 => tb { D with nx := N, ct := N, bk := D.nx } σ2 H2) := by
  refine ⟨fun i m σ H => m = xs.length - i ∧ i ≤ xs.length ∧ Pv i σ H, ⟨xs.length, rfl, Nat.zero_le _, h0⟩, ?_⟩
  rintro i m σ H ⟨rfl, hi, p⟩
  obtain ⟨qx, qy, qu⟩ := hq i σ H p
  by_cases hlt : i < xs.length
  · have hx : xs[i]? = some xs[i] := List.getElem?_eq_getElem hlt
    have hlt2 : i < ys.length := by omega
    have hlt3 : i < us.length := by omega
    have hy : ys[i]? = some ys[i] := List.getElem?_eq_getElem hlt2
    have hu : us[i]? = some us[i] := List.getElem?_eq_getElem hlt3
    refine .inr ⟨⟨xs, ys, us, _, _, _, qx, qy, qu, hx, hy, hu⟩, Pv (i + 1), fun σ' H' p' => ⟨xs.length - (i + 1), by omega, rfl, hlt, p'⟩, fun v H' y => ?_⟩
    obtain ⟨T, x', y', u', rfl, hT, rfl, f1, f2, f3⟩ := y
    exact hs i x' y' u' T σ H (f1 xs qx) (f2 ys qy) (f3 us qu) p hT
  · have e : i = xs.length := by omega
    subst e
    exact .inl ⟨⟨xs, ys, us, qx, qy, qu, Nat.le_refl _, by omega, by omega, Or.inl rfl⟩, hd σ H p⟩
end Nc
end
section
set_option maxRecDepth 100000
set_option maxHeartbeats 4000000
namespace Nc
open PySem PySem.Spec PyProof.Rows L2 Evl
/-! ### boxes, spans, corners as data -/
def SpanV (K : PySem.W.Frag) (H : Hp) (v : V) (p : Span) : Prop := ∃ t a b, v = .ref t ∧ SqT K H t [a, b] ∧ FrV K H a p.1 ∧ FrV K H b p.2
def SpsV (K : PySem.W.Frag) (c : Bool) (H : Hp) (v : V) (sp : List Span) : Prop := ∃ a xs, v = .ref a ∧ SqX K c H a xs ∧ Paired (SpanV K H) xs sp
def bI (b : Bool) : Int := if b = true then 1 else 0
def CorV (K : PySem.W.Frag) (H : Hp) (v : V) (bs : List Bool) : Prop := ∃ t, v = .ref t ∧ SqT K H t (bs.map fun b => V.int (bI b))
def FourV (K : PySem.W.Frag) (H : Hp) (v : V) (f : Four) : Prop := ∃ t a b x y, v = .ref t ∧ SqT K H t [a, b, x, y] ∧ FrV K H a f.1.1 ∧ FrV K H b f.1.2 ∧ CorV K H x f.2.1 ∧ CorV K H y f.2.2
/-- a list of such, new since H0, not F -/
def FourL (K : PySem.W.Frag) (H0 : Hp) (F : Addr) (H : Hp) (v : V) (l : List Four) : Prop := ∃ a xs, v = .ref a ∧ H0 a = none ∧ a ≠ F ∧ H a = some (.lst xs) ∧ Paired (FourV K H) xs l
section
variable {K : PySem.W.Frag} {H H' H0 : Hp}
theorem sqX_ex {c : Bool} {a : Addr} {xs : List V} (e : Ex H H') (h : SqX K c H a xs) : SqX K c H' a xs := by
  cases c
  · exact ex_l e h
  · exact ex_t e h
theorem SpanV.ex {v : V} {p : Span} (e : Ex H H') (h : SpanV K H v p) : SpanV K H' v p := by
  obtain ⟨t, a, b, rfl, q, x, y⟩ := h
  exact ⟨t, a, b, rfl, ex_t e q, x.ex e, y.ex e⟩
theorem SpanV.mut {D : Addr} {xs : List V} {o : HO} {v : V} {p : Span} (hD : H D = some (.lst xs)) (h : SpanV K H v p) : SpanV K (upd H D o) v p := by
  obtain ⟨t, a, b, rfl, q, x, y⟩ := h
  exact ⟨t, a, b, rfl, sqt_mut hD q, x.mut hD, y.mut hD⟩
theorem stSp : Stays (SpanV K) := ⟨SpanV.ex, SpanV.mut⟩
theorem SpsV.ex {c : Bool} {v : V} {sp : List Span} (e : Ex H H') (h : SpsV K c H v sp) : SpsV K c H' v sp := by
  obtain ⟨a, xs, rfl, q, p⟩ := h
  exact ⟨a, xs, rfl, sqX_ex e q, pmono (fun _ _ => SpanV.ex e) p⟩
theorem CorV.ex {v : V} {bs : List Bool} (e : Ex H H') (h : CorV K H v bs) : CorV K H' v bs := by
  obtain ⟨t, rfl, q⟩ := h
  exact ⟨t, rfl, ex_t e q⟩
theorem CorV.mut {D : Addr} {xs : List V} {o : HO} {v : V} {bs : List Bool} (hD : H D = some (.lst xs)) (h : CorV K H v bs) : CorV K (upd H D o) v bs := by
  obtain ⟨t, rfl, q⟩ := h
  exact ⟨t, rfl, sqt_mut hD q⟩
theorem FourV.ex {v : V} {f : Four} (e : Ex H H') (h : FourV K H v f) : FourV K H' v f := by
  obtain ⟨t, a, b, x, y, rfl, q, h1, h2, h3, h4⟩ := h
  exact ⟨t, a, b, x, y, rfl, ex_t e q, h1.ex e, h2.ex e, h3.ex e, h4.ex e⟩
theorem FourV.mut {D : Addr} {xs : List V} {o : HO} {v : V} {f : Four} (hD : H D = some (.lst xs)) (h : FourV K H v f) : FourV K (upd H D o) v f := by
  obtain ⟨t, a, b, x, y, rfl, q, h1, h2, h3, h4⟩ := h
  exact ⟨t, a, b, x, y, rfl, sqt_mut hD q, h1.mut hD, h2.mut hD, h3.mut hD, h4.mut hD⟩
theorem stFo : Stays (FourV K) := ⟨FourV.ex, FourV.mut⟩
theorem FourL.ex {F : Addr} {v : V} {l : List Four} (e : Ex H H') (h : FourL K H0 F H v l) : FourL K H0 F H' v l := by
  obtain ⟨a, xs, rfl, n, f, q, p⟩ := h
  exact ⟨a, xs, rfl, n, f, e _ _ q, pmono (fun _ _ => FourV.ex e) p⟩
theorem FourL.putF {F : Addr} {xs : List V} {o : HO} {v : V} {l : List Four} (hF : H F = some (.lst xs)) (h : FourL K H0 F H v l) : FourL K H0 F (upd H F o) v l := by
  obtain ⟨a, us, rfl, n, f, q, p⟩ := h
  exact ⟨a, us, rfl, n, f, by rw [upd_ne f]; exact q, pmono (fun _ _ => FourV.mut hF) p⟩
theorem SpanV.rw {v : V} {p : Span} (h : SpanV K H v p) : Rw K H v (some [true, true]) := by
  obtain ⟨t, a, b, rfl, q, x, y⟩ := h
  exact RowV.rw (rs := [p.1, p.2]) ⟨t, _, rfl, q, .cons x (.cons y .nil)⟩ (by show 2 ≤ 100; decide)
end
/-! ### promises of boxes and bounds -/
def SpOk (sp : List Span) : Prop := ∀ p ∈ sp, p.1 ≤ p.2
def spCorner (K : PySem.W.Frag) (f : Rat → Bool) : Sp := fun vs H Q _ => ∃ (x : V) (z : Sum2), vs = [x] ∧ SumV K H x z ∧ z.1.length ≤ 100 ∧ ∀ v H', Ex H H' → CorV K H' v (z.1.map f) → Q v H'
def spSpotAt (K : PySem.W.Frag) : Sp := fun vs H Q _ => ∃ (c : Bool) (x y : V) (sp : List Span) (bs : List Bool), vs = [x, y] ∧ SpsV K c H x sp ∧ CorV K H y bs ∧ sp.length = bs.length ∧ sp.length ≤ 100 ∧ ∀ v H', Ex H H' → RowV K H' v (picks sp bs) → Q v H'
def spIsSpan (K : PySem.W.Frag) : Sp := fun vs H Q _ => ∃ (x : V) (p : Span), vs = [x] ∧ SpanV K H x p ∧ Sz 1600 1600 p.1 ∧ Sz 1600 1600 p.2 ∧ p.1 ≤ p.2 ∧ ∀ H', Ex H H' → Q (.bl true) H'
def spIsBox (K : PySem.W.Frag) : Sp := fun vs H Q _ => ∃ (x : V) (sp : List Span) (D : Nat), vs = [x] ∧ SpsV K true H x sp ∧ 1 ≤ sp.length ∧ sp.length ≤ 3 ∧ SpOk sp ∧ SpSv 1500 D sp ∧ 0 < D ∧ D < 2 ^ 1600 ∧ ∀ H', Ex H H' → Q (.bl true) H'
def spBoxOver (K : PySem.W.Frag) : Sp := fun vs H Q _ => ∃ (x : V) (sp : List Span) (D : Nat), vs = [x, .int (sp.length : Int)] ∧ SpsV K true H x sp ∧ 1 ≤ sp.length ∧ sp.length ≤ 3 ∧ SpOk sp ∧ SpSv 1500 D sp ∧ 0 < D ∧ D < 2 ^ 1600 ∧ ∀ H', Ex H H' → Q .non H'
def spBounds (K : PySem.W.Frag) : Sp := fun vs H Q _ => ∃ (c : Bool) (x y : V) (l : List Sum2) (z : Sum2) (A : List Span) (m W D : Nat), vs = [x, y] ∧ SumV K H x z ∧ SpsV K c H y A ∧ z ∈ l ∧ RkS l A m W D ∧ ∀ v H', Ex H H' → FourV K H' v (four A z) → Q v H'
def spHanded (K : PySem.W.Frag) (CN CL CC : Addr) : Sp := fun vs H Q _ => ∃ (p : Addr) (y : V) (ls : List (List Sum2)) (L : List Span) (W : Nat → Nat) (D : Nat), vs = [.ref p, y] ∧ NetV K CN CL CC H p L.length ls ∧ SpsV K true H y L ∧ SpOk L ∧ NetOk L.length ls W ∧ SpSv 1500 D L ∧ Fits W D ∧
  ∀ F rs H', H F = none → Ex H H' → H' F = some (.lst rs) → Paired (FourL K H F H') rs (foursAt ls L) → Q (.ref F) H'
/-- the word for a node by its bounds -/
def stateW (p : Span) : Str := if p.2.num ≤ 0 then "cut" else if 0 ≤ p.1.num then "kept" else "open"
def spState (K : PySem.W.Frag) : Sp := fun vs H Q _ => ∃ (x y : V) (p : Span), vs = [x, y] ∧ FrV K H x p.1 ∧ FrV K H y p.2 ∧ Q (.str (stateW p)) H
/-- the hidden nodes' words, in their order -/
def wordsAt (ls : List (List Sum2)) (L : List Span) : List Str := ((boundsAt ls L).dropLast.flatten).map stateW
def spStates (K : PySem.W.Frag) (CN CL CC : Addr) : Sp := fun vs H Q _ => ∃ (p : Addr) (y : V) (ls : List (List Sum2)) (L : List Span) (W : Nat → Nat) (D : Nat), vs = [.ref p, y] ∧ NetV K CN CL CC H p L.length ls ∧ SpsV K true H y L ∧ SpOk L ∧ NetOk L.length ls W ∧ SpSv 1500 D L ∧ Fits W D ∧
  ∀ F H', H F = none → Ex H H' → H' F = some (.lst ((wordsAt ls L).map fun s => V.str s)) → Q (.ref F) H'
end Nc
end
section
set_option maxRecDepth 100000
set_option maxHeartbeats 4000000
namespace Nc
open PySem PySem.Spec PyProof.Rows L2 Evl
/-! ### streams of three numbers, with Dk -/
def St3 (s : Addr) (H : Hp) : Prop := ∃ a b c : Int, H s = some (.lst [.int a, .int b, .int c])
section
variable {K : PySem.W.Frag} {H H' H1 H4 : Hp} {s p D : Addr}
theorem St3.lst (h : St3 s H) : Lst s H := by
  obtain ⟨a, b, c, q⟩ := h
  exact ⟨_, q⟩
theorem St3.ex (h : St3 s H) (e : Ex H H') : St3 s H' := by
  obtain ⟨a, b, c, q⟩ := h
  exact ⟨a, b, c, e _ _ q⟩
theorem St3.new {o : HO} (h : St3 s H) (hp : H p = none) : St3 s (upd H p o) := h.ex (Ex.new hp)
theorem St3.mut {o : HO} (h : St3 s H) (hs : s ≠ p) : St3 s (upd H p o) := by
  obtain ⟨a, b, c, q⟩ := h
  exact ⟨a, b, c, by rw [upd_ne hs]; exact q⟩
theorem SpanV.dk {v : V} {q : Span} (h : Lst s H) (d : Dk s H H') (f : SpanV K H v q) : SpanV K H' v q := by
  obtain ⟨t, a, b, rfl, qt, x, y⟩ := f
  exact ⟨t, a, b, rfl, sqt_dk h d qt, x.dk h d, y.dk h d⟩
theorem SpsV.dkT {v : V} {sp : List Span} (h : Lst s H) (d : Dk s H H') (f : SpsV K true H v sp) : SpsV K true H' v sp := by
  obtain ⟨a, xs, rfl, q, p⟩ := f
  exact ⟨a, xs, rfl, sqt_dk (K := K) h d q, pmono (fun _ _ => SpanV.dk h d) p⟩
/-- what is built in a list beside a stream: the things so far -/
def BldD {α : Type} (R : Hp → V → α → Prop) (P : List α → Prop) (s : Addr) (H1 : Hp) (D : Addr) (i : Nat) (H' : Hp) : Prop := ∃ (L : List α) (xs : List V), H' D = some (.lst xs) ∧ Paired (R H') xs L ∧ L.length = i ∧ P L ∧ Dk s H1 H' ∧ St3 s H'
structure StaysD {α : Type} (R : Hp → V → α → Prop) (s : Addr) : Prop where
  mt : ∀ {H D xs o v a}, H D = some (.lst xs) → R H v a → R (upd H D o) v a
  dk : ∀ {H H' v a}, Lst s H → Dk s H H' → R H v a → R H' v a
theorem sdF {s : Addr} : StaysD (FrV K) s := ⟨FrV.mut, FrV.dk⟩
theorem sdS {s : Addr} : StaysD (SumV K) s := ⟨SumV.mut, SumV.dk⟩
theorem sdSp {s : Addr} : StaysD (SpanV K) s := ⟨SpanV.mut, SpanV.dk⟩
theorem bdd0 {α : Type} {R : Hp → V → α → Prop} {P : List α → Prop} (hS : St3 s H1) (hD : H1 D = none) (h0 : P []) : BldD R P s H1 D 0 (upd H1 D (.lst [])) :=
  ⟨[], [], upd_same, .nil, rfl, h0, Dk.new hS.lst hD, hS.new hD⟩
theorem bdd_step {α : Type} {R : Hp → V → α → Prop} {P : List α → Prop} (S : StaysD R s) {i : Nat} {v : V} {a : α} (hS : Lst s H1) (hD : H1 D = none) (b : BldD R P s H1 D i H') (hz : i < 100000) (d : Dk s H' H4) (t : St3 s H4) (hv : R H4 v a) (hp : ∀ L, P L → L.length = i → P (L ++ [a])) :
    ∃ acc, H4 D = some (.lst acc) ∧ acc.length < sizeLine ∧ BldD R P s H1 D (i + 1) (upd H4 D (.lst (acc ++ [v]))) := by
  obtain ⟨L, xs, hx, pl, hn, hP, d1, t1⟩ := b
  have hsD := hS.ne hD
  have h4 := d.keep D _ (Ne.symm hsD) hx
  have hln := Paired.length pl
  refine ⟨xs, h4, sz_lt (by omega), L ++ [a], xs ++ [v], upd_same, Paired.snoc (pmono (fun _ _ q => S.mt h4 (S.dk t1.lst d q)) pl) (S.mt h4 hv), by simp [hn], hp L hP hn, (d1.trans d).mut hD hsD, t.mut hsD⟩
end
/-! ### promises -/
def spTake3 : Sp := fun vs H Q _ => ∃ (s : Addr) (m : Int), vs = [.ref s, .int m] ∧ St3 s H ∧ 0 < m ∧ m < 2 ^ 200 ∧ ∀ d H', 0 ≤ d → d < m → Dk s H H' → St3 s H' → Q (.int d) H'
def spStream3 : Sp := fun vs H Q _ => ∃ c : Int, vs = [.int c] ∧ ∀ s, H s = none → ∀ H', Ex H H' → St3 s H' → Q (.ref s) H'
def spShare (K : PySem.W.Frag) : Sp := fun vs H Q _ => ∃ s : Addr, vs = [.ref s] ∧ St3 s H ∧ ∀ v r H', Dk s H H' → St3 s H' → FrV K H' v r → Sv 100 6 r → Q v H'
def spNode3 (K : PySem.W.Frag) : Sp := fun vs H Q _ => ∃ (s : Addr) (n : Nat), vs = [.ref s, .int (n : Int)] ∧ St3 s H ∧ n ≤ 20 ∧ ∀ v z H', Dk s H H' → St3 s H' → SumV K H' v z → z.1.length = n → SvL 100 6 z.1 → Sv 100 6 z.2 → Q v H'
def spSize3 : Sp := fun vs H Q _ => ∃ s : Addr, vs = [.ref s] ∧ St3 s H ∧ ∀ (F : Addr) (cs : List Nat) H', H F = none → Dk s H H' → St3 s H' → H' F = some (.lst (cs.map fun (c : Nat) => V.int (c : Int))) → 1 ≤ cs.length → cs.length ≤ 4 → (∀ c ∈ cs, 1 ≤ c ∧ c ≤ 4) → Q (.ref F) H'
def spLays3 (K : PySem.W.Frag) : Sp := fun vs H Q _ => ∃ (s S : Addr) (n : Nat) (cs : List Nat), vs = [.ref s, .int (n : Int), .ref S] ∧ St3 s H ∧ S ≠ s ∧ H S = some (.lst (cs.map fun (c : Nat) => V.int (c : Int))) ∧ 1 ≤ cs.length ∧ cs.length ≤ 4 ∧ (∀ c ∈ cs, 1 ≤ c ∧ c ≤ 4) ∧ 1 ≤ n ∧ n ≤ 3 ∧
  ∀ D ls H' (W : Nat → Nat), H D = none → Dk s H H' → St3 s H' → LayS K s H' D ls → NetOk n ls W → pw W 4 ≤ 2 ^ 1350 → Q (.ref D) H'
def spBox3 (K : PySem.W.Frag) : Sp := fun vs H Q _ => ∃ (s : Addr) (n : Nat), vs = [.ref s, .int (n : Int)] ∧ St3 s H ∧ n ≤ 3 ∧ ∀ v sp H', Dk s H H' → St3 s H' → SpsV K true H' v sp → sp.length = n → SpOk sp → SpSv 20 6 sp → Q v H'
def spSpot3 (K : PySem.W.Frag) : Sp := fun vs H Q _ => ∃ (s : Addr) (x : V) (sp : List Span), vs = [.ref s, x] ∧ St3 s H ∧ SpsV K true H x sp ∧ sp.length ≤ 3 ∧ SpOk sp ∧ SpSv 20 6 sp ∧ ∀ v L H', Dk s H H' → St3 s H' → RowV K H' v L → Within L sp → SvL 1500 72 L → Q v H'
end Nc
end
section
set_option maxRecDepth 100000
set_option maxHeartbeats 4000000
namespace Nc
open PySem PySem.Spec PyProof.Rows L2 Evl
theorem extend_tuple (l : Addr) (items : Array Value) (n : Nat) (b : Addr) (items2 : Array Value) (n2 : Nat) (o : Obj) (oc : o.cls = .type "tuple") (od : o.data = .seq items2 n2) (hs0 : ¬(!items.isEmpty && Builtin.List.listTooLong (items.size + items2.size)) = true) (hs1 : items.size ≤ sizeLine) (hs2 : items.size + items2.size ≤ sizeLine + 1) :
    Meets (Builtin.«list.extend» ⟨[.ref l, .ref b], []⟩) (fun _ R s => s.heap.get? l = some { cls := .type "list", dict := none, data := .seq items n, slots := #[] } ∧ s.heap.get? b = some o ∧ R (.ok (.ret Value.none)) { s with heap := s.heap.update l (Obj.mapSeq fun x => x ++ items2), toks := s.toks }) :=
  .of_wp fun prog w A R s h => by
    obtain ⟨cls, dict, data, slots⟩ := o
    simp only at oc od
    subst oc od
    obtain ⟨hp, g, d, tk, os⟩ := s; obtain ⟨hl, hb, h⟩ := h; have f1 := AutoSeq1.idx_int; have f2 := AutoSeq1.sub_tuple_tuple; have f3 := AutoSeq1.sub_list_list; have f4 := AutoSeq1.sub_tuple_list; have f5 := AutoSeq1.sub_list_tuple;
    have hz' : (items ++ items2).size ≤ sizeLine + 1 := by rw [Array.size_append]; exact hs2
    wp_walk using (wpAny_updateSeq hl rfl (hz := hs1) (_hz' := hz')), AutoSeq1.wpAny_loadPart' hl, AutoSeq1.wpAny_loadPart' hb; exact ⟨_, rfl, h⟩
/-- xs.extend(a tuple) -/
def rExtendT (K : PySem.W.Frag) : V → List V → Hp → VK → Prop := fun x vs H Q => ∃ l b xs zs, x = .ref l ∧ vs = [.ref b] ∧ H l = some (.lst xs) ∧ SqT K H b zs ∧ xs.length + zs.length ≤ sizeLine ∧ Q .non (upd H l (.lst (xs ++ zs)))
theorem mt_extendT {X : Cx} (K : PySem.W.Frag) (hK : X.K = K := by rfl) : MtM X "list.extend" (rExtendT K) := by
  subst hK
  intro pins s σ H x vs v us Q I rx rv h
  obtain ⟨l, b, xs, zs, rfl, rfl, hH, hB, hz, q⟩ := h
  cases rx
  obtain ⟨u, rfl, ru⟩ := rv.one
  cases ru
  obtain ⟨z, its, n, r, hl, e⟩ := I.lstM hH
  obtain ⟨its2, r2, p2, _⟩ := I.tuple hB
  obtain ⟨o2, e2, hc2, n2, hd2⟩ := p2
  have hl2 := r2.length
  have hsz : its.toArray.size + its2.toArray.size ≤ sizeLine := by rw [List.size_toArray, List.size_toArray]; omega
  have hlong : ¬ (!its.toArray.isEmpty && Builtin.List.listTooLong (its.toArray.size + its2.toArray.size)) = true := by
    rw [notLongL hsz, Bool.and_false]
    exact Bool.false_ne_true
  refine call_meets F.slot_list_extend ⟨_, e, rfl⟩ F.entry_list_extend (F.args_list_extend_2 _ _)
    (extend_tuple l its.toArray n b its2.toArray _ o2 hc2 hd2 hlong (by rw [List.size_toArray]; omega) (by omega)) ⟨e, e2, ?_⟩
  refine ⟨.non, _, I.lset (its' := its ++ its2) hH e (by simp) (r.append r2) ?_, rfl, q⟩
  rw [List.length_append]
  omega
end Nc
end
section
set_option maxRecDepth 100000
set_option maxHeartbeats 4000000
namespace Nc
open PySem PySem.Spec PyProof.Rows L2 Evl
/-! ### tighter sums: what stands in the heap, promises -/
/-- values below 2 ^ k, bottoms below 2 ^ b: sums and products of two such can be reckoned -/
def Cnd (k b : Nat) : Prop := 0 < b ∧ ((2 * b ≤ 8900 ∧ k ≤ 1000000) ∨ 2 * b + 2 * k ≤ 13490)
def SmsV (K : PySem.W.Frag) (c : Bool) (H : Hp) (v : V) (zs : List Sum2) : Prop := ∃ a xs, v = .ref a ∧ SqX K c H a xs ∧ Paired (SumV K H) xs zs
def TgV (K : PySem.W.Frag) (H : Hp) (v : V) (t : Tg) : Prop := ∃ p a b x y, v = .ref p ∧ SqT K H p [a, b, x, y] ∧ SumV K H a t.1.1 ∧ SumV K H b t.1.2 ∧ FrV K H x t.2.1 ∧ FrV K H y t.2.2
def TgL (K : PySem.W.Frag) (H0 : Hp) (F : Addr) (H : Hp) (v : V) (l : List Tg) : Prop := ∃ a xs, v = .ref a ∧ H0 a = none ∧ a ≠ F ∧ H a = some (.lst xs) ∧ Paired (TgV K H) xs l
section
variable {K : PySem.W.Frag} {H H' H0 : Hp}
theorem SmsV.ex {c : Bool} {v : V} {zs : List Sum2} (e : Ex H H') (h : SmsV K c H v zs) : SmsV K c H' v zs := by
  obtain ⟨a, xs, rfl, q, p⟩ := h
  exact ⟨a, xs, rfl, sqX_ex e q, pmono (fun _ _ => SumV.ex e) p⟩
theorem TgV.ex {v : V} {t : Tg} (e : Ex H H') (h : TgV K H v t) : TgV K H' v t := by
  obtain ⟨p, a, b, x, y, rfl, q, h1, h2, h3, h4⟩ := h
  exact ⟨p, a, b, x, y, rfl, ex_t e q, h1.ex e, h2.ex e, h3.ex e, h4.ex e⟩
theorem TgV.mut {D : Addr} {xs : List V} {o : HO} {v : V} {t : Tg} (hD : H D = some (.lst xs)) (h : TgV K H v t) : TgV K (upd H D o) v t := by
  obtain ⟨p, a, b, x, y, rfl, q, h1, h2, h3, h4⟩ := h
  exact ⟨p, a, b, x, y, rfl, sqt_mut hD q, h1.mut hD, h2.mut hD, h3.mut hD, h4.mut hD⟩
theorem stTg : Stays (TgV K) := ⟨TgV.ex, TgV.mut⟩
theorem stSm : Stays (SumV K) := ⟨SumV.ex, SumV.mut⟩
theorem TgL.ex {F : Addr} {v : V} {l : List Tg} (e : Ex H H') (h : TgL K H0 F H v l) : TgL K H0 F H' v l := by
  obtain ⟨a, xs, rfl, n, f, q, p⟩ := h
  exact ⟨a, xs, rfl, n, f, e _ _ q, pmono (fun _ _ => TgV.ex e) p⟩
theorem TgL.putF {F : Addr} {xs : List V} {o : HO} {v : V} {l : List Tg} (hF : H F = some (.lst xs)) (h : TgL K H0 F H v l) : TgL K H0 F (upd H F o) v l := by
  obtain ⟨a, us, rfl, n, f, q, p⟩ := h
  exact ⟨a, us, rfl, n, f, by rw [upd_ne f]; exact q, pmono (fun _ _ => TgV.mut hF) p⟩
theorem FourV.dk {s : Addr} {v : V} {f : Four} (h : Lst s H) (d : Dk s H H') (q : FourV K H v f) : FourV K H' v f := by
  obtain ⟨t, a, b, x, y, rfl, q, h1, h2, h3, h4⟩ := q
  obtain ⟨t3, rfl, q3⟩ := h3
  obtain ⟨t4, rfl, q4⟩ := h4
  exact ⟨t, a, b, _, _, rfl, sqt_dk h d q, h1.dk h d, h2.dk h d, ⟨t3, rfl, sqt_dk h d q3⟩, ⟨t4, rfl, sqt_dk h d q4⟩⟩
end
theorem BdL.szl {v D k b : Nat} {l : List Rat} (h : BdL v D l) (D0 : 0 < D) (hD : D < 2 ^ b) (hv : v ≤ 2 ^ k) : SzL (k + b) b l := fun r hr => (h r hr).sz D0 hD hv
/-- what ratio asks and answers where the divisor is above nought -/
def spRatioP (K : PySem.W.Frag) : Sp := fun vs H Q _ => ∃ (x y : V) (r s : Rat) (k b : Nat), vs = [x, y] ∧ FrV K H x r ∧ FrV K H y s ∧ Sz (k + b) b r ∧ Sz (k + b) b s ∧ 0 < s.num ∧ 0 < b ∧ 2 * b + 2 * k ≤ 13490 ∧ ∀ v H', Ex H H' → FrV K H' v (r / s) → Q v H'
theorem ratio_is {r s : Rat} (h : 0 < s.num) : Rat.divInt (r.num * (s.den : Int)) ((r.den : Int) * s.num) = r / s := by
  rw [Rat.div_def, Rat.inv_def]
  conv => rhs; rw [← Rat.num_divInt_den r]
  rw [Rat.divInt_mul_divInt]
def spWeighB (K : PySem.W.Frag) : Sp := fun vs H Q _ => ∃ (x y : V) (rs ss : List Rat) (v D u E k b : Nat), vs = [x, y] ∧ RowV K H x rs ∧ RowV K H y ss ∧ rs.length = ss.length ∧ rs.length ≤ 4 ∧ BdL v D rs ∧ BdL u E ss ∧ 0 < D * E ∧ D * E < 2 ^ b ∧ v ≤ 2 ^ k ∧ u ≤ 2 ^ k ∧ 4 * (v * u) ≤ 2 ^ k ∧ Cnd k b ∧ ∀ w H', Ex H H' → FrV K H' w (weighs (rs.zip ss)) → Q w H'
def spTellsB (K : PySem.W.Frag) : Sp := fun vs H Q _ => ∃ (x y : V) (z : Sum2) (ss : List Rat) (v c D u E F k b : Nat), vs = [x, y] ∧ SumV K H x z ∧ RowV K H y ss ∧ z.1.length = ss.length ∧ z.1.length ≤ 4 ∧ BdL v D z.1 ∧ Bd c F z.2 ∧ BdL u E ss ∧ 0 < D * E ∧ D * E ∣ F ∧ 0 < F ∧ F < 2 ^ b ∧ v ≤ 2 ^ k ∧ u ≤ 2 ^ k ∧ 4 * (v * u) ≤ 2 ^ k ∧ c ≤ 2 ^ k ∧ Cnd k b ∧ ∀ w H', Ex H H' → FrV K H' w (tells z ss) → Q w H'
/-- the box, as these functions take it -/
def BoxV (K : PySem.W.Frag) (D : Nat) (H : Hp) (v : V) (box : List Span) : Prop := SpsV K true H v box ∧ 1 ≤ box.length ∧ box.length ≤ 3 ∧ SpB 22 18 D box ∧ 0 < D ∧ D ≤ 2 ^ 100
theorem BoxV.ex {K : PySem.W.Frag} {D : Nat} {H H' : Hp} {v : V} {box : List Span} (e : Ex H H') (h : BoxV K D H v box) : BoxV K D H' v box := ⟨h.1.ex e, h.2⟩
theorem SpB.sv {D : Nat} {box : List Span} (h : SpB 22 18 D box) (d0 : 0 < D) (dl : D ≤ 2 ^ 100) : SpSv 1500 D box := fun p hp => by
  have lt : 22 * D < 2 ^ 1500 := Nat.lt_of_le_of_lt (Nat.mul_le_mul_left 22 dl) (by decide +kernel)
  exact ⟨(h.bd p hp).1.sv d0 lt, (h.bd p hp).2.sv d0 lt⟩
theorem SpB.ok {v s D : Nat} {box : List Span} (h : SpB v s D box) : SpOk box := h.le
def spCheckBox (K : PySem.W.Frag) : Sp := fun vs H Q _ => ∃ (x : V) (DB : Nat) (box : List Span), vs = [x] ∧ BoxV K DB H x box ∧ ∀ H', Ex H H' → Q .non H'
def spCheckSum (K : PySem.W.Frag) : Sp := fun vs H Q _ => ∃ (x y : V) (DB : Nat) (box : List Span) (s : Sum2), vs = [x, y] ∧ BoxV K DB H x box ∧ SumV K H y s ∧ s.1.length = box.length ∧ ∀ H', Ex H H' → Q .non H'
def spLeastB (K : PySem.W.Frag) (f : Sum2 → List Span → Rat) : Sp := fun vs H Q _ => ∃ (x y : V) (DB : Nat) (box : List Span) (s : Sum2) (v Dc E k b : Nat), vs = [x, y] ∧ BoxV K DB H x box ∧ SumV K H y s ∧ BdS box.length v Dc E s ∧ 0 < Dc ∧ Dc * DB ∣ E ∧ 0 < E ∧ E < 2 ^ b ∧ 88 * v + 22 ≤ 2 ^ k ∧ Cnd k b ∧
  ∀ p a c H', Ex H H' → SqT K H' p [a, c] → FrV K H' a (f s box) → Q (.ref p) H'
def spThr (K : PySem.W.Frag) : Sp := fun vs H Q _ => ∃ (c c' : Bool) (x y u : V) (z : Sum2) (A B : List Sum2) (n v a m D Dc Dn k b : Nat), vs = [x, y, u, .int (n : Int)] ∧ SumV K H x z ∧ SmsV K c H y A ∧ SmsV K c' H u B ∧ z.1.length = A.length ∧ A.length = B.length ∧ A.length ≤ 4 ∧ n ≤ 100 ∧
  BdL v D z.1 ∧ Bd a (D * Dn) z.2 ∧ (∀ s ∈ A, BdS n m Dc Dn s) ∧ (∀ s ∈ B, BdS n m Dc Dn s) ∧ 0 < D ∧ 0 < Dc ∧ 0 < Dn ∧ D * Dc < 2 ^ b ∧ D * Dn < 2 ^ b ∧ v ≤ 2 ^ k ∧ m ≤ 2 ^ k ∧ a + 4 * (v * m) ≤ 2 ^ k ∧ Cnd k b ∧ ∀ w H', Ex H H' → SumV K H' w (thr z A B n) → Q w H'
/-- of a node's four: both sums, low and high -/
def four2 (box : List Span) (u o : Sum2) (bd : Span) : Tg := ((u, o), (maxQ (lowT u box) bd.1, minQ (highT o box) bd.2))
def spFour (K : PySem.W.Frag) : Sp := fun vs H Q _ => ∃ (x y u w : V) (DB : Nat) (box : List Span) (s t : Sum2) (f : Four) (v Dc E r k b : Nat), vs = [x, y, u, w] ∧ BoxV K DB H x box ∧ SumV K H y s ∧ SumV K H u t ∧ FourV K H w f ∧ BdS box.length v Dc E s ∧ BdS box.length v Dc E t ∧ Bd r E f.1.1 ∧ Bd r E f.1.2 ∧ 0 < Dc ∧ Dc * DB ∣ E ∧ 0 < E ∧ E < 2 ^ b ∧ 88 * v + 22 ≤ 2 ^ k ∧ r ≤ 2 ^ k ∧ Cnd k b ∧
  ∀ q H', Ex H H' → TgV K H' q (four2 box s t f.1) → Q q H'
def spUnderP (K : PySem.W.Frag) : Sp := fun vs H Q _ => ∃ (x : V) (t : Tg) (n w E k b : Nat), vs = [x, .int (n : Int)] ∧ TgV K H x t ∧ n ≤ 100 ∧ Bd w E t.2.1 ∧ Bd w E t.2.2 ∧ 0 < E ∧ E < 2 ^ b ∧ w ≤ 2 ^ k ∧ Cnd k b ∧ ∀ v H', Ex H H' → SumV K H' v (uPass n t) → Q v H'
def spOverP (K : PySem.W.Frag) : Sp := fun vs H Q _ => ∃ (x : V) (t : Tg) (n v w s Dc E k b : Nat), vs = [x, .int (n : Int)] ∧ TgV K H x t ∧ n ≤ 100 ∧ TgB n v w s Dc E t ∧ 0 < Dc ∧ Dc < 2 ^ b ∧ 0 < E ∧ s * E < 2 ^ b ∧ 1 ≤ s ∧ v + w ≤ 2 ^ k ∧ 2 * w ≤ 2 ^ k ∧ 0 < b ∧ 2 * b + 2 * k ≤ 13490 ∧ ∀ u H', Ex H H' → SumV K H' u (oPass n t) → Q u H'
/-- all of a net, as tightened takes it -/
def spTight (K : PySem.W.Frag) (CN CL CC : Addr) : Sp := fun vs H Q _ => ∃ (p : Addr) (y : V) (ls : List (List Sum2)) (L : List Span) (g M DB : Nat) (Md : Nat → List (List Tg) → List Span → List Sum2 → List Sum2 → Prop), vs = [.ref p, y] ∧ NetV K CN CL CC H p L.length ls ∧ BoxV K DB H y L ∧ NetOk L.length ls (wL g M) ∧ Fits (wL g M) DB ∧ GrB g M ls ∧ Fam DB L L.length g M ls Md ∧
  ∀ F rs H', H F = none → Ex H H' → H' F = some (.lst rs) → Paired (TgL K H F H') rs (tightAt L L.length ls L (units L.length) (units L.length)) → Q (.ref F) H'
end Nc
end
section
set_option maxRecDepth 100000
set_option maxHeartbeats 4000000
namespace Nc
open PySem PySem.Spec PyProof.Rows L2 Evl
/-! ### what the laws of tighter sums draw -/
theorem div_bd {t b : Int} {v : Nat} (hb : 0 < b) (h1 : -((v : Int) * b) ≤ t) (h2 : t ≤ (v : Int) * b) : -(v : Rat) ≤ Rat.divInt t b ∧ Rat.divInt t b ≤ (v : Rat) := by
  have e : (v : Rat) = Rat.divInt ((v : Int) * b) b := by
    rw [Rat.divInt_eq_div, Rat.intCast_mul, Rat.div_def, Rat.mul_assoc, Rat.mul_inv_cancel _ (by
      intro z
      have := Rat.intCast_le_intCast.mp (show ((b : Int) : Rat) ≤ ((0 : Int) : Rat) by rw [z]; exact Rat.le_refl)
      omega), Rat.mul_one]
    rfl
  have s : ∀ a c : Int, Rat.divInt a b + Rat.divInt c b = Rat.divInt (a + c) b := fun a c => by
    rw [Rat.divInt_add_divInt _ _ (by omega) (by omega), ← Int.add_mul, Rat.divInt_mul_right (by omega)]
  have n : Rat.divInt (-((v : Int) * b)) b = -(v : Rat) := by
    rw [e, Rat.neg_divInt]
  constructor
  · have a := s (-((v : Int) * b)) (t + (v : Int) * b)
    have p := Rat.divInt_nonneg (show 0 ≤ t + (v : Int) * b by omega) (Int.le_of_lt hb)
    rw [show -((v : Int) * b) + (t + (v : Int) * b) = t by omega, n] at a
    grind
  · have a := s t ((v : Int) * b - t)
    have p := Rat.divInt_nonneg (show 0 ≤ (v : Int) * b - t by omega) (Int.le_of_lt hb)
    rw [show t + ((v : Int) * b - t) = (v : Int) * b by omega, ← e] at a
    grind
theorem bd_div {t b : Int} {v D : Nat} (hb : 0 < b) (h1 : -((v : Int) * b) ≤ t) (h2 : t ≤ (v : Int) * b) (hD : b.toNat ∣ D) : Bd v D (Rat.divInt t b) := by
  refine ⟨div_bd hb h1 h2, Nat.dvd_trans ?_ hD⟩
  have := (sv_div (n := t.natAbs) hb (Nat.lt_two_pow_self)).2
  exact this
def spShareB (K : PySem.W.Frag) : Sp := fun vs H Q _ => ∃ s : Addr, vs = [.ref s] ∧ St3 s H ∧ ∀ v r H', Dk s H H' → St3 s H' → FrV K H' v r → Bd 4 6 r → Q v H'
def spNode3B (K : PySem.W.Frag) : Sp := fun vs H Q _ => ∃ (s : Addr) (n : Nat), vs = [.ref s, .int (n : Int)] ∧ St3 s H ∧ n ≤ 20 ∧ ∀ v z H', Dk s H H' → St3 s H' → SumV K H' v z → z.1.length = n → BdL 4 6 z.1 → Bd 4 6 z.2 → Q v H'
def spLays3B (K : PySem.W.Frag) : Sp := fun vs H Q _ => ∃ (s S : Addr) (n : Nat) (cs : List Nat), vs = [.ref s, .int (n : Int), .ref S] ∧ St3 s H ∧ S ≠ s ∧ H S = some (.lst (cs.map fun (c : Nat) => V.int (c : Int))) ∧ 1 ≤ cs.length ∧ cs.length ≤ 4 ∧ (∀ c ∈ cs, 1 ≤ c ∧ c ≤ 4) ∧ 1 ≤ n ∧ n ≤ 3 ∧
  ∀ D ls H' g M, H D = none → Dk s H H' → St3 s H' → LayS K s H' D ls → NetOk n ls (wL g M) → GrB g M ls → Q (.ref D) H'
def spBox3B (K : PySem.W.Frag) : Sp := fun vs H Q _ => ∃ (s : Addr) (n : Nat), vs = [.ref s, .int (n : Int)] ∧ St3 s H ∧ n ≤ 3 ∧ ∀ v sp H', Dk s H H' → St3 s H' → SpsV K true H' v sp → sp.length = n → SpB 22 18 6 sp → Q v H'
theorem spb_nil {v s D : Nat} : SpB v s D [] := ⟨(fun _ h => by cases h), (fun _ h => by cases h), (fun _ h => by cases h)⟩
theorem spb_snoc {v s D : Nat} {A : List Span} {p : Span} (h : SpB v s D A) (h1 : Bd v D p.1 ∧ Bd v D p.2) (h2 : p.1 ≤ p.2) (h3 : p.2 - p.1 ≤ (s : Rat)) : SpB v s D (A ++ [p]) := by
  have m : ∀ q, q ∈ A ++ [p] → q ∈ A ∨ q = p := fun q hq => by
    rcases List.mem_append.mp hq with h | h
    · exact .inl h
    · exact .inr (List.mem_singleton.mp h)
  refine ⟨fun q hq => ?_, fun q hq => ?_, fun q hq => ?_⟩ <;> rcases m q hq with h' | rfl
  · exact h.bd q h'
  · exact h1
  · exact h.le q h'
  · exact h2
  · exact h.wide q h'
  · exact h3
theorem M0_lt : 10 * (6 * M0) < 2 ^ 1500 := by decide +kernel
theorem netok_gr {n g M : Nat} {ls : List (List Sum2)} (h1 : 1 ≤ n) (h3 : n ≤ 3) (ov : Over n ls) (l1 : 1 ≤ ls.length) (l4 : ls.length ≤ 4) (gr : GrB g M ls) : NetOk n ls (wL g M) := by
  have m0 := gr.m0
  have ml := gr.mle
  have lt : ∀ i j, 10 * wN g M i j < 2 ^ 1500 := fun i j => by
    refine Nat.lt_of_le_of_lt (Nat.mul_le_mul_left 10 ?_) M0_lt
    have m1 : 1 ≤ M0 := by decide
    unfold wN
    split <;> omega
  refine ⟨h1, h3, ov, l1, l4, fun i l hl z hz => ?_, fun i => wL_pos m0⟩
  obtain ⟨j, hj⟩ := List.mem_iff_getElem?.mp hz
  obtain ⟨a, b⟩ := gr.num i l hl j z hj
  exact ⟨fun r hr => (((a r hr).mono (by decide) (Nat.dvd_refl _)).sv (wN_pos m0) (lt i j)).mono (Nat.le_refl _) (wN_dvd g M i j), (b.sv (wN_pos m0) (lt i j)).mono (Nat.le_refl _) (wN_dvd g M i j)⟩
theorem wL_lt {g M : Nat} (h : M ≤ M0) : ∀ i, wL g M i ≤ 2 ^ 100 := fun i => by
  have m : 6 * M0 ≤ 2 ^ 100 := by decide +kernel
  have m1 : 1 ≤ M0 := by decide
  unfold wL
  split <;> omega
theorem fits_gr {g M D : Nat} (h : M ≤ M0) (d0 : 0 < D) (hD : D ≤ 2 ^ 100) : Fits (wL g M) D := by
  refine ⟨d0, ?_⟩
  have e : pw (wL g M) 4 = wL g M 3 * (wL g M 2 * (wL g M 1 * (wL g M 0 * 1))) := rfl
  have w := wL_lt (g := g) h
  rw [e]
  refine Nat.lt_of_le_of_lt (Nat.mul_le_mul (Nat.mul_le_mul (w 3) (Nat.mul_le_mul (w 2) (Nat.mul_le_mul (w 1) (Nat.mul_le_mul (w 0) (Nat.le_refl 1))))) hD) (by decide +kernel)
/-! ### lists of whole numbers -/
def nsV (ns : List Nat) : List V := ns.map fun (n : Nat) => V.int (n : Int)
def nsD (ns : List Nat) : List PyData := ns.map fun (n : Nat) => PyData.int (n : Int)
theorem ns_dp {K : PySem.W.Frag} {H : Hp} : ∀ ns : List Nat, DpAll K H (nsV ns) (nsD ns)
  | [] => .nil
  | n :: ns => .cons (.int _) (ns_dp ns)
theorem ns_lay : ∀ ns : List Nat, PyData.canLayAll0 (nsD ns) = true
  | [] => rfl
  | n :: ns => by
    show (true && PyData.canLayAll0 (nsD ns)) = true
    rw [ns_lay ns]
    rfl
theorem ns_depth : ∀ ns : List Nat, PyData.depthAll (nsD ns) ≤ 1
  | [] => Nat.zero_le _
  | n :: ns => by
    have ih := ns_depth ns
    show max (PyData.depth (PyData.int (n : Int))) (PyData.depthAll (nsD ns)) ≤ 1
    have : PyData.depth (PyData.int (n : Int)) ≤ 1 := by simp [PyData.depth]
    omega
theorem ns_shaped (ns : List Nat) : SeqAt.shaped (.list (nsD ns)) = true := by
  unfold SeqAt.shaped
  have h : (PyData.list (nsD ns)).canLay0 = true := ns_lay ns
  rw [h, Bool.true_and]
  refine decide_eq_true ?_
  have := ns_depth ns
  show PyData.depthAll (nsD ns) + 1 ≤ 64
  omega
theorem ns_eqv (ns : List Nat) : PyData.eqv (.list (nsD ns)) (.list (nsD ns)) = true := SeqAt.eqv_refl _ (ns_lay ns)
/-- the lengths of lists, in a list of their own: what a comprehension's walk leaves -/
theorem lens_step {G : Addr} {H1 H' : Hp} {ns : List Nat} {j n : Nat} (hG : H1 G = none) (e : Ex H1 H') (k : H' G = some (.lst (nsV (ns.take j)))) (hn : ns[j]? = some n) (h100 : ns.length ≤ 100) : ∃ acc, H' G = some (.lst acc) ∧ acc.length < sizeLine ∧ Ex H1 (upd H' G (.lst (acc ++ [V.int (n : Int)]))) ∧ upd H' G (.lst (acc ++ [V.int (n : Int)])) G = some (.lst (nsV (ns.take (j + 1)))) := by
  refine ⟨_, k, sz_lt (by unfold nsV; rw [List.length_map, List.length_take]; omega), Ex.mut e hG, ?_⟩
  rw [List.take_add_one, hn]
  unfold nsV
  rw [List.map_append]
  exact upd_same
/-- a loop over enumerate of a list -/
theorem for_enumL {K : PySem.W.Frag} {a : Addr} {xs : List V} {g : TG} {tb : TS} {D : Ends} {σ : L2.St} {H : Hp} (Pv : Nat → L2.St → Hp → Prop) (h0 : Pv 0 σ H) (hq : ∀ i σ H, Pv i σ H → SqL K H a xs)
    (hs : ∀ (i : Nat) (x : V) (T : Addr) (σ : L2.St) (H : Hp), xs[i]? = some x → Pv i σ H → H T = none → g (.ref T) σ (upd H T (.tup [.int (i : Nat), x])) fun σ2 H2 => tb { D with nx := Pv (i + 1), ct := Pv (i + 1), bk := D.nx } σ2 H2) (hd : ∀ σ H, Pv xs.length σ H → D.nx σ H) :
    ∃ W : Nat → Nat → L2.St → Hp → Prop, (∃ m, W 0 m σ H) ∧ ∀ i m σ H, W i m σ H →
      ((Ite K a).stop i H ∧ D.nx σ H) ∨ ((Ite K a).go i H ∧ ∃ N : L2.St → Hp → Prop, (∀ σ' H', N σ' H' → ∃ m', m' < m ∧ W (i + 1) m' σ' H') ∧ ∀ v H', (Ite K a).yld i H v H' → g v σ H' fun σ2 H2 => tb { D with nx := N, ct := N, bk := D.nx } σ2 H2) := by
  refine ⟨fun i m σ H => m = xs.length - i ∧ i ≤ xs.length ∧ Pv i σ H, ⟨xs.length, rfl, Nat.zero_le _, h0⟩, ?_⟩
  rintro i m σ H ⟨rfl, hi, p⟩
  have qx := hq i σ H p
  by_cases hlt : i < xs.length
  · have hx : xs[i]? = some xs[i] := List.getElem?_eq_getElem hlt
    refine .inr ⟨⟨xs, _, qx, hx⟩, Pv (i + 1), fun σ' H' p' => ⟨xs.length - (i + 1), by omega, rfl, hlt, p'⟩, fun v H' y => ?_⟩
    obtain ⟨T, x', rfl, hT, rfl, f1⟩ := y
    exact hs i x' T σ H (f1 xs qx) p hT
  · have e : i = xs.length := by omega
    subst e
    exact .inl ⟨⟨xs, qx, Nat.le_refl _⟩, hd σ H p⟩
theorem call_lenK {X : Cx} (K : PySem.W.Frag) (h : X.K = K := by rfl) : CallR X (.builtin "len") fun xs H Q => ∃ p ys, xs = [V.ref p] ∧ (SqL K H p ys ∨ SqT K H p ys) ∧ Q (V.int (ys.length : Int)) H := by
  subst h
  exact call_len_seq
/-! ### a node's four as data -/
def tD (t : Tg) : PyData := .tuple [sd t.1.1, sd t.1.2, fd t.2.1, fd t.2.2]
theorem TgV.dp {K : PySem.W.Frag} {H : Hp} {v : V} {t : Tg} (h : TgV K H v t) : Dp K H v (tD t) := by
  obtain ⟨p, a, b, x, y, rfl, q, h1, h2, h3, h4⟩ := h
  exact .tup q (.cons h1.dp (.cons h2.dp (.cons h3.dp (.cons h4.dp .nil))))
theorem lay_fdv (r : Rat) : (fd r).canLay0 = true := rfl
theorem lay_sdv (z : Sum2) : (sd z).canLay0 = true := by
  have := lay_sds [z]
  have e : PyData.canLayAll0 ([z].map sd) = ((sd z).canLay0 && true) := rfl
  rw [e, Bool.and_true] at this
  exact this
theorem tD_lay (t : Tg) : (tD t).canLay0 = true := by
  show ((sd t.1.1).canLay0 && ((sd t.1.2).canLay0 && ((fd t.2.1).canLay0 && ((fd t.2.2).canLay0 && true)))) = true
  rw [lay_sdv, lay_sdv, lay_fdv, lay_fdv]
  rfl
theorem tD_shaped (t : Tg) : SeqAt.shaped (tD t) = true := by
  unfold SeqAt.shaped
  rw [tD_lay, Bool.true_and]
  refine decide_eq_true ?_
  have f : ∀ r : Rat, (fd r).depth ≤ 2 := fun r => by
    have := depthAll_fd [r]
    have e : PyData.depthAll ([r].map fd) = max (fd r).depth 0 := rfl
    omega
  have s : ∀ z : Sum2, (sd z).depth ≤ 5 := fun z => by
    have := depth_sds [z]
    have e : PyData.depthAll ([z].map sd) = max (sd z).depth 0 := rfl
    omega
  have a1 := s t.1.1
  have a2 := s t.1.2
  have a3 := f t.2.1
  have a4 := f t.2.2
  show max (sd t.1.1).depth (max (sd t.1.2).depth (max (fd t.2.1).depth (max (fd t.2.2).depth 0))) + 1 ≤ 64
  omega
theorem tD_eqv (t : Tg) : PyData.eqv (tD t) (tD t) = true := SeqAt.eqv_refl _ (tD_lay t)
end Nc
end
section
set_option maxRecDepth 100000
set_option maxHeartbeats 4000000
namespace Nc
open PySem PySem.Spec PyProof.Rows L2 Evl
/-! ### C.m(..), C an own class of the top, m a plain def of its body -/
/-- what the top has written of such a def -/
structure CFn (K : PySem.W.Frag) (mg : Str → Option Value) (x : Str) (C : Addr) (m : Str) (f : Addr) : Prop where
  gC : mg x = some (.ref C)
  rd : ClX.CRead K C (.type "type")
  at_ : PySem.W.findCls K (.ref C) (.type "type") m = some (.val (.ref f))
  kf : PySem.W.keepIn K (.ref f) = true
section
variable {X : Cx} {k : Nat} {C f : Addr} {fd : FuncData} {x m : Str} {ps : List Str} {sp : Sp} {e : Expr} {es : List Expr} {t : TA} {p1 p2 pos : Pos} {pl : Sem Bool}
theorem pe_cfn (c : CFn X.K X.mg x C m f) (F : FnOk X.prog X.w X.K X.mg X.base CX0 k f fd ps sp) (hr : Room k X.A) (hb : Binds X.K fd ps []) (ha : PA X (e :: es) t) (hgl : Gl X x := by rfl) (hdb : (x == ("__debug__" : Str)) = false := by decide)
    (ht : eval (.Call (.Attribute (.Name x p1) m p2) (e :: es) [] pos) X.env = (do
      let ov ← eval (.Name x p1) X.env
      standAt p2.atName
      let (f, first) ← holding [ov] (getMethod ov m pl)
      callWith pos f first (backTo pos (starEach (e :: es) X.env)) (backToKw pos (keywordEach [] X.env))) := by rfl)
    (hst : starEach (e :: es) X.env = (false, eval e X.env) :: starEach es X.env := by rfl) (hpl : (backTo pos (starEach es X.env)).any (·.1) = false := by rfl) :
    PE X (.Call (.Attribute (.Name x p1) m p2) (e :: es) [] pos) (tCall sp [] E0 t) := by
  constructor
  intro pins s σ H Q I h
  refine PySem.W.methodCall_KW (pl := pl) (ld_glob I hgl c.gC ?_ hdb) ht
  refine PySem.W.method_cls I.kIn c.rd.ga (ClX.getcval_ok (v := .ref f) I c.rd ⟨c.at_, rfl⟩ fun s2 J => ?_)
  refine PySem.W.callWith_K (h₀ := X.base) J.ok.mod.kin c.kf (thn (ha.run pos pins s2 σ H _ J h) ?_) hst hpl
  rintro us s3 ⟨vs, H2, J2, rv, z⟩
  exact ⟨J2.kIn, run_fn F hr hb .nil pass0 J2 rv z⟩
end
/-! ### the making of own errors -/
/-- the base's __init__(self, text) -/
def spVeI (K : PySem.W.Frag) : Sp := fun vs H Q _ => ∃ (a C : Addr) (x : Str), vs = [.ref a, .str x] ∧ OexC K C ∧ H a = some (exo a C none) ∧ Q .non H
/-- an own error's __init__(self, v): the field f is v -/
def spErI (K : PySem.W.Frag) (C : Addr) (f : Str) : Sp := fun vs H Q _ => ∃ (a : Addr) (v : V), vs = [.ref a, v] ∧ OexC K C ∧ PySem.W.findIn K (.ref C) f = some none ∧ H a = some (exo a C none) ∧
  ∀ dx, H dx = none → dx ≠ a → Q .non (upd (upd H dx (exd dx [(f, v)])) a (exo a C (some dx)))
/-! ### an own error as a value -/
/-- C(e, ..), the error stays: R is what is wanted of the arguments -/
def tErR (R : List V → Hp → VK → Prop) (ta : TA) : TE := fun σ H Q => ta σ H fun vs H1 => R vs H1 Q
section
variable {X : Cx} {k : Nat} {C fI : Addr} {fd : FuncData} {x : Str} {ps : List Str} {sp : Sp} {e : Expr} {es : List Expr} {ta : TA} {p pos : Pos} {R : List V → Hp → VK → Prop}
theorem pe_erv (T : OexC X.K C) (iC : PySem.W.findIn X.K (.ref C) "__init__" = some (some (.ref fI))) (tI : PySem.W.typeIn X.K (.ref fI) = some (.type "function")) (G : FnOk X.prog X.w X.K X.mg X.base CX0 k fI fd ps sp) (hr : Room (k + 1) X.A) (hb : Binds X.K fd ps [])
    (hm : X.mg x = some (.ref C)) (ha : PA X (e :: es) ta)
    (hR : ∀ vs H Q, R vs H Q → vs.length ≤ 1000 ∧ ∀ a, H a = none → sp (.ref a :: vs) (upd H a (exo a C none)) (fun v H2 => v = .non ∧ Q (.ref a) H2) E0) (hg : Gl X x := by rfl) (hdb : (x == ("__debug__" : Str)) = false := by decide) (he : starEach (e :: es) X.env = (false, eval e X.env) :: starEach es X.env := by rfl) (hpl : (backTo pos (starEach es X.env)).any (·.1) = false := by rfl) :
    PE X (.Call (.Name x p) (e :: es) [] pos) (tErR R ta) := by
  constructor
  intro pins s σ H Q I h
  obtain ⟨nm, q, N, bs, bm, sn, sub, ab, col, dd, k0, k1, k2, k3, k5, hC, hbm⟩ := T.cls
  refine wpAny_Call_Name_kw (ld_glob I hg hm ?_ hdb)
  refine PySem.W.callWith_K (h₀ := X.base) I.ok.mod.kin T.kC (thn (ha.run pos pins s σ H _ I h) ?_) he hpl
  rintro us s1 ⟨vs, H1, J, rv, z⟩
  obtain ⟨sz, k⟩ := hR _ _ _ z
  refine ⟨J.kIn, ?_⟩
  show wpAny _ _ (call (.ref C) us) _ _ _
  obtain ⟨hp, g, dr, tk, os⟩ := s1
  have hn : H1 (hp.objs.size + 1) = none := J.hok.fresh (Nat.le_succ _)
  have hq := k _ hn
  have hget : ((hp.push (PySem.W.kdv_tup us)).push (PySem.HandSPX.excO C hp.objs.size)).get? (hp.objs.size + 1) = some (PySem.HandSPX.excO C hp.objs.size) := by heap_get
  have J2 : Inv X pins σ (upd H1 (hp.objs.size + 1) (exo (hp.objs.size + 1) C none)) ⟨(hp.push (PySem.W.kdv_tup us)).push (PySem.HandSPX.excO C hp.objs.size), g, dr, tk, os⟩ :=
    J.laid (t' := tk) (fun b o z => Heap.get?_push_of_some _ (Heap.get?_push_of_some _ z)) (Nat.le_succ _) (exo_ok hget)
  have r2 : Vals (V.ref (hp.objs.size + 1) :: vs) (Value.ref (hp.objs.size + 1) :: us) := .cons rfl rv
  have hl : (Value.ref (hp.objs.size + 1) :: us).length = ps.length := by
    rw [← r2.length]
    exact G.len _ _ _ _ hq
  have hus : us.length ≤ sizeLine := by
    rw [← Paired.length rv, sizeLine_eq]
    omega
  have hb' := hb _ (Value.ref (hp.objs.size + 1) :: us) J2.kIn (by simpa using hl)
  simp only [List.append_nil] at hb'
  refine wpAny_call (PySem.HandSPX.call_own F.excBase_ValueError (fun Y => PySem.HandSPX.refsVE_contains Y bm hbm) (J.kIn _ _ hC) (PySem.W.looks_findIn J.kIn iC) (fun self => PySem.W.bind_fn J.kIn self tI) hus
    (codeAny_mono (G.run _ X.stack _ _ ⟨Value.ref (hp.objs.size + 1) :: us, []⟩ _ _ _ E0 (hr.make C us []) (J2.env0.make C us []) hb' r2 hq) ?_))
  rintro (_ | (_ | _ | _ | u)) s' hr'
  all_goals first
    | (obtain ⟨v, H2, J3, r3, ev, qq⟩ := J2.after hr'
       subst ev
       exact ⟨r3, .ref _, H2, J3, rfl, qq⟩)
    | exact hr'.elim
end
/-! ### isinstance of, a field of an own error -/
structure ErC (K : PySem.W.Frag) (C : Addr) : Prop where
  oex : OexC K C
  cl : (PySem.W.clsIn K C).isSome = true
  hd : PySem.W.hasDictIn K C = true
  ga : PySem.W.findIn K (.ref C) "__getattribute__" = some (some (.builtin "BaseException.__getattribute__"))
  gt : PySem.W.findIn K (.ref C) "__getattr__" = some none
  ca : PySem.W.findIn K (.ref C) "__class__" = some (some (.builtin "object.__class__"))
  cg : PySem.W.specialIn K (.builtin "object.__class__") "__get__" = some (some (.builtin "getset_descriptor.__get__"))
  ct : PySem.W.takesIn K (.builtin "object.__class__") = some true
  ob : PySem.W.mroIn K C (.type "object") = some true
/-- an own error of the class at C with the fields fs -/
def ErV (H : Hp) (a C : Addr) (fs : List (Str × V)) : Prop := ∃ d, H a = some (exo a C (some d)) ∧ H d = some (exd d fs)
def ErA (H : Hp) (a C : Addr) : Prop := H a = some (exo a C none) ∨ ∃ fs, ErV H a C fs
theorem ErV.ex {H H' : Hp} {a C : Addr} {fs : List (Str × V)} (e : Ex H H') (h : ErV H a C fs) : ErV H' a C fs := by
  obtain ⟨d, h1, h2⟩ := h
  exact ⟨d, e _ _ h1, e _ _ h2⟩
section
variable {X : Cx} {pins : List (Addr × Obj)} {σ : L2.St} {H : Hp} {s : Shared} {a C : Addr} {fs : List (Str × V)}
theorem ErV.look (I : Inv X pins σ H s) (h : ErV H a C fs) : ∃ (ox od : Obj) (mA : Str → Option Value), PySem.W.InstAt s.heap a ox C (some od) ∧ (∀ n, PySem.W.lookIn n od = some (mA n)) ∧ ∀ f, RelO (fs.lookup f) (mA f) := by
  obtain ⟨d, h1, h2⟩ := h
  obtain ⟨t1, ho⟩ := exo_at I.hok h1
  obtain ⟨mA, ns, rel⟩ := exd_at I.hok h2
  obtain ⟨od, hd, lk⟩ := lookIn_ns ns
  exact ⟨_, od, mA, ⟨ho, rfl, rfl, hd⟩, lk, rel⟩
theorem ErA.inst (I : Inv X pins σ H s) (h : ErA H a C) : ∃ ox od, PySem.W.InstAt s.heap a ox C od := by
  rcases h with h | ⟨fs, h⟩
  · obtain ⟨t1, ho⟩ := exo_at I.hok h
    exact ⟨_, none, ⟨ho, rfl, rfl, trivial⟩⟩
  · obtain ⟨ox, od, mA, J, _⟩ := h.look I
    exact ⟨ox, some od, J⟩
end
def rIsX (K : PySem.W.Frag) : List V → Hp → VK → Prop := fun xs H Q => ∃ (a C : Addr) (c : V) (u : Value) (b : Bool), xs = [.ref a, c] ∧ ClsV c u ∧ ErA H a C ∧ ErC K C ∧ PySem.W.kitOne K (.ref C) u = some b ∧ Q (.bl b) H
theorem call_isX {X : Cx} : CallR X (.builtin "isinstance") (rIsX X.K) := by
  intro pins s σ H xs us Q I r h
  obtain ⟨a, C, c, u, b, rfl, kc, ea, ec, e, q⟩ := h
  obtain ⟨u1, u2, rfl, r1, r2⟩ := vals2 r
  cases (show u1 = Value.ref a from r1)
  cases kc.eq r2
  obtain ⟨ox, od, J⟩ := ea.inst I
  exact PySem.W.kia_one (PySem.W.kitx_exc ec.cl ec.ga ec.gt ec.oex.exC ec.ca ec.cg ec.ct ec.ob) I.kIn J e (fun z => nomatch z) fun tk => ⟨.bl b, H, I.tok tk, rfl, q⟩
/-- e.f, e an own error -/
def tErF (K : PySem.W.Frag) (ta : TE) (f : Str) : TE := fun σ H Q => ta σ H fun x H1 => ∃ (a C : Addr) (fs : List (Str × V)) (v : V), x = .ref a ∧ ErV H1 a C fs ∧ ErC K C ∧ PySem.W.findIn K (.ref C) f = some none ∧ fs.lookup f = some v ∧ Q v H1
theorem pe_erf {X : Cx} {e : Expr} {f : Str} {pos : Pos} {ta : TE} (he : PE X e ta) (hb : attributeBase e f X.env (eval e X.env) = eval e X.env := by rfl) : PE X (.Attribute e f pos) (tErF X.K ta f) := by
  constructor
  intro pins s σ H Q I h
  refine attr_of hb (thn (he.run pins s σ H _ I h) ?_)
  rintro u s1 ⟨x, H1, J, rx, a, C, fs, v, ex, ev, ec, hf, lk, q⟩
  subst ex
  cases (show u = Value.ref a from rx)
  obtain ⟨ox, od, mA, K1, l1, rel⟩ := ev.look J
  have r2 := rel f
  rw [lk] at r2
  obtain ⟨y, hy, ry⟩ := r2.some_of
  refine PySem.HandSPX.exc_get J.kIn K1 ec.ga ec.gt ec.oex.exC (PySem.W.findObj_own ec.hd hf rfl (by rw [l1, hy])) (handed_of ry) ?_
  exact ⟨v, H1, J.tok _, ry, q⟩
/-- what is known of an own error's class: its name, its object, its one field, its __init__ -/
structure Er (P : Program) (w : World) (K : PySem.W.Frag) (mg : Str → Option Value) (base : Heap) (x : Str) (C : Addr) (f : Str) (ps : List Str) : Prop where
  ec : ErC K C
  no : PySem.W.findIn K (.ref C) f = some none
  gm : mg x = some (.ref C)
  ini : ∃ fI fd, PySem.W.findIn K (.ref C) "__init__" = some (some (.ref fI)) ∧ PySem.W.typeIn K (.ref fI) = some (.type "function") ∧ FnOk P w K mg base CX0 2 fI fd ps (spErI K C f) ∧ Binds K fd ps []
def rEr (C : Addr) (f : Str) : List V → Hp → VK → Prop := fun vs H Q => ∃ v, vs = [v] ∧ ∀ a H2, H a = none → Ex H H2 → ErV H2 a C [(f, v)] → Q (.ref a) H2
theorem pe_er {X : Cx} {x f : Str} {C : Addr} {ps : List Str} {e : Expr} {ta : TA} {p pos : Pos} (E : Er X.prog X.w X.K X.mg X.base x C f ps) (hr : Room 3 X.A) (ha : PA X [e] ta) (hg : Gl X x := by rfl) (hdb : (x == ("__debug__" : Str)) = false := by decide)
    (he : starEach [e] X.env = (false, eval e X.env) :: starEach [] X.env := by rfl) (hpl : (backTo pos (starEach [] X.env)).any (·.1) = false := by rfl) : PE X (.Call (.Name x p) [e] [] pos) (tErR (rEr C f) ta) := by
  obtain ⟨fI, fd, iC, tI, G, hb⟩ := E.ini
  refine pe_erv E.ec.oex iC tI G hr hb E.gm ha ?_ hg hdb he hpl
  rintro vs H Q ⟨v, rfl, q⟩
  refine ⟨by show 1 ≤ 1000; decide, fun a ha => ⟨a, v, rfl, E.ec.oex, E.no, upd_same, fun dx h1 h2 => ⟨rfl, ?_⟩⟩⟩
  have hd : H dx = none := by rwa [upd_ne h2] at h1
  refine q a _ ha (fun b o hb => ?_) ⟨dx, upd_same, by rw [upd_ne h2]; exact upd_same⟩
  rw [upd_ne (ne_of_none hb ha), upd_ne (ne_of_none hb hd), upd_ne (ne_of_none hb ha)]
  exact hb
end Nc
end
section
set_option maxRecDepth 100000
set_option maxHeartbeats 4000000
namespace Nc
open PySem PySem.Spec PyProof.Rows L2 Evl
theorem elemC (v a : Value) (l : List Value) : (a :: l).contains v = (v == a || l.contains v) := by
  show (match v == a with | true => true | false => List.elem v l) = _
  cases v == a <;> rfl
/-- an own error's class, as it stands written, bm its bases to the last -/
structure ErX (K : PySem.W.Frag) (C : Addr) (bm : List Value) : Prop where
  lk : ∃ nm q N bs sn sub ab col dd k0 k1 k2 k3 k5, K.lookup C = some (excClassObj nm q C N bs bm true sn sub ab col dd k0 k1 k2 k3 k5 "ValueError.__new__")
  ve : PySem.HandSPX.refsVE bm = true
  ty : PySem.W.typeIn K (.ref C) = some (.type "type")
section
variable {K : PySem.W.Frag} {C D : Addr} {bm bn : List Value}
theorem ErX.cls (h : ErX K C bm) : ∃ cd, PySem.W.clsIn K C = some cd ∧ cd.mro = .ref C :: bm ∧ cd.hasDict = true := by
  obtain ⟨nm, q, N, bs, sn, sub, ab, col, dd, k0, k1, k2, k3, k5, e⟩ := h.lk
  unfold PySem.W.clsIn
  rw [e]
  exact ⟨_, rfl, rfl, rfl⟩
theorem ErX.sub (h : ErX K C bm) (v : Value) : PySem.W.subIn K (.ref C) v = some ((Value.ref C :: bm).contains v) := by
  obtain ⟨cd, e, em, _⟩ := h.cls
  show PySem.W.mroIn K C v = _
  unfold PySem.W.mroIn
  rw [e, Option.bind_some, em]
  rfl
theorem ErX.kit (h : ErX K C bm) (g : ErX K D bn) : PySem.W.kitOne K (.ref C) (.ref D) = some (decide (C = D) || bm.contains (.ref D)) := by
  unfold PySem.W.kitOne
  by_cases e : C = D
  · subst e
    rw [if_pos (beq_self_eq_true _), decide_eq_true rfl, Bool.true_or]
  · have ne : (Value.ref C == Value.ref D) = false := beq_eq_false_iff_ne.mpr fun z => e (Value.ref.inj z)
    obtain ⟨cd, ec, _⟩ := g.cls
    rw [if_neg (by rw [ne]; decide)]
    show (if ((PySem.W.clsIn K D).isSome && PySem.W.typeIn K (.ref D) == some (.type "type")) = true then PySem.W.subIn K (.ref C) (.ref D) else none) = _
    rw [ec, g.ty, if_pos (by simp), h.sub, decide_eq_false e, Bool.false_or]
    have ne2 : (Value.ref D == Value.ref C) = false := beq_eq_false_iff_ne.mpr fun z => e (Value.ref.inj z).symm
    rw [elemC, ne2, Bool.false_or]
theorem ErX.kitT (h : ErX K C bm) {T : String} (m : PySem.W.kitMeta T = true) : PySem.W.kitOne K (.ref C) (.type T) = some (bm.contains (.type T)) := by
  unfold PySem.W.kitOne
  have ne : (Value.ref C == Value.type T) = false := beq_eq_false_iff_ne.mpr fun z => by cases z
  rw [if_neg (by rw [ne]; decide)]
  show (if PySem.W.kitMeta T = true then PySem.W.subIn K (.ref C) (.type T) else none) = _
  rw [if_pos m, h.sub]
  have ne2 : (Value.type T == Value.ref C) = false := beq_eq_false_iff_ne.mpr fun z => by cases z
  rw [elemC, ne2, Bool.false_or]
theorem ErX.erc (h : ErX K C bm) (sa : PySem.W.findIn K (.ref C) "__setattr__" = some (some (.builtin "object.__setattr__"))) (kc : PySem.W.keepIn K (.ref C) = true)
    (ga : PySem.W.findIn K (.ref C) "__getattribute__" = some (some (.builtin "BaseException.__getattribute__"))) (gt : PySem.W.findIn K (.ref C) "__getattr__" = some none) (ca : PySem.W.findIn K (.ref C) "__class__" = some (some (.builtin "object.__class__")))
    (cg : PySem.W.specialIn K (.builtin "object.__class__") "__get__" = some (some (.builtin "getset_descriptor.__get__"))) (ct : PySem.W.takesIn K (.builtin "object.__class__") = some true) (b1 : bm.contains (.type "BaseException") = true) (b2 : bm.contains (.type "object") = true)
    (hd : PySem.W.hasDictIn K C = true) : ErC K C := by
  have cons : ∀ v, bm.contains v = true → (Value.ref C :: bm).contains v = true := fun v hv => by
    rw [elemC, hv, Bool.or_true]
  refine ⟨⟨?_, sa, ?_, h.ty, kc⟩, ?_, hd, ga, gt, ca, cg, ct, ?_⟩
  · obtain ⟨nm, q, N, bs, sn, sub, ab, col, dd, k0, k1, k2, k3, k5, e⟩ := h.lk
    exact ⟨nm, q, N, bs, bm, sn, sub, ab, col, dd, k0, k1, k2, k3, k5, e, h.ve⟩
  · rw [h.sub, cons _ b1]
  · obtain ⟨cd, ec, _⟩ := h.cls
    rw [ec]
    rfl
  · have := h.sub (.type "object")
    rw [cons _ b2] at this
    exact this
end
/-- the bases of an error over CutError, of CutError -/
def bmB : List Value := [.type "ValueError", .type "Exception", .type "BaseException", .type "object"]
def bmE (CB : Addr) : List Value := .ref CB :: bmB
theorem bmB_ref (D : Addr) : bmB.contains (.ref D) = false := rfl
theorem bmE_ref (CB D : Addr) : (bmE CB).contains (.ref D) = decide (D = CB) := by
  show (Value.ref CB :: bmB).contains (Value.ref D) = _
  rw [elemC, bmB_ref, Bool.or_false]
  by_cases h : D = CB
  · subst h
    rw [decide_eq_true rfl]
    exact beq_self_eq_true _
  · rw [decide_eq_false h]
    exact beq_eq_false_iff_ne.mpr fun z => h (Value.ref.inj z)
theorem bmE_ty (CB : Addr) (T : String) : (bmE CB).contains (.type T) = bmB.contains (.type T) := by
  show (Value.ref CB :: bmB).contains (Value.type T) = _
  have ne2 : (Value.type T == Value.ref CB) = false := beq_eq_false_iff_ne.mpr fun z => by cases z
  rw [elemC, ne2, Bool.false_or]
end Nc
end
section
set_option maxRecDepth 100000
/-! NcTry: a try with any number of clauses, each with a name or without. -/
namespace L2
open PySem PySem.Spec PyProof.Rows
section
variable {X : Cx} {pins : List (Addr × Obj)} {σ : St} {H : Hp} {sI t : Shared} {B : Heap} {a : Addr} {cls : Value} {d : Option Addr}
/-- an error has come to the clauses: what stands then -/
structure Caught (X : Cx) (pins : List (Addr × Obj)) (σ : St) (H : Hp) (sI : Shared) (B : Heap) (a : Addr) (cls : Value) (d : Option Addr) (t : Shared) : Prop where
  inv : Inv X pins σ H sI
  near : ∀ b o, sI.heap.get? b = some o → b ∉ frs X.stack → B.get? b = some o
  upto : sI.heap.UpToSlots t.heap
  held : HandSPX.FlyingZ B (X.env :: X.outer) a (Zc cls d) t.heap
  none : H a = none
  os : t.os = sI.os
  bare : AllBare t.gens
theorem Caught.now (c : Caught X pins σ H sI B a cls d t) : Inv X pins σ H t := c.inv.landed c.near c.held.1 c.upto c.os c.bare
theorem Caught.apart (hf : X.env.frame = some X.env.locals) (c : Caught X pins σ H sI B a cls d t) : a ≠ X.env.locals ∧ a ∉ X.fs := by
  obtain ⟨o1, v1, g1, _, f1⟩ := c.held.there
  have out : a ∉ frs (X.env :: X.outer) := fun hm => by
    obtain ⟨_, o2, g2, notF⟩ := c.held.2.2.1.mem hm
    rw [g1] at g2
    cases g2
    exact notF _ f1
  refine ⟨fun z => out (List.mem_filterMap.mpr ⟨X.env, List.mem_cons_self, by rw [hf, z]⟩), fun hm => ?_⟩
  obtain ⟨e1, he1, q1⟩ := List.mem_filterMap.mp hm
  exact out (List.mem_filterMap.mpr ⟨e1, List.mem_cons_of_mem _ he1, q1⟩)
/-- the ways out of a clause with a name in slot i: the name is gone behind it -/
def Ends.off (D : Ends) (i : Nat) : Ends := { nx := fun τ G => D.nx (τ.set i .none) G, rt := D.rt, bk := fun τ G => D.bk (τ.set i .none) G, ct := fun τ G => D.ct (τ.set i .none) G }
/-- clauses, and what they wish of an error of the body -/
inductive Clauses (X : Cx) : List ExceptHandler → (Ends → WX) → Prop
  | nil {Wout : WX} (tk : Takes X Wout) : Clauses X [] fun _ => Wout
  | plain {x : Str} {c : Value} {ts : Addr → Value → Option Addr → TS} {b0 : Stmt} {rest : List Stmt} {np ps : Pos} {hds : List ExceptHandler} {W : Ends → WX} (hc : Names X x c)
      (run : ∀ (a : Addr) (o : Obj) (cls : Value) (d : Option Addr) (pn : List (Addr × Obj)), Zc cls d o → (∃ vs, o.data = .fields vs) → PSs (X.suite a ((a, o) :: pn)) (b0 :: rest) (ts a cls d)) (more : Clauses X hds W) :
      Clauses X (.ExceptHandler (some (.Name x np)) .none (b0 :: rest) ps :: hds) fun D cls d σ H => ∃ b, PySem.W.exmOne X.K cls c = some b ∧ (b = true → ∀ a, H a = .none → ts a cls d D σ H) ∧ (b = false → W D cls d σ H)
  | named {x n : Str} {c : Value} {i : Nat} {ts : Addr → Value → Option Addr → TS} {b0 : Stmt} {rest : List Stmt} {np ps : Pos} {hds : List ExceptHandler} {W : Ends → WX} (hN : X.N.Nodup) (hi : X.N[i]? = some n) (hl : X.env.kindOf n = some .local) (hc : Names X x c)
      (run : ∀ (a : Addr) (o : Obj) (cls : Value) (d : Option Addr) (pn : List (Addr × Obj)), Zc cls d o → (∃ vs, o.data = .fields vs) → PSs (X.suite a ((a, o) :: pn)) (b0 :: rest) (ts a cls d)) (more : Clauses X hds W) :
      Clauses X (.ExceptHandler (some (.Name x np)) (some n) (b0 :: rest) ps :: hds) fun D cls d σ H => ∃ b, PySem.W.exmOne X.K cls c = some b ∧ (b = true → ∀ a, H a = .none → ts a cls d (D.off i) (σ.set i (some (.ref a))) H) ∧ (b = false → W D cls d σ H)
/-- a clause's class is asked -/
theorem asked {x : Str} {c : Value} {np : Pos} {b : Bool} {α : Type} {k : Bool → Sem α} {Q : α → Shared → Prop} (hf : X.env.frame = some X.env.locals) (cc : Caught X pins σ H sI B a cls d t) (hc : Names X x c) {Qv : Value → Shared → Prop} {E : Value → Shared → Prop} (hq : Qv c t) :
    wpAny (model X.prog X.w) (X.A.mark (some (.ref a))) (eval (.Name x np) X.env) Qv E t := by
  obtain ⟨o1, v1, g1, z1, f1⟩ := cc.held.there
  have ap := cc.apart hf
  have S := cc.now.suite g1 f1 cc.none ap.1 ap.2
  obtain ⟨hg, hdb, hm | ⟨hm, hv, hnn⟩⟩ := hc
  · exact ld_glob (X := X.suite a ((a, o1) :: (X.pn ++ pins))) S hg hm hq hdb
  · exact ld_blt (X := X.suite a ((a, o1) :: (X.pn ++ pins))) S hg hm hv hq hnn hdb
theorem clauses_ok (hs : X.stack = X.env :: X.outer) (hf : X.env.frame = some X.env.locals) {D : Ends} (cc : Caught X pins σ H sI B a cls d t) {hds : List ExceptHandler} {W : Ends → WX} (hk : Clauses X hds W) (w : W D cls d σ H) :
    wpAny (model X.prog X.w) X.A (handleBy (.ref a) X.env hds) (SP X pins D) X.xe t := by
  have ok := cc.inv.ok
  have ap := cc.apart hf
  induction hk with
  | @nil Wout tk =>
    refine wpAny_handleBy_nil ?_
    obtain ⟨u1, u2, u3, o1, v1, T1, oT, tT, g1, z1, f1, r1, r2⟩ := id cc.held
    unfold PySem.passOn
    refine wpAny_bind (wpAny_field g1 f1 r1 ?_)
    rw [if_neg (show ¬ ((Value.ref T1 == Value.none) = true) from by simp)]
    have go : wpAny (model X.prog X.w) X.A (setFlight (.ref a) X.env.frame) (fun _ s4 => wpAny (model X.prog X.w) X.A (throw (.ref a) : Sem Flow) (SP X pins D) X.xe s4) X.xe t := by
      rw [hf]
      refine HandSPX.setFlight_upZ cc.held fun h4 held4 up4 => wpAny_throw (tk _ _ ?_)
      exact ⟨a, B, sI, pins, σ, H, cls, d, rfl, cc.inv, cc.near, cc.upto.trans up4, .inr (.inr (by rw [hs]; exact held4)), cc.none, cc.os, cc.bare, w⟩
    first
      | exact wpAny_bind (wpAny_pure (wpAny_bind go))
      | exact wpAny_bind go
  | @plain x c ts b0 rest np ps hds2 W2 hc run more ih =>
    obtain ⟨b, hb, yes, no⟩ := w
    obtain ⟨o1, v1, g1, z1, f1⟩ := cc.held.there
    refine wpAny_handleBy_cons (codeAny_handlers_test ?_) (by intro q; cases q)
    have cl : PySem.W.Looks (model X.prog X.w) t.heap (typeOf (.ref a)) cls := fun A' Q' E' s' k' q' => wpAny_typeOf_ref (k' _ _ g1) (by rw [z1.1]; exact q')
    have said := PySem.W.exm_one (M := model X.prog X.w) (cc.now.kIn) cl hb
    refine asked (b := b) (k := fun _ => (throw .none : Sem Unit)) (Q := fun _ _ => True) hf cc hc (said.here ?_)
    cases b with
    | true =>
      refine codeAny_handlers_suite ?_
      refine HandSPX.lands_againZ cc.held fun h4 held4 up4 => ?_
      have c4 : Caught X pins σ H sI B a cls d { t with heap := h4 } := ⟨cc.inv, cc.near, cc.upto.trans up4, held4, cc.none, cc.os, cc.bare⟩
      obtain ⟨o4, v4, g4, z4, f4⟩ := held4.there
      have S4 := c4.now.suite g4 f4 cc.none ap.1 ap.2
      refine wpAny_mono ((run a o4 cls d (X.pn ++ pins) z4 ⟨_, f4⟩).run [] _ _ H _ S4 (yes rfl a cc.none)) (fun f s6 hsp => ?_) (fun _ _ z => z.elim)
      cases f with
      | next => exact let ⟨τ, G, S6, q6⟩ := hsp; ⟨τ, G, S6.unsuite ok, q6⟩
      | brk => exact let ⟨τ, G, S6, q6⟩ := hsp; ⟨τ, G, S6.unsuite ok, q6⟩
      | cont => exact let ⟨τ, G, S6, q6⟩ := hsp; ⟨τ, G, S6.unsuite ok, q6⟩
      | ret u => exact let ⟨v6, τ, G, S6, r6, q6⟩ := hsp; ⟨v6, τ, G, S6.unsuite ok, r6, q6⟩
    | false =>
      show wpAny _ X.A (handleBy (.ref a) X.env hds2) _ _ _
      exact ih (no rfl)
  | @named x n c i ts b0 rest np ps hds2 W2 hN hi hl hc run more ih =>
    obtain ⟨b, hb, yes, no⟩ := w
    obtain ⟨o1, v1, g1, z1, f1⟩ := cc.held.there
    refine wpAny_handleBy_cons (codeAny_handlers_test ?_) (by intro q; cases q)
    have cl : PySem.W.Looks (model X.prog X.w) t.heap (typeOf (.ref a)) cls := fun A' Q' E' s' k' q' => wpAny_typeOf_ref (k' _ _ g1) (by rw [z1.1]; exact q')
    have said := PySem.W.exm_one (M := model X.prog X.w) (cc.now.kIn) cl hb
    refine asked (b := b) (k := fun _ => (throw .none : Sem Unit)) (Q := fun _ _ => True) hf cc hc (said.here ?_)
    cases b with
    | true =>
      refine codeAny_handlers_suite_as ?_
      refine HandSPX.lands_againZ cc.held fun h4 held4 up4 => ?_
      have c4 : Caught X pins σ H sI B a cls d { t with heap := h4 } := ⟨cc.inv, cc.near, cc.upto.trans up4, held4, cc.none, cc.os, cc.bare⟩
      obtain ⟨o4, v4, g4, z4, f4⟩ := held4.there
      have S4 := c4.now.suite g4 f4 cc.none ap.1 ap.2
      refine store_ok (X := X.suite a ((a, o4) :: (X.pn ++ pins))) (v := .ref a) S4 hN hi (.inl hl) rfl (fun s5 S5 => ?_) (.inr hl)
      refine wpAny_mono ((run a o4 cls d (X.pn ++ pins) z4 ⟨_, f4⟩).run [] s5 _ H _ S5 (yes rfl a cc.none)) (fun f s6 hsp => ?_) (fun _ _ z => z.elim)
      have leave : ∀ {τ : St} {G : Hp} {Q : Shared → Prop}, Inv (X.suite a ((a, o4) :: (X.pn ++ pins))) [] τ G s6 → (∀ s7, Inv X pins (τ.set i .none) G s7 → Q s7) →
          wpAny (model X.prog X.w) X.A (do bindName X.env n .none; unbindBehindTheSuite X.env n ps) (fun _ s7 => Q s7) X.xe s6 := fun {τ G Q} S6 hq => gone_ok (S6.unsuite ok) hN hi hl hq
      cases f with
      | next => exact let ⟨τ, G, S6, q6⟩ := hsp; leave S6 fun s7 J7 => ⟨_, _, J7, q6⟩
      | brk => exact let ⟨τ, G, S6, q6⟩ := hsp; leave S6 fun s7 J7 => ⟨_, _, J7, q6⟩
      | cont => exact let ⟨τ, G, S6, q6⟩ := hsp; leave S6 fun s7 J7 => ⟨_, _, J7, q6⟩
      | ret u => exact let ⟨v6, τ, G, S6, r6, q6⟩ := hsp; leave S6 fun s7 J7 => ⟨_, _, _, J7, r6, q6⟩
    | false =>
      show wpAny _ X.A (handleBy (.ref a) X.env hds2) _ _ _
      exact ih (no rfl)
/-- try: body, except clauses -/
theorem ps_tryX {body : List Stmt} {h0 : ExceptHandler} {hds : List ExceptHandler} {W : Ends → WX} {tb : WX → TS} {pos : Pos} (hs : X.stack = X.env :: X.outer) (hf : X.env.frame = some X.env.locals) (hk : Clauses X (h0 :: hds) W)
    (hb : ∀ (W : WX) (pn : List (Addr × Obj)) (xe : Value → Shared → Prop), Takes (X.tr pn xe) W → PassesOwn (model X.prog X.w) X.A X.env xe → PSs (X.tr pn xe) body (tb W)) :
    PS X (.Try body (h0 :: hds) [] [] pos) (fun D σ H => tb (W D) D σ H) := by
  refine ⟨fun pins s σ H D I h => ?_⟩
  have ok := I.ok
  have stk : X.A.frames = some (X.env :: X.outer) := by rw [ok.frames, hs]
  refine wpAny_Try_except ?_
  have caught : Takes (X.tr (X.pn ++ pins) (fun e s1 => wpAny (model X.prog X.w) X.A (noteFrame e X.env) (fun _ s2 => wpAny (model X.prog X.w) X.A (setFlight e .none) (fun _ s3 => wpAny (model X.prog X.w) X.A (handleBy e X.env (h0 :: hds)) (SP X pins D) X.xe s3) X.xe s2) X.xe s1)) (W D) := by
    rintro u s' ⟨a, B, sI, p2, τ, G, cls, d, rfl, J, nb, up, sky, na, os, ag, w⟩
    have sky2 : Sky B (X.env :: X.outer) a (Zc cls d) X.env.locals s'.heap := by rw [← hs]; exact sky
    show wpAny (model X.prog X.w) X.A (noteFrame (.ref a) X.env) _ _ _
    refine Sky.land Zc.steady stk hf sky2 fun h3 held3 up3 => ?_
    exact clauses_ok (t := { s' with heap := h3 }) hs hf ⟨J.ofTry ok, nb, up.trans up3, held3, na, os, ag⟩ hk w
  refine wpAny_mono ((hb (W D) (X.pn ++ pins) _ caught PassesOwn.looking).run [] s σ H D (I.toTry _) h) (fun f s1 hsp => ?_) (fun e s1 he => he)
  cases f with
  | next => exact let ⟨τ, G, J, q⟩ := hsp; wpAny_execs_nil ⟨τ, G, J.ofTry ok, q⟩
  | brk => exact let ⟨τ, G, J, q⟩ := hsp; ⟨τ, G, J.ofTry ok, q⟩
  | cont => exact let ⟨τ, G, J, q⟩ := hsp; ⟨τ, G, J.ofTry ok, q⟩
  | ret u => exact let ⟨v, τ, G, J, r, q⟩ := hsp; ⟨v, τ, G, J.ofTry ok, r, q⟩
end
end L2
end
section
set_option maxRecDepth 100000
set_option maxHeartbeats 4000000
namespace Nc
open PySem PySem.Spec PyProof.Rows L2 Evl
/-! ### defs that may let an own error out -/
structure OkX (P : Program) (w : World) (K : PySem.W.Frag) (mg : Str → Option Value) (base : Heap) (k : Nat) (x : Str) (ps : List Str) (sp : Sp) : Prop where
  ex : ∃ f fd, mg x = some (.ref f) ∧ PySem.W.keepIn K (.ref f) = true ∧ FnOk P w K mg base (L2.CX P w) k f fd ps sp ∧ Binds K fd ps []
theorem Df.okX {P : Program} {w : World} {K : PySem.W.Frag} {mg : Str → Option Value} {base : Heap} {k : Nat} {x : Str} {st : Stmt} {ps : List Str} {sp : Sp} (D : Df K mg x st ps)
    (h : ∀ f fd, Fun K x x st f fd → FnOk P w K mg base (L2.CX P w) k f fd ps sp) : OkX P w K mg base k x ps sp := by
  obtain ⟨f, fd, g, F, b⟩ := D.ex
  exact ⟨f, fd, g, F.kp, h f fd F, b⟩
section
variable {X : Cx} {k : Nat} {x : Str} {ps : List Str} {sp : Sp} {e : Expr} {es : List Expr} {t : TA} {p pos : Pos} {W : WX}
/-- a call of such a def: what it lets out is wished of by W -/
theorem clX (D : OkX X.prog X.w X.K X.mg X.base k x ps sp) (hr : Room k X.A) (tk : Takes X W) (ha : PA X (e :: es) t) (hg : Gl X x := by rfl) (hdb : (x == ("__debug__" : Str)) = false := by decide)
    (he : starEach (e :: es) X.env = (false, eval e X.env) :: starEach es X.env := by rfl) (hpl : (backTo pos (starEach es X.env)).any (·.1) = false := by rfl) : PE X (.Call (.Name x p) (e :: es) [] pos) (tCallS sp (WE W) t) := by
  obtain ⟨f, fd, g, kp, F, b⟩ := D.ex
  exact pe_callS F hr hg g kp b (fun σ => passAt tk σ) ha hdb he hpl
end
/-- raise C(x), x in slot i: the error's own dict is new and holds x -/
def tRz (C : Addr) (f : Str) (i : Nat) (W : WX) : TS := fun _ σ H => ∃ v, σ[i]? = some (some v) ∧ ∀ d H2, H d = none → Ex H H2 → H2 d = some (.xd [(f, v)]) → W (.ref C) (some d) σ H2
theorem ps_rz {X : Cx} {C : Addr} {x f y : Str} {ps : List Str} {i : Nat} {W : WX} {q p pos pos' : Pos} (E : Er X.prog X.w X.K X.mg X.base x C f ps) (hc : X.calm = true) (tk : Takes X W) (hr : Room 3 X.A) (hv : PE X (.Name y q) (tVar i)) (hg : Gl X x := by rfl) (hdb : (x == ("__debug__" : Str)) = false := by decide)
    (he : starEach [.Name y q] X.env = (false, eval (.Name y q) X.env) :: starEach [] X.env := by rfl) (hpl : (backTo pos (starEach [] X.env)).any (·.1) = false := by rfl) :
    PS X (.Raise (some (.Call (.Name x p) [.Name y q] [] pos)) none pos') (tRz C f i W) := by
  obtain ⟨fI, fd, iC, tI, G, hb⟩ := E.ini
  refine ⟨fun pins s σ H D I h => ?_⟩
  obtain ⟨v, hσ, k⟩ := h
  refine (ps_raise hc tk (pmk_oex (CX := CX0) (dvs := []) E.ec.oex iC tI G hr hb .nil pass0 hg E.gm (pa_cons hv pa_nil) hdb he hpl)).run pins s σ H D I ?_
  refine ⟨v, hσ, (by show 1 ≤ 1000; decide), fun a ha => ⟨a, v, rfl, E.ec.oex, E.no, upd_same, fun dx h1 h2 => ⟨rfl, dx, [(f, v)], upd_same, by rw [upd_ne h2]; exact upd_same, ?_, ?_⟩⟩⟩
  · rwa [upd_ne h2] at h1
  · have hd : H dx = none := by rwa [upd_ne h2] at h1
    refine k dx _ hd (fun b o hb => ?_) upd_same
    have b1 := ne_of_none hb hd
    have b2 := ne_of_none hb ha
    rw [upd_ne b1, del_ne b2, upd_ne b2, upd_ne b1, upd_ne b2]
    exact hb
/-! ### data that stays beside the stream -/
mutual
inductive Dz (K : PySem.W.Frag) (s : Addr) (H : Hp) : V → PyData → Prop
  | non : Dz K s H .non .none
  | bl (b : Bool) : Dz K s H (.bl b) (.bool b)
  | int (i : Int) : Dz K s H (.int i) (.int i)
  | str (x : Str) : Dz K s H (.str x) (.str x)
  | lst {a : Addr} {xs : List V} {ds : List PyData} : a ≠ s → H a = some (.lst xs) → DzA K s H xs ds → Dz K s H (.ref a) (.list ds)
  | tup {a : Addr} {xs : List V} {ds : List PyData} : SqT K H a xs → DzA K s H xs ds → Dz K s H (.ref a) (.tuple ds)
inductive DzA (K : PySem.W.Frag) (s : Addr) (H : Hp) : List V → List PyData → Prop
  | nil : DzA K s H [] []
  | cons {v : V} {vs : List V} {d : PyData} {ds : List PyData} : Dz K s H v d → DzA K s H vs ds → DzA K s H (v :: vs) (d :: ds)
end
section
variable {K : PySem.W.Frag} {s : Addr} {H H' : Hp}
mutual
theorem Dz.dk (h0 : Lst s H) (r : Dk s H H') : ∀ (d : PyData) (v : V), Dz K s H v d → Dz K s H' v d
  | .none, _, h => by cases h; exact .non
  | .bool b, _, h => by cases h; exact .bl b
  | .int i, _, h => by cases h; exact .int i
  | .str x, _, h => by cases h; exact .str x
  | .list ds, _, h => by
    cases h with
    | lst n q p => exact .lst n (r.keep _ _ n q) (DzA.dk h0 r ds _ p)
  | .tuple ds, _, h => by
    cases h with
    | tup q p => exact .tup (sqt_dk h0 r q) (DzA.dk h0 r ds _ p)
  | .dict _, _, h => by cases h
theorem DzA.dk (h0 : Lst s H) (r : Dk s H H') : ∀ (ds : List PyData) (vs : List V), DzA K s H vs ds → DzA K s H' vs ds
  | [], _, h => by cases h; exact .nil
  | d :: ds, _, h => by
    cases h with
    | cons p q => exact .cons (Dz.dk h0 r d _ p) (DzA.dk h0 r ds _ q)
end
mutual
theorem Dz.ex (r : Ex H H') : ∀ (d : PyData) (v : V), Dz K s H v d → Dz K s H' v d
  | .none, _, h => by cases h; exact .non
  | .bool b, _, h => by cases h; exact .bl b
  | .int i, _, h => by cases h; exact .int i
  | .str x, _, h => by cases h; exact .str x
  | .list ds, _, h => by
    cases h with
    | lst n q p => exact .lst n (r _ _ q) (DzA.ex r ds _ p)
  | .tuple ds, _, h => by
    cases h with
    | tup q p => exact .tup (ex_t r q) (DzA.ex r ds _ p)
  | .dict _, _, h => by cases h
theorem DzA.ex (r : Ex H H') : ∀ (ds : List PyData) (vs : List V), DzA K s H vs ds → DzA K s H' vs ds
  | [], _, h => by cases h; exact .nil
  | d :: ds, _, h => by
    cases h with
    | cons p q => exact .cons (Dz.ex r d _ p) (DzA.ex r ds _ q)
end
mutual
theorem Dz.dp : ∀ (d : PyData) (v : V), Dz K s H v d → Dp K H v d
  | .none, _, h => by cases h; exact .non
  | .bool b, _, h => by cases h; exact .bl b
  | .int i, _, h => by cases h; exact .int i
  | .str x, _, h => by cases h; exact .str x
  | .list ds, _, h => by
    cases h with
    | lst n q p => exact .lst (sq_of q) (DzA.dp ds _ p)
  | .tuple ds, _, h => by
    cases h with
    | tup q p => exact .tup q (DzA.dp ds _ p)
  | .dict _, _, h => by cases h
theorem DzA.dp : ∀ (ds : List PyData) (vs : List V), DzA K s H vs ds → DpAll K H vs ds
  | [], _, h => by cases h; exact .nil
  | d :: ds, _, h => by
    cases h with
    | cons p q => exact .cons (Dz.dp d _ p) (DzA.dp ds _ q)
end
theorem DzA.app {xs ys : List V} {ds es : List PyData} (h : DzA K s H xs ds) (g : DzA K s H ys es) : DzA K s H (xs ++ ys) (ds ++ es) := by
  induction xs generalizing ds with
  | nil => cases h; exact g
  | cons x xs ih =>
    cases h with
    | cons p q => exact .cons p (ih q)
theorem DzA.len {xs : List V} {ds : List PyData} (h : DzA K s H xs ds) : xs.length = ds.length := by
  induction xs generalizing ds with
  | nil => cases h; rfl
  | cons x xs ih =>
    cases h with
    | cons p q => rw [List.length_cons, List.length_cons, ih q]
theorem DzA.drop {xs : List V} {ds : List PyData} (k : Nat) (h : DzA K s H xs ds) : DzA K s H (xs.drop k) (ds.drop k) := by
  induction k generalizing xs ds with
  | zero => exact h
  | succ k ih =>
    cases h with
    | nil => exact .nil
    | cons p q => exact ih q
theorem DzA.take {xs : List V} {ds : List PyData} (k : Nat) (h : DzA K s H xs ds) : DzA K s H (xs.take k) (ds.take k) := by
  induction k generalizing xs ds with
  | zero => exact .nil
  | succ k ih =>
    cases h with
    | nil => exact .nil
    | cons p q => exact .cons p (ih q)
end
/-! ### sizes of what is shown -/
structure Sw (d : PyData) (b k : Nat) : Prop where
  sh : d.showable = true
  nd : d.hasDict = false
  lv : d.leavesShort 92 = true
  bk : d.bulk ≤ b
  dp : d.depth ≤ k
structure SwA (ds : List PyData) (b k : Nat) : Prop where
  sh : PyData.showableAll ds = true
  nd : PyData.hasDictAll ds = false
  lv : PyData.leavesShortAll 92 ds = true
  bk : PyData.bulkAll ds ≤ b
  dp : PyData.depthAll ds ≤ k
theorem swa_nil (k : Nat) : SwA [] 0 k := ⟨rfl, rfl, rfl, Nat.le_refl _, Nat.zero_le _⟩
theorem swa_cons {d : PyData} {ds : List PyData} {b B k : Nat} (h : Sw d b k) (g : SwA ds B k) : SwA (d :: ds) (b + B + 1) k := by
  obtain ⟨a1, a2, a3, a4, a5⟩ := h
  obtain ⟨b1, b2, b3, b4, b5⟩ := g
  refine ⟨?_, ?_, ?_, ?_, ?_⟩
  · simp only [PyData.showableAll, a1, b1, Bool.and_self]
  · simp only [PyData.hasDictAll, a2, b2, Bool.or_self]
  · simp only [PyData.leavesShortAll, a3, b3, Bool.and_self]
  · simp only [PyData.bulkAll]
    omega
  · simp only [PyData.depthAll]
    omega
theorem sw_tup {ds : List PyData} {b k : Nat} (h : SwA ds b k) : Sw (.tuple ds) b (k + 1) := by
  obtain ⟨b1, b2, b3, b4, b5⟩ := h
  refine ⟨b1, b2, b3, b4, ?_⟩
  show PyData.depthAll ds + 1 ≤ k + 1
  omega
theorem sw_lst {ds : List PyData} {b k : Nat} (h : SwA ds b k) : Sw (.list ds) b (k + 1) := by
  obtain ⟨b1, b2, b3, b4, b5⟩ := h
  refine ⟨b1, b2, b3, b4, ?_⟩
  show PyData.depthAll ds + 1 ≤ k + 1
  omega
theorem Sw.mono {d : PyData} {b k b' k' : Nat} (h : Sw d b k) (hb : b ≤ b') (hk : k ≤ k') : Sw d b' k' := ⟨h.sh, h.nd, h.lv, Nat.le_trans h.bk hb, Nat.le_trans h.dp hk⟩
theorem SwA.mono {d : List PyData} {b k b' k' : Nat} (h : SwA d b k) (hb : b ≤ b') (hk : k ≤ k') : SwA d b' k' := ⟨h.sh, h.nd, h.lv, Nat.le_trans h.bk hb, Nat.le_trans h.dp hk⟩
theorem sw_lf {v : V} (h : Lf v) : Sw (lfD v) 4 0 := by
  obtain ⟨a1, a2, a3, a4, a5⟩ := h.sh
  exact ⟨a1, a2, a4, a5, by rw [a3]; exact Nat.le_refl _⟩
theorem Sw.rp {K : PySem.W.Frag} {H : Hp} {a : Addr} {d : PyData} {b k : Nat} (h : Sw d b k) (hd : Dp K H (.ref a) d) (hb : b ≤ 60) (hk : k ≤ 60) : Rp K H (.ref a) d.shown :=
  .dat hd h.sh h.nd (Nat.le_trans h.dp hk) (shown_fits h.lv (Nat.le_trans h.bk hb))
end Nc
end
section
set_option maxRecDepth 100000
set_option maxHeartbeats 4000000
namespace Nc
open PySem PySem.Spec PyProof.Rows L2 Evl
/-! ### what is shown, an empty dict within a pair too -/
inductive Rp2 (K : PySem.W.Frag) (H : Hp) : V → Str → Prop
  | old {v x} (h : Rp K H v x) : Rp2 K H v x
  | tag {t a : Addr} {y : Str} (q : SqT K H t [.str y, .ref a]) (e : H a = some (.dK [])) (n : (PyData.tuple [.str y, .dict []]).shown.length ≤ sizeLine) (m : (PyData.tuple [.str y, .dict []]).showable = true) : Rp2 K H (.ref t) (PyData.tuple [.str y, .dict []]).shown
def rRp2 (K : PySem.W.Frag) : List V → Hp → VK → Prop := fun vs H Q => ∃ v x, vs = [v] ∧ Rp2 K H v x ∧ Q (.str x) H
theorem room2 {u : Nat} {y : Str} (hu : u + 64 < cLine) : u + ((PyData.tuple [.str y, .dict []]).depth + 1) < cLine := by
  have : (PyData.tuple [.str y, .dict []]).depth ≤ 3 := by
    have e : (PyData.tuple [.str y, .dict []]).depth = (PyData.tuple [.str ("" : Str), .dict []]).depth := rfl
    rw [e]
    decide
  omega
theorem call_rp2 {X : Cx} (hG : X.A.guards = some []) (hu : X.A.units + 64 < cLine) : CallR X (.builtin "repr") (rRp2 X.K) := by
  intro pins s σ H xs us Q I r h
  obtain ⟨v, x, rfl, h, q⟩ := h
  cases h with
  | old h => exact call_rp hG hu pins s σ H _ us Q I r ⟨_, _, rfl, h, q⟩
  | @tag t a y hq he hn hm =>
    obtain ⟨u, rfl, rx⟩ := vals1 r
    cases (show u = Value.ref t from rx)
    obtain ⟨its, rv, ⟨o1, g1, c1, n1, d1⟩, _⟩ := I.tuple hq
    obtain ⟨_, ya, va, ra, o, es, ep, h1, h2, h3, h4⟩ := (show ObjOk X.prog X.w H s.heap a (.dK []) from I.hok a _ he)
    cases ra
    have hes : es.toList = [] := by
      have hp := h4.2.1
      generalize es.toList = l at hp
      cases hp
      rfl
    have R : Reads s.heap (.ref a) (.dict []) ([a] ++ [] ++ []) := by
      refine Reads.dict h1 h2.1 h3 ?_ ?_
      · rw [hes]
        exact .nil
      · rw [hes]
        exact .nil
    cases rv with
    | @cons _ u1 _ us1 r1 rest =>
      cases rest with
      | @cons _ u2 _ us2 r2 rest =>
        cases rest
        obtain ⟨t1, rfl⟩ := r1
        cases (show u2 = Value.ref a from r2)
        have R2 : Reads s.heap (.ref t) (.tuple [.str y, .dict []]) ([] ++ (([a] ++ [] ++ []) ++ [])) := Reads.tuple g1 c1 d1 (.cons (Reads.str y t1) (.cons R .nil))
        refine repr_of_reads' R2 hm (fun _ hmm => ?_) hG (room2 hu) (fun _ _ z => z) (fun h' u tk kp => ⟨.str _, H, I.kept (t' := tk) kp, ⟨u, rfl⟩, q⟩) hn
        simp only [List.append_nil, List.nil_append, List.mem_singleton] at hmm
        subst hmm
        simp at ya
/-! ### lists of small data -/
theorem dz_els {K : PySem.W.Frag} {s : Addr} {H : Hp} {b k : Nat} : ∀ {ys : List V}, (∀ x ∈ ys, ∃ d, Dz K s H x d ∧ Sw d b k) → ∃ ds, DzA K s H ys ds ∧ SwA ds ((b + 1) * ys.length) k
  | [], _ => ⟨[], .nil, swa_nil k⟩
  | y :: ys, h => by
    obtain ⟨d, h1, h2⟩ := h y (by simp)
    obtain ⟨ds, g1, g2⟩ := dz_els (ys := ys) fun z hz => h z (by simp [hz])
    refine ⟨d :: ds, .cons h1 g1, (swa_cons h2 g2).mono ?_ (Nat.le_refl _)⟩
    rw [List.length_cons, Nat.mul_add (b + 1) ys.length 1]
    omega
theorem dz_tup {K : PySem.W.Frag} {s t : Addr} {H : Hp} {b k c : Nat} {ys : List V} (q : SqT K H t ys) (h : ∀ x ∈ ys, ∃ d, Dz K s H x d ∧ Sw d b k) (hc : (b + 1) * ys.length ≤ c) : ∃ d, Dz K s H (.ref t) d ∧ Sw d c (k + 1) := by
  obtain ⟨ds, h1, h2⟩ := dz_els h
  exact ⟨_, .tup q h1, (sw_tup h2).mono hc (Nat.le_refl _)⟩
theorem dz_lst {K : PySem.W.Frag} {s t : Addr} {H : Hp} {b k c : Nat} {ys : List V} (q : H t = some (.lst ys)) (n : t ≠ s) (h : ∀ x ∈ ys, ∃ d, Dz K s H x d ∧ Sw d b k) (hc : (b + 1) * ys.length ≤ c) : ∃ d, Dz K s H (.ref t) d ∧ Sw d c (k + 1) := by
  obtain ⟨ds, h1, h2⟩ := dz_els h
  exact ⟨_, .lst n q h1, (sw_lst h2).mono hc (Nat.le_refl _)⟩
theorem dz_mono {K : PySem.W.Frag} {s : Addr} {H : Hp} {v : V} {b k b' k' : Nat} (h : ∃ d, Dz K s H v d ∧ Sw d b k) (hb : b ≤ b') (hk : k ≤ k') : ∃ d, Dz K s H v d ∧ Sw d b' k' := by
  obtain ⟨d, h1, h2⟩ := h
  exact ⟨d, h1, h2.mono hb hk⟩
theorem sw_int {i : Int} (h : i.natAbs < 2 ^ 250) : Sw (.int i) 0 0 := by
  obtain ⟨a1, a2, a3, a4, a5⟩ := (Lf.int i h).sh
  exact ⟨a1, a2, a4, Nat.le_refl 0, Nat.le_refl 0⟩
theorem dz_fr {K : PySem.W.Frag} {s : Addr} {H : Hp} {v : V} {r : Rat} (h : FrV K H v r) (z : Sz 250 250 r) : ∃ d, Dz K s H v d ∧ Sw d 2 1 := by
  obtain ⟨t, rfl, q⟩ := h
  exact dz_tup q (b := 0) (k := 0) (fun x hx => by
    simp only [List.mem_cons, List.not_mem_nil, or_false] at hx
    rcases hx with rfl | rfl
    · exact ⟨_, .int _, sw_int z.1⟩
    · exact ⟨_, .int _, sw_int z.den⟩) (by show (0 + 1) * 2 ≤ 2; decide)
/-- data small enough to be shown, or an empty dict -/
def Shv (K : PySem.W.Frag) (s : Addr) (H : Hp) (v : V) : Prop := (∃ d, Dz K s H v d ∧ Sw d 50 4) ∨ ∃ a, v = .ref a ∧ H a = some (.dK [])
theorem Shv.ex {K : PySem.W.Frag} {s : Addr} {H H' : Hp} {v : V} (e : Ex H H') (h : Shv K s H v) : Shv K s H' v := by
  rcases h with ⟨d, h1, h2⟩ | ⟨a, h1, h2⟩
  · exact .inl ⟨d, Dz.ex e d v h1, h2⟩
  · exact .inr ⟨a, h1, e _ _ h2⟩
theorem Shv.dk {K : PySem.W.Frag} {s : Addr} {H H' : Hp} {v : V} (h0 : Lst s H) (r : Dk s H H') (h : Shv K s H v) : Shv K s H' v := by
  rcases h with ⟨d, h1, h2⟩ | ⟨a, h1, h2⟩
  · exact .inl ⟨d, Dz.dk h0 r d v h1, h2⟩
  · refine .inr ⟨a, h1, r.keep _ _ (fun z => ?_) h2⟩
    obtain ⟨xs, e⟩ := h0
    rw [z, e] at h2
    cases h2
end Nc
end
section
set_option maxRecDepth 100000
set_option maxHeartbeats 4000000
namespace Nc
open PySem PySem.Spec PyProof.Rows L2 Evl
/-! ### a list != [] -/
def rNeNil (K : PySem.W.Frag) : R2 := fun x y H Q => ∃ a b xs, x = .ref a ∧ y = .ref b ∧ SqL K H a xs ∧ SqL K H b [] ∧ Q (.bl (!xs.isEmpty)) H
theorem op_neNil {X : Cx} (hu : X.A.units + 64 < cLine) : OpR X (compareOp .NotEq) (rNeNil X.K) := by
  intro pins s σ H x y v u Q I rx ry h
  obtain ⟨a, b, xs, rfl, rfl, ha, hb, q⟩ := h
  cases rx
  cases ry
  obtain ⟨its, r1, p1, _⟩ := I.list ha
  obtain ⟨its2, r2, p2, _⟩ := I.list hb
  cases r2
  cases r1 with
  | nil =>
    refine SeqAt.RcNeAt.lists (e := fun _ => true) p1.isList p2.isList rfl (by omega) (fun j h1 _ => absurd h1 (Nat.not_lt_zero j)) _ _ _ _ ?_
    exact ⟨.bl false, H, I, rfl, q⟩
  | cons h1 h2 =>
    refine SeqAt.RcNeAt.lists_lengths p1.isList p2.isList (by simp) (by omega) _ _ _ _ ?_
    exact ⟨.bl true, H, I, rfl, q⟩
/-! ### what a comprehension with an `if` keeps: whether it is none -/
def Kp (c : Nat → Bool) (H0 : Hp) (G : Addr) (j : Nat) (H' : Hp) : Prop := Ex H0 H' ∧ ∃ ys : List V, H' G = some (.lst ys) ∧ ys.length ≤ j ∧ ys.isEmpty = (List.range j).all fun i => !c i
theorem kp0 {c : Nat → Bool} {H0 : Hp} {G : Addr} (hG : H0 G = none) : Kp c H0 G 0 (upd H0 G (.lst [])) := ⟨Ex.new hG, [], upd_same, Nat.le_refl _, rfl⟩
theorem kp_miss {c : Nat → Bool} {H0 H' H2 : Hp} {G : Addr} {j : Nat} (b : Kp c H0 G j H') (e : Ex H' H2) (hc : c j = false) : Kp c H0 G (j + 1) H2 := by
  obtain ⟨e0, ys, k, l, h⟩ := b
  refine ⟨e0.trans e, ys, e _ _ k, by omega, ?_⟩
  rw [h, List.range_succ, List.all_append]
  show _ = (_ && (!c j && true))
  rw [hc]
  simp
theorem kp_hit {c : Nat → Bool} {H0 H' H2 : Hp} {G : Addr} {j : Nat} {v : V} (hG : H0 G = none) (b : Kp c H0 G j H') (e : Ex H' H2) (hc : c j = true) (hj : j < 1000) : ∃ xs, H2 G = some (.lst xs) ∧ xs.length < sizeLine ∧ Kp c H0 G (j + 1) (upd H2 G (.lst (xs ++ [v]))) := by
  obtain ⟨e0, ys, k, l, h⟩ := b
  refine ⟨ys, e _ _ k, sz_lt (by omega), Ex.mut (e0.trans e) hG, ys ++ [v], upd_same, by rw [List.length_append]; show _ + 1 ≤ _; omega, ?_⟩
  rw [List.range_succ, List.all_append]
  show _ = (_ && (!c j && true))
  rw [hc]
  simp
theorem kp_end {c : Nat → Bool} {H0 H' : Hp} {G : Addr} {j : Nat} {b : Bool} (h : Kp c H0 G j H') (hb : ((List.range j).all fun i => !c i) = b) : Ex H0 H' ∧ ∃ ys : List V, H' G = some (.lst ys) ∧ ys.isEmpty = b := by
  obtain ⟨e0, ys, k, l, h⟩ := h
  exact ⟨e0, ys, k, by rw [h, hb]⟩
/-- over truths: none is kept if all hold -/
theorem range_all {bs : List Bool} {c : Nat → Bool} (h : ∀ i b, bs[i]? = some b → c i = !b) : ((List.range bs.length).all fun i => !c i) = bs.all id := by
  induction bs generalizing c with
  | nil => rfl
  | cons b bs ih =>
    rw [List.length_cons, List.range_succ_eq_map, List.all_cons, List.all_cons, List.all_map]
    have h0 := h 0 b rfl
    have h1 := ih (c := fun i => c (i + 1)) fun i x hx => h (i + 1) x hx
    rw [h0]
    show (!!b && (List.range bs.length).all fun i => !c (i + 1)) = _
    rw [h1, Bool.not_not]
    rfl
/-! ### sizes of what is shown -/
theorem shown_fits2 {d : PyData} (h : d.leavesShort 92 = true) (hb : d.bulk ≤ 900) : d.shown.length ≤ sizeLine := by
  have h1 := PyData.shown_le_bulk 92 (by decide) d h
  have h2 : (92 + 2) * d.bulk + 92 ≤ 90000 := by omega
  have h3 : 90000 ≤ sizeLine := by decide
  omega
theorem Sw.rp2 {K : PySem.W.Frag} {H : Hp} {a : Addr} {d : PyData} {b k : Nat} (h : Sw d b k) (hd : Dp K H (.ref a) d) (hb : b ≤ 900) (hk : k ≤ 60) : Rp K H (.ref a) d.shown :=
  .dat hd h.sh h.nd (Nat.le_trans h.dp hk) (shown_fits2 h.lv (Nat.le_trans h.bk hb))
/-! data of tuples, whole numbers and empty dicts -/
mutual
inductive Dt (K : PySem.W.Frag) (H : Hp) : V → PyData → Prop
  | non : Dt K H .non .none
  | bl (b : Bool) : Dt K H (.bl b) (.bool b)
  | int (i : Int) : Dt K H (.int i) (.int i)
  | str (x : Str) : Dt K H (.str x) (.str x)
  | dic {a : Addr} : H a = some (.dK []) → Dt K H (.ref a) (.dict [])
  | tup {a : Addr} {xs : List V} {ds : List PyData} : SqT K H a xs → DtA K H xs ds → Dt K H (.ref a) (.tuple ds)
inductive DtA (K : PySem.W.Frag) (H : Hp) : List V → List PyData → Prop
  | nil : DtA K H [] []
  | cons {v : V} {vs : List V} {d : PyData} {ds : List PyData} : Dt K H v d → DtA K H vs ds → DtA K H (v :: vs) (d :: ds)
end
section
variable {K : PySem.W.Frag} {s : Addr} {H H' : Hp}
mutual
theorem Dt.ex (r : Ex H H') : ∀ (d : PyData) (v : V), Dt K H v d → Dt K H' v d
  | .none, _, h => by cases h; exact .non
  | .bool b, _, h => by cases h; exact .bl b
  | .int i, _, h => by cases h; exact .int i
  | .str x, _, h => by cases h; exact .str x
  | .list ds, _, h => by cases h
  | .tuple ds, _, h => by
    cases h with
    | tup q p => exact .tup (ex_t r q) (DtA.ex r ds _ p)
  | .dict _, _, h => by
    cases h with
    | dic q => exact .dic (r _ _ q)
theorem DtA.ex (r : Ex H H') : ∀ (ds : List PyData) (vs : List V), DtA K H vs ds → DtA K H' vs ds
  | [], _, h => by cases h; exact .nil
  | d :: ds, _, h => by
    cases h with
    | cons p q => exact .cons (Dt.ex r d _ p) (DtA.ex r ds _ q)
end
mutual
theorem Dt.dk (h0 : Lst s H) (r : Dk s H H') : ∀ (d : PyData) (v : V), Dt K H v d → Dt K H' v d
  | .none, _, h => by cases h; exact .non
  | .bool b, _, h => by cases h; exact .bl b
  | .int i, _, h => by cases h; exact .int i
  | .str x, _, h => by cases h; exact .str x
  | .list ds, _, h => by cases h
  | .tuple ds, _, h => by
    cases h with
    | tup q p => exact .tup (sqt_dk h0 r q) (DtA.dk h0 r ds _ p)
  | .dict _, _, h => by
    cases h with
    | dic q =>
      refine .dic (r.keep _ _ (fun z => ?_) q)
      obtain ⟨xs, e⟩ := h0
      rw [z, e] at q
      cases q
theorem DtA.dk (h0 : Lst s H) (r : Dk s H H') : ∀ (ds : List PyData) (vs : List V), DtA K H vs ds → DtA K H' vs ds
  | [], _, h => by cases h; exact .nil
  | d :: ds, _, h => by
    cases h with
    | cons p q => exact .cons (Dt.dk h0 r d _ p) (DtA.dk h0 r ds _ q)
end
end
section
variable {X : Cx} {pins : List (Addr × Obj)} {σ : L2.St} {H : Hp} {s : Shared}
mutual
theorem Dt.reads (I : L2.Inv X pins σ H s) : ∀ (d : PyData) (v : V) (u : Value), Dt X.K H v d → RelV v u → ∃ as, Reads s.heap u d as ∧ sysModules ∉ as
  | .none, _, _, h, r => by
    cases h
    cases r
    exact ⟨_, Reads.none, by simp⟩
  | .bool b, _, _, h, r => by
    cases h
    cases r
    exact ⟨_, Reads.bool b, by simp⟩
  | .int i, _, _, h, r => by
    cases h
    obtain ⟨t, rfl⟩ := r
    exact ⟨_, Reads.int i t, by simp⟩
  | .str x, _, _, h, r => by
    cases h
    obtain ⟨t, rfl⟩ := r
    exact ⟨_, Reads.str x t, by simp⟩
  | .list ds, _, _, h, _ => by cases h
  | .tuple ds, _, _, h, r => by
    cases h with
    | tup hs ha =>
      cases r
      obtain ⟨its, rv, ⟨o, ho, hc, n, hd⟩, _⟩ := I.tuple hs
      obtain ⟨as, hr, hn⟩ := DtA.readsAll I ds _ its ha rv
      exact ⟨_, Reads.tuple ho hc hd hr, hn⟩
  | .dict _, _, _, h, r => by
    cases h with
    | @dic a he =>
      cases r
      obtain ⟨_, ya, va, ra, o, es, ep, h1, h2, h3, h4⟩ := (show ObjOk X.prog X.w H s.heap a (.dK []) from I.hok a _ he)
      cases ra
      have hes : es.toList = [] := by
        have hp := h4.2.1
        generalize es.toList = l at hp
        cases hp
        rfl
      have R : Reads s.heap (.ref a) (.dict []) ([a] ++ [] ++ []) := by
        refine Reads.dict h1 h2.1 h3 ?_ ?_
        · rw [hes]
          exact .nil
        · rw [hes]
          exact .nil
      refine ⟨_, R, fun hm => ?_⟩
      simp only [List.append_nil, List.mem_singleton] at hm
      subst hm
      simp at ya
theorem DtA.readsAll (I : L2.Inv X pins σ H s) : ∀ (ds : List PyData) (vs : List V) (us : List Value), DtA X.K H vs ds → Vals vs us → ∃ as, ReadsAll s.heap us ds as ∧ sysModules ∉ as
  | [], _, _, h, r => by
    cases h
    cases r
    exact ⟨[], .nil, by simp⟩
  | d :: ds, _, _, h, r => by
    cases h with
    | cons p q =>
      cases r with
      | cons r1 r2 =>
        obtain ⟨as, h1, n1⟩ := Dt.reads I d _ _ p r1
        obtain ⟨bs, h2, n2⟩ := DtA.readsAll I ds _ _ q r2
        exact ⟨_, .cons h1 h2, fun hm => (List.mem_append.mp hm).elim n1 n2⟩
end
end
/-- sizes, dicts too -/
structure Sx (d : PyData) (b k : Nat) : Prop where
  sh : d.showable = true
  lv : d.leavesShort 92 = true
  bk : d.bulk ≤ b
  dp : d.depth ≤ k
structure SxA (ds : List PyData) (b k : Nat) : Prop where
  sh : PyData.showableAll ds = true
  lv : PyData.leavesShortAll 92 ds = true
  bk : PyData.bulkAll ds ≤ b
  dp : PyData.depthAll ds ≤ k
theorem sxa_nil (k : Nat) : SxA [] 0 k := ⟨rfl, rfl, Nat.le_refl _, Nat.zero_le _⟩
theorem sxa_cons {d : PyData} {ds : List PyData} {b B k : Nat} (h : Sx d b k) (g : SxA ds B k) : SxA (d :: ds) (b + B + 1) k := by
  obtain ⟨a1, a3, a4, a5⟩ := h
  obtain ⟨b1, b3, b4, b5⟩ := g
  refine ⟨?_, ?_, ?_, ?_⟩
  · simp only [PyData.showableAll, a1, b1, Bool.and_self]
  · simp only [PyData.leavesShortAll, a3, b3, Bool.and_self]
  · simp only [PyData.bulkAll]
    omega
  · simp only [PyData.depthAll]
    omega
theorem sx_tup {ds : List PyData} {b k : Nat} (h : SxA ds b k) : Sx (.tuple ds) b (k + 1) := by
  obtain ⟨b1, b3, b4, b5⟩ := h
  refine ⟨b1, b3, b4, ?_⟩
  show PyData.depthAll ds + 1 ≤ k + 1
  omega
theorem sx_lst {ds : List PyData} {b k : Nat} (h : SxA ds b k) : Sx (.list ds) b (k + 1) := by
  obtain ⟨b1, b3, b4, b5⟩ := h
  refine ⟨b1, b3, b4, ?_⟩
  show PyData.depthAll ds + 1 ≤ k + 1
  omega
theorem Sx.mono {d : PyData} {b k b' k' : Nat} (h : Sx d b k) (hb : b ≤ b') (hk : k ≤ k') : Sx d b' k' := ⟨h.sh, h.lv, Nat.le_trans h.bk hb, Nat.le_trans h.dp hk⟩
theorem Sw.sx {d : PyData} {b k : Nat} (h : Sw d b k) : Sx d b k := ⟨h.sh, h.lv, h.bk, h.dp⟩
theorem sx_dic : Sx (.dict []) 0 2 := ⟨by decide, by decide, by decide, by decide⟩
/-- data small enough to be shown, without dicts, or without lists -/
def Shw (K : PySem.W.Frag) (s : Addr) (H : Hp) (v : V) : Prop := (∃ d, Dz K s H v d ∧ Sw d 500 6) ∨ ∃ d, Dt K H v d ∧ Sx d 500 6
theorem Shw.ex {K : PySem.W.Frag} {s : Addr} {H H' : Hp} {v : V} (e : Ex H H') (h : Shw K s H v) : Shw K s H' v := by
  rcases h with ⟨d, h1, h2⟩ | ⟨d, h1, h2⟩
  · exact .inl ⟨d, Dz.ex e d v h1, h2⟩
  · exact .inr ⟨d, Dt.ex e d v h1, h2⟩
def tLstN (t : TA) : TE := fun σ H Q => t σ H fun xs H1 => xs.length ≤ sizeLine ∧ ∀ p H2, H1 p = none → (p == sysModules) = false → Ex H1 H2 → H2 p = some (.lst xs) → Q (.ref p) H2
theorem pe_lstN {X : Cx} {es : List Expr} {t : TA} {pos : Pos} (h : PA X es t) : PE X (.List es pos) (tLstN t) := by
  constructor
  intro pins s σ H Q I hq
  refine wpAny_List_spliced (thn (h.run _ pins s σ H _ I hq) ?_)
  rintro us s2 ⟨vs, H2, J, rv, sz, k⟩
  have fr := J.fresh
  have hm : (s2.heap.objs.size == sysModules) = false := beq_eq_false_iff_ne.mpr (Nat.ne_of_gt J.big)
  refine ⟨rv.length ▸ sz, .ref _, _, J.laid (o := .lst vs) (t' := s2.toks) (fun _ _ => Heap.get?_push_of_some _) (Nat.le_refl _) ⟨sz, us, 0, rv, Heap.get?_push_size _ rfl⟩, rfl, k _ _ fr hm (Ex.new fr) upd_same⟩
/-- repr, a list of an empty dict too -/
inductive Rp3 (K : PySem.W.Frag) (H : Hp) : V → Str → Prop
  | old {v x} (h : Rp K H v x) : Rp3 K H v x
  | one {t : Addr} {v : V} {d : PyData} (q : H t = some (.lst [v])) (n : (t == sysModules) = false) (e : Dt K H v d) (z : Sx (.list [d]) 800 20) : Rp3 K H (.ref t) (PyData.list [d]).shown
def rRp3 (K : PySem.W.Frag) : List V → Hp → VK → Prop := fun vs H Q => ∃ v x, vs = [v] ∧ Rp3 K H v x ∧ Q (.str x) H
theorem call_rp3 {X : Cx} (hG : X.A.guards = some []) (hu : X.A.units + 64 < cLine) : CallR X (.builtin "repr") (rRp3 X.K) := by
  intro pins s σ H xs us Q I r h
  obtain ⟨v, x, rfl, h, q⟩ := h
  cases h with
  | old h => exact call_rp hG hu pins s σ H _ us Q I r ⟨_, _, rfl, h, q⟩
  | @one t v d hq yt he z =>
    obtain ⟨u, rfl, rx⟩ := vals1 r
    cases (show u = Value.ref t from rx)
    obtain ⟨its, rv, ⟨o1, n1, g1, c1, _, d1⟩, _⟩ := I.list (sq_of hq)
    obtain ⟨as, R, hn⟩ := DtA.readsAll I [d] _ _ (.cons he .nil) rv
    have hroom : X.A.units + ((PyData.list [d]).depth + 1) < cLine := by
      have := z.dp
      omega
    refine repr_of_reads' (Reads.list g1 c1 d1 R) z.sh (fun _ hmm => ?_) hG hroom (fun _ _ z => z) (fun h' u tk kp => ⟨.str _, H, I.kept (t' := tk) kp, ⟨u, rfl⟩, q⟩) (shown_fits2 z.lv (Nat.le_trans z.bk (by decide)))
    rcases List.mem_cons.mp hmm with hmm | hmm
    · rw [← hmm] at yt
      simp at yt
    · exact hn hmm
theorem shw_rp {K : PySem.W.Frag} {s : Addr} {H : Hp} {v : V} (h : Shw K s H v) : ∃ x, ∀ t H', Ex H H' → H' t = some (.lst [v]) → (t == sysModules) = false → Rp3 K H' (.ref t) x := by
  rcases h with ⟨d, h1, h2⟩ | ⟨d, h1, h2⟩
  · exact ⟨(PyData.list [d]).shown, fun t H' e q _ => .old (Sw.rp2 (b := 600) (k := 20) ((sw_lst (swa_cons h2 (swa_nil 6))).mono (by decide) (by decide)) (.lst (sq_of q) (.cons (Dz.dp _ _ (Dz.ex e d v h1)) .nil)) (by decide) (by decide))⟩
  · exact ⟨(PyData.list [d]).shown, fun t H' e q n => .one q n (Dt.ex e d v h1) ((sx_lst (sxa_cons h2 (sxa_nil 6))).mono (by decide) (by decide))⟩
end Nc
end
section
set_option maxRecDepth 100000
set_option maxHeartbeats 400000
namespace K30
open PySem Evl Nc PyProof.Rows
open L2 hiding spCell
/-! ### the text -/
def topS (i : Nat) : Stmt := PySem.Challenge.pw_noughtcut_k30_no_boxes.main.body.getD i (.Pass ⟨0, 0, 0, 0⟩)
abbrev s__wall : Stmt := topS 1
theorem sc__wall : FnScope ["k"] ["k"] (defScope s__wall) := ⟨rfl, rfl, rfl, by decide +kernel, rfl, by decide +kernel, by decide +kernel⟩
abbrev s_is_whole : Stmt := topS 10
theorem sc_is_whole : FnScope ["thing"] ["thing"] (defScope s_is_whole) := ⟨rfl, rfl, rfl, by decide +kernel, rfl, by decide +kernel, by decide +kernel⟩
abbrev s_is_fraction : Stmt := topS 11
theorem sc_is_fraction : FnScope ["thing", "top", "bottom"] ["thing"] (defScope s_is_fraction) := ⟨rfl, rfl, rfl, by decide +kernel, rfl, by decide +kernel, by decide +kernel⟩
abbrev s_is_row : Stmt := topS 12
theorem sc_is_row : FnScope ["thing", "many", "part"] ["thing", "many"] (defScope s_is_row) := ⟨rfl, rfl, rfl, by decide +kernel, rfl, by decide +kernel, by decide +kernel⟩
abbrev s_fraction_of : Stmt := topS 13
theorem sc_fraction_of : FnScope ["top", "bottom", "shared"] ["top", "bottom"] (defScope s_fraction_of) := ⟨rfl, rfl, rfl, by decide +kernel, rfl, by decide +kernel, by decide +kernel⟩
abbrev s_plus : Stmt := topS 14
theorem sc_plus : FnScope ["one", "other"] ["one", "other"] (defScope s_plus) := ⟨rfl, rfl, rfl, by decide +kernel, rfl, by decide +kernel, by decide +kernel⟩
abbrev s_minus : Stmt := topS 15
theorem sc_minus : FnScope ["one", "other"] ["one", "other"] (defScope s_minus) := ⟨rfl, rfl, rfl, by decide +kernel, rfl, by decide +kernel, by decide +kernel⟩
abbrev s_times : Stmt := topS 16
theorem sc_times : FnScope ["one", "other"] ["one", "other"] (defScope s_times) := ⟨rfl, rfl, rfl, by decide +kernel, rfl, by decide +kernel, by decide +kernel⟩
abbrev s_ratio : Stmt := topS 17
theorem sc_ratio : FnScope ["one", "other"] ["one", "other"] (defScope s_ratio) := ⟨rfl, rfl, rfl, by decide +kernel, rfl, by decide +kernel, by decide +kernel⟩
abbrev s_is_less : Stmt := topS 18
theorem sc_is_less : FnScope ["one", "other"] ["one", "other"] (defScope s_is_less) := ⟨rfl, rfl, rfl, by decide +kernel, rfl, by decide +kernel, by decide +kernel⟩
abbrev s_cut_at_nought : Stmt := topS 19
theorem sc_cut_at_nought : FnScope ["one"] ["one"] (defScope s_cut_at_nought) := ⟨rfl, rfl, rfl, by decide +kernel, rfl, by decide +kernel, by decide +kernel⟩
abbrev s_weigh : Stmt := topS 20
theorem sc_weigh : FnScope ["row", "other", "total", "one", "by"] ["row", "other"] (defScope s_weigh) := ⟨rfl, rfl, rfl, by decide +kernel, rfl, by decide +kernel, by decide +kernel⟩
abbrev s_is_sum : Stmt := topS 22
theorem sc_is_sum : FnScope ["thing", "many", "row", "number"] ["thing", "many"] (defScope s_is_sum) := ⟨rfl, rfl, rfl, by decide +kernel, rfl, by decide +kernel, by decide +kernel⟩
abbrev s_sum_at : Stmt := topS 24
theorem sc_sum_at : FnScope ["one", "row", "weights", "number"] ["one", "row"] (defScope s_sum_at) := ⟨rfl, rfl, rfl, by decide +kernel, rfl, by decide +kernel, by decide +kernel⟩
abbrev s_sum_plus : Stmt := topS 25
theorem sc_sum_plus : FnScope ["one", "other", "row", "mine", "its"] ["one", "other"] (defScope s_sum_plus) := ⟨rfl, rfl, rfl, by decide +kernel, rfl, by decide +kernel, by decide +kernel⟩
abbrev s_sum_times : Stmt := topS 26
theorem sc_sum_times : FnScope ["by", "one", "weights", "number", "weight"] ["by", "one"] (defScope s_sum_times) := ⟨rfl, rfl, rfl, by decide +kernel, rfl, by decide +kernel, by decide +kernel⟩
abbrev s_flat_sum : Stmt := topS 27
theorem sc_flat_sum : FnScope ["many", "number"] ["many", "number"] (defScope s_flat_sum) := ⟨rfl, rfl, rfl, by decide +kernel, rfl, by decide +kernel, by decide +kernel⟩
abbrev s_place_sum : Stmt := topS 28
theorem sc_place_sum : FnScope ["many", "place", "at"] ["many", "place"] (defScope s_place_sum) := ⟨rfl, rfl, rfl, by decide +kernel, rfl, by decide +kernel, by decide +kernel⟩
abbrev s_is_box : Stmt := topS 31
theorem sc_is_box : FnScope ["thing", "part"] ["thing"] (defScope s_is_box) := ⟨rfl, rfl, rfl, by decide +kernel, rfl, by decide +kernel, by decide +kernel⟩
abbrev s_least_of : Stmt := topS 32
theorem sc_least_of : FnScope ["box", "one", "spot"] ["box", "one"] (defScope s_least_of) := ⟨rfl, rfl, rfl, by decide +kernel, rfl, by decide +kernel, by decide +kernel⟩
abbrev s_greatest_of : Stmt := topS 33
theorem sc_greatest_of : FnScope ["box", "one", "spot"] ["box", "one"] (defScope s_greatest_of) := ⟨rfl, rfl, rfl, by decide +kernel, rfl, by decide +kernel, by decide +kernel⟩
abbrev s_low_corner : Stmt := topS 34
theorem sc_low_corner : FnScope ["one", "weight"] ["one"] (defScope s_low_corner) := ⟨rfl, rfl, rfl, by decide +kernel, rfl, by decide +kernel, by decide +kernel⟩
abbrev s_high_corner : Stmt := topS 35
theorem sc_high_corner : FnScope ["one", "weight"] ["one"] (defScope s_high_corner) := ⟨rfl, rfl, rfl, by decide +kernel, rfl, by decide +kernel, by decide +kernel⟩
abbrev s_spot_at : Stmt := topS 36
theorem sc_spot_at : FnScope ["spans", "corner", "span", "end"] ["spans", "corner"] (defScope s_spot_at) := ⟨rfl, rfl, rfl, by decide +kernel, rfl, by decide +kernel, by decide +kernel⟩
abbrev s_check_box : Stmt := topS 37
theorem sc_check_box : FnScope ["thing"] ["thing"] (defScope s_check_box) := ⟨rfl, rfl, rfl, by decide +kernel, rfl, by decide +kernel, by decide +kernel⟩
abbrev s_check_box_over : Stmt := topS 38
theorem sc_check_box_over : FnScope ["thing", "many"] ["thing", "many"] (defScope s_check_box_over) := ⟨rfl, rfl, rfl, by decide +kernel, rfl, by decide +kernel, by decide +kernel⟩
abbrev s__check_sum : Stmt := topS 39
theorem sc__check_sum : FnScope ["box", "one"] ["box", "one"] (defScope s__check_sum) := ⟨rfl, rfl, rfl, by decide +kernel, rfl, by decide +kernel, by decide +kernel⟩
abbrev s__is_span : Stmt := topS 40
theorem sc__is_span : FnScope ["thing"] ["thing"] (defScope s__is_span) := ⟨rfl, rfl, rfl, by decide +kernel, rfl, by decide +kernel, by decide +kernel⟩
abbrev s_handed_on : Stmt := topS 42
theorem sc_handed_on : FnScope ["net", "box", "found", "spans", "nodes", "bounds", "node", "bound"] ["net", "box"] (defScope s_handed_on) := ⟨rfl, rfl, rfl, by decide +kernel, rfl, by decide +kernel, by decide +kernel⟩
abbrev s_states_of : Stmt := topS 43
theorem sc_states_of : FnScope ["net", "box", "bounds", "bound"] ["net", "box"] (defScope s_states_of) := ⟨rfl, rfl, rfl, by decide +kernel, rfl, by decide +kernel, by decide +kernel⟩
abbrev s__bounds : Stmt := topS 44
theorem sc__bounds : FnScope ["node", "spans", "below", "above"] ["node", "spans"] (defScope s__bounds) := ⟨rfl, rfl, rfl, by decide +kernel, rfl, by decide +kernel, by decide +kernel⟩
abbrev s__state : Stmt := topS 45
theorem sc__state : FnScope ["low", "high"] ["low", "high"] (defScope s__state) := ⟨rfl, rfl, rfl, by decide +kernel, rfl, by decide +kernel, by decide +kernel⟩
abbrev s__reckoned : Stmt := topS 49
theorem sc__reckoned : FnScope ["nodes", "ahead", "node"] ["nodes", "ahead"] (defScope s__reckoned) := ⟨rfl, rfl, rfl, by decide +kernel, rfl, by decide +kernel, by decide +kernel⟩
abbrev s__are_ins : Stmt := topS 55
theorem sc__are_ins : FnScope ["thing"] ["thing"] (defScope s__are_ins) := ⟨rfl, rfl, rfl, by decide +kernel, rfl, by decide +kernel, by decide +kernel⟩
abbrev s__are_layers : Stmt := topS 56
theorem sc__are_layers : FnScope ["thing", "ins", "ahead", "nodes", "node"] ["thing", "ins"] (defScope s__are_layers) := ⟨rfl, rfl, rfl, by decide +kernel, rfl, by decide +kernel, by decide +kernel⟩
abbrev s_through : Stmt := topS 58
theorem sc_through : FnScope ["node", "above", "below", "many", "row", "number", "total", "weight", "one", "other"] ["node", "above", "below", "many"] (defScope s_through) := ⟨rfl, rfl, rfl, by decide +kernel, rfl, by decide +kernel, by decide +kernel⟩
abbrev s_tightened : Stmt := topS 60
theorem sc_tightened : FnScope ["net", "box", "handed", "many", "unders", "overs", "found", "nodes", "bounds", "fours", "node", "bound", "under", "over", "place", "four"] ["net", "box"] (defScope s_tightened) := ⟨rfl, rfl, rfl, by decide +kernel, rfl, by decide +kernel, by decide +kernel⟩
abbrev s__four : Stmt := topS 61
theorem sc__four : FnScope ["box", "under", "over", "bound", "low", "high"] ["box", "under", "over", "bound"] (defScope s__four) := ⟨rfl, rfl, rfl, by decide +kernel, rfl, by decide +kernel, by decide +kernel⟩
abbrev s__under_passed : Stmt := topS 62
theorem sc__under_passed : FnScope ["four", "many", "under", "over", "low", "high"] ["four", "many"] (defScope s__under_passed) := ⟨rfl, rfl, rfl, by decide +kernel, rfl, by decide +kernel, by decide +kernel⟩
abbrev s__over_passed : Stmt := topS 63
theorem sc__over_passed : FnScope ["four", "many", "under", "over", "low", "high", "row", "number"] ["four", "many"] (defScope s__over_passed) := ⟨rfl, rfl, rfl, by decide +kernel, rfl, by decide +kernel, by decide +kernel⟩
abbrev s__law_cell : Stmt := topS 65
theorem sc__law_cell : FnScope ["_law_script", "_law_k"] ["_law_script", "_law_k"] (defScope s__law_cell) := ⟨rfl, rfl, rfl, by decide +kernel, rfl, by decide +kernel, by decide +kernel⟩
abbrev s__law_stream : Stmt := topS 66
theorem sc__law_stream : FnScope ["_law_cell_here"] ["_law_cell_here"] (defScope s__law_stream) := ⟨rfl, rfl, rfl, by decide +kernel, rfl, by decide +kernel, by decide +kernel⟩
abbrev s__law_take : Stmt := topS 67
theorem sc__law_take : FnScope ["_law_stream_here", "_law_many", "_law_digit", "_law_number"] ["_law_stream_here", "_law_many"] (defScope s__law_take) := ⟨rfl, rfl, rfl, by decide +kernel, rfl, by decide +kernel, by decide +kernel⟩
abbrev s__law_made : Stmt := topS 68
theorem sc__law_made : FnScope ["_law_top", "_law_bottom", "_law_one", "_law_other"] ["_law_top", "_law_bottom"] (defScope s__law_made) := ⟨rfl, rfl, rfl, by decide +kernel, rfl, by decide +kernel, by decide +kernel⟩
abbrev s__law_plus : Stmt := topS 69
theorem sc__law_plus : FnScope ["_law_one", "_law_other"] ["_law_one", "_law_other"] (defScope s__law_plus) := ⟨rfl, rfl, rfl, by decide +kernel, rfl, by decide +kernel, by decide +kernel⟩
abbrev s__law_less : Stmt := topS 70
theorem sc__law_less : FnScope ["_law_one", "_law_other"] ["_law_one", "_law_other"] (defScope s__law_less) := ⟨rfl, rfl, rfl, by decide +kernel, rfl, by decide +kernel, by decide +kernel⟩
abbrev s__law_share : Stmt := topS 71
theorem sc__law_share : FnScope ["_law_stream_here"] ["_law_stream_here"] (defScope s__law_share) := ⟨rfl, rfl, rfl, by decide +kernel, rfl, by decide +kernel, by decide +kernel⟩
abbrev s__law_node : Stmt := topS 72
theorem sc__law_node : FnScope ["_law_stream_here", "_law_many", "_law_k"] ["_law_stream_here", "_law_many"] (defScope s__law_node) := ⟨rfl, rfl, rfl, by decide +kernel, rfl, by decide +kernel, by decide +kernel⟩
abbrev s__law_layers : Stmt := topS 73
theorem sc__law_layers : FnScope ["_law_stream_here", "_law_ins", "_law_shape_here", "_law_layers_here", "_law_many", "_law_nodes", "_law_great", "_law_layer", "_law_k"] ["_law_stream_here", "_law_ins", "_law_shape_here"] (defScope s__law_layers) := ⟨rfl, rfl, rfl, by decide +kernel, rfl, by decide +kernel, by decide +kernel⟩
abbrev s__law_box : Stmt := topS 74
theorem sc__law_box : FnScope ["_law_stream_here", "_law_ins", "_law_found", "_law_k", "_law_low", "_law_wide"] ["_law_stream_here", "_law_ins"] (defScope s__law_box) := ⟨rfl, rfl, rfl, by decide +kernel, rfl, by decide +kernel, by decide +kernel⟩
abbrev s__law_shape : Stmt := topS 75
theorem sc__law_shape : FnScope ["_law_stream_here", "_law_many", "_law_k"] ["_law_stream_here"] (defScope s__law_shape) := ⟨rfl, rfl, rfl, by decide +kernel, rfl, by decide +kernel, by decide +kernel⟩
abbrev s__law_world : Stmt := topS 76
theorem sc__law_world : FnScope ["_law_stream_here", "_law_ins", "_law_layers_here"] ["_law_stream_here"] (defScope s__law_world) := ⟨rfl, rfl, rfl, by decide +kernel, rfl, by decide +kernel, by decide +kernel⟩
abbrev s__law_net : Stmt := topS 77
theorem sc__law_net : FnScope ["_law_ins", "_law_layers_here", "_law_layer"] ["_law_ins", "_law_layers_here"] (defScope s__law_net) := ⟨rfl, rfl, rfl, by decide +kernel, rfl, by decide +kernel, by decide +kernel⟩
abbrev s__law_whole : Stmt := topS 78
theorem sc__law_whole : FnScope ["_law_thing_here"] ["_law_thing_here"] (defScope s__law_whole) := ⟨rfl, rfl, rfl, by decide +kernel, rfl, by decide +kernel, by decide +kernel⟩
abbrev s__law_is_fraction : Stmt := topS 79
theorem sc__law_is_fraction : FnScope ["_law_thing_here"] ["_law_thing_here"] (defScope s__law_is_fraction) := ⟨rfl, rfl, rfl, by decide +kernel, rfl, by decide +kernel, by decide +kernel⟩
abbrev s__law_is_box : Stmt := topS 80
theorem sc__law_is_box : FnScope ["_law_thing_here", "_law_ins", "_law_pair_here"] ["_law_thing_here", "_law_ins"] (defScope s__law_is_box) := ⟨rfl, rfl, rfl, by decide +kernel, rfl, by decide +kernel, by decide +kernel⟩
abbrev s__law_end : Stmt := topS 81
theorem sc__law_end : FnScope ["_law_stream_here", "_law_one", "_law_top", "_law_bottom", "_law_some"] ["_law_stream_here", "_law_one"] (defScope s__law_end) := ⟨rfl, rfl, rfl, by decide +kernel, rfl, by decide +kernel, by decide +kernel⟩
abbrev s__law_pair : Stmt := topS 82
theorem sc__law_pair : FnScope ["_law_stream_here", "_law_pair_here", "_law_low", "_law_high", "_law_way"] ["_law_stream_here", "_law_pair_here"] (defScope s__law_pair) := ⟨rfl, rfl, rfl, by decide +kernel, rfl, by decide +kernel, by decide +kernel⟩
abbrev s__law_thing : Stmt := topS 83
theorem sc__law_thing : FnScope ["_law_stream_here", "_law_box_here", "_law_at", "_law_way"] ["_law_stream_here", "_law_box_here"] (defScope s__law_thing) := ⟨rfl, rfl, rfl, by decide +kernel, rfl, by decide +kernel, by decide +kernel⟩
abbrev s__law_refused : Stmt := topS 84
theorem sc__law_refused : FnScope ["_law_ask", "_law_net_here", "_law_thing_here", "e"] ["_law_ask", "_law_net_here", "_law_thing_here"] (defScope s__law_refused) := ⟨rfl, rfl, rfl, by decide +kernel, rfl, by decide +kernel, by decide +kernel⟩
abbrev s_law : Stmt := topS 85
theorem sc_law : FnScope ["_law_script", "_law_k", "_law_stream_here", "_law_ins", "_law_layers_here", "_law_box_here", "_law_net_here", "_law_turn", "_law_thing_here", "_law_due", "_law_ask"] ["_law_script"] (defScope s_law) := ⟨rfl, rfl, rfl, by decide +kernel, rfl, by decide +kernel, by decide +kernel⟩
abbrev s_CutError___init__ : Stmt := inClass (topS 3) 0
theorem sc_CutError___init__ : FnScope ["self", "text"] ["self", "text"] (defScope s_CutError___init__) := ⟨rfl, rfl, rfl, by decide +kernel, rfl, by decide +kernel, by decide +kernel⟩
abbrev s_NoNet___init__ : Stmt := inClass (topS 4) 0
theorem sc_NoNet___init__ : FnScope ["self", "found"] ["self", "found"] (defScope s_NoNet___init__) := ⟨rfl, rfl, rfl, by decide +kernel, rfl, by decide +kernel, by decide +kernel⟩
abbrev s_NoBox___init__ : Stmt := inClass (topS 5) 0
theorem sc_NoBox___init__ : FnScope ["self", "found"] ["self", "found"] (defScope s_NoBox___init__) := ⟨rfl, rfl, rfl, by decide +kernel, rfl, by decide +kernel, by decide +kernel⟩
abbrev s_NoAim___init__ : Stmt := inClass (topS 6) 0
theorem sc_NoAim___init__ : FnScope ["self", "found"] ["self", "found"] (defScope s_NoAim___init__) := ⟨rfl, rfl, rfl, by decide +kernel, rfl, by decide +kernel, by decide +kernel⟩
abbrev s_Layer___init__ : Stmt := inClass (topS 47) 0
theorem sc_Layer___init__ : FnScope ["self", "nodes"] ["self", "nodes"] (defScope s_Layer___init__) := ⟨rfl, rfl, rfl, by decide +kernel, rfl, by decide +kernel, by decide +kernel⟩
abbrev s_Layer_told : Stmt := inClass (topS 47) 1
theorem sc_Layer_told : FnScope ["self"] ["self"] (defScope s_Layer_told) := ⟨rfl, rfl, rfl, by decide +kernel, rfl, by decide +kernel, by decide +kernel⟩
abbrev s_Layer_sums : Stmt := inClass (topS 47) 2
theorem sc_Layer_sums : FnScope ["self", "ahead"] ["self", "ahead"] (defScope s_Layer_sums) := ⟨rfl, rfl, rfl, by decide +kernel, rfl, by decide +kernel, by decide +kernel⟩
abbrev s_Layer_passed : Stmt := inClass (topS 47) 3
theorem sc_Layer_passed : FnScope ["self", "ahead"] ["self", "ahead"] (defScope s_Layer_passed) := ⟨rfl, rfl, rfl, by decide +kernel, rfl, by decide +kernel, by decide +kernel⟩
abbrev s_CutLayer_told : Stmt := inClass (topS 48) 0
theorem sc_CutLayer_told : FnScope ["self"] ["self"] (defScope s_CutLayer_told) := ⟨rfl, rfl, rfl, by decide +kernel, rfl, by decide +kernel, by decide +kernel⟩
abbrev s_CutLayer_sums : Stmt := inClass (topS 48) 1
theorem sc_CutLayer_sums : FnScope ["self", "ahead"] ["self", "ahead"] (defScope s_CutLayer_sums) := ⟨rfl, rfl, rfl, by decide +kernel, rfl, by decide +kernel, by decide +kernel⟩
abbrev s_CutLayer_passed : Stmt := inClass (topS 48) 2
theorem sc_CutLayer_passed : FnScope ["self", "ahead", "one"] ["self", "ahead"] (defScope s_CutLayer_passed) := ⟨rfl, rfl, rfl, by decide +kernel, rfl, by decide +kernel, by decide +kernel⟩
abbrev s_Net___init__ : Stmt := inClass (topS 54) 0
theorem sc_Net___init__ : FnScope ["self", "ins", "layers", "nodes"] ["self", "ins", "layers"] (defScope s_Net___init__) := ⟨rfl, rfl, rfl, by decide +kernel, rfl, by decide +kernel, by decide +kernel⟩
abbrev s_Net_ins : Stmt := inClass (topS 54) 1
theorem sc_Net_ins : FnScope ["self"] ["self"] (defScope s_Net_ins) := ⟨rfl, rfl, rfl, by decide +kernel, rfl, by decide +kernel, by decide +kernel⟩
abbrev s_Net_outs : Stmt := inClass (topS 54) 2
theorem sc_Net_outs : FnScope ["self"] ["self"] (defScope s_Net_outs) := ⟨rfl, rfl, rfl, by decide +kernel, rfl, by decide +kernel, by decide +kernel⟩
abbrev s_Net_hidden : Stmt := inClass (topS 54) 3
theorem sc_Net_hidden : FnScope ["self", "layer"] ["self"] (defScope s_Net_hidden) := ⟨rfl, rfl, rfl, by decide +kernel, rfl, by decide +kernel, by decide +kernel⟩
abbrev s_Net_layers_told : Stmt := inClass (topS 54) 4
theorem sc_Net_layers_told : FnScope ["self", "layer"] ["self"] (defScope s_Net_layers_told) := ⟨rfl, rfl, rfl, by decide +kernel, rfl, by decide +kernel, by decide +kernel⟩
abbrev s_Net_places : Stmt := inClass (topS 54) 5
theorem sc_Net_places : FnScope ["self", "found", "at", "layer", "node"] ["self"] (defScope s_Net_places) := ⟨rfl, rfl, rfl, by decide +kernel, rfl, by decide +kernel, by decide +kernel⟩
abbrev s_Net_told : Stmt := inClass (topS 54) 6
theorem sc_Net_told : FnScope ["self", "layer"] ["self"] (defScope s_Net_told) := ⟨rfl, rfl, rfl, by decide +kernel, rfl, by decide +kernel, by decide +kernel⟩
abbrev s_Net_outs_at : Stmt := inClass (topS 54) 7
theorem sc_Net_outs_at : FnScope ["self", "spot"] ["self", "spot"] (defScope s_Net_outs_at) := ⟨rfl, rfl, rfl, by decide +kernel, rfl, by decide +kernel, by decide +kernel⟩
abbrev s_Net_sums_at : Stmt := inClass (topS 54) 8
theorem sc_Net_sums_at : FnScope ["self", "spot"] ["self", "spot"] (defScope s_Net_sums_at) := ⟨rfl, rfl, rfl, by decide +kernel, rfl, by decide +kernel, by decide +kernel⟩
abbrev s_Net_pattern_at : Stmt := inClass (topS 54) 9
theorem sc_Net_pattern_at : FnScope ["self", "spot"] ["self", "spot"] (defScope s_Net_pattern_at) := ⟨rfl, rfl, rfl, by decide +kernel, rfl, by decide +kernel, by decide +kernel⟩

end K30
end
section
set_option maxRecDepth 100000
set_option maxHeartbeats 400000
namespace K30
open PySem Evl Nc PyProof.Rows
open L2 hiding spCell
theorem both {W D n : Nat} (hp : 0 < W * D) (hlt : W * D < 2 ^ n) : 0 < W ∧ 0 < D ∧ W < 2 ^ n ∧ D < 2 ^ n := by
  have w0 : 0 < W := Nat.pos_of_ne_zero fun z => by rw [z, Nat.zero_mul] at hp; omega
  have d0 : 0 < D := Nat.pos_of_ne_zero fun z => by rw [z, Nat.mul_zero] at hp; omega
  exact ⟨w0, d0, Nat.lt_of_le_of_lt (Nat.le_mul_of_pos_right W d0) hlt, Nat.lt_of_le_of_lt (Nat.le_mul_of_pos_left D w0) hlt⟩
section
variable {P : Program} {w : World} {K : PySem.W.Frag} {mg : Str → Option Value} {base : Heap}
theorem ok_fraction_of (D : Df K mg "fraction_of" s_fraction_of ["top", "bottom"]) (mgcd : mg "gcd" = some (.builtin "math.gcd")) : Ok P w K mg base 1 "fraction_of" ["top", "bottom"] (spPart K) := by
  refine D.ok fun f fd F => F.ok sc_fraction_of (fun vs H Q E h => ?_) (fun cdv A outer s H vs Q E hr h => ?_)
  · obtain ⟨t, b, n, rfl, _⟩ := h
    rfl
  · obtain ⟨t, b, n, rfl, hb, hn, h0, h9, q⟩ := h
    refine ⟨_, pss_cons (ps_set (i := 2) sc_fraction_of.nd rfl (.inl rfl) (pe_callBfun cr_gcd (by rfl) mgcd (pa_cons (pv 0) (pa_cons (pv 1) pa_nil))))
      (pss_cons (ps_if (pt_cmpR op_lt (pv 1) pe_int (nomark _)) (pss_one (ps_set (i := 2) sc_fraction_of.nd rfl (.inl rfl) (pe_un un_neg (pv 2)))) pss_nil)
      (pss_one (ps_ret (pe_tup (pa_cons (pe_op op_fdivX (pv 0) (pv 2)) (pa_cons (pe_op op_fdivX (pv 1) (pv 2)) pa_nil)))))), ?_⟩
    have g1 := gcd_pos (t := t) hb
    have g2 := gcd_le (t := t) hb
    have dv : ∀ i : Int, (n ≤ 9000 ∨ i.natAbs < 2 ^ 13500) → CDivX i ((Nat.gcd t.natAbs b.natAbs : Nat) : Int) := fun i hi => wide_divX g1 (wide_le (by omega) g2 hn) h0 hi
    have dt := dv t (h9.imp id (·.2))
    have db := dv b (h9.imp id fun z => Nat.lt_of_lt_of_le hn (Nat.pow_le_pow_right (by decide) z.1))
    refine ⟨_, rfl, _, rfl, t, b, rfl, _, rfl, b, 0, rfl, rfl, _, rfl, ?_⟩
    rw [decide_eq_false (by omega : ¬ b < 0)]
    refine iteF ⟨_, rfl, _, rfl, t, _, rfl, rfl, dt, _, rfl, _, rfl, b, _, rfl, rfl, db, (by show 2 ≤ sizeLine; decide), fun p hp => ?_⟩
    exact q _ _ (Ex.new hp) (made (num_div hb) (den_div hb))
theorem ok__law_made (D : Df K mg "_law_made" s__law_made ["_law_top", "_law_bottom"]) (mabs : mg "abs" = none) : Ok P w K mg base 1 "_law_made" ["_law_top", "_law_bottom"] (spPart K) := by
  refine D.ok fun f fd F => F.ok sc__law_made (fun vs H Q E h => ?_) (fun cdv A outer s H vs Q E hr h => ?_)
  · obtain ⟨t, b, n, rfl, _⟩ := h
    rfl
  · obtain ⟨t, b, n, rfl, hb, hn, h0, h9, q⟩ := h
    refine ⟨_, pss_cons (ps_par (i := 2) (j := 3) rfl sc__law_made.nd rfl rfl (by decide) rfl rfl (pa_cons (pe_callB call_abs (by rfl) mabs (by decide +kernel) (pa_cons (pv 0) pa_nil)) (pa_cons (pv 1) pa_nil)) (by rfl))
      (pss_cons (ps_while PassesOwn.never (pt_cmpR op_gt (pv 3) pe_int (nomark _)) (pss_one (ps_par (i := 2) (j := 3) rfl sc__law_made.nd rfl rfl (by decide) rfl rfl (pa_cons (pv 3) (pa_cons (pe_op op_mod (pv 2) (pv 3)) pa_nil)) (by rfl))))
      (pss_one (ps_ret (pe_tup (pa_cons (pe_op op_fdivX (pv 0) (pv 2)) (pa_cons (pe_op op_fdivX (pv 1) (pv 2)) pa_nil)))))), ?_⟩
    have g1 := gcd_pos (t := t) hb
    have g2 := gcd_le (t := t) hb
    have dv : ∀ i : Int, (n ≤ 9000 ∨ i.natAbs < 2 ^ 13500) → CDivX i ((Nat.gcd t.natAbs b.natAbs : Nat) : Int) := fun i hi => wide_divX g1 (wide_le (by omega) g2 hn) h0 hi
    have dt := dv t (h9.imp id (·.2))
    have db := dv b (h9.imp id fun z => Nat.lt_of_lt_of_le hn (Nat.pow_le_pow_right (by decide) z.1))
    refine ⟨_, rfl, t, rfl, _, rfl, _, _, rfl, ?_⟩
    refine ⟨fun m σ H' => ∃ a c : Int, σ = [some (.int t), some (.int b), some (.int a), some (.int c)] ∧ 0 ≤ a ∧ 0 ≤ c ∧ m = c.toNat ∧ Nat.gcd a.natAbs c.natAbs = Nat.gcd t.natAbs b.natAbs ∧ H' = H,
      ⟨b.toNat, _, b, rfl, by split <;> omega, by omega, rfl, ?_, rfl⟩, ?_⟩
    · split
      · rw [Int.natAbs_neg]
      · rfl
    · rintro m σ H' ⟨a, c, rfl, ha, hc, rfl, hg, rfl⟩
      refine ⟨_, rfl, c, 0, rfl, rfl, _, rfl, ite2 (fun hd => ?_) (fun hd => ?_)⟩
      · have hc1 : 0 < c := of_decide_eq_true hd
        refine ⟨fun σ' H'' => σ' = [some (.int t), some (.int b), some (.int c), some (.int (a % c))] ∧ H'' = H', ?_, ?_⟩
        · rintro σ' H'' ⟨rfl, rfl⟩
          have z1 := Int.emod_nonneg a (b := c) (by omega)
          have z2 := Int.emod_lt_of_pos a hc1
          exact ⟨(a % c).toNat, by omega, c, a % c, rfl, by omega, z1, rfl, (gcd_step ha hc1).trans hg, rfl⟩
        · exact ⟨_, rfl, _, rfl, _, rfl, a, c, rfl, rfl, hc1, _, _, rfl, rfl, rfl⟩
      · have hc1 : ¬ 0 < c := fun z => hd (decide_eq_true z)
        have hc0 : c = 0 := by omega
        subst hc0
        have ea : a = ((Nat.gcd t.natAbs b.natAbs : Nat) : Int) := by
          rw [← hg]
          simp
          omega
        subst ea
        refine ⟨_, rfl, _, rfl, t, _, rfl, rfl, dt, _, rfl, _, rfl, b, _, rfl, rfl, db, (by show 2 ≤ sizeLine; decide), fun p hp => ?_⟩
        exact q _ _ (Ex.new hp) (made (num_div hb) (den_div hb))
theorem ok_plus (D : Df K mg "plus" s_plus ["one", "other"]) (G : Ok P w K mg base 1 "fraction_of" ["top", "bottom"] (spPart K)) : Ok P w K mg base 2 "plus" ["one", "other"] (spPlus K) := by
  refine D.ok fun f fd F => F.ok sc_plus (fun vs H Q E h => ?_) (fun cdv A outer s H vs Q E hr h => ?_)
  · obtain ⟨x, y, r, s, n, d, m, e, rfl, _⟩ := h
    rfl
  · obtain ⟨x, y, r, s, n, d, m, e, rfl, hx, hy, ha, hb, ⟨n0, d0, m0, e0, hde, hnm⟩, q⟩ := h
    refine ⟨_, pss_one (ps_ret (cl G hr (pa_cons (pe_op op_add (pe_op op_mulBig (pe_ix ix_tup (pv 0) pe_int (fun _ _ => rfl)) (pe_ix ix_tup (pv 1) pe_int (fun _ _ => rfl))) (pe_op op_mulBig (pe_ix ix_tup (pv 1) pe_int (fun _ _ => rfl)) (pe_ix ix_tup (pv 0) pe_int (fun _ _ => rfl)))) (pa_cons (pe_op op_mulBig (pe_ix ix_tup (pv 0) pe_int (fun _ _ => rfl)) (pe_ix ix_tup (pv 1) pe_int (fun _ _ => rfl))) pa_nil)))), ?_⟩
    obtain ⟨t, rfl, h1⟩ := hx
    obtain ⟨u, rfl, h2⟩ := hy
    have hm1 := mulOk ha.1 hb.den
    have hm2 := mulOk hb.1 ha.den
    have hm3 := mulOk ha.den hb.den
    refine ⟨_, rfl, _, _, _, _, rfl, rfl, h1, at0, _, rfl, _, _, _, _, rfl, rfl, h2, at1, _, _, rfl, rfl, hm1, _, rfl, _, _, _, _, rfl, rfl, h2, at0, _, rfl, _, _, _, _, rfl, rfl, h1, at1, _, _, rfl, rfl, hm2, _, _, rfl, rfl, _, rfl, _, _, _, _, rfl, rfl, h1, at1, _, rfl, _, _, _, _, rfl, rfl, h2, at1, _, _, rfl, rfl, hm3, ?_⟩
    refine ⟨_, _, d + e, rfl, Int.mul_pos (den_pos r) (den_pos s), lt_mul ha.den hb.den, by omega, big_add ha hb hde, fun v H' e hv => ?_⟩
    rw [add_is] at hv
    exact q v H' e hv
theorem ok_times (D : Df K mg "times" s_times ["one", "other"]) (G : Ok P w K mg base 1 "fraction_of" ["top", "bottom"] (spPart K)) : Ok P w K mg base 2 "times" ["one", "other"] (spTimes K) := by
  refine D.ok fun f fd F => F.ok sc_times (fun vs H Q E h => ?_) (fun cdv A outer s H vs Q E hr h => ?_)
  · obtain ⟨x, y, r, s, n, d, m, e, rfl, _⟩ := h
    rfl
  · obtain ⟨x, y, r, s, n, d, m, e, rfl, hx, hy, ha, hb, ⟨n0, d0, m0, e0, hde, hnm⟩, q⟩ := h
    refine ⟨_, pss_one (ps_ret (cl G hr (pa_cons (pe_op op_mulBig (pe_ix ix_tup (pv 0) pe_int (fun _ _ => rfl)) (pe_ix ix_tup (pv 1) pe_int (fun _ _ => rfl))) (pa_cons (pe_op op_mulBig (pe_ix ix_tup (pv 0) pe_int (fun _ _ => rfl)) (pe_ix ix_tup (pv 1) pe_int (fun _ _ => rfl))) pa_nil)))), ?_⟩
    obtain ⟨t, rfl, h1⟩ := hx
    obtain ⟨u, rfl, h2⟩ := hy
    have hm1 := mulOk ha.1 hb.1
    have hm3 := mulOk ha.den hb.den
    refine ⟨_, rfl, _, _, _, _, rfl, rfl, h1, at0, _, rfl, _, _, _, _, rfl, rfl, h2, at0, _, _, rfl, rfl, hm1, _, rfl, _, _, _, _, rfl, rfl, h1, at1, _, rfl, _, _, _, _, rfl, rfl, h2, at1, _, _, rfl, rfl, hm3, ?_⟩
    refine ⟨_, _, d + e, rfl, Int.mul_pos (den_pos r) (den_pos s), lt_mul ha.den hb.den, by omega, big_mul ha hb hde, fun v H' e hv => ?_⟩
    rw [mul_is] at hv
    exact q v H' e hv
theorem ok__law_plus (D : Df K mg "_law_plus" s__law_plus ["_law_one", "_law_other"]) (G : Ok P w K mg base 1 "_law_made" ["_law_top", "_law_bottom"] (spPart K)) : Ok P w K mg base 2 "_law_plus" ["_law_one", "_law_other"] (spPlus K) := by
  refine D.ok fun f fd F => F.ok sc__law_plus (fun vs H Q E h => ?_) (fun cdv A outer s H vs Q E hr h => ?_)
  · obtain ⟨x, y, r, s, n, d, m, e, rfl, _⟩ := h
    rfl
  · obtain ⟨x, y, r, s, n, d, m, e, rfl, hx, hy, ha, hb, ⟨n0, d0, m0, e0, hde, hnm⟩, q⟩ := h
    refine ⟨_, pss_one (ps_ret (cl G hr (pa_cons (pe_op op_add (pe_op op_mulBig (pe_ix ix_tup (pv 0) pe_int (fun _ _ => rfl)) (pe_ix ix_tup (pv 1) pe_int (fun _ _ => rfl))) (pe_op op_mulBig (pe_ix ix_tup (pv 1) pe_int (fun _ _ => rfl)) (pe_ix ix_tup (pv 0) pe_int (fun _ _ => rfl)))) (pa_cons (pe_op op_mulBig (pe_ix ix_tup (pv 0) pe_int (fun _ _ => rfl)) (pe_ix ix_tup (pv 1) pe_int (fun _ _ => rfl))) pa_nil)))), ?_⟩
    obtain ⟨t, rfl, h1⟩ := hx
    obtain ⟨u, rfl, h2⟩ := hy
    have hm1 := mulOk ha.1 hb.den
    have hm2 := mulOk hb.1 ha.den
    have hm3 := mulOk ha.den hb.den
    refine ⟨_, rfl, _, _, _, _, rfl, rfl, h1, at0, _, rfl, _, _, _, _, rfl, rfl, h2, at1, _, _, rfl, rfl, hm1, _, rfl, _, _, _, _, rfl, rfl, h2, at0, _, rfl, _, _, _, _, rfl, rfl, h1, at1, _, _, rfl, rfl, hm2, _, _, rfl, rfl, _, rfl, _, _, _, _, rfl, rfl, h1, at1, _, rfl, _, _, _, _, rfl, rfl, h2, at1, _, _, rfl, rfl, hm3, ?_⟩
    refine ⟨_, _, d + e, rfl, Int.mul_pos (den_pos r) (den_pos s), lt_mul ha.den hb.den, by omega, big_add ha hb hde, fun v H' e hv => ?_⟩
    rw [add_is] at hv
    exact q v H' e hv
theorem ok_minus (D : Df K mg "minus" s_minus ["one", "other"]) (G : Ok P w K mg base 1 "fraction_of" ["top", "bottom"] (spPart K)) : Ok P w K mg base 2 "minus" ["one", "other"] (spMinus K) := by
  refine D.ok fun f fd F => F.ok sc_minus (fun vs H Q E h => ?_) (fun cdv A outer s H vs Q E hr h => ?_)
  · obtain ⟨x, y, r, s, n, d, m, e, rfl, _⟩ := h
    rfl
  · obtain ⟨x, y, r, s, n, d, m, e, rfl, hx, hy, ha, hb, ⟨n0, d0, m0, e0, hde, hnm⟩, q⟩ := h
    refine ⟨_, pss_one (ps_ret (cl G hr (pa_cons (pe_op op_sub (pe_op op_mulBig (pe_ix ix_tup (pv 0) pe_int (fun _ _ => rfl)) (pe_ix ix_tup (pv 1) pe_int (fun _ _ => rfl))) (pe_op op_mulBig (pe_ix ix_tup (pv 1) pe_int (fun _ _ => rfl)) (pe_ix ix_tup (pv 0) pe_int (fun _ _ => rfl)))) (pa_cons (pe_op op_mulBig (pe_ix ix_tup (pv 0) pe_int (fun _ _ => rfl)) (pe_ix ix_tup (pv 1) pe_int (fun _ _ => rfl))) pa_nil)))), ?_⟩
    obtain ⟨t, rfl, h1⟩ := hx
    obtain ⟨u, rfl, h2⟩ := hy
    have hm1 := mulOk ha.1 hb.den
    have hm2 := mulOk hb.1 ha.den
    have hm3 := mulOk ha.den hb.den
    refine ⟨_, rfl, _, _, _, _, rfl, rfl, h1, at0, _, rfl, _, _, _, _, rfl, rfl, h2, at1, _, _, rfl, rfl, hm1, _, rfl, _, _, _, _, rfl, rfl, h2, at0, _, rfl, _, _, _, _, rfl, rfl, h1, at1, _, _, rfl, rfl, hm2, _, _, rfl, rfl, _, rfl, _, _, _, _, rfl, rfl, h1, at1, _, rfl, _, _, _, _, rfl, rfl, h2, at1, _, _, rfl, rfl, hm3, ?_⟩
    refine ⟨_, _, d + e, rfl, Int.mul_pos (den_pos r) (den_pos s), lt_mul ha.den hb.den, by omega, big_sub ha hb hde, fun v H' e hv => ?_⟩
    rw [sub_is] at hv
    exact q v H' e hv
theorem ok_ratio (D : Df K mg "ratio" s_ratio ["one", "other"]) (G : Ok P w K mg base 1 "fraction_of" ["top", "bottom"] (spPart K)) : Ok P w K mg base 2 "ratio" ["one", "other"] (spRatioP K) := by
  refine D.ok fun f fd F => F.ok sc_ratio (fun vs H Q E h => ?_) (fun cdv A outer s H vs Q E hr h => ?_)
  · obtain ⟨x, y, r, s, k, b, rfl, _⟩ := h
    rfl
  · obtain ⟨x, y, r, s, k, b, rfl, hx, hy, ha, hb, hs, b0, hkb, q⟩ := h
    refine ⟨_, pss_one (ps_ret (cl G hr (pa_cons (pe_op op_mulBig (pe_ix ix_tup (pv 0) pe_int (fun _ _ => rfl)) (pe_ix ix_tup (pv 1) pe_int (fun _ _ => rfl))) (pa_cons (pe_op op_mulBig (pe_ix ix_tup (pv 0) pe_int (fun _ _ => rfl)) (pe_ix ix_tup (pv 1) pe_int (fun _ _ => rfl))) pa_nil)))), ?_⟩
    obtain ⟨t, rfl, h1⟩ := hx
    obtain ⟨u, rfl, h2⟩ := hy
    refine ⟨_, rfl, _, _, _, _, rfl, rfl, h1, at0, _, rfl, _, _, _, _, rfl, rfl, h2, at1, _, _, rfl, rfl, mulOk ha.1 hb.den, _, rfl, _, _, _, _, rfl, rfl, h1, at1, _, rfl, _, _, _, _, rfl, rfl, h2, at0, _, _, rfl, rfl, mulOk ha.den hb.1, ?_⟩
    have d1 := den_pos r
    refine ⟨_, _, b + (k + b), rfl, Int.mul_pos d1 hs, lt_mul ha.den hb.1, by omega, ?_, fun v H' e hv => ?_⟩
    · exact .inr ⟨by omega, lt_mono (lt_mul ha.1 hb.den) (by omega)⟩
    · rw [ratio_is hs] at hv
      exact q v H' e hv
theorem ok_is_less (D : Df K mg "is_less" s_is_less ["one", "other"]) : Ok P w K mg base 1 "is_less" ["one", "other"] (spLess K) := by
  refine D.ok fun f fd F => F.ok sc_is_less (fun vs H Q E h => ?_) (fun cdv A outer s H vs Q E hr h => ?_)
  · obtain ⟨x, y, r, s, n, d, m, e, rfl, _⟩ := h
    rfl
  · obtain ⟨x, y, r, s, n, d, m, e, rfl, hx, hy, ha, hb, ⟨n0, d0, m0, e0, hnm⟩, q⟩ := h
    refine ⟨_, pss_one (ps_ret (pe_cmpR op_lt (pe_op op_mulBig (pe_ix ix_tup (pv 0) pe_int (fun _ _ => rfl)) (pe_ix ix_tup (pv 1) pe_int (fun _ _ => rfl))) (pe_op op_mulBig (pe_ix ix_tup (pv 1) pe_int (fun _ _ => rfl)) (pe_ix ix_tup (pv 0) pe_int (fun _ _ => rfl))) (nomark _))), ?_⟩
    obtain ⟨t, rfl, h1⟩ := hx
    obtain ⟨u, rfl, h2⟩ := hy
    exact ⟨_, rfl, _, _, _, _, rfl, rfl, h1, at0, _, rfl, _, _, _, _, rfl, rfl, h2, at1, _, _, rfl, rfl, mulOk ha.1 hb.den, _, rfl, _, _, _, _, rfl, rfl, h2, at0, _, rfl, _, _, _, _, rfl, rfl, h1, at1, _, _, rfl, rfl, mulOk hb.1 ha.den, _, _, rfl, rfl, q⟩
theorem ok_weigh (D : Df K mg "weigh" s_weigh ["row", "other"]) (CN : Cst K mg "NOUGHT" 0) (mzip : mg "zip" = none) (GP : Ok P w K mg base 2 "plus" ["one", "other"] (spPlus K)) (GT : Ok P w K mg base 2 "times" ["one", "other"] (spTimes K)) : Ok P w K mg base 3 "weigh" ["row", "other"] (spWeighD K) := by
  refine D.ok fun f fd F => F.ok sc_weigh (fun vs H Q E h => ?_) (fun cdv A outer s H vs Q E hr h => ?_)
  · obtain ⟨x, y, rs, ss, m, W, D, rfl, _⟩ := h
    rfl
  · obtain ⟨x, y, rs, ss, m, W, D, rfl, ⟨tx, xs, rfl, qx, lx⟩, ⟨ty, ys, rfl, qy, ly⟩, hl, h4, hn, hm, hm1, hp, hlt, q⟩ := h
    obtain ⟨w0, d0, wl, dl⟩ := both hp hlt
    obtain ⟨aN, gN, hN⟩ := CN.ex
    refine ⟨_, pss_cons (ps_set (i := 2) sc_weigh.nd rfl (.inl rfl) (pe_glob (v := .ref aN) (by rfl) gN rfl))
      (pss_cons (ps_for PassesOwn.never rfl (RZ.pi_zipA (by rfl) mzip (pa_cons (pv 0) (pa_cons (pv 1) pa_nil))) (pg_tup rfl (pgs_cons (pg_name (i := 3) sc_weigh.nd rfl (.inl rfl)) (pgs_cons (pg_name (i := 4) sc_weigh.nd rfl (.inl rfl)) pgs_nil)))
        (pss_one (ps_set (i := 2) sc_weigh.nd rfl (.inl rfl) (cl GP hr (pa_cons (pv 2) (pa_cons (cl GT hr (pa_cons (pv 3) (pa_cons (pv 4) pa_nil))) pa_nil))))))
      (pss_one (ps_ret (pv 2)))), ?_⟩
    have e0 := Ex.refl H
    have z0 : FrV K H (.ref aN) (weighs ((rs.zip ss).take 0)) := hN H
    have lx' := Paired.length lx
    have ly' := Paired.length ly
    refine ⟨_, rfl, _, rfl, tx, ty, xs, ys, rfl, .inr ⟨ex_t e0 qx, ex_t e0 qy, RZ.for_zipT (by omega) (fun i σ H' => ∃ (v : V) (o3 o4 : Option V), σ = [some (.ref tx), some (.ref ty), some v, o3, o4] ∧ Ex H H' ∧ FrV K H' v (weighs ((rs.zip ss).take i)))
      ⟨_, none, none, rfl, e0, z0⟩ (fun i σ H' ⟨_, _, _, _, e1, _⟩ => ⟨ex_t e1 qx, ex_t e1 qy⟩) ?_ ?_⟩⟩
    · rintro i x y T σ H' hx hy ⟨v, o3, o4, rfl, e1, hv⟩ hT
      obtain ⟨r, hr1, fr⟩ := pget lx hx
      obtain ⟨u, hu1, fu⟩ := pget ly hy
      have hzip : (rs.zip ss)[i]? = some (r, u) := by
        rw [List.getElem?_zip_eq_some]
        exact ⟨hr1, hu1⟩
      have hi : i < rs.length := (List.getElem?_eq_some_iff.mp hr1).1
      have szr := hn r (List.mem_of_getElem? hr1)
      have szu := hm u (List.mem_of_getElem? hu1)
      have szt := sv_weighs hp hlt i (rs.zip ss) (by rw [List.length_zip]; omega) (fun p hp => ⟨hn _ (List.of_mem_zip hp).1, hm _ (List.of_mem_zip hp).2⟩)
      have b2 : i * (1500 + m + 1600 + 1) ≤ 3 * (1500 + m + 1600 + 1) := Nat.mul_le_mul_right _ (by omega)
      have eT : Ex H' (upd H' T (.tup [x, y])) := Ex.new hT
      refine ⟨T, [x, y], rfl, st_of upd_same, rfl, x, [y], rfl, y, [], rfl, rfl, ?_⟩
      refine ⟨_, rfl, _, rfl, _, rfl, x, y, r, u, 1500, 1600, m + 1, 1600, rfl, fr.ex (e1.trans eT), fu.ex (e1.trans eT), szr.sz w0 wl, (szu.sz d0 dl).mono (by omega) (by omega), ⟨by omega, by omega, by omega, by omega, by omega, by omega⟩, fun v2 H2 e2 hv2 => ?_⟩
      refine ⟨v, v2, _, _, 1 + i * (1500 + m + 1600 + 1), 1600, 1500 + m, 1600, rfl, hv.ex (eT.trans e2), hv2, szt.sz hp hlt, (sv_mul szr szu).sz hp hlt, ⟨by omega, by omega, by omega, by omega, by omega, by omega⟩, fun v3 H3 e3 hv3 => ?_⟩
      refine ⟨v3, some x, some y, rfl, ((e1.trans eT).trans e2).trans e3, ?_⟩
      rw [weighs_take hzip]
      exact hv3
    · rintro σ H' ⟨v, o3, o4, rfl, e1, hv⟩
      refine ⟨_, rfl, q v H' e1 ?_⟩
      rwa [List.take_of_length_le (by rw [List.length_zip]; omega)] at hv
theorem okB_weigh (D : Df K mg "weigh" s_weigh ["row", "other"]) (CN : Cst K mg "NOUGHT" 0) (mzip : mg "zip" = none) (GP : Ok P w K mg base 2 "plus" ["one", "other"] (spPlus K)) (GT : Ok P w K mg base 2 "times" ["one", "other"] (spTimes K)) : Ok P w K mg base 3 "weigh" ["row", "other"] (spWeighB K) := by
  refine D.ok fun f fd F => F.ok sc_weigh (fun vs H Q E h => ?_) (fun cdv A outer s H vs Q E hr h => ?_)
  · obtain ⟨x, y, rs, ss, v, D, u, E, k, b, rfl, _⟩ := h
    rfl
  · obtain ⟨x, y, rs, ss, vv, D, uu, E, kk, bb, rfl, ⟨tx, xs, rfl, qx, lx⟩, ⟨ty, ys, rfl, qy, ly⟩, hl, h4, hn, hm, hp, hlt, hv0, hu0, hvu, ⟨b0, hkb⟩, q⟩ := h
    obtain ⟨w0, d0, wl, dl⟩ := both hp hlt
    obtain ⟨aN, gN, hN⟩ := CN.ex
    refine ⟨_, pss_cons (ps_set (i := 2) sc_weigh.nd rfl (.inl rfl) (pe_glob (v := .ref aN) (by rfl) gN rfl))
      (pss_cons (ps_for PassesOwn.never rfl (RZ.pi_zipA (by rfl) mzip (pa_cons (pv 0) (pa_cons (pv 1) pa_nil))) (pg_tup rfl (pgs_cons (pg_name (i := 3) sc_weigh.nd rfl (.inl rfl)) (pgs_cons (pg_name (i := 4) sc_weigh.nd rfl (.inl rfl)) pgs_nil)))
        (pss_one (ps_set (i := 2) sc_weigh.nd rfl (.inl rfl) (cl GP hr (pa_cons (pv 2) (pa_cons (cl GT hr (pa_cons (pv 3) (pa_cons (pv 4) pa_nil))) pa_nil))))))
      (pss_one (ps_ret (pv 2)))), ?_⟩
    have e0 := Ex.refl H
    have z0 : FrV K H (.ref aN) (weighs ((rs.zip ss).take 0)) := hN H
    have lx' := Paired.length lx
    have ly' := Paired.length ly
    refine ⟨_, rfl, _, rfl, tx, ty, xs, ys, rfl, .inr ⟨ex_t e0 qx, ex_t e0 qy, RZ.for_zipT (by omega) (fun i σ H' => ∃ (v : V) (o3 o4 : Option V), σ = [some (.ref tx), some (.ref ty), some v, o3, o4] ∧ Ex H H' ∧ FrV K H' v (weighs ((rs.zip ss).take i)))
      ⟨_, none, none, rfl, e0, z0⟩ (fun i σ H' ⟨_, _, _, _, e1, _⟩ => ⟨ex_t e1 qx, ex_t e1 qy⟩) ?_ ?_⟩⟩
    · rintro i x y T σ H' hx hy ⟨v, o3, o4, rfl, e1, hv⟩ hT
      obtain ⟨r, hr1, fr⟩ := pget lx hx
      obtain ⟨u, hu1, fu⟩ := pget ly hy
      have hzip : (rs.zip ss)[i]? = some (r, u) := by
        rw [List.getElem?_zip_eq_some]
        exact ⟨hr1, hu1⟩
      have hi : i < rs.length := (List.getElem?_eq_some_iff.mp hr1).1
      have szr := hn r (List.mem_of_getElem? hr1)
      have szu := hm u (List.mem_of_getElem? hu1)
      have szt : Sz (kk + bb) bb (weighs ((rs.zip ss).take i)) := by
        have h0 := bd_weighs (v := vv) (u := uu) hp (l := (rs.zip ss).take i) fun p hp' => ⟨hn _ (List.of_mem_zip (List.mem_of_mem_take hp')).1, hm _ (List.of_mem_zip (List.mem_of_mem_take hp')).2⟩
        refine (h0.mono ?_ (Nat.dvd_refl _)).sz hp hlt hvu
        refine Nat.mul_le_mul_right _ ?_
        rw [List.length_take, List.length_zip]
        omega
      have eT : Ex H' (upd H' T (.tup [x, y])) := Ex.new hT
      refine ⟨T, [x, y], rfl, st_of upd_same, rfl, x, [y], rfl, y, [], rfl, rfl, ?_⟩
      have sr : Sz (kk + bb) bb r := szr.sz w0 wl hv0
      have su : Sz (kk + bb) bb u := szu.sz d0 dl hu0
      have sp : Sz (kk + bb) bb (r * u) := (szr.mul szu).sz hp hlt (by omega)
      refine ⟨_, rfl, _, rfl, _, rfl, x, y, r, u, kk + bb, bb, kk + bb, bb, rfl, fr.ex (e1.trans eT), fu.ex (e1.trans eT), sr, su, ⟨by omega, by omega, by omega, by omega, by omega, by omega⟩, fun v2 H2 e2 hv2 => ?_⟩
      refine ⟨v, v2, _, _, kk + bb, bb, kk + bb, bb, rfl, hv.ex (eT.trans e2), hv2, szt, sp, ⟨by omega, by omega, by omega, by omega, by omega, by omega⟩, fun v3 H3 e3 hv3 => ?_⟩
      refine ⟨v3, some x, some y, rfl, ((e1.trans eT).trans e2).trans e3, ?_⟩
      rw [weighs_take hzip]
      exact hv3
    · rintro σ H' ⟨v, o3, o4, rfl, e1, hv⟩
      refine ⟨_, rfl, q v H' e1 ?_⟩
      rwa [List.take_of_length_le (by rw [List.length_zip]; omega)] at hv
theorem ok_sum_at (D : Df K mg "sum_at" s_sum_at ["one", "row"]) (GP : Ok P w K mg base 2 "plus" ["one", "other"] (spPlus K)) (GW : Ok P w K mg base 3 "weigh" ["row", "other"] (spWeighD K)) : Ok P w K mg base 4 "sum_at" ["one", "row"] (spTellsD K) := by
  refine D.ok fun f fd F => F.ok sc_sum_at (fun vs H Q E h => ?_) (fun cdv A outer s H vs Q E hr h => ?_)
  · obtain ⟨x, y, z, ss, m, W, D, rfl, _⟩ := h
    rfl
  · obtain ⟨x, y, z, ss, m, W, D, rfl, ⟨t, a, b, rfl, qt, ra, fb⟩, ry, hl, h4, hn, hb, hm, hm1, hp, hlt, q⟩ := h
    obtain ⟨w0, d0, wl, dl⟩ := both hp hlt
    have b2 : z.1.length * (1500 + m + 1600 + 1) ≤ 4 * (1500 + m + 1600 + 1) := Nat.mul_le_mul_right _ (by omega)
    have sw := sv_of_weighs hp hlt hn hm hl
    refine ⟨_, pss_cons (ps_asg (pv 0) (pg_tup rfl (pgs_cons (pg_name (i := 2) sc_sum_at.nd rfl (.inl rfl)) (pgs_cons (pg_name (i := 3) sc_sum_at.nd rfl (.inl rfl)) pgs_nil))))
      (pss_one (ps_ret (cl GP (hr.mono (by decide)) (pa_cons (cl GW hr (pa_cons (pv 2) (pa_cons (pv 1) pa_nil))) (pa_cons (pv 3) pa_nil))))), ?_⟩
    refine ⟨_, rfl, t, [a, b], rfl, qt, rfl, a, [b], rfl, b, [], rfl, rfl, ?_⟩
    refine ⟨_, rfl, _, rfl, a, y, z.1, ss, m, W, D, rfl, ra, ry, hl, h4, hn, hm, hm1, hp, hlt, fun v H2 e2 hv => ?_⟩
    refine ⟨_, rfl, v, b, _, _, _, 1600, 1500, 1600, rfl, hv, fb.ex e2, sw.sz hp hlt, hb.sz w0 wl, ⟨by omega, by omega, by omega, by omega, by omega, by omega⟩, fun v3 H3 e3 hv3 => ?_⟩
    exact q v3 H3 (e2.trans e3) hv3
theorem okB_sum_at (D : Df K mg "sum_at" s_sum_at ["one", "row"]) (GP : Ok P w K mg base 2 "plus" ["one", "other"] (spPlus K)) (GW : Ok P w K mg base 3 "weigh" ["row", "other"] (spWeighB K)) : Ok P w K mg base 4 "sum_at" ["one", "row"] (spTellsB K) := by
  refine D.ok fun f fd F => F.ok sc_sum_at (fun vs H Q E h => ?_) (fun cdv A outer s H vs Q E hr h => ?_)
  · obtain ⟨x, y, z, ss, v, c, D, u, E, F, k, b, rfl, _⟩ := h
    rfl
  · obtain ⟨x, y, z, ss, vv, cc, D, uu, E, F, kk, bb, rfl, ⟨t, a, b, rfl, qt, ra, fb⟩, ry, hl, h4, hn, hb, hm, hp, hdv, F0, hF, hv0, hu0, hvu, hc0, hcnd, q⟩ := h
    have hcn := hcnd
    obtain ⟨b0, hkb⟩ := hcnd
    refine ⟨_, pss_cons (ps_asg (pv 0) (pg_tup rfl (pgs_cons (pg_name (i := 2) sc_sum_at.nd rfl (.inl rfl)) (pgs_cons (pg_name (i := 3) sc_sum_at.nd rfl (.inl rfl)) pgs_nil))))
      (pss_one (ps_ret (cl GP (hr.mono (by decide)) (pa_cons (cl GW hr (pa_cons (pv 2) (pa_cons (pv 1) pa_nil))) (pa_cons (pv 3) pa_nil))))), ?_⟩
    refine ⟨_, rfl, t, [a, b], rfl, qt, rfl, a, [b], rfl, b, [], rfl, rfl, ?_⟩
    have hlt := Nat.lt_of_le_of_lt (Nat.le_of_dvd F0 hdv) hF
    refine ⟨_, rfl, _, rfl, a, y, z.1, ss, vv, D, uu, E, kk, bb, rfl, ra, ry, hl, h4, hn, hm, hp, hlt, hv0, hu0, hvu, hcn, fun v H2 e2 hv => ?_⟩
    have sw : Sz (kk + bb) bb (weighs (z.1.zip ss)) := by
      have h0 := bd_weighs (v := vv) (u := uu) hp (l := z.1.zip ss) fun p hp' => ⟨hn _ (List.of_mem_zip hp').1, hm _ (List.of_mem_zip hp').2⟩
      refine (h0.mono ?_ (Nat.dvd_refl _)).sz hp hlt hvu
      refine Nat.mul_le_mul_right _ ?_
      rw [List.length_zip]
      omega
    refine ⟨_, rfl, v, b, _, _, kk + bb, bb, kk + bb, bb, rfl, hv, fb.ex e2, sw, hb.sz F0 hF hc0, ⟨by omega, by omega, by omega, by omega, by omega, by omega⟩, fun v3 H3 e3 hv3 => ?_⟩
    exact q v3 H3 (e2.trans e3) hv3
theorem ok_sum_plus (D : Df K mg "sum_plus" s_sum_plus ["one", "other"]) (GP : Ok P w K mg base 2 "plus" ["one", "other"] (spPlus K)) (mzip : mg "zip" = none) (mtuple : mg "tuple" = none) : Ok P w K mg base 3 "sum_plus" ["one", "other"] (spSumP K) := by
  refine D.ok fun f fd F => F.ok sc_sum_plus (fun vs H Q E h => ?_) (fun cdv A outer s H vs Q E hr h => ?_)
  · obtain ⟨x, y, s, t, n, d, m, e, rfl, _⟩ := h
    rfl
  · obtain ⟨x, y, s, t, n, d, m, e, rfl, ⟨tx, ax, bx, rfl, qx, ⟨ra, xs, rfl, qxs, lx⟩, fx⟩, ⟨ty, ay, by_, rfl, qy, ⟨rb, ys, rfl, qys, ly⟩, fy⟩, hl, h100, z1, z2, z3, z4, hz, q⟩ := h
    refine ⟨_, pss_cons (ps_set (i := 2) sc_sum_plus.nd rfl (.inl rfl) (pe_callTy call_tuple_of (by rfl) mtuple (by decide +kernel) (pa_cons (pe_lc (own := [("mine", 3), ("its", 4)]) (g := gTup K 2 (gCons (gName 3) (gCons (gName 4) gNil))) (tt := tYes) rfl sc_sum_plus.nd (RZ.pi_zipA (by rfl) mzip (pa_cons (pe_ix ix_tup (pv 0) pe_int (fun _ _ => rfl)) (pa_cons (pe_ix ix_tup (pv 1) pe_int (fun _ _ => rfl)) pa_nil)))
        (blkOk_by (N := ["one", "other", "row", "mine", "its"]) (sc := defScope s_sum_plus) (by decide +kernel)) (fun _ _ _ _ _ => pg_tup rfl (pgs_cons (pg_name (i := 3) sc_sum_plus.nd rfl (.inl rfl)) (pgs_cons (pg_name (i := 4) sc_sum_plus.nd rfl (.inl rfl)) pgs_nil))) (fun _ _ _ _ _ => pts_nil) (fun _ _ _ _ _ => cl GP hr (pa_cons (pv 3) (pa_cons (pv 4) pa_nil)))) pa_nil)))
      (pss_one (ps_ret (pe_tup (pa_cons (pv 2) (pa_cons (cl GP hr (pa_cons (pe_ix ix_tup (pv 0) pe_int (fun _ _ => rfl)) (pa_cons (pe_ix ix_tup (pv 1) pe_int (fun _ _ => rfl)) pa_nil))) pa_nil))))), ?_⟩
    have lx' := Paired.length lx
    have ly' := Paired.length ly
    refine ⟨_, rfl, _, _, _, _, rfl, rfl, qx, at0, _, rfl, _, _, _, _, rfl, rfl, qy, at0, ra, rb, xs, ys, rfl, .inr ⟨qxs, qys, fun D hD => ?_⟩⟩
    refine lc_zipT (by omega) (Bld (FrV K) H D ((s.1.zip t.1).map fun p => p.1 + p.2)) (bld0 hD) (fun i H' b => ⟨ex_t b.1 qxs, ex_t b.1 qys⟩) ?_ ?_
    · rintro i x y T H' hx hy b hT
      obtain ⟨r, hr1, fr⟩ := pget lx hx
      obtain ⟨u, hu1, fu⟩ := pget ly hy
      have eT : Ex H' (upd H' T (.tup [x, y])) := Ex.new hT
      refine ⟨T, [x, y], rfl, st_of upd_same, rfl, x, [y], rfl, y, [], rfl, rfl, rfl, ?_⟩
      refine ⟨_, rfl, _, rfl, x, y, r, u, n, d, m, e, rfl, fr.ex (b.1.trans eT), fu.ex (b.1.trans eT), z1 _ (List.mem_of_getElem? hr1), z3 _ (List.mem_of_getElem? hu1), hz, fun v H4 e4 hv => ?_⟩
      refine bld_step stF hD b (eT.trans e4) ?_ ?_ hv
      · have hzip : (s.1.zip t.1)[i]? = some (r, u) := by
          rw [List.getElem?_zip_eq_some]
          exact ⟨hr1, hu1⟩
        rw [List.getElem?_map, hzip]
        rfl
      · have := (List.getElem?_eq_some_iff.mp hr1).1
        omega
    · intro H' b
      obtain ⟨e1, zs, hzs, pz⟩ := bld_end (by simp; omega) b
      refine ⟨D, zs, rfl, .inl ⟨sq_of hzs, fun l hl' => ?_⟩⟩
      have e2 : Ex H (upd H' l (.tup zs)) := e1.trans (Ex.new hl')
      have row := bld_row (n := 0) hzs pz hl'
      have qx2 := ex_t e2 qx
      have qy2 := ex_t e2 qy
      refine ⟨_, rfl, _, rfl, _, _, _, _, rfl, rfl, qx2, at1, _, rfl, _, _, _, _, rfl, rfl, qy2, at1, bx, by_, s.2, t.2, n, d, m, e, rfl, fx.ex e2, fy.ex e2, z2, z4, hz, fun v H5 e5 hv => ⟨(by show 2 ≤ sizeLine; decide), fun p hp => ?_⟩⟩
      exact q _ _ ((e2.trans e5).trans (Ex.new hp)) ⟨p, _, _, rfl, st_of upd_same, row.ex (e5.trans (Ex.new hp)), hv.ex (Ex.new hp)⟩
theorem ok_sum_times (D : Df K mg "sum_times" s_sum_times ["by", "one"]) (GT : Ok P w K mg base 2 "times" ["one", "other"] (spTimes K)) (mtuple : mg "tuple" = none) : Ok P w K mg base 3 "sum_times" ["by", "one"] (spSumT K) := by
  refine D.ok fun f fd F => F.ok sc_sum_times (fun vs H Q E h => ?_) (fun cdv A outer s H vs Q E hr h => ?_)
  · obtain ⟨x, y, r, t, n, d, m, e, rfl, _⟩ := h
    rfl
  · obtain ⟨x, y, r, t, n, d, m, e, rfl, fx, ⟨ty, ay, by_, rfl, qy, ⟨rb, ys, rfl, qys, ly⟩, fy⟩, h100, z1, z3, z4, hz, q⟩ := h
    refine ⟨_, pss_cons (ps_asg (pv 1) (pg_tup rfl (pgs_cons (pg_name (i := 2) sc_sum_times.nd rfl (.inl rfl)) (pgs_cons (pg_name (i := 3) sc_sum_times.nd rfl (.inl rfl)) pgs_nil))))
      (pss_one (ps_ret (pe_tup (pa_cons (pe_callTy call_tuple_of (by rfl) mtuple (by decide +kernel) (pa_cons (pe_lc (own := [("weight", 4)]) (g := gName 4) (tt := tYes) rfl sc_sum_times.nd (pi_tup (pv 2))
        (blkOk_by (N := ["by", "one", "weights", "number", "weight"]) (sc := defScope s_sum_times) (by decide +kernel)) (fun _ _ _ _ _ => (pg_name (i := 4) sc_sum_times.nd rfl (.inl rfl))) (fun _ _ _ _ _ => pts_nil) (fun _ _ _ _ _ => cl GT hr (pa_cons (pv 0) (pa_cons (pv 4) pa_nil)))) pa_nil)) (pa_cons (cl GT hr (pa_cons (pv 0) (pa_cons (pv 3) pa_nil))) pa_nil))))), ?_⟩
    have ly' := Paired.length ly
    refine ⟨_, rfl, ty, _, rfl, qy, rfl, _, _, rfl, _, _, rfl, rfl, _, rfl, rb, rfl, ⟨ys, qys⟩, fun D hD => ?_⟩
    refine lc_tup (xs := ys) (Bld (FrV K) H D (t.1.map fun x => r * x)) (bld0 hD) (fun i H' _ b => ex_t b.1 qys) ?_ ?_
    · rintro i y H' hy b
      obtain ⟨u, hu1, fu⟩ := pget ly hy
      refine ⟨rfl, ?_⟩
      refine ⟨_, rfl, _, rfl, x, y, r, u, n, d, m, e, rfl, fx.ex b.1, fu.ex b.1, z1, z3 _ (List.mem_of_getElem? hu1), hz, fun v H4 e4 hv => ?_⟩
      refine bld_step stF hD b e4 ?_ ?_ hv
      · rw [List.getElem?_map, hu1]
        rfl
      · have := (List.getElem?_eq_some_iff.mp hu1).1
        omega
    · intro H' b
      obtain ⟨e1, zs, hzs, pz⟩ := bld_end (by simp; omega) b
      refine ⟨D, zs, rfl, .inl ⟨sq_of hzs, fun l hl' => ?_⟩⟩
      have e2 : Ex H (upd H' l (.tup zs)) := e1.trans (Ex.new hl')
      have row := bld_row (n := 0) hzs pz hl'
      refine ⟨_, rfl, _, rfl, x, by_, r, t.2, n, d, m, e, rfl, fx.ex e2, fy.ex e2, z1, z4, hz, fun v H5 e5 hv => ⟨(by show 2 ≤ sizeLine; decide), fun p hp => ?_⟩⟩
      exact q _ _ ((e2.trans e5).trans (Ex.new hp)) ⟨p, _, _, rfl, st_of upd_same, row.ex (e5.trans (Ex.new hp)), hv.ex (Ex.new hp)⟩
theorem rep_frs {H : Hp} {v : V} (h : FrV K H v 0) : ∀ k : Nat, FrL K H (List.replicate k v) (List.replicate k 0)
  | 0 => .nil
  | k + 1 => .cons h (rep_frs h k)
theorem flat_one {v : V} : ∀ k : Nat, (List.replicate k [v]).flatten = List.replicate k v
  | 0 => rfl
  | k + 1 => by
    rw [List.replicate_succ, List.flatten_cons, flat_one k, List.replicate_succ]
    rfl
theorem ok_flat_sum (D : Df K mg "flat_sum" s_flat_sum ["many", "number"]) (CN : Cst K mg "NOUGHT" 0) : Ok P w K mg base 1 "flat_sum" ["many", "number"] (spFlat K) := by
  refine D.ok fun f fd F => F.ok sc_flat_sum (fun vs H Q E h => ?_) (fun cdv A outer s H vs Q E hr h => ?_)
  · obtain ⟨k, y, r, rfl, _⟩ := h
    rfl
  · obtain ⟨k, y, r, rfl, fy, hk, q⟩ := h
    obtain ⟨aN, gN, hN⟩ := CN.ex
    refine ⟨_, pss_one (ps_ret (pe_tup (pa_cons (pe_op op_repA (pe_tup (pa_cons (pe_glob (v := .ref aN) (by rfl) gN rfl) pa_nil)) (pv 0)) (pa_cons (pv 1) pa_nil)))), ?_⟩
    refine ⟨(by show 1 ≤ sizeLine; decide), fun p hp => ?_⟩
    refine ⟨_, rfl, p, (k : Int), [.ref aN], rfl, rfl, st_of upd_same, by simp, by omega, by omega, (by show 1 ≤ 1000; decide), fun u H2 e2 hu => ?_⟩
    refine ⟨_, rfl, (by show 2 ≤ sizeLine; decide), fun p2 hp2 => ?_⟩
    have e3 : Ex H2 (upd H2 p2 (.tup [.ref u, y])) := Ex.new hp2
    rw [Int.toNat_natCast, flat_one] at hu
    exact q _ _ (((Ex.new hp).trans e2).trans e3) ⟨p2, _, _, rfl, st_of upd_same, ⟨u, _, rfl, ex_t e3 hu, rep_frs (hN _) k⟩, fy.ex (((Ex.new hp).trans e2).trans e3)⟩
theorem ok_place_sum (D : Df K mg "place_sum" s_place_sum ["many", "place"]) (CN : Cst K mg "NOUGHT" 0) (C1 : Cst K mg "ONE" 1) (mrange : mg "range" = none) (mtuple : mg "tuple" = none) : Ok P w K mg base 1 "place_sum" ["many", "place"] (spPlace K) := by
  refine D.ok fun f fd F => F.ok sc_place_sum (fun vs H Q E h => ?_) (fun cdv A outer s H vs Q E hr h => ?_)
  · obtain ⟨k, p, rfl, _⟩ := h
    rfl
  · obtain ⟨k, p, rfl, hk, q⟩ := h
    obtain ⟨aN, gN, hN⟩ := CN.ex
    obtain ⟨a1, g1, h1⟩ := C1.ex
    refine ⟨_, pss_one (ps_ret (pe_tup (pa_cons (pe_callTy call_tuple_of (by rfl) mtuple (by decide +kernel) (pa_cons (pe_lc (own := [("at", 2)]) (g := gName 2) (tt := tYes) rfl sc_place_sum.nd (pi_range1 (by rfl) mrange (pa_cons (pv 0) pa_nil))
        (blkOk_by (N := ["many", "place", "at"]) (sc := defScope s_place_sum) (by decide +kernel)) (fun _ _ _ _ _ => (pg_name (i := 2) sc_place_sum.nd rfl (.inl rfl))) (fun _ _ _ _ _ => pts_nil)
        (fun _ _ _ _ _ => pe_ifExp (pt_cmpR op_eq (pv 2) (pv 1) (nomark _)) (pe_glob (v := .ref a1) (by rfl) g1 rfl) (pe_glob (v := .ref aN) (by rfl) gN rfl))) pa_nil)) (pa_cons (pe_glob (v := .ref aN) (by rfl) gN rfl) pa_nil)))), ?_⟩
    refine ⟨_, rfl, (k : Int), rfl, by omega, by omega, fun D hD => ?_⟩
    refine lc_range (lo := 0) (n := ((k : Int)).toNat) (Bld (FrV K) H D (unit k p)) (bld0 hD) ?_ ?_
    · intro i H' hi b
      rw [Int.toNat_natCast] at hi
      refine ⟨rfl, ?_⟩
      refine ⟨_, rfl, _, rfl, rfl, _, rfl, ?_⟩
      have e0 : (decide (V.int ((0 : Int) + (i : Int)) = V.int (p : Int))) = decide (i = p) := by
        by_cases hip : i = p
        · subst hip
          simp
        · rw [decide_eq_false hip]
          refine decide_eq_false fun z => hip ?_
          have := V.int.inj z
          omega
      rw [e0]
      refine ite2 (fun hd => ?_) (fun hd => ?_)
      · have hip := of_decide_eq_true hd
        refine bld_step stF hD b (Ex.refl _) ?_ (by omega) (h1 H')
        unfold unit
        rw [List.getElem?_map, List.getElem?_range hi]
        simp [hip]
      · have hip : ¬ i = p := fun z => hd (decide_eq_true z)
        refine bld_step stF hD b (Ex.refl _) ?_ (by omega) (hN H')
        unfold unit
        rw [List.getElem?_map, List.getElem?_range hi]
        simp [hip]
    · intro H' b
      obtain ⟨e1, zs, hzs, pz⟩ := bld_end (by simp [unit]) b
      refine ⟨D, zs, rfl, .inl ⟨sq_of hzs, fun l hl' => ?_⟩⟩
      have e2 : Ex H (upd H' l (.tup zs)) := e1.trans (Ex.new hl')
      have row := bld_row (n := 0) hzs pz hl'
      refine ⟨(by show 2 ≤ sizeLine; decide), fun p2 hp => ?_⟩
      exact q _ _ (e2.trans (Ex.new hp)) ⟨p2, _, _, rfl, st_of upd_same, row.ex (Ex.new hp), hN _⟩
end

end K30
end
section
set_option maxRecDepth 100000
set_option maxHeartbeats 400000
namespace K30
open PySem Evl Nc PyProof.Rows
open L2 hiding spCell
/-- whether a thing is a fraction, its numbers small -/
inductive ThB (K : PySem.W.Frag) (H : Hp) : V → Bool → Prop
  | oth {v k} (h : KdV K H v k) (n : k ≠ .tup) : ThB K H v false
  | tupN {t xs} (q : SqT K H t xs) (n : xs.length ≠ 2) : ThB K H (.ref t) false
  | two {t x y kx ky} (q : SqT K H t [x, y]) (hx : KdV K H x kx) (hy : KdV K H y ky) (n : ¬ (kx = .int ∧ ky = .int)) : ThB K H (.ref t) false
  | nums {t a b} (q : SqT K H t [.int a, .int b]) (ha : a.natAbs < 2 ^ 100) (hb : b.natAbs < 2 ^ 100) : ThB K H (.ref t) (decide (0 < b) && decide (Nat.gcd a.natAbs b.natAbs = 1))
theorem ThB.th {K : PySem.W.Frag} {H : Hp} {v : V} {b : Bool} (h : ThB K H v b) : Th K H v b := by
  cases h with
  | oth h n => exact .oth h n
  | tupN q n => exact .tupN q n
  | two q hx hy n => exact .two q hx hy n
  | nums q _ _ => exact .nums q
theorem thb_ex {K : PySem.W.Frag} {H H' : Hp} {v : V} {b : Bool} (e : Ex H H') (h : ThB K H v b) : ThB K H' v b := by
  cases h with
  | oth h n => exact .oth (kd_ex e h) n
  | tupN q n => exact .tupN (ex_t e q) n
  | two q hx hy n => exact .two (ex_t e q) (kd_ex e hx) (kd_ex e hy) n
  | nums q a b => exact .nums (ex_t e q) a b
theorem fr_thb {K : PySem.W.Frag} {H : Hp} {v : V} {r : Rat} (h : FrV K H v r) (z : Sz 100 100 r) : ThB K H v true := by
  obtain ⟨t, rfl, q⟩ := h
  have e := ThB.nums q z.1 z.den
  have e2 : (decide (0 < (r.den : Int)) && decide (Nat.gcd r.num.natAbs (r.den : Int).natAbs = 1)) = true := by
    rw [decide_eq_true (den_pos r), Int.natAbs_natCast, decide_eq_true (show Nat.gcd r.num.natAbs r.den = 1 from r.reduced)]
    rfl
  rwa [e2] at e
theorem eqv_made {a b : Int} (hb : 0 < b) : PyData.eqv (fd (Rat.divInt a b)) (.tuple [.int a, .int b]) = decide (Nat.gcd a.natAbs b.natAbs = 1) := by
  by_cases h : Nat.gcd a.natAbs b.natAbs = 1
  · have h1 := num_div (t := a) hb
    have h2 := den_div (t := a) hb
    rw [h, show ((1 : Nat) : Int) = 1 from rfl, Int.ediv_one] at h1 h2
    rw [decide_eq_true h]
    have e : fd (Rat.divInt a b) = .tuple [.int a, .int b] := by
      unfold fd
      rw [← h1, ← h2]
    rw [← e]
    exact eqv_fd _
  · rw [decide_eq_false h]
    have h2 := den_div (t := a) hb
    have g0 : 0 < Nat.gcd a.natAbs b.natAbs := Nat.gcd_pos_of_pos_right _ (by omega)
    have ne : ¬ ((Rat.divInt a b).den : Int) = b := fun z => by
      rw [← h2] at z
      have g2 : (2 : Int) ≤ ((Nat.gcd a.natAbs b.natAbs : Nat) : Int) := by omega
      have := Int.ediv_lt_self_of_pos_of_ne_one hb (show ((Nat.gcd a.natAbs b.natAbs : Nat) : Int) ≠ 1 by omega)
      omega
    show (((Rat.divInt a b).num == a) && ((((Rat.divInt a b).den : Int) == b) && true)) = false
    rw [show ((((Rat.divInt a b).den : Int) == b)) = false from beq_eq_false_iff_ne.mpr ne]
    simp
def spFrB (K : PySem.W.Frag) : Sp := fun vs H Q _ => ∃ v b, vs = [v] ∧ ThB K H v b ∧ ∀ H', Ex H H' → Q (.bl b) H'
theorem shaped_fd_ints (a b : Int) : SeqAt.shaped (.tuple [.int a, .int b]) = true := rfl
section
variable {P : Program} {w : World} {K : PySem.W.Frag} {mg : Str → Option Value} {base : Heap}
theorem ok__law_whole (D : Df K mg "_law_whole" s__law_whole ["_law_thing_here"]) (misi : mg "isinstance" = none) (mint : mg "int" = none) (mbool : mg "bool" = none) : Ok P w K mg base 1 "_law_whole" ["_law_thing_here"] (spWh K) := by
  refine D.ok fun f fd F => F.ok sc__law_whole (fun vs H Q E h => ?_) (fun cdv A outer s H vs Q E hr h => ?_)
  · obtain ⟨v, k, rfl, _⟩ := h
    rfl
  · obtain ⟨v, k, rfl, hk, q⟩ := h
    refine ⟨_, pss_one (ps_ret (pe_and (pe_callB call_isi (by rfl) misi (by decide +kernel) (pa_cons (pv 0) (pa_cons (pe_bltn (v := .ty "int") (by rfl) mint (by decide +kernel) rfl) pa_nil))) (pe_one (pe_not (pe_callB call_isi (by rfl) misi (by decide +kernel) (pa_cons (pv 0) (pa_cons (pe_bltn (v := .ty "bool") (by rfl) mbool (by decide +kernel) rfl) pa_nil))))))), ?_⟩
    refine ⟨_, rfl, v, _, _, _, _, rfl, .ty _, hk.1, kit_ty (kd_int k), _, rfl, ifB (fun e => ?_) (fun e => ?_)⟩
    · refine ⟨_, rfl, v, _, _, _, _, rfl, .ty _, hk.1, kit_ty (kd_bool k), _, rfl, ?_⟩
      cases k <;> first | exact q | exact absurd e (by decide)
    · cases k <;> first | exact q | exact absurd e (by decide)
theorem ok__law_is_fraction (D : Df K mg "_law_is_fraction" s__law_is_fraction ["_law_thing_here"]) (GW : Ok P w K mg base 1 "_law_whole" ["_law_thing_here"] (spWh K)) (GM : Ok P w K mg base 1 "_law_made" ["_law_top", "_law_bottom"] (spPart K)) (misi : mg "isinstance" = none) (mtuple : mg "tuple" = none) (mlen : mg "len" = none) : Ok P w K mg base 2 "_law_is_fraction" ["_law_thing_here"] (spFrB K) := by
  refine D.ok fun f fd F => F.ok sc__law_is_fraction (fun vs H Q E h => ?_) (fun cdv A outer s H vs Q E hr h => ?_)
  · obtain ⟨v, b, rfl, _⟩ := h
    rfl
  · obtain ⟨v, b, rfl, ht, q⟩ := h
    have hr1 : Room 1 _ := hr.mono (by decide)
    refine ⟨_, (pss_cons (ps_if (PW.pt (pw_or (pt_not (pt_val (pe_callB call_isi (by rfl) misi (by decide +kernel) (pa_cons (pv 0) (pa_cons (pe_bltn (v := .ty "tuple") (by rfl) mtuple (by decide +kernel) rfl) pa_nil))))) (pw_or (pt_cmpR op_ne (pe_callB call_len_seq (by rfl) mlen PySem.boot_len (pa_cons (pv 0) pa_nil)) pe_int (nomark _)) (pw_or (pt_not (pt_val (cl GW hr1 (pa_cons (pe_ix ix_tup (pv 0) pe_int (fun _ _ => rfl)) pa_nil)))) (pw_or1 (pt_not (pt_val (cl GW hr1 (pa_cons (pe_ix ix_tup (pv 0) pe_int (fun _ _ => rfl)) pa_nil))))))))) (pss_one (ps_ret pe_bl)) pss_nil)
      (pss_one (ps_ret (pe_and (pe_cmpR op_gt (pe_ix ix_tup (pv 0) pe_int (fun _ _ => rfl)) pe_int (nomark _)) (pe_one (pe_cmpR (op_eqD hr.units) (cl GM hr1 (pa_cons (pe_ix ix_tup (pv 0) pe_int (fun _ _ => rfl)) (pa_cons (pe_ix ix_tup (pv 0) pe_int (fun _ _ => rfl)) pa_nil))) (pv 0) (nomark _))))))), ?_⟩
    cases ht with
    | oth h n =>
      refine ⟨_, rfl, v, _, _, _, _, rfl, .ty _, h.1, kit_ty (kd_tup _), _, rfl, ?_⟩
      rw [decide_eq_false n]
      exact iteT (iteT (q H (Ex.refl H)))
    | tupN qt n =>
      refine ⟨_, rfl, _, _, _, _, _, rfl, .ty _, tyT qt, kit_ty (r := true) (by decide +kernel), _, rfl, iteF ?_⟩
      refine ⟨_, rfl, _, _, rfl, .inr qt, rfl, _, rfl, ifB (fun e => iteT (q H (Ex.refl H))) (fun e => ?_)⟩
      have e1 := eq_of_nd e
      exact (n (by omega)).elim
    | @two t x y kx ky qt hx hy n =>
      refine ⟨_, rfl, _, _, _, _, _, rfl, .ty _, tyT qt, kit_ty (r := true) (by decide +kernel), _, rfl, iteF ?_⟩
      refine ⟨_, rfl, _, _, rfl, .inr qt, rfl, _, rfl, iteNS rfl ?_⟩
      refine ⟨_, rfl, _, _, _, _, rfl, rfl, qt, at0, x, kx, rfl, hx, _, rfl, ifB (fun e => iteT (q H (Ex.refl H))) (fun e => ?_)⟩
      refine ⟨_, rfl, _, _, _, _, rfl, rfl, qt, at1, y, ky, rfl, hy, _, rfl, ifB (fun e2 => q H (Ex.refl H)) (fun e2 => ?_)⟩
      exact (n ⟨of_nd e, of_nd e2⟩).elim
    | @nums t a b qt ha hbn =>
      refine ⟨_, rfl, _, _, _, _, _, rfl, .ty _, tyT qt, kit_ty (r := true) (by decide +kernel), _, rfl, iteF ?_⟩
      refine ⟨_, rfl, _, _, rfl, .inr qt, rfl, _, rfl, iteNS rfl ?_⟩
      refine ⟨_, rfl, _, _, _, _, rfl, rfl, qt, at0, _, .int, rfl, ⟨tyI a, fun _ => ⟨a, rfl⟩⟩, _, rfl, iteF ?_⟩
      refine ⟨_, rfl, _, _, _, _, rfl, rfl, qt, at1, _, .int, rfl, ⟨tyI b, fun _ => ⟨b, rfl⟩⟩, _, rfl, iteF ?_⟩
      refine ⟨_, rfl, _, _, _, _, rfl, rfl, qt, at1, _, _, rfl, rfl, _, rfl, ifB (fun e => ?_) (fun e => ?_)⟩
      · have hb : 0 < b := of_decide_eq_true e
        refine ⟨_, rfl, _, _, _, _, rfl, rfl, qt, at0, _, rfl, _, _, _, _, rfl, rfl, qt, at1, a, b, 100, rfl, hb, hbn, by decide, .inl (by decide), fun v1 H1 e1 hv => ?_⟩
        refine ⟨_, rfl, _, _, hv.dp, .tup (ex_t e1 qt) (.cons (.int _) (.cons (.int _) .nil)), shaped_fd _, shaped_fd_ints a b, ?_⟩
        rw [eqv_made hb]
        have q1 := q H1 e1
        rwa [e, Bool.true_and] at q1
      · have q1 := q H (Ex.refl H)
        rwa [e, Bool.false_and] at q1
end

end K30
end
section
set_option maxRecDepth 100000
set_option maxHeartbeats 400000
namespace K30
open PySem Evl Nc PyProof.Rows
open L2 hiding spCell
section
variable {P : Program} {w : World} {K : PySem.W.Frag} {mg : Str → Option Value} {base : Heap}
theorem ok_is_whole (D : Df K mg "is_whole" s_is_whole ["thing"]) (misi : mg "isinstance" = none) (mint : mg "int" = none) (mbool : mg "bool" = none) : Ok P w K mg base 1 "is_whole" ["thing"] (spWh K) := by
  refine D.ok fun f fd F => F.ok sc_is_whole (fun vs H Q E h => ?_) (fun cdv A outer s H vs Q E hr h => ?_)
  · obtain ⟨v, k, rfl, _⟩ := h
    rfl
  · obtain ⟨v, k, rfl, hk, q⟩ := h
    refine ⟨_, pss_one (ps_ret (pe_and (pe_callB call_isi (by rfl) misi (by decide +kernel) (pa_cons (pv 0) (pa_cons (pe_bltn (v := .ty "int") (by rfl) mint (by decide +kernel) rfl) pa_nil))) (pe_one (pe_not (pe_callB call_isi (by rfl) misi (by decide +kernel) (pa_cons (pv 0) (pa_cons (pe_bltn (v := .ty "bool") (by rfl) mbool (by decide +kernel) rfl) pa_nil))))))), ?_⟩
    refine ⟨_, rfl, v, _, _, _, _, rfl, .ty _, hk.1, kit_ty (kd_int k), _, rfl, ifB (fun e => ?_) (fun e => ?_)⟩
    · refine ⟨_, rfl, v, _, _, _, _, rfl, .ty _, hk.1, kit_ty (kd_bool k), _, rfl, ?_⟩
      cases k <;> first | exact q | exact absurd e (by decide)
    · cases k <;> first | exact q | exact absurd e (by decide)
theorem ok_is_fraction (D : Df K mg "is_fraction" s_is_fraction ["thing"]) (GW : Ok P w K mg base 1 "is_whole" ["thing"] (spWh K)) (misi : mg "isinstance" = none) (mtuple : mg "tuple" = none) (mlen : mg "len" = none) (mgcd : mg "gcd" = some (.builtin "math.gcd")) : Ok P w K mg base 2 "is_fraction" ["thing"] (spFr K) := by
  refine D.ok fun f fd F => F.ok sc_is_fraction (fun vs H Q E h => ?_) (fun cdv A outer s H vs Q E hr h => ?_)
  · obtain ⟨v, b, rfl, _⟩ := h
    rfl
  · obtain ⟨v, b, rfl, ht, q⟩ := h
    have hr1 : Room 1 _ := hr.mono (by decide)
    refine ⟨_, (pss_cons (ps_if (PW.pt (pw_or (pt_not (pt_val (pe_callB call_isi (by rfl) misi (by decide +kernel) (pa_cons (pv 0) (pa_cons (pe_bltn (v := .ty "tuple") (by rfl) mtuple (by decide +kernel) rfl) pa_nil))))) (pw_or1 (pt_cmpR op_ne (pe_callB call_len_seq (by rfl) mlen PySem.boot_len (pa_cons (pv 0) pa_nil)) pe_int (nomark _))))) (pss_one (ps_ret pe_bl)) pss_nil)
      (pss_cons (ps_asg (pv 0) (pg_tup rfl (pgs_cons (pg_name (i := 1) sc_is_fraction.nd rfl (.inl rfl)) (pgs_cons (pg_name (i := 2) sc_is_fraction.nd rfl (.inl rfl)) pgs_nil))))
      (pss_one (ps_ret (pe_and (cl GW hr1 (pa_cons (pv 1) pa_nil)) (pe_and (cl GW hr1 (pa_cons (pv 2) pa_nil)) (pe_and (pe_cmpR op_gt (pv 2) pe_int (nomark _)) (pe_one (pe_cmpR op_eq (pe_callBfun cr_gcd (by rfl) mgcd (pa_cons (pv 1) (pa_cons (pv 2) pa_nil))) pe_int (nomark _)))))))))), ?_⟩
    cases ht with
    | oth h n =>
      refine ⟨_, rfl, v, _, _, _, _, rfl, .ty _, h.1, kit_ty (kd_tup _), _, rfl, ?_⟩
      rw [decide_eq_false n]
      exact iteT (iteT q)
    | tupN qt n =>
      refine ⟨_, rfl, _, _, _, _, _, rfl, .ty _, tyT qt, kit_ty (r := true) (by decide +kernel), _, rfl, ?_⟩
      refine iteF ?_
      refine ⟨_, rfl, _, _, rfl, .inr qt, rfl, _, rfl, ifB (fun e => q) (fun e => ?_)⟩
      have e1 := eq_of_nd e
      exact (n (by omega)).elim
    | @two t x y kx ky qt hx hy n =>
      refine ⟨_, rfl, _, _, _, _, _, rfl, .ty _, tyT qt, kit_ty (r := true) (by decide +kernel), _, rfl, ?_⟩
      refine iteF ?_
      refine ⟨_, rfl, _, _, rfl, .inr qt, rfl, _, rfl, iteNS rfl ?_⟩
      refine ⟨_, rfl, t, [x, y], rfl, qt, rfl, x, [y], rfl, y, [], rfl, rfl, ?_⟩
      refine ⟨_, rfl, x, kx, rfl, hx, _, rfl, ifB (fun e => ?_) (fun e => q)⟩
      refine ⟨_, rfl, y, ky, rfl, hy, _, rfl, ifB (fun e2 => ?_) (fun e2 => q)⟩
      exact (n ⟨of_decide_eq_true e, of_decide_eq_true e2⟩).elim
    | @nums t a b qt =>
      refine ⟨_, rfl, _, _, _, _, _, rfl, .ty _, tyT qt, kit_ty (r := true) (by decide +kernel), _, rfl, ?_⟩
      refine iteF ?_
      refine ⟨_, rfl, _, _, rfl, .inr qt, rfl, _, rfl, iteNS rfl ?_⟩
      refine ⟨_, rfl, t, [.int a, .int b], rfl, qt, rfl, _, [_], rfl, _, [], rfl, rfl, ?_⟩
      refine ⟨_, rfl, _, .int, rfl, ⟨tyI a, fun _ => ⟨a, rfl⟩⟩, _, rfl, iteT ?_⟩
      refine ⟨_, rfl, _, .int, rfl, ⟨tyI b, fun _ => ⟨b, rfl⟩⟩, _, rfl, iteT ?_⟩
      refine ⟨_, rfl, _, _, rfl, rfl, _, rfl, ifB (fun e => ?_) (fun e => ?_)⟩
      · refine ⟨_, rfl, _, rfl, a, b, rfl, rfl, ?_⟩
        rw [e, Bool.true_and] at q
        exact q_bl q (dec_int _)
      · rw [e, Bool.false_and] at q
        exact q
theorem ok_is_row (D : Df K mg "is_row" s_is_row ["thing", "many"]) (GF : Ok P w K mg base 2 "is_fraction" ["thing"] (spFr K)) (misi : mg "isinstance" = none) (mtuple : mg "tuple" = none) (mlen : mg "len" = none) (mall : mg "all" = none) : Ok P w K mg base 3 "is_row" ["thing", "many"] (spIsRw K) := by
  refine D.ok fun f fd F => F.ok sc_is_row (fun vs H Q E h => ?_) (fun cdv A outer s H vs Q E hr h => ?_)
  · obtain ⟨v, k, f, rfl, _⟩ := h
    rfl
  · obtain ⟨v, k, f, rfl, hw, q⟩ := h
    refine ⟨_, (pss_cons (ps_if (PW.pt (pw_or (pt_not (pt_val (pe_callB call_isi (by rfl) misi (by decide +kernel) (pa_cons (pv 0) (pa_cons (pe_bltn (v := .ty "tuple") (by rfl) mtuple (by decide +kernel) rfl) pa_nil))))) (pw_or1 (pt_cmpR op_ne (pe_callB call_len_seq (by rfl) mlen PySem.boot_len (pa_cons (pv 0) pa_nil)) (pv 1) (nomark _))))) (pss_one (ps_ret pe_bl)) pss_nil)
      (pss_one (ps_ret (pe_callB (cr_all rfl) (by rfl) mall (by decide +kernel) (pa_cons (pe_lc (own := [("part", 2)]) (g := gName 2) (tt := tYes) rfl sc_is_row.nd (pi_tup (pv 0)) (blkOk_by (N := ["thing", "many", "part"]) (sc := defScope s_is_row) (by decide +kernel)) (fun _ _ _ _ _ => (pg_name (i := 2) sc_is_row.nd rfl (.inl rfl))) (fun _ _ _ _ _ => pts_nil) (fun _ _ _ _ _ => cl GF (hr.mono (by decide)) (pa_cons (pv 2) pa_nil))) pa_nil))))), ?_⟩
    cases hw with
    | oth h n =>
      refine ⟨_, rfl, v, _, _, _, _, rfl, .ty _, h.1, kit_ty (kd_tup _), _, rfl, ?_⟩
      rw [decide_eq_false n]
      exact iteT (iteT (q _ (Ex.refl H)))
    | @tup t xs bs qt p z =>
      have hl := Paired.length p
      refine ⟨_, rfl, _, _, _, _, _, rfl, .ty _, tyT qt, kit_ty (r := true) (by decide +kernel), _, rfl, iteF ?_⟩
      refine ⟨_, rfl, _, _, rfl, .inr qt, _, rfl, rfl, _, rfl, ifB (fun e => ?_) (fun e => ?_)⟩
      · refine q_bl (q _ (Ex.refl H)) ?_
        show _ = (decide ((bs.length : Int) = k) && bs.all id)
        rw [← hl, ne_of_nd e, Bool.false_and]
      · have e1 := eq_of_nd e
        subst e1
        refine ⟨_, rfl, t, rfl, ⟨_, qt⟩, fun D hD => ?_⟩
        refine lc_tup (K := K) (a := t) (xs := xs) (fun i H' => Ex H H' ∧ H' D = some (.lst ((bs.take i).map V.bl))) ⟨Ex.new hD, upd_same⟩ (fun i H' _ b => ex_t b.1 qt) ?_ ?_
        · rintro i x H' hi ⟨e1, k1⟩
          obtain ⟨b, hb, th⟩ := pget p hi
          have hlt := (List.getElem?_eq_some_iff.mp hi).1
          refine ⟨rfl, ?_⟩
          refine ⟨_, rfl, x, b, rfl, th_exx e1 th, _, k1, sz_lt (by rw [List.length_map, List.length_take]; omega), Ex.mut e1 hD, ?_⟩
          rw [List.take_add_one, hb, List.map_append]
          exact upd_same
        · rintro H1 ⟨e1, k1⟩
          refine ⟨D, bs, rfl, sq_of ?_, ?_⟩
          · rw [k1, List.take_of_length_le (by omega)]
          · refine q_bl (q _ e1) ?_
            show _ = (decide ((bs.length : Int) = (xs.length : Int)) && bs.all id)
            rw [decide_eq_true (by omega), Bool.true_and]
theorem ok_is_sum (D : Df K mg "is_sum" s_is_sum ["thing", "many"]) (GR : Ok P w K mg base 3 "is_row" ["thing", "many"] (spIsRw K)) (GF : Ok P w K mg base 2 "is_fraction" ["thing"] (spFr K)) (misi : mg "isinstance" = none) (mtuple : mg "tuple" = none) (mlen : mg "len" = none) : Ok P w K mg base 4 "is_sum" ["thing", "many"] (spIsSum K) := by
  refine D.ok fun f fd F => F.ok sc_is_sum (fun vs H Q E h => ?_) (fun cdv A outer s H vs Q E hr h => ?_)
  · obtain ⟨x, z, rfl, _⟩ := h
    rfl
  · obtain ⟨x, z, rfl, ⟨t, a, b, rfl, qt, ra, fb⟩, hl, q⟩ := h
    have hr2 : Room 2 _ := hr.mono (by decide)
    refine ⟨_, (pss_cons (ps_if (PW.pt (pw_or (pt_not (pt_val (pe_callB call_isi (by rfl) misi (by decide +kernel) (pa_cons (pv 0) (pa_cons (pe_bltn (v := .ty "tuple") (by rfl) mtuple (by decide +kernel) rfl) pa_nil))))) (pw_or1 (pt_cmpR op_ne (pe_callB call_len_seq (by rfl) mlen PySem.boot_len (pa_cons (pv 0) pa_nil)) pe_int (nomark _))))) (pss_one (ps_ret pe_bl)) pss_nil)
      (pss_cons (ps_asg (pv 0) (pg_tup rfl (pgs_cons (pg_name (i := 2) sc_is_sum.nd rfl (.inl rfl)) (pgs_cons (pg_name (i := 3) sc_is_sum.nd rfl (.inl rfl)) pgs_nil))))
      (pss_one (ps_ret (pe_and (cl GR hr (pa_cons (pv 2) (pa_cons (pv 1) pa_nil))) (pe_one (cl GF hr2 (pa_cons (pv 3) pa_nil)))))))), ?_⟩
    refine ⟨_, rfl, _, _, _, _, _, rfl, .ty _, tyT qt, kit_ty (r := true) (by decide +kernel), _, rfl, iteF ?_⟩
    refine ⟨_, rfl, _, _, rfl, .inr qt, rfl, _, rfl, iteNS rfl ?_⟩
    refine ⟨_, rfl, t, [a, b], rfl, qt, rfl, a, [b], rfl, b, [], rfl, rfl, ?_⟩
    refine ⟨_, rfl, _, rfl, a, _, _, rfl, ra.rw hl, fun H1 e1 => ⟨_, rfl, ?_⟩⟩
    rw [rwB_rep]
    exact iteT ⟨_, rfl, b, true, rfl, (fb.ex e1).th, q H1 e1⟩
theorem ok__are_ins (D : Df K mg "_are_ins" s__are_ins ["thing"]) {tMI : Tok} (GW : Ok P w K mg base 1 "is_whole" ["thing"] (spWh K)) (mMI : mg "MOST_INS" = some (.int 3 tMI)) : Ok P w K mg base 2 "_are_ins" ["thing"] spAreIns := by
  refine D.ok fun f fd F => F.ok sc__are_ins (fun vs H Q E h => ?_) (fun cdv A outer s H vs Q E hr h => ?_)
  · obtain ⟨n, rfl, _⟩ := h
    rfl
  · obtain ⟨n, rfl, n1, n3, q⟩ := h
    refine ⟨_, pss_one (ps_ret (pe_and (cl GW hr (pa_cons (pv 0) pa_nil)) (pe_one (pe_chain op_le op_le pe_int (pv 0) (pe_glob (v := .int 3) (by rfl) mMI ⟨_, rfl⟩))))), ?_⟩
    refine ⟨_, rfl, _, .int, rfl, ⟨tyI _, fun _ => ⟨_, rfl⟩⟩, _, rfl, ite_t (decide_eq_true rfl) ?_⟩
    refine ⟨_, rfl, _, _, rfl, rfl, _, rfl, ite_t (decide_eq_true (by omega)) ?_⟩
    exact ⟨_, _, rfl, rfl, q_bl q (decide_eq_true (by omega))⟩
theorem ok__are_layers (D : Df K mg "_are_layers" s__are_layers ["thing", "ins"]) {tML tMN : Tok} (GI : Ok P w K mg base 4 "is_sum" ["thing", "many"] (spIsSum K)) (mML : mg "MOST_LAYERS" = some (.int 4 tML)) (mMN : mg "MOST_NODES" = some (.int 4 tMN)) (misi : mg "isinstance" = none) (mtuple : mg "tuple" = none) (mlist : mg "list" = none) (mlen : mg "len" = none) (mall : mg "all" = none) : Ok P w K mg base 5 "_are_layers" ["thing", "ins"] (spAreLays K) := by
  refine D.ok fun f fd F => F.ok sc__are_layers (fun vs H Q E h => ?_) (fun cdv A outer s H vs Q E hr h => ?_)
  · obtain ⟨x, n, ls, W, rfl, _⟩ := h
    rfl
  · obtain ⟨x, n, ls, W, rfl, ⟨D, ys, rfl, qD, pl⟩, ok, q⟩ := h
    refine ⟨_, (pss_cons (ps_if (PW.pt (pw_or (pt_not (pt_val (pe_callB call_isiT (by rfl) misi (by decide +kernel) (pa_cons (pv 0) (pa_cons (pe_tup (pa_cons (pe_bltn (v := .ty "list") (by rfl) mlist (by decide +kernel) rfl) (pa_cons (pe_bltn (v := .ty "tuple") (by rfl) mtuple (by decide +kernel) rfl) pa_nil))) pa_nil))))) (pw_or1 (pt_not (pt_chain op_le op_le pe_int (pe_callB call_len_seq (by rfl) mlen PySem.boot_len (pa_cons (pv 0) pa_nil)) (pe_glob (v := .int 4) (by rfl) mML ⟨_, rfl⟩)))))) (pss_one (ps_ret pe_bl)) pss_nil)
      (pss_cons (ps_set (i := 2) sc__are_layers.nd rfl (.inr rfl) (pv 1))
      (pss_cons (ps_for PassesOwn.never rfl (pi_list (pv 0)) (pg_name (i := 3) sc__are_layers.nd rfl (.inl rfl)) (pss_cons (ps_if (PW.pt (pw_or (pt_not (pt_val (pe_callB call_isiT (by rfl) misi (by decide +kernel) (pa_cons (pv 3) (pa_cons (pe_tup (pa_cons (pe_bltn (v := .ty "list") (by rfl) mlist (by decide +kernel) rfl) (pa_cons (pe_bltn (v := .ty "tuple") (by rfl) mtuple (by decide +kernel) rfl) pa_nil))) pa_nil))))) (pw_or1 (pt_not (pt_chain op_le op_le pe_int (pe_callB call_len_seq (by rfl) mlen PySem.boot_len (pa_cons (pv 3) pa_nil)) (pe_glob (v := .int 4) (by rfl) mMN ⟨_, rfl⟩)))))) (pss_one (ps_ret pe_bl)) pss_nil)
      (pss_cons (ps_if (pt_not (pt_val (pe_callB (cr_all rfl) (by rfl) mall (by decide +kernel) (pa_cons (pe_lc (own := [("node", 4)]) (g := gName 4) (tt := tYes) rfl sc__are_layers.nd (pi_list (pv 3)) (blkOk_by (N := ["thing", "ins", "ahead", "nodes", "node"]) (sc := defScope s__are_layers) (by decide +kernel)) (fun _ _ _ _ _ => (pg_name (i := 4) sc__are_layers.nd rfl (.inl rfl))) (fun _ _ _ _ _ => pts_nil) (fun _ _ _ _ _ => cl GI hr (pa_cons (pv 4) (pa_cons (pv 2) pa_nil)))) pa_nil)))) (pss_one (ps_ret pe_bl)) pss_nil)
      (pss_one (ps_set (i := 2) sc__are_layers.nd rfl (.inr rfl) (pe_callB call_len_seq (by rfl) mlen PySem.boot_len (pa_cons (pv 3) pa_nil)))))))
      (pss_one (ps_ret pe_bl))))), ?_⟩
    have hly := Paired.length pl
    have l1 := ok.l1
    have l4 := ok.l4
    have n3 := ok.n3
    refine ⟨_, rfl, (by show 2 ≤ sizeLine; decide), fun p hp => ?_⟩
    have e1 : Ex H (upd H p (.tup [.ty "list", .ty "tuple"])) := Ex.new hp
    refine ⟨_, p, _, _, _, _, rfl, upd_same, .cons (.ty _) (.cons (.ty _) .nil), tyL (ex_l e1 qD), kitLT, _, rfl, iteF ?_⟩
    generalize upd H p (.tup [.ty "list", .ty "tuple"]) = H1 at e1 ⊢
    refine ⟨_, rfl, D, _, rfl, .inl (ex_l e1 qD), _, _, rfl, rfl, _, rfl, ite_t (decide_eq_true (by omega)) ⟨_, _, rfl, rfl, _, rfl, ite_nt (decide_eq_true (by omega)) ?_⟩⟩
    refine ⟨_, rfl, _, rfl, D, rfl, ⟨_, ex_l e1 qD⟩, for_list (K := K) (a := D) (xs := ys) (fun i σ H' => ∃ (n' : Nat) (o3 o4 : Option V), σ = [some (.ref D), some (.int (n : Int)), some (.int (n' : Int)), o3, o4] ∧ Ex H H' ∧ n' ≤ 4 ∧ Over n' (ls.drop i)) ⟨n, none, none, rfl, e1, by omega, ok.over⟩ (fun i σ H' _ ⟨_, _, _, _, e, _⟩ => ex_l e qD) ?_ ?_⟩
    · rintro i v σ H2 hi ⟨n', o3, o4, rfl, e2, hn4, ov⟩
      obtain ⟨l, hl, lv⟩ := pget pl hi
      obtain ⟨a, xs, rfl, qa, pz⟩ := lv.ex e2
      rw [drop_at hl] at ov
      obtain ⟨o1, ⟨o2, o2'⟩, o5⟩ := ov
      have hlx := Paired.length pz
      refine ⟨_, rfl, (by show 2 ≤ sizeLine; decide), fun p hp => ?_⟩
      have e3 : Ex H2 (upd H2 p (.tup [.ty "list", .ty "tuple"])) := Ex.new hp
      refine ⟨_, p, _, _, _, _, rfl, upd_same, .cons (.ty _) (.cons (.ty _) .nil), tyL (ex_l e3 qa), kitLT, _, rfl, iteF ?_⟩
      generalize upd H2 p (.tup [.ty "list", .ty "tuple"]) = H3 at e3 ⊢
      have qa3 := ex_l e3 qa
      have pz3 : Paired (SumV K H3) xs l := pmono (fun _ _ => SumV.ex e3) pz
      refine ⟨_, rfl, a, _, rfl, .inl qa3, _, _, rfl, rfl, _, rfl, ite_t (decide_eq_true (by omega)) ⟨_, _, rfl, rfl, _, rfl, ite_nt (decide_eq_true (by omega)) ?_⟩⟩
      refine ⟨_, rfl, a, rfl, ⟨_, qa3⟩, fun G hG => ?_⟩
      refine lc_list (K := K) (a := a) (xs := xs) (fun j H' => Ex H3 H' ∧ H' G = some (.lst ((List.replicate j true).map V.bl))) ⟨Ex.new hG, upd_same⟩ (fun j H' _ b => ex_l b.1 qa3) ?_ ?_
      · rintro j y H' hj ⟨e4, k4⟩
        obtain ⟨z, hz, sz⟩ := pget pz3 hj
        have hjl := (List.getElem?_eq_some_iff.mp hj).1
        have z1 := o1 z (List.mem_of_getElem? hz)
        refine ⟨rfl, ?_⟩
        refine ⟨_, rfl, _, rfl, y, z, (by rw [z1]; rfl), sz.ex e4, by omega, fun H5 e5 => ⟨_, e5 _ _ k4, sz_lt (by simp; omega), Ex.mut (e4.trans e5) hG, ?_⟩⟩
        rw [List.replicate_succ', List.map_append]
        exact upd_same
      · rintro H5 ⟨e5, k5⟩
        refine ⟨G, _, rfl, sq_of k5, _, rfl, ite_nt (by simp) ?_⟩
        have E5 := e3.trans e5
        exact ⟨_, rfl, a, _, rfl, .inl (ex_l E5 qa), xs.length, _, _, rfl, e2.trans E5, by omega, by rw [hlx]; exact o5⟩
    · rintro σ H2 ⟨n', o3, o4, rfl, e2, _, _⟩
      exact q H2 e2
theorem ok_cut_at_nought (D : Df K mg "cut_at_nought" s_cut_at_nought ["one"]) (CN : Cst K mg "NOUGHT" 0) : Ok P w K mg base 1 "cut_at_nought" ["one"] (spCutQ K) := by
  refine D.ok fun f fd F => F.ok sc_cut_at_nought (fun vs H Q E h => ?_) (fun cdv A outer s H vs Q E hr h => ?_)
  · obtain ⟨x, r, rfl, _⟩ := h
    rfl
  · obtain ⟨x, r, rfl, hx, q⟩ := h
    obtain ⟨aN, gN, hN⟩ := CN.ex
    refine ⟨_, pss_cons (ps_if (pt_cmpR op_lt (pe_ix ix_tup (pv 0) pe_int (fun _ _ => rfl)) pe_int (nomark _)) (pss_one (ps_ret (pe_glob (v := .ref aN) (by rfl) gN rfl))) pss_nil) (pss_one (ps_ret (pv 0))), ?_⟩
    have fx := hx
    obtain ⟨t, rfl, qx⟩ := hx
    refine ⟨_, rfl, _, _, _, _, rfl, rfl, qx, at0, _, _, rfl, rfl, _, rfl, ite2 (fun hd => ?_) (fun hd => ?_)⟩
    · refine q _ ?_
      unfold cutQ
      rw [if_pos (of_decide_eq_true hd)]
      exact hN H
    · refine ⟨_, rfl, q _ ?_⟩
      unfold cutQ
      rw [if_neg (fun z => hd (decide_eq_true z))]
      exact fx
theorem ok__reckoned (D : Df K mg "_reckoned" s__reckoned ["nodes", "ahead"]) (GS : Ok P w K mg base 4 "sum_at" ["one", "row"] (spTellsD K)) (mtuple : mg "tuple" = none) : Ok P w K mg base 5 "_reckoned" ["nodes", "ahead"] (spReckD K) := by
  refine D.ok fun f fd F => F.ok sc__reckoned (fun vs H Q E h => ?_) (fun cdv A outer s H vs Q E hr h => ?_)
  · obtain ⟨x, y, l, L, m, W, D, rfl, _⟩ := h
    rfl
  · obtain ⟨x, y, l, L, m, W, D, rfl, ⟨t, xs, rfl, qt, lz⟩, hy, k, q⟩ := h
    refine ⟨_, pss_one (ps_ret (pe_callTy call_tuple_of (by rfl) mtuple (by decide +kernel) (pa_cons (pe_lc (own := [("node", 2)]) (g := gName 2) (tt := tYes) rfl sc__reckoned.nd (pi_tup (pv 0)) (blkOk_by (N := ["nodes", "ahead", "node"]) (sc := defScope s__reckoned) (by decide +kernel)) (fun _ _ _ _ _ => (pg_name (i := 2) sc__reckoned.nd rfl (.inl rfl))) (fun _ _ _ _ _ => pts_nil) (fun _ _ _ _ _ => cl GS hr (pa_cons (pv 2) (pa_cons (pv 1) pa_nil)))) pa_nil))), ?_⟩
    have hlen := Paired.length lz
    have hm := k.many
    have hL4 := k.len
    refine ⟨_, rfl, t, rfl, ⟨_, qt⟩, fun G hG => ?_⟩
    refine lc_tup (xs := xs) (Bld (FrV K) H G (l.map fun z => tells z L)) (bld0 hG) (fun i H' _ b => ex_t b.1 qt) ?_ ?_
    · rintro i x H' hx b
      obtain ⟨z, hz1, fz⟩ := pget lz hx
      obtain ⟨n1, n2, n3⟩ := k.nodes z (List.mem_of_getElem? hz1)
      refine ⟨rfl, ?_⟩
      refine ⟨_, rfl, _, rfl, x, y, z, L, m, W, D, rfl, fz.ex b.1, hy.ex b.1, n1, by omega, n2, n3, k.row, k.top, k.pos, k.lt, fun v H4 e4 hv => ?_⟩
      refine bld_step stF hG b e4 ?_ ?_ hv
      · rw [List.getElem?_map, hz1]
        rfl
      · have := (List.getElem?_eq_some_iff.mp hx).1
        omega
    · intro H' b
      obtain ⟨e1, ws, hws, pz⟩ := bld_end (by simp; omega) b
      refine ⟨G, ws, rfl, .inl ⟨sq_of hws, fun l hl' => ?_⟩⟩
      exact q _ _ (e1.trans (Ex.new hl')) (bld_row (n := 0) hws pz hl')
theorem ok_Layer_told {C : Addr} (D : Md K C "told" "Layer.told" s_Layer_told ["self"]) (T : Cls K C) (nA : NoAttr K C "_nodes") : MOk P w K mg base 1 C "told" ["self"] (spToldL C) := by
  refine D.ok fun f fd F => F.ok sc_Layer_told (fun vs H Q E h => ?_) (fun cdv A outer s H vs Q E hr h => ?_)
  · obtain ⟨p, v, rfl, _⟩ := h
    rfl
  · obtain ⟨p, v, rfl, ⟨dx, hp⟩, q⟩ := h
    refine ⟨_, pss_one (ps_ret (pe_fld (pv 0) rfl)), ?_⟩
    exact ⟨_, rfl, p, C, dx, _, v, rfl, hp, T, nA, rfl, q⟩
theorem ok_CutLayer_told {C : Addr} (D : Md K C "told" "CutLayer.told" s_CutLayer_told ["self"]) (T : Cls K C) (nA : NoAttr K C "_nodes") : MOk P w K mg base 1 C "told" ["self"] (spToldL C) := by
  refine D.ok fun f fd F => F.ok sc_CutLayer_told (fun vs H Q E h => ?_) (fun cdv A outer s H vs Q E hr h => ?_)
  · obtain ⟨p, v, rfl, _⟩ := h
    rfl
  · obtain ⟨p, v, rfl, ⟨dx, hp⟩, q⟩ := h
    refine ⟨_, pss_one (ps_ret (pe_fld (pv 0) rfl)), ?_⟩
    exact ⟨_, rfl, p, C, dx, _, v, rfl, hp, T, nA, rfl, q⟩
theorem ok_Layer_sums {C : Addr} (D : Md K C "sums" "Layer.sums" s_Layer_sums ["self", "ahead"]) (T : Cls K C) (nA : NoAttr K C "_nodes") (GR : Ok P w K mg base 5 "_reckoned" ["nodes", "ahead"] (spReckD K)) : MOk P w K mg base 6 C "sums" ["self", "ahead"] (spPassD K C) := by
  refine D.ok fun f fd F => F.ok sc_Layer_sums (fun vs H Q E h => ?_) (fun cdv A outer s H vs Q E hr h => ?_)
  · obtain ⟨p, v, y, l, L, m, W, D, rfl, _⟩ := h
    rfl
  · obtain ⟨p, v, y, l, L, m, W, D, rfl, ⟨dx, hp⟩, hv, hy, k, q⟩ := h
    refine ⟨_, pss_one (ps_ret (cl GR hr (pa_cons (pe_fld (pv 0) rfl) (pa_cons (pv 1) pa_nil)))), ?_⟩
    exact ⟨_, rfl, p, C, dx, _, v, rfl, hp, T, nA, rfl, _, rfl, v, y, l, L, m, W, D, rfl, hv, hy, k, q⟩
theorem ok_CutLayer_sums {C : Addr} (D : Md K C "sums" "CutLayer.sums" s_CutLayer_sums ["self", "ahead"]) (T : Cls K C) (nA : NoAttr K C "_nodes") (GR : Ok P w K mg base 5 "_reckoned" ["nodes", "ahead"] (spReckD K)) : MOk P w K mg base 6 C "sums" ["self", "ahead"] (spPassD K C) := by
  refine D.ok fun f fd F => F.ok sc_CutLayer_sums (fun vs H Q E h => ?_) (fun cdv A outer s H vs Q E hr h => ?_)
  · obtain ⟨p, v, y, l, L, m, W, D, rfl, _⟩ := h
    rfl
  · obtain ⟨p, v, y, l, L, m, W, D, rfl, ⟨dx, hp⟩, hv, hy, k, q⟩ := h
    refine ⟨_, pss_one (ps_ret (cl GR hr (pa_cons (pe_fld (pv 0) rfl) (pa_cons (pv 1) pa_nil)))), ?_⟩
    exact ⟨_, rfl, p, C, dx, _, v, rfl, hp, T, nA, rfl, _, rfl, v, y, l, L, m, W, D, rfl, hv, hy, k, q⟩
theorem fn_init {C : Addr} {f : Addr} {fd : FuncData} (F : Fun K "__init__" "Layer.__init__" s_Layer___init__ f fd) (T : Cls K C) (nA : NoAttr K C "_nodes") (mtuple : mg "tuple" = none) : FnOk P w K mg base CX0 1 f fd ["self", "nodes"] (spInitL K C) := by
  refine F.ok sc_Layer___init__ (fun vs H Q E h => ?_) (fun cdv A outer s H vs Q E hr h => ?_)
  · obtain ⟨p, dx, a, xs, zs, rfl, _⟩ := h
    rfl
  · obtain ⟨p, dx, a, xs, zs, rfl, hp, hx, lz, q⟩ := h
    refine ⟨_, pss_one (ps_fld (pv 0) (pe_callTy call_tuple_of (by rfl) mtuple (by decide +kernel) (pa_cons (pv 1) pa_nil)) rfl), ?_⟩
    refine ⟨_, rfl, a, xs, rfl, ?_⟩
    have fin : ∀ (H1 : Hp) (t : Addr), Ex H H1 → SqT K H1 t xs → Q .non (upd H1 p (.ins C dx [(("_nodes" : Str), .ref t)])) := by
      intro H1 t e1 ht
      have hp1 := e1 _ _ hp
      have mv : ∀ {u : Addr} {ys : List V}, SqT K H1 u ys → SqT K (upd H1 p (.ins C dx [(("_nodes" : Str), .ref t)])) u ys := by
        intro u ys hq
        rcases hq with (hq | ⟨o, hq⟩) | hq
        · exact .inl (.inl (by rw [upd_ne (ne_of hq hp1 (by intro z; cases z))]; exact hq))
        · exact .inl (.inr ⟨o, by rw [upd_ne (ne_of hq hp1 (by intro z; cases z))]; exact hq⟩)
        · exact .inr hq
      have mf : ∀ {v r}, FrV K H1 v r → FrV K (upd H1 p (.ins C dx [(("_nodes" : Str), .ref t)])) v r := by
        rintro v r ⟨u, rfl, hq⟩
        exact ⟨u, rfl, mv hq⟩
      refine q _ (.ref t) (fun b o hb ho => by rw [upd_ne hb]; exact e1 _ _ ho) ⟨dx, upd_same⟩ ⟨t, xs, rfl, mv ht, pmono (fun v z hz => ?_) lz⟩
      obtain ⟨u, a1, b1, rfl, q1, ⟨u2, ys, rfl, q2, l2⟩, f1⟩ := hz.ex e1
      exact ⟨u, _, _, rfl, mv q1, ⟨u2, ys, rfl, mv q2, pmono (fun _ _ => mf) l2⟩, mf f1⟩
    rcases hx with hx | hx
    · exact .inl ⟨hx, fun l hl => ⟨_, rfl, p, C, dx, [], rfl, (by rw [upd_ne (ne_of_none hp hl)]; exact hp), T, nA, (by show 0 < 1000; decide), fin _ l (Ex.new hl) (st_of upd_same)⟩⟩
    · exact .inr ⟨hx, _, rfl, p, C, dx, [], rfl, hp, T, nA, (by show 0 < 1000; decide), fin H a (Ex.refl H) hx⟩
end

end K30
end
section
set_option maxRecDepth 100000
set_option maxHeartbeats 400000
namespace K30
open PySem Evl Nc PyProof.Rows
open L2 hiding spCell
section
variable {P : Program} {w : World} {K : PySem.W.Frag} {mg : Str → Option Value} {base : Heap}
theorem ok_low_corner (D : Df K mg "low_corner" s_low_corner ["one"]) (mtuple : mg "tuple" = none) : Ok P w K mg base 1 "low_corner" ["one"] (spCorner K fun r => decide (r.num < 0)) := by
  refine D.ok fun f fd F => F.ok sc_low_corner (fun vs H Q E h => ?_) (fun cdv A outer s H vs Q E hr h => ?_)
  · obtain ⟨x, z, rfl, _⟩ := h
    rfl
  · obtain ⟨x, z, rfl, ⟨t, a, b, rfl, qt, ⟨ta, xa, rfl, qa, pa⟩, fb⟩, hl, q⟩ := h
    refine ⟨_, pss_one (ps_ret (pe_callTy call_tuple_of (by rfl) mtuple (by decide +kernel) (pa_cons (pe_lc (own := [("weight", 1)]) (g := gName 1) (tt := tYes) rfl sc_low_corner.nd (pi_tup (pe_ix ix_tup (pv 0) pe_int (fun _ _ => rfl))) (blkOk_by (N := ["one", "weight"]) (sc := defScope s_low_corner) (by decide +kernel)) (fun _ _ _ _ _ => (pg_name (i := 1) sc_low_corner.nd rfl (.inl rfl))) (fun _ _ _ _ _ => pts_nil) (fun _ _ _ _ _ => pe_ifExp (pt_cmpR op_lt (pe_ix (ix_tK K) (pv 1) pe_int (fun _ _ => rfl)) pe_int (nomark _)) pe_int pe_int)) pa_nil))), ?_⟩
    have hlen := Paired.length pa
    refine ⟨_, rfl, _, _, _, _, rfl, rfl, qt, at0, ta, rfl, ⟨_, qa⟩, fun G hG => ?_⟩
    refine lc_tup (K := K) (a := ta) (xs := xa) (fun i H' => Ex H H' ∧ H' G = some (.lst ((z.1.take i).map fun r => V.int (bI (decide (r.num < 0)))))) ⟨Ex.new hG, upd_same⟩ (fun i H' _ b => ex_t b.1 qa) ?_ ?_
    · rintro i x H' hx ⟨e1, k1⟩
      obtain ⟨r, hr0, fr⟩ := pget pa hx
      obtain ⟨tx, rfl, qx⟩ := fr.ex e1
      have hi := (List.getElem?_eq_some_iff.mp hx).1
      have go : ∀ b : Bool, decide (r.num < 0) = b → ∃ acc, H' G = some (.lst acc) ∧ acc.length < sizeLine ∧ (Ex H (upd H' G (.lst (acc ++ [V.int (bI b)]))) ∧ upd H' G (.lst (acc ++ [V.int (bI b)])) G = some (.lst ((z.1.take (i + 1)).map fun r => V.int (bI (decide (r.num < 0)))))) := by
        intro b hb
        refine ⟨_, k1, sz_lt (by rw [List.length_map, List.length_take]; omega), Ex.mut e1 hG, ?_⟩
        rw [List.take_add_one, hr0, List.map_append, ← hb]
        exact upd_same
      refine ⟨rfl, ?_⟩
      exact ⟨_, rfl, _, _, _, _, rfl, rfl, qx, at0, _, _, rfl, rfl, _, rfl, ite2 (fun hd => go true hd) (fun hd => go false (by cases hb : decide (r.num < 0) with | true => exact absurd hb hd | false => rfl))⟩
    · rintro H1 ⟨e1, k1⟩
      rw [hlen, List.take_length] at k1
      refine ⟨G, _, rfl, .inl ⟨sq_of k1, fun l hl => ?_⟩⟩
      refine q _ _ (e1.trans (Ex.new hl)) ⟨l, rfl, ?_⟩
      rw [List.map_map]
      exact st_of upd_same
theorem ok_high_corner (D : Df K mg "high_corner" s_high_corner ["one"]) (mtuple : mg "tuple" = none) : Ok P w K mg base 1 "high_corner" ["one"] (spCorner K fun r => decide (0 < r.num)) := by
  refine D.ok fun f fd F => F.ok sc_high_corner (fun vs H Q E h => ?_) (fun cdv A outer s H vs Q E hr h => ?_)
  · obtain ⟨x, z, rfl, _⟩ := h
    rfl
  · obtain ⟨x, z, rfl, ⟨t, a, b, rfl, qt, ⟨ta, xa, rfl, qa, pa⟩, fb⟩, hl, q⟩ := h
    refine ⟨_, pss_one (ps_ret (pe_callTy call_tuple_of (by rfl) mtuple (by decide +kernel) (pa_cons (pe_lc (own := [("weight", 1)]) (g := gName 1) (tt := tYes) rfl sc_high_corner.nd (pi_tup (pe_ix ix_tup (pv 0) pe_int (fun _ _ => rfl))) (blkOk_by (N := ["one", "weight"]) (sc := defScope s_high_corner) (by decide +kernel)) (fun _ _ _ _ _ => (pg_name (i := 1) sc_high_corner.nd rfl (.inl rfl))) (fun _ _ _ _ _ => pts_nil) (fun _ _ _ _ _ => pe_ifExp (pt_cmpR op_gt (pe_ix (ix_tK K) (pv 1) pe_int (fun _ _ => rfl)) pe_int (nomark _)) pe_int pe_int)) pa_nil))), ?_⟩
    have hlen := Paired.length pa
    refine ⟨_, rfl, _, _, _, _, rfl, rfl, qt, at0, ta, rfl, ⟨_, qa⟩, fun G hG => ?_⟩
    refine lc_tup (K := K) (a := ta) (xs := xa) (fun i H' => Ex H H' ∧ H' G = some (.lst ((z.1.take i).map fun r => V.int (bI (decide (0 < r.num)))))) ⟨Ex.new hG, upd_same⟩ (fun i H' _ b => ex_t b.1 qa) ?_ ?_
    · rintro i x H' hx ⟨e1, k1⟩
      obtain ⟨r, hr0, fr⟩ := pget pa hx
      obtain ⟨tx, rfl, qx⟩ := fr.ex e1
      have hi := (List.getElem?_eq_some_iff.mp hx).1
      have go : ∀ b : Bool, decide (0 < r.num) = b → ∃ acc, H' G = some (.lst acc) ∧ acc.length < sizeLine ∧ (Ex H (upd H' G (.lst (acc ++ [V.int (bI b)]))) ∧ upd H' G (.lst (acc ++ [V.int (bI b)])) G = some (.lst ((z.1.take (i + 1)).map fun r => V.int (bI (decide (0 < r.num)))))) := by
        intro b hb
        refine ⟨_, k1, sz_lt (by rw [List.length_map, List.length_take]; omega), Ex.mut e1 hG, ?_⟩
        rw [List.take_add_one, hr0, List.map_append, ← hb]
        exact upd_same
      refine ⟨rfl, ?_⟩
      exact ⟨_, rfl, _, _, _, _, rfl, rfl, qx, at0, _, _, rfl, rfl, _, rfl, ite2 (fun hd => go true hd) (fun hd => go false (by cases hb : decide (0 < r.num) with | true => exact absurd hb hd | false => rfl))⟩
    · rintro H1 ⟨e1, k1⟩
      rw [hlen, List.take_length] at k1
      refine ⟨G, _, rfl, .inl ⟨sq_of k1, fun l hl => ?_⟩⟩
      refine q _ _ (e1.trans (Ex.new hl)) ⟨l, rfl, ?_⟩
      rw [List.map_map]
      exact st_of upd_same
theorem ok_spot_at (D : Df K mg "spot_at" s_spot_at ["spans", "corner"]) (mzip : mg "zip" = none) (mtuple : mg "tuple" = none) : Ok P w K mg base 1 "spot_at" ["spans", "corner"] (spSpotAt K) := by
  refine D.ok fun f fd F => F.ok sc_spot_at (fun vs H Q E h => ?_) (fun cdv A outer s H vs Q E hr h => ?_)
  · obtain ⟨c, x, y, sp, bs, rfl, _⟩ := h
    rfl
  · obtain ⟨c, x, y, sp, bs, rfl, ⟨a, xs, rfl, qa, pa⟩, ⟨tc, rfl, qc⟩, hl, h100, q⟩ := h
    refine ⟨_, pss_one (ps_ret (pe_callTy call_tuple_of (by rfl) mtuple (by decide +kernel) (pa_cons (pe_lc (own := [("span", 2), ("end", 3)]) (g := gTup K 2 (gCons (gName 2) (gCons (gName 3) gNil))) (tt := tYes) rfl sc_spot_at.nd (pi_zipX (by rfl) mzip (pa_cons (pv 0) (pa_cons (pv 1) pa_nil))) (blkOk_by (N := ["spans", "corner", "span", "end"]) (sc := defScope s_spot_at) (by decide +kernel)) (fun _ _ _ _ _ => pg_tup rfl (pgs_cons (pg_name (i := 2) sc_spot_at.nd rfl (.inl rfl)) (pgs_cons (pg_name (i := 3) sc_spot_at.nd rfl (.inl rfl)) pgs_nil))) (fun _ _ _ _ _ => pts_nil) (fun _ _ _ _ _ => pe_ix (ix_tK K) (pv 2) (pv 3) (fun _ _ => rfl))) pa_nil))), ?_⟩
    have hxl := Paired.length pa
    refine ⟨_, rfl, _, rfl, c, true, a, tc, xs, _, rfl, qa, qc, fun G hG => ?_⟩
    refine lc_zipX (K := K) (by rw [List.length_map]; omega) (Bld (FrV K) H G (picks sp bs)) (bld0 hG) (fun i H' b => ⟨sqX_ex b.1 qa, ex_t b.1 qc⟩) ?_ ?_
    · rintro i x y T H' hx hy b hT
      obtain ⟨p, hp, fp⟩ := pget pa hx
      rw [List.getElem?_map] at hy
      obtain ⟨b0, hb0, rfl⟩ := Option.map_eq_some_iff.mp hy
      have eT : Ex H' (upd H' T (.tup [x, V.int (bI b0)])) := Ex.new hT
      refine ⟨T, [x, V.int (bI b0)], rfl, st_of upd_same, rfl, x, [V.int (bI b0)], rfl, V.int (bI b0), [], rfl, rfl, rfl, ?_⟩
      obtain ⟨t, u, v, rfl, qt, fu, fv⟩ := fp.ex (b.1.trans eT)
      have hat : ∃ w, atI [u, v] (bI b0) = some w ∧ FrV K (upd H' T (.tup [.ref t, V.int (bI b0)])) w (pickB p b0) := by
        cases b0
        · exact ⟨u, at0, fu⟩
        · exact ⟨v, at1, fv⟩
      obtain ⟨w, hw, fw⟩ := hat
      refine ⟨_, rfl, _, rfl, t, _, _, _, rfl, rfl, qt, hw, ?_⟩
      refine bld_step stF hG b eT ?_ ?_ fw
      · show (List.zipWith pickB sp bs)[i]? = _
        rw [List.getElem?_zipWith, hp, hb0]
      · have := (List.getElem?_eq_some_iff.mp hx).1
        omega
    · intro H5 b5
      have hpl : xs.length = (picks sp bs).length := by rw [picks_len hl.symm]; omega
      obtain ⟨e5, ws2, hws2, pw5⟩ := bld_end hpl b5
      refine ⟨G, ws2, rfl, .inl ⟨sq_of hws2, fun l3 hl3 => ?_⟩⟩
      exact q _ _ (e5.trans (Ex.new hl3)) (bld_row (n := 0) hws2 pw5 hl3)
theorem ok__is_span (D : Df K mg "_is_span" s__is_span ["thing"]) (GR : Ok P w K mg base 3 "is_row" ["thing", "many"] (spIsRw K)) (GL : Ok P w K mg base 1 "is_less" ["one", "other"] (spLess K)) : Ok P w K mg base 4 "_is_span" ["thing"] (spIsSpan K) := by
  refine D.ok fun f fd F => F.ok sc__is_span (fun vs H Q E h => ?_) (fun cdv A outer s H vs Q E hr h => ?_)
  · obtain ⟨x, p, rfl, _⟩ := h
    rfl
  · obtain ⟨x, p, rfl, hx, s1, s2, hle, q⟩ := h
    have hr1 : Room 1 _ := hr.mono (by decide)
    refine ⟨_, pss_one (ps_ret (pe_and (cl GR hr (pa_cons (pv 0) (pa_cons pe_int pa_nil))) (pe_one (pe_not (cl GL hr1 (pa_cons (pe_ix ix_tup (pv 0) pe_int (fun _ _ => rfl)) (pa_cons (pe_ix ix_tup (pv 0) pe_int (fun _ _ => rfl)) pa_nil))))))), ?_⟩
    refine ⟨_, rfl, x, 2, _, rfl, hx.rw, fun H1 e1 => ⟨_, rfl, ?_⟩⟩
    rw [show rwB (some [true, true]) 2 = true from rfl]
    refine iteT ?_
    obtain ⟨t, a, b, rfl, qt, fa, fb⟩ := hx.ex e1
    refine ⟨_, rfl, _, _, _, _, rfl, rfl, qt, at1, _, rfl, _, _, _, _, rfl, rfl, qt, at0, b, a, p.2, p.1, 1600, 1600, 1600, 1600, rfl, fb, fa, s2, s1, ⟨by decide, by decide, by decide, by decide, by decide⟩, _, rfl, ?_⟩
    refine q_bl (q H1 e1) ?_
    rw [decide_eq_false]
    · rfl
    · intro z
      exact absurd hle (Rat.not_le.mpr ((Rat.lt_iff _ _).mpr z))
theorem ok_is_box (D : Df K mg "is_box" s_is_box ["thing"]) {tMP : Tok} (GS : Ok P w K mg base 4 "_is_span" ["thing"] (spIsSpan K)) (mMP : mg "MOST_PLACES" = some (.int 3 tMP)) (misi : mg "isinstance" = none) (mtuple : mg "tuple" = none) (mlen : mg "len" = none) (mall : mg "all" = none) : Ok P w K mg base 5 "is_box" ["thing"] (spIsBox K) := by
  refine D.ok fun f fd F => F.ok sc_is_box (fun vs H Q E h => ?_) (fun cdv A outer s H vs Q E hr h => ?_)
  · obtain ⟨x, sp, D, rfl, _⟩ := h
    rfl
  · obtain ⟨x, sp, D, rfl, ⟨a, xs, rfl, qa, pa⟩, l1, l3, hok, hsz, d0, dlt, q⟩ := h
    refine ⟨_, (pss_cons (ps_if (PW.pt (pw_or (pt_not (pt_val (pe_callB call_isi (by rfl) misi (by decide +kernel) (pa_cons (pv 0) (pa_cons (pe_bltn (v := .ty "tuple") (by rfl) mtuple (by decide +kernel) rfl) pa_nil))))) (pw_or1 (pt_not (pt_chain op_le op_le pe_int (pe_callB call_len_seq (by rfl) mlen PySem.boot_len (pa_cons (pv 0) pa_nil)) (pe_glob (v := .int 3) (by rfl) mMP ⟨_, rfl⟩)))))) (pss_one (ps_ret pe_bl)) pss_nil)
      (pss_one (ps_ret (pe_callB (cr_all rfl) (by rfl) mall (by decide +kernel) (pa_cons (pe_lc (own := [("part", 1)]) (g := gName 1) (tt := tYes) rfl sc_is_box.nd (pi_tup (pv 0)) (blkOk_by (N := ["thing", "part"]) (sc := defScope s_is_box) (by decide +kernel)) (fun _ _ _ _ _ => (pg_name (i := 1) sc_is_box.nd rfl (.inl rfl))) (fun _ _ _ _ _ => pts_nil) (fun _ _ _ _ _ => cl GS hr (pa_cons (pv 1) pa_nil))) pa_nil))))), ?_⟩
    have hxl := Paired.length pa
    have qa : SqT K H a xs := qa
    refine ⟨_, rfl, _, _, _, _, _, rfl, .ty _, tyT qa, kit_ty (r := true) (by decide +kernel), _, rfl, iteF ?_⟩
    refine ⟨_, rfl, a, _, rfl, .inr qa, _, _, rfl, rfl, _, rfl, ite_t (decide_eq_true (by omega)) ⟨_, _, rfl, rfl, _, rfl, ite_nt (decide_eq_true (by omega)) ?_⟩⟩
    refine ⟨_, rfl, a, rfl, ⟨_, qa⟩, fun G hG => ?_⟩
    refine lc_tup (K := K) (a := a) (xs := xs) (fun j H' => Ex H H' ∧ H' G = some (.lst ((List.replicate j true).map V.bl))) ⟨Ex.new hG, upd_same⟩ (fun j H' _ b => ex_t b.1 qa) ?_ ?_
    · rintro j y H' hj ⟨e4, k4⟩
      obtain ⟨p, hp, fp⟩ := pget pa hj
      have hjl := (List.getElem?_eq_some_iff.mp hj).1
      have hm := List.mem_of_getElem? hp
      obtain ⟨z1, z2⟩ := hsz p hm
      refine ⟨rfl, ?_⟩
      refine ⟨_, rfl, y, p, rfl, fp.ex e4, (z1.sz d0 dlt).mono (by decide) (by decide), (z2.sz d0 dlt).mono (by decide) (by decide), hok p hm, fun H5 e5 => ⟨_, e5 _ _ k4, sz_lt (by simp; omega), Ex.mut (e4.trans e5) hG, ?_⟩⟩
      rw [List.replicate_succ', List.map_append]
      exact upd_same
    · rintro H5 ⟨e5, k5⟩
      refine ⟨G, _, rfl, sq_of k5, q_bl (q H5 e5) (by simp)⟩
theorem ok__bounds (D : Df K mg "_bounds" s__bounds ["node", "spans"]) (GLo : Ok P w K mg base 1 "low_corner" ["one"] (spCorner K fun r => decide (r.num < 0))) (GHi : Ok P w K mg base 1 "high_corner" ["one"] (spCorner K fun r => decide (0 < r.num))) (GP : Ok P w K mg base 1 "spot_at" ["spans", "corner"] (spSpotAt K)) (GS : Ok P w K mg base 4 "sum_at" ["one", "row"] (spTellsD K)) : Ok P w K mg base 5 "_bounds" ["node", "spans"] (spBounds K) := by
  refine D.ok fun f fd F => F.ok sc__bounds (fun vs H Q E h => ?_) (fun cdv A outer s H vs Q E hr h => ?_)
  · obtain ⟨c, x, y, l, z, A, m, W, D, rfl, _⟩ := h
    rfl
  · obtain ⟨c, x, y, l, z, A, m, W, D, rfl, hx, hy, hz, k, q⟩ := h
    have hr1 : Room 1 _ := hr.mono (by decide)
    refine ⟨_, (pss_cons (ps_set (i := 2) sc__bounds.nd rfl (.inl rfl) (cl GLo hr1 (pa_cons (pv 0) pa_nil)))
      (pss_cons (ps_set (i := 3) sc__bounds.nd rfl (.inl rfl) (cl GHi hr1 (pa_cons (pv 0) pa_nil)))
      (pss_one (ps_ret (pe_tup (pa_cons (cl GS hr (pa_cons (pv 0) (pa_cons (cl GP hr1 (pa_cons (pv 1) (pa_cons (pv 2) pa_nil))) pa_nil))) (pa_cons (cl GS hr (pa_cons (pv 0) (pa_cons (cl GP hr1 (pa_cons (pv 1) (pa_cons (pv 3) pa_nil))) pa_nil))) (pa_cons (pv 2) (pa_cons (pv 3) pa_nil))))))))), ?_⟩
    obtain ⟨n1, n2, n3⟩ := k.nodes z hz
    have hA4 := k.len
    have hlL : (lowB z).length = A.length := by rw [lowB_len, n1]
    have hlH : (highB z).length = A.length := by rw [highB_len, n1]
    have kL := k.row hlL
    have kH := k.row hlH
    refine ⟨_, rfl, x, z, rfl, hx, by omega, fun vb H1 e1 hb => ?_⟩
    refine ⟨_, rfl, x, z, rfl, hx.ex e1, by omega, fun va H2 e2 ha => ?_⟩
    have E2 := e1.trans e2
    refine ⟨_, rfl, _, rfl, _, rfl, c, y, vb, A, lowB z, rfl, hy.ex E2, hb.ex e2, hlL.symm, by omega, fun r1 H3 e3 hr1 => ?_⟩
    refine ⟨x, r1, z, picks A (lowB z), m, W, D, rfl, hx.ex (E2.trans e3), hr1, by rw [picks_len hlL]; exact n1, by omega, n2, n3, kL.row, kL.top, kL.pos, kL.lt, fun v1 H4 e4 hv1 => ?_⟩
    have E4 := E2.trans (e3.trans e4)
    refine ⟨_, rfl, _, rfl, _, rfl, c, y, va, A, highB z, rfl, hy.ex E4, ha.ex (e3.trans e4), hlH.symm, by omega, fun r2 H5 e5 hr2 => ?_⟩
    refine ⟨x, r2, z, picks A (highB z), m, W, D, rfl, hx.ex (E4.trans e5), hr2, by rw [picks_len hlH]; exact n1, by omega, n2, n3, kH.row, kH.top, kH.pos, kH.lt, fun v2 H6 e6 hv2 => ?_⟩
    refine ⟨_, rfl, _, rfl, (by show 4 ≤ sizeLine; decide), fun p hp => ?_⟩
    have e7 : Ex H6 (upd H6 p (.tup [v1, v2, vb, va])) := Ex.new hp
    have e36 := (e3.trans e4).trans (e5.trans e6)
    exact q _ _ (E4.trans ((e5.trans e6).trans e7)) ⟨p, v1, v2, vb, va, rfl, st_of upd_same, hv1.ex ((e5.trans e6).trans e7), hv2.ex e7, hb.ex (e2.trans (e36.trans e7)), ha.ex (e36.trans e7)⟩
end

end K30
end
section
set_option maxRecDepth 100000
set_option maxHeartbeats 400000
namespace K30
open PySem Evl Nc PyProof.Rows
open L2 hiding spCell
theorem pair_of_get' {α β : Type} {R : α → β → Prop} : ∀ {xs : List α} {ys : List β}, xs.length = ys.length → (∀ (k : Nat) x y, xs[k]? = some x → ys[k]? = some y → R x y) → Paired R xs ys
  | [], [], _, _ => .nil
  | x :: xs, y :: ys, h, f => .cons (f 0 x y rfl rfl) (pair_of_get' (by simpa using h) fun k a b h1 h2 => f (k + 1) a b (by simpa using h1) (by simpa using h2))
/-- fractions of at most so many figures -/
def SzP (p : Span) : Prop := Sz 200 200 p.1 ∧ Sz 200 200 p.2
/-- a part of a box: a span, low not above high, or not -/
inductive PtB (K : PySem.W.Frag) (H : Hp) : V → Bool → Prop
  | span {v p} (h : SpanV K H v p) (z : SzP p) : PtB K H v (decide (p.1 ≤ p.2))
  | oth {v k} (h : KdV K H v k) (n : k ≠ .tup) : PtB K H v false
  | len {t xs bs} (q : SqT K H t xs) (p : Paired (Th K H) xs bs) (n : xs.length ≠ 2) (l : xs.length ≤ 10) : PtB K H (.ref t) false
  | two {t x y b c} (q : SqT K H t [x, y]) (hx : Th K H x b) (hy : Th K H y c) (n : (b && c) = false) : PtB K H (.ref t) false
/-- whether a thing is a box -/
inductive BxT (K : PySem.W.Frag) (H : Hp) : V → Bool → Prop
  | oth {v k} (h : KdV K H v k) (n : k ≠ .tup) : BxT K H v false
  | len {t xs} (q : SqT K H t xs) (n : xs.length = 0 ∨ 3 < xs.length) : BxT K H (.ref t) false
  | parts {t xs bs} (q : SqT K H t xs) (l1 : 1 ≤ xs.length) (l3 : xs.length ≤ 3) (p : Paired (PtB K H) xs bs) : BxT K H (.ref t) (bs.all id)
theorem PtB.ex {K : PySem.W.Frag} {H H' : Hp} {v : V} {b : Bool} (e : Ex H H') (h : PtB K H v b) : PtB K H' v b := by
  cases h with
  | span h z => exact .span (h.ex e) z
  | oth h n => exact .oth (kd_ex e h) n
  | len q p n l => exact .len (ex_t e q) (pmono (fun _ _ => th_exx e) p) n l
  | two q hx hy n => exact .two (ex_t e q) (th_exx e hx) (th_exx e hy) n
theorem BxT.ex {K : PySem.W.Frag} {H H' : Hp} {v : V} {b : Bool} (e : Ex H H') (h : BxT K H v b) : BxT K H' v b := by
  cases h with
  | oth h n => exact .oth (kd_ex e h) n
  | len q n => exact .len (ex_t e q) n
  | parts q l1 l3 p => exact .parts (ex_t e q) l1 l3 (pmono (fun _ _ => PtB.ex e) p)
theorem rwB_len {bs : List Bool} {k : Int} (h : (bs.length : Int) ≠ k) : rwB (some bs) k = false := by
  show (decide ((bs.length : Int) = k) && bs.all id) = false
  rw [decide_eq_false h, Bool.false_and]
theorem rwB_all {bs : List Bool} {k : Int} (h : bs.all id = false) : rwB (some bs) k = false := by
  show (decide ((bs.length : Int) = k) && bs.all id) = false
  rw [h, Bool.and_false]
theorem ptb_rw {K : PySem.W.Frag} {H : Hp} {v : V} {b : Bool} (h : PtB K H v b) : (∃ p, SpanV K H v p ∧ SzP p ∧ b = decide (p.1 ≤ p.2)) ∨ (b = false ∧ ∃ o, Rw K H v o ∧ rwB o 2 = false) := by
  cases h with
  | span h z => exact .inl ⟨_, h, z, rfl⟩
  | oth h n => exact .inr ⟨rfl, none, .oth h n, rfl⟩
  | len q p n l =>
    have pl := Paired.length p
    exact .inr ⟨rfl, _, .tup q p (by omega), rwB_len (by omega)⟩
  | @two t x y b c q hx hy n =>
    refine .inr ⟨rfl, some [b, c], .tup q (.cons hx (.cons hy .nil)) (by show 2 ≤ 100; decide), rwB_all ?_⟩
    show (b && (c && true)) = false
    rw [Bool.and_true]
    exact n
/-- a box -/
def BoxG (K : PySem.W.Frag) (H : Hp) (v : V) (sp : List Span) : Prop := SpsV K true H v sp ∧ 1 ≤ sp.length ∧ sp.length ≤ 3 ∧ (∀ p ∈ sp, SzP p) ∧ ∀ p ∈ sp, p.1 ≤ p.2
theorem BoxG.ex {K : PySem.W.Frag} {H H' : Hp} {v : V} {sp : List Span} (r : Ex H H') (h : BoxG K H v sp) : BoxG K H' v sp := by
  obtain ⟨⟨a, xs, rfl, qa, pa⟩, rest⟩ := h
  have qa : SqT K H a xs := qa
  exact ⟨⟨a, xs, rfl, ex_t r qa, pmono (fun _ _ zz => SpanV.ex r zz) pa⟩, rest⟩
theorem BoxG.dk {K : PySem.W.Frag} {s : Addr} {H H' : Hp} {v : V} {sp : List Span} (h0 : Lst s H) (r : Dk s H H') (h : BoxG K H v sp) : BoxG K H' v sp := by
  obtain ⟨⟨a, xs, rfl, qa, pa⟩, rest⟩ := h
  have qa : SqT K H a xs := qa
  exact ⟨⟨a, xs, rfl, sqt_dk h0 r qa, pmono (fun _ _ zz => SpanV.dk h0 r zz) pa⟩, rest⟩
theorem box_bxt {K : PySem.W.Frag} {H : Hp} {v : V} {sp : List Span} (h : BoxG K H v sp) : BxT K H v true := by
  obtain ⟨⟨a, xs, rfl, qa, pa⟩, l1, l3, hz, hle⟩ := h
  have xl := Paired.length pa
  have qa : SqT K H a xs := qa
  have e := BxT.parts (bs := List.replicate xs.length true) qa (by omega) (by omega) (pair_of_get' (by simp) fun i x b hx hb' => by
    obtain ⟨p, hp, fp⟩ := pget pa hx
    have hm := List.mem_of_getElem? hp
    rw [List.getElem?_replicate] at hb'
    split at hb'
    · cases hb'
      have := PtB.span fp (hz p hm)
      rwa [decide_eq_true (hle p hm)] at this
    · cases hb')
  rwa [show (List.replicate xs.length true).all id = true by simp] at e
theorem less_is' {r s : Rat} : decide (r.num * (s.den : Int) < s.num * (r.den : Int)) = decide (r < s) := by
  by_cases h : r < s
  · rw [decide_eq_true h, decide_eq_true ((Rat.lt_iff _ _).mp h)]
  · rw [decide_eq_false h, decide_eq_false fun z => h ((Rat.lt_iff _ _).mpr z)]
theorem not_less {r s : Rat} : (!decide (r < s)) = decide (s ≤ r) := by
  by_cases h : r < s
  · rw [decide_eq_true h, decide_eq_false (Rat.not_le.mpr h)]
    rfl
  · rw [decide_eq_false h, decide_eq_true (Rat.not_lt.mp h)]
    rfl
section
variable {P : Program} {w : World} {K : PySem.W.Frag} {mg : Str → Option Value} {base : Heap}
def spSpanT (K : PySem.W.Frag) : Sp := fun vs H Q _ => ∃ (x : V) (b : Bool), vs = [x] ∧ PtB K H x b ∧ ∀ H', Ex H H' → Q (.bl b) H'
def spBoxT (K : PySem.W.Frag) : Sp := fun vs H Q _ => ∃ (x : V) (b : Bool), vs = [x] ∧ BxT K H x b ∧ ∀ H', Ex H H' → Q (.bl b) H'
theorem okT__is_span (D : Df K mg "_is_span" s__is_span ["thing"]) (GR : Ok P w K mg base 3 "is_row" ["thing", "many"] (spIsRw K)) (GL : Ok P w K mg base 1 "is_less" ["one", "other"] (spLess K)) : Ok P w K mg base 4 "_is_span" ["thing"] (spSpanT K) := by
  refine D.ok fun f fd F => F.ok sc__is_span (fun vs H Q E h => ?_) (fun cdv A outer s H vs Q E hr h => ?_)
  · obtain ⟨x, b, rfl, _⟩ := h
    rfl
  · obtain ⟨x, b, rfl, hx, q⟩ := h
    have hr1 : Room 1 _ := hr.mono (by decide)
    refine ⟨_, pss_one (ps_ret (pe_and (cl GR hr (pa_cons (pv 0) (pa_cons pe_int pa_nil))) (pe_one (pe_not (cl GL hr1 (pa_cons (pe_ix ix_tup (pv 0) pe_int (fun _ _ => rfl)) (pa_cons (pe_ix ix_tup (pv 0) pe_int (fun _ _ => rfl)) pa_nil))))))), ?_⟩
    rcases ptb_rw hx with ⟨p, hp, ⟨z1, z2⟩, rfl⟩ | ⟨rfl, o, ho, hb⟩
    · refine ⟨_, rfl, x, 2, _, rfl, hp.rw, fun H1 e1 => ⟨_, rfl, ?_⟩⟩
      rw [show rwB (some [true, true]) 2 = true from rfl]
      refine iteT ?_
      obtain ⟨t, a, b, rfl, qt, fa, fb⟩ := hp.ex e1
      refine ⟨_, rfl, _, _, _, _, rfl, rfl, qt, at1, _, rfl, _, _, _, _, rfl, rfl, qt, at0, b, a, p.2, p.1, 200, 200, 200, 200, rfl, fb, fa, z2, z1, ⟨by decide, by decide, by decide, by decide, by decide⟩, _, rfl, ?_⟩
      rw [less_is', not_less]
      exact q H1 e1
    · refine ⟨_, rfl, x, 2, _, rfl, ho, fun H1 e1 => ⟨_, rfl, ?_⟩⟩
      rw [hb]
      exact iteF (q H1 e1)
theorem okT_is_box (D : Df K mg "is_box" s_is_box ["thing"]) {tMP : Tok} (GS : Ok P w K mg base 4 "_is_span" ["thing"] (spSpanT K)) (mMP : mg "MOST_PLACES" = some (.int 3 tMP)) (misi : mg "isinstance" = none) (mtuple : mg "tuple" = none) (mlen : mg "len" = none) (mall : mg "all" = none) : Ok P w K mg base 5 "is_box" ["thing"] (spBoxT K) := by
  refine D.ok fun f fd F => F.ok sc_is_box (fun vs H Q E h => ?_) (fun cdv A outer s H vs Q E hr h => ?_)
  · obtain ⟨x, b, rfl, _⟩ := h
    rfl
  · obtain ⟨x, b, rfl, hx, q⟩ := h
    refine ⟨_, (pss_cons (ps_if (PW.pt (pw_or (pt_not (pt_val (pe_callB call_isi (by rfl) misi (by decide +kernel) (pa_cons (pv 0) (pa_cons (pe_bltn (v := .ty "tuple") (by rfl) mtuple (by decide +kernel) rfl) pa_nil))))) (pw_or1 (pt_not (pt_chain op_le op_le pe_int (pe_callB call_len_seq (by rfl) mlen PySem.boot_len (pa_cons (pv 0) pa_nil)) (pe_glob (v := .int 3) (by rfl) mMP ⟨_, rfl⟩)))))) (pss_one (ps_ret pe_bl)) pss_nil)
      (pss_one (ps_ret (pe_callB (cr_all rfl) (by rfl) mall (by decide +kernel) (pa_cons (pe_lc (own := [("part", 1)]) (g := gName 1) (tt := tYes) rfl sc_is_box.nd (pi_tup (pv 0)) (blkOk_by (N := ["thing", "part"]) (sc := defScope s_is_box) (by decide +kernel)) (fun _ _ _ _ _ => (pg_name (i := 1) sc_is_box.nd rfl (.inl rfl))) (fun _ _ _ _ _ => pts_nil) (fun _ _ _ _ _ => cl GS hr (pa_cons (pv 1) pa_nil))) pa_nil))))), ?_⟩
    cases hx with
    | @oth v k h m =>
      refine ⟨_, rfl, _, _, _, _, _, rfl, .ty _, h.1, kit_ty (kd_tup _), _, rfl, ?_⟩
      rw [decide_eq_false m]
      exact iteT (iteT (q H (Ex.refl H)))
    | @len t xs qt m =>
      refine ⟨_, rfl, _, _, _, _, _, rfl, .ty _, tyT qt, kit_ty (r := true) (by decide +kernel), _, rfl, iteF ?_⟩
      refine ⟨_, rfl, t, _, rfl, .inr qt, _, _, rfl, rfl, _, rfl, ?_⟩
      rcases m with m | m
      · exact ite_f (decide_eq_false (by omega)) ⟨_, rfl, iteT (q H (Ex.refl H))⟩
      · exact ite_t (decide_eq_true (by omega)) ⟨_, _, rfl, rfl, _, rfl, ite_nf (decide_eq_false (by omega)) (q H (Ex.refl H))⟩
    | @parts a xs bs qa l1 l3 pa =>
      have hxl := Paired.length pa
      refine ⟨_, rfl, _, _, _, _, _, rfl, .ty _, tyT qa, kit_ty (r := true) (by decide +kernel), _, rfl, iteF ?_⟩
      refine ⟨_, rfl, a, _, rfl, .inr qa, _, _, rfl, rfl, _, rfl, ite_t (decide_eq_true (by omega)) ⟨_, _, rfl, rfl, _, rfl, ite_nt (decide_eq_true (by omega)) ?_⟩⟩
      refine ⟨_, rfl, a, rfl, ⟨_, qa⟩, fun G hG => ?_⟩
      refine lc_tup (K := K) (a := a) (xs := xs) (fun j H' => Ex H H' ∧ H' G = some (.lst ((bs.take j).map V.bl))) ⟨Ex.new hG, upd_same⟩ (fun j H' _ b => ex_t b.1 qa) ?_ ?_
      · rintro j y H' hj ⟨e4, k4⟩
        obtain ⟨b, hb, fp⟩ := pget pa hj
        have hjl := (List.getElem?_eq_some_iff.mp hj).1
        refine ⟨rfl, ?_⟩
        refine ⟨_, rfl, y, b, rfl, fp.ex e4, fun H5 e5 => ⟨_, e5 _ _ k4, sz_lt (by simp; omega), Ex.mut (e4.trans e5) hG, ?_⟩⟩
        rw [List.take_add_one, hb, List.map_append]
        exact upd_same
      · rintro H5 ⟨e5, k5⟩
        rw [hxl, List.take_length] at k5
        refine ⟨G, bs, rfl, sq_of k5, q H5 e5⟩
end

end K30
end
section
set_option maxRecDepth 100000
set_option maxHeartbeats 400000
namespace K30
open PySem Evl Nc PyProof.Rows
open L2 hiding spCell
theorem none_of' {H H' : Hp} {a : Addr} (e : Ex H H') (h : H' a = none) : H a = none := Option.eq_none_iff_forall_ne_some.mpr fun o ho => by
  rw [e _ _ ho] at h
  cases h
/-- an error of the class at C, x in its field, has flown -/
def Fly (C : Addr) (x : V) (H : Hp) (E : XK) : Prop := ∀ d H', H d = none → Ex H H' → H' d = some (.xd [(("found" : Str), x)]) → E (.ref C) (some d) H'
theorem Fly.ex {C : Addr} {x : V} {H H' : Hp} {E : XK} (e : Ex H H') (h : Fly C x H E) : Fly C x H' E := fun d H2 hd e2 hk => h d H2 (none_of' e hd) (e.trans e2) hk
def spChkBoxX (K : PySem.W.Frag) (CB : Addr) : Sp := fun vs H Q E => ∃ (x : V) (b : Bool), vs = [x] ∧ BxT K H x b ∧ (b = true → ∀ H', Ex H H' → Q .non H') ∧ (b = false → Fly CB x H E)
section
variable {P : Program} {w : World} {K : PySem.W.Frag} {mg : Str → Option Value} {base : Heap}
/-- no box of so many -/
def NoBx (K : PySem.W.Frag) (H : Hp) (x : V) (n : Nat) : Prop := ∃ b, BxT K H x b ∧ (b = true → ∃ t xs, x = .ref t ∧ SqT K H t xs ∧ xs.length ≠ n)
theorem NoBx.ex {K : PySem.W.Frag} {H H' : Hp} {x : V} {n : Nat} (e : Ex H H') (h : NoBx K H x n) : NoBx K H' x n := by
  obtain ⟨b, h1, h2⟩ := h
  refine ⟨b, h1.ex e, fun hb => ?_⟩
  obtain ⟨t, xs, hx, q, l⟩ := h2 hb
  exact ⟨t, xs, hx, ex_t e q, l⟩
def spBoxOverX (K : PySem.W.Frag) (CB : Addr) : Sp := fun vs H Q E => ∃ (x : V) (n : Nat), vs = [x, .int (n : Int)] ∧ ((NoBx K H x n ∧ Fly CB x H E) ∨ ∃ sp : List Span, BxT K H x true ∧ SpsV K true H x sp ∧ sp.length = n ∧ ∀ H', Ex H H' → Q .non H')
theorem ok_check_box_over (D : Df K mg "check_box_over" s_check_box_over ["thing", "many"]) {CB : Addr} (EB : Er P w K mg base "NoBox" CB "found" ["self", "found"]) (GB : Ok P w K mg base 5 "is_box" ["thing"] (spBoxT K)) (mlen : mg "len" = none) : OkX P w K mg base 6 "check_box_over" ["thing", "many"] (spBoxOverX K CB) := by
  refine D.okX fun f fd F => F.okX sc_check_box_over (fun vs H Q E h => ?_) (fun cdv A outer s H vs Q E hr h => ?_)
  · obtain ⟨x, n, rfl, _⟩ := h
    rfl
  · obtain ⟨x, n, rfl, h⟩ := h
    refine ⟨_, (pss_one (ps_if (PW.pt (pw_or (pt_not (pt_val (cl GB hr (pa_cons (pv 0) pa_nil)))) (pw_or1 (pt_cmpR op_ne (pe_callB call_len_seq (by rfl) mlen PySem.boot_len (pa_cons (pv 0) pa_nil)) (pv 1) (nomark _))))) (pss_one (ps_rz (W := fun cls d _ H => E cls d H) EB rfl (takes_of rfl rfl rfl rfl) (hr.mono (by decide)) (pv 0))) pss_nil)), ?_⟩
    rcases h with ⟨⟨b, hb, hl⟩, fly⟩ | ⟨sp, hb, hs, hn, q⟩
    · refine ⟨_, rfl, x, b, rfl, hb, fun H1 e1 => ⟨_, rfl, ?_⟩⟩
      cases b with
      | false => exact iteT (iteT ⟨x, rfl, Fly.ex e1 fly⟩)
      | true =>
        obtain ⟨t, xs, rfl, qt, ln⟩ := hl rfl
        refine iteF ⟨_, rfl, t, _, rfl, .inr (ex_t e1 qt), _, rfl, rfl, _, rfl, ?_⟩
        exact ite_nf (decide_eq_false fun z => ln (by have := V.int.inj z; omega)) ⟨_, rfl, Fly.ex e1 fly⟩
    · refine ⟨_, rfl, x, true, rfl, hb, fun H1 e1 => ⟨_, rfl, iteF ?_⟩⟩
      obtain ⟨a, xs, rfl, qa, pa⟩ := hs.ex e1
      have hxl := Paired.length pa
      have qa : SqT K H1 a xs := qa
      refine ⟨_, rfl, a, _, rfl, .inr qa, _, rfl, rfl, _, rfl, ?_⟩
      rw [hxl, hn]
      exact iteNS rfl (q H1 e1)
end

end K30
end
section
set_option maxRecDepth 100000
set_option maxHeartbeats 400000
namespace K30
open PySem Evl Nc PyProof.Rows
open L2 hiding spCell
theorem bd22 {r : Rat} (h : Bd 22 6 r) : Sz 100 100 r := by
  have z : Sz (95 + 5) 5 r := h.sz (k := 95) (b := 5) (by decide) (by decide) (by decide)
  exact z.mono (by decide) (by decide)
/-- a part of a thing, looked at -/
inductive PtL (K : PySem.W.Frag) (H : Hp) : V → Bool → Prop
  | span {v p} (h : SpanV K H v p) (b1 : Bd 22 6 p.1) (b2 : Bd 22 6 p.2) (w : p.2 - p.1 ≤ 18) : PtL K H v (decide (p.1 ≤ p.2))
  | oth {v k} (h : KdV K H v k) (n : k ≠ .tup) : PtL K H v false
  | len {t xs bs} (q : SqT K H t xs) (p : Paired (ThB K H) xs bs) (n : xs.length ≠ 2) (l : xs.length ≤ 10) : PtL K H (.ref t) false
  | two {t x y b c} (q : SqT K H t [x, y]) (hx : ThB K H x b) (hy : ThB K H y c) (n : (b && c) = false) : PtL K H (.ref t) false
theorem PtL.ptb {K : PySem.W.Frag} {H : Hp} {v : V} {b : Bool} (h : PtL K H v b) : PtB K H v b := by
  cases h with
  | span h b1 b2 w => exact .span h ⟨(bd22 b1).mono (by decide) (by decide), (bd22 b2).mono (by decide) (by decide)⟩
  | oth h n => exact .oth h n
  | len q p n l => exact .len q (pmono (fun _ _ => ThB.th) p) n l
  | two q hx hy n => exact .two q hx.th hy.th n
theorem ptl_ex {K : PySem.W.Frag} {H H' : Hp} {v : V} {b : Bool} (e : Ex H H') (h : PtL K H v b) : PtL K H' v b := by
  cases h with
  | span h b1 b2 w => exact .span (h.ex e) b1 b2 w
  | oth h n => exact .oth (kd_ex e h) n
  | len q p n l => exact .len (ex_t e q) (pmono (fun _ _ => thb_ex e) p) n l
  | two q hx hy n => exact .two (ex_t e q) (thb_ex e hx) (thb_ex e hy) n
/-- whether a thing is a box of n, looked at -/
inductive LkB (K : PySem.W.Frag) (H : Hp) (n : Nat) : V → Bool → Prop
  | oth {v k} (h : KdV K H v k) (m : k ≠ .tup) : LkB K H n v false
  | len {t xs} (q : SqT K H t xs) (m : xs.length ≠ n) (o : xs.length = 0 ∨ 3 < xs.length ∨ ∃ bs, Paired (PtL K H) xs bs) : LkB K H n (.ref t) false
  | parts {t xs bs} (q : SqT K H t xs) (l : xs.length = n) (p : Paired (PtL K H) xs bs) : LkB K H n (.ref t) (bs.all id)
theorem LkB.ex {K : PySem.W.Frag} {H H' : Hp} {n : Nat} {v : V} {b : Bool} (e : Ex H H') (h : LkB K H n v b) : LkB K H' n v b := by
  cases h with
  | oth h m => exact .oth (kd_ex e h) m
  | len q m o => exact .len (ex_t e q) m (o.imp id (fun z => z.imp id fun ⟨bs, p⟩ => ⟨bs, pmono (fun _ _ => ptl_ex e) p⟩))
  | parts q l p => exact .parts (ex_t e q) l (pmono (fun _ _ => ptl_ex e) p)
theorem lk_nobx {K : PySem.W.Frag} {H : Hp} {n : Nat} {v : V} (h : LkB K H n v false) (n1 : 1 ≤ n) (n3 : n ≤ 3) : NoBx K H v n := by
  generalize hb : false = b at h
  cases h with
  | oth h m => exact ⟨false, .oth h m, fun z => by cases z⟩
  | @len t xs q m o =>
    by_cases h0 : xs.length = 0
    · exact ⟨false, .len q (.inl h0), fun z => by cases z⟩
    · by_cases h4 : 3 < xs.length
      · exact ⟨false, .len q (.inr h4), fun z => by cases z⟩
      · rcases o with o | o | ⟨bs, p⟩
        · exact (h0 o).elim
        · exact (h4 o).elim
        · exact ⟨_, .parts q (by omega) (by omega) (pmono (fun _ _ => PtL.ptb) p), fun _ => ⟨t, xs, rfl, q, m⟩⟩
  | @parts t xs bs q l p =>
    have := BxT.parts q (by omega) (by omega) (pmono (fun _ _ => PtL.ptb) p)
    rw [← hb] at this
    exact ⟨false, this, fun z => by cases z⟩
theorem spans_of {K : PySem.W.Frag} {H : Hp} : ∀ {xs : List V} {bs : List Bool}, Paired (PtL K H) xs bs → bs.all id = true → ∃ sp : List Span, Paired (SpanV K H) xs sp ∧ SpB 22 18 6 sp
  | [], [], .nil, _ => ⟨[], .nil, spb_nil⟩
  | x :: xs, b :: bs, .cons h p, hall => by
    rw [List.all_cons] at hall
    obtain ⟨hb, hbs⟩ := Bool.and_eq_true_iff.mp hall
    obtain ⟨sp, h1, h2⟩ := spans_of p hbs
    generalize hq : b = c at h
    cases h with
    | @span v q h b1 b2 w =>
      have le : q.1 ≤ q.2 := of_decide_eq_true (by rw [← hq]; exact hb)
      refine ⟨q :: sp, .cons h h1, ⟨fun r hr => ?_, fun r hr => ?_, fun r hr => ?_⟩⟩
      · rcases List.mem_cons.mp hr with rfl | hr
        · exact ⟨b1, b2⟩
        · exact h2.bd r hr
      · rcases List.mem_cons.mp hr with rfl | hr
        · exact le
        · exact h2.le r hr
      · rcases List.mem_cons.mp hr with rfl | hr
        · exact w
        · exact h2.wide r hr
    | oth h n => rw [hq] at hb; cases hb
    | len q p n l => rw [hq] at hb; cases hb
    | two q hx hy n => rw [hq] at hb; cases hb
theorem lk_box {K : PySem.W.Frag} {H : Hp} {n : Nat} {v : V} (h : LkB K H n v true) (n1 : 1 ≤ n) (n3 : n ≤ 3) : BxT K H v true ∧ ∃ sp, BoxV K 6 H v sp ∧ sp.length = n := by
  generalize hb : true = b at h
  cases h with
  | oth h m => cases hb
  | len q m o => cases hb
  | @parts t xs bs q l p =>
    have e := BxT.parts q (by omega) (by omega) (pmono (fun _ _ => PtL.ptb) p)
    obtain ⟨sp, h1, h2⟩ := spans_of p hb.symm
    have sl := Paired.length h1
    refine ⟨by first | exact e | (rw [← hb] at e; exact e), sp, ⟨⟨t, xs, rfl, q, h1⟩, by omega, by omega, h2, by decide, by decide⟩, by omega⟩
def spLkB (K : PySem.W.Frag) : Sp := fun vs H Q _ => ∃ (v : V) (n : Nat) (b : Bool), vs = [v, .int (n : Int)] ∧ LkB K H n v b ∧ ∀ H', Ex H H' → Q (.bl b) H'
theorem all_at {bs : List Bool} {i : Nat} (h : bs[i]? = some false) : bs.all id = false :=
  List.all_eq_false.mpr ⟨false, List.mem_of_getElem? h, by decide⟩
theorem all_step {bs : List Bool} {i : Nat} (h : (bs.take i).all id = true) (hb : bs[i]? = some true) : (bs.take (i + 1)).all id = true := by
  rw [List.take_add_one, hb, List.all_append, h]
  rfl
section
variable {P : Program} {w : World} {K : PySem.W.Frag} {mg : Str → Option Value} {base : Heap}
theorem ok__law_is_box (D : Df K mg "_law_is_box" s__law_is_box ["_law_thing_here", "_law_ins"]) (GF : Ok P w K mg base 2 "_law_is_fraction" ["_law_thing_here"] (spFrB K)) (GL : Ok P w K mg base 1 "_law_less" ["_law_one", "_law_other"] (spLess K)) (misi : mg "isinstance" = none) (mtuple : mg "tuple" = none) (mlen : mg "len" = none) : Ok P w K mg base 3 "_law_is_box" ["_law_thing_here", "_law_ins"] (spLkB K) := by
  refine D.ok fun f fd F => F.ok sc__law_is_box (fun vs H Q E h => ?_) (fun cdv A outer s H vs Q E hr h => ?_)
  · obtain ⟨v, n, b, rfl, _⟩ := h
    rfl
  · obtain ⟨v, n, b, rfl, ht, q⟩ := h
    have hr1 : Room 1 _ := hr.mono (by decide)
    refine ⟨_, (pss_cons (ps_if (PW.pt (pw_or (pt_not (pt_val (pe_callB call_isi (by rfl) misi (by decide +kernel) (pa_cons (pv 0) (pa_cons (pe_bltn (v := .ty "tuple") (by rfl) mtuple (by decide +kernel) rfl) pa_nil))))) (pw_or1 (pt_cmpR op_ne (pe_callB call_len_seq (by rfl) mlen PySem.boot_len (pa_cons (pv 0) pa_nil)) (pv 1) (nomark _))))) (pss_one (ps_ret pe_bl)) pss_nil)
      (pss_cons (ps_for PassesOwn.never rfl (pi_tup (pv 0)) (pg_name (i := 2) sc__law_is_box.nd rfl (.inl rfl)) (pss_cons (ps_if (PW.pt (pw_or (pt_not (pt_val (pe_callB call_isi (by rfl) misi (by decide +kernel) (pa_cons (pv 2) (pa_cons (pe_bltn (v := .ty "tuple") (by rfl) mtuple (by decide +kernel) rfl) pa_nil))))) (pw_or1 (pt_cmpR op_ne (pe_callB call_len_seq (by rfl) mlen PySem.boot_len (pa_cons (pv 2) pa_nil)) pe_int (nomark _))))) (pss_one (ps_ret pe_bl)) pss_nil)
      (pss_one (ps_if (PW.pt (pw_or (pt_not (pt_val (cl GF hr (pa_cons (pe_ix ix_tup (pv 2) pe_int (fun _ _ => rfl)) pa_nil)))) (pw_or (pt_not (pt_val (cl GF hr (pa_cons (pe_ix ix_tup (pv 2) pe_int (fun _ _ => rfl)) pa_nil)))) (pw_or1 (pt_val (cl GL hr1 (pa_cons (pe_ix ix_tup (pv 2) pe_int (fun _ _ => rfl)) (pa_cons (pe_ix ix_tup (pv 2) pe_int (fun _ _ => rfl)) pa_nil)))))))) (pss_one (ps_ret pe_bl)) pss_nil))))
      (pss_one (ps_ret pe_bl)))), ?_⟩
    cases ht with
    | @oth v k h m =>
      refine ⟨_, rfl, v, _, _, _, _, rfl, .ty _, h.1, kit_ty (kd_tup _), _, rfl, ?_⟩
      rw [decide_eq_false m]
      exact iteT (iteT (q H (Ex.refl H)))
    | @len t xs qt m _ =>
      refine ⟨_, rfl, _, _, _, _, _, rfl, .ty _, tyT qt, kit_ty (r := true) (by decide +kernel), _, rfl, iteF ?_⟩
      refine ⟨_, rfl, t, _, rfl, .inr qt, _, rfl, rfl, _, rfl, ifB (fun e => q H (Ex.refl H)) (fun e => ?_)⟩
      have e1 := eq_of_nd e
      exact (m (by omega)).elim
    | @parts t xs bs qt l pp =>
      have pl := Paired.length pp
      refine ⟨_, rfl, _, _, _, _, _, rfl, .ty _, tyT qt, kit_ty (r := true) (by decide +kernel), _, rfl, iteF ?_⟩
      refine ⟨_, rfl, t, _, rfl, .inr qt, _, rfl, rfl, _, rfl, ite_f (by rw [decide_eq_true (show V.int ((xs.length : Nat) : Int) = V.int (n : Int) by rw [l])]; rfl) ?_⟩
      refine ⟨_, rfl, t, rfl, ⟨_, qt⟩, for_tup (K := K) (a := t) (xs := xs) (fun i σ H' => ∃ o2, σ = [some (.ref t), some (.int (n : Int)), o2] ∧ Ex H H' ∧ (bs.take i).all id = true) ⟨none, rfl, Ex.refl H, rfl⟩ (fun i σ H' _ ⟨_, _, e, _⟩ => ex_t e qt) ?_ ?_⟩
      · rintro i u σ H1 hu ⟨o2, rfl, e1, hall⟩
        obtain ⟨bit, hb0, hb1⟩ := pget pp hu
        have no : bit = false → ∀ H', Ex H1 H' → Q (.bl false) H' := fun hz H' e => by
          subst hz
          have q1 := q H' (e1.trans e)
          rwa [all_at hb0] at q1
        cases ptl_ex e1 hb1 with
        | @oth v k h m =>
          refine ⟨_, rfl, u, _, _, _, _, rfl, .ty _, h.1, kit_ty (kd_tup _), _, rfl, ?_⟩
          rw [decide_eq_false m]
          exact iteT (iteT (no rfl H1 (Ex.refl _)))
        | @len t2 ys cs q2 p2 m2 l2 =>
          refine ⟨_, rfl, _, _, _, _, _, rfl, .ty _, tyT q2, kit_ty (r := true) (by decide +kernel), _, rfl, iteF ?_⟩
          refine ⟨_, rfl, t2, _, rfl, .inr q2, rfl, _, rfl, ifB (fun e => no rfl H1 (Ex.refl _)) (fun e => ?_)⟩
          have e1 := eq_of_nd e
          exact (m2 (by omega)).elim
        | @two t2 x y b c q2 hx hy m2 =>
          refine ⟨_, rfl, _, _, _, _, _, rfl, .ty _, tyT q2, kit_ty (r := true) (by decide +kernel), _, rfl, iteF ?_⟩
          refine ⟨_, rfl, t2, _, rfl, .inr q2, rfl, _, rfl, iteNS rfl ?_⟩
          refine ⟨_, rfl, _, _, _, _, rfl, rfl, q2, at0, x, b, rfl, hx, fun H2 e2 => ⟨_, rfl, ?_⟩⟩
          cases b with
          | false => exact iteT (iteT (no rfl H2 e2))
          | true =>
            have hc : c = false := by rwa [Bool.true_and] at m2
            subst hc
            have q22 := ex_t e2 q2
            refine iteF ⟨_, rfl, _, _, _, _, rfl, rfl, q22, at1, y, false, rfl, thb_ex e2 hy, fun H3 e3 => ⟨_, rfl, iteT (iteT (no rfl H3 (e2.trans e3)))⟩⟩
        | @span v p h b1 b2 _ =>
          have z1 := bd22 b1
          have z2 := bd22 b2
          obtain ⟨t2, va, vb, rfl, q2, fa, fb⟩ := h
          refine ⟨_, rfl, _, _, _, _, _, rfl, .ty _, tyT q2, kit_ty (r := true) (by decide +kernel), _, rfl, iteF ?_⟩
          refine ⟨_, rfl, t2, _, rfl, .inr q2, rfl, _, rfl, iteNS rfl ?_⟩
          refine ⟨_, rfl, _, _, _, _, rfl, rfl, q2, at0, va, true, rfl, fr_thb fa z1, fun H2 e2 => ⟨_, rfl, iteF ?_⟩⟩
          have q22 := ex_t e2 q2
          refine ⟨_, rfl, _, _, _, _, rfl, rfl, q22, at1, vb, true, rfl, fr_thb (fb.ex e2) z2, fun H3 e3 => ⟨_, rfl, iteF ?_⟩⟩
          have E3 := e2.trans e3
          have q23 := ex_t E3 q2
          refine ⟨_, rfl, _, _, _, _, rfl, rfl, q23, at1, _, rfl, _, _, _, _, rfl, rfl, q23, at0, vb, va, p.2, p.1, 100, 100, 100, 100, rfl, fb.ex E3, fa.ex E3, z2, z1, ⟨by decide, by decide, by decide, by decide, by decide⟩, _, rfl, ?_⟩
          rw [less_is']
          by_cases h1 : p.2 < p.1
          · rw [decide_eq_true h1]
            exact iteT (no (decide_eq_false (Rat.not_le.mpr h1)) H3 E3)
          · rw [decide_eq_false h1]
            refine iteF ⟨_, rfl, e1.trans E3, all_step hall ?_⟩
            rw [hb0, decide_eq_true (Rat.not_lt.mp h1)]
      · rintro σ H1 ⟨o2, rfl, e1, hall⟩
        rw [pl, List.take_length] at hall
        have q1 := q H1 e1
        rwa [hall] at q1
end

end K30
end
section
set_option maxRecDepth 100000
set_option maxHeartbeats 400000
namespace K30
open PySem Evl Nc PyProof.Rows
open L2 hiding spCell
section
variable {P : Program} {w : World} {K : PySem.W.Frag} {mg : Str → Option Value} {base : Heap}
theorem ok__law_cell (D : Df K mg "_law_cell" s__law_cell ["_law_script", "_law_k"]) (mlen : mg "len" = none) : Ok P w K mg base 1 "_law_cell" ["_law_script", "_law_k"] (spCell K) := by
  refine D.ok fun f fd F => F.ok sc__law_cell (fun vs H Q E h => ?_) (fun cdv A outer s H vs Q E hr h => ?_)
  · obtain ⟨a, ns, k, rfl, _⟩ := h
    rfl
  · obtain ⟨a, ns, k, rfl, hS, hk, q⟩ := h
    refine ⟨_, pss_cons (ps_if (pt_cmpR op_lt (pv 1) (pe_callB call_len_seq (by rfl) mlen PySem.boot_len (pa_cons (pv 0) pa_nil)) (nomark _)) (pss_one (ps_ret (pe_ix ix_list (pv 0) (pv 1) (fun _ _ => rfl)))) pss_nil)
      (pss_one (ps_ret (pe_op op_mod (pe_op op_add (pe_op op_mul pe_int (pv 1)) pe_int) pe_int))), ?_⟩
    refine ⟨_, rfl, _, rfl, a, _, rfl, .inl hS, _, _, rfl, rfl, _, rfl, ite2 (fun hd => ?_) (fun hd => ?_)⟩
    · have hlt := of_decide_eq_true hd
      rw [List.length_map] at hlt
      have hn : k < ns.length := by omega
      refine ⟨_, rfl, _, rfl, a, _, _, .int ns[k], rfl, rfl, hS, atI_nat ?_, q _⟩
      rw [List.getElem?_map, List.getElem?_eq_getElem hn]
      rfl
    · exact ⟨_, rfl, _, _, rfl, rfl, .inl ⟨by decide, by decide⟩, _, _, rfl, rfl, _, _, rfl, rfl, (by show (0 : Int) < _; decide), q _⟩
theorem ok__law_stream (D : Df K mg "_law_stream" s__law_stream ["_law_cell_here"]) (mmax : mg "max" = none) : Ok P w K mg base 1 "_law_stream" ["_law_cell_here"] spStream3 := by
  refine D.ok fun f fd F => F.ok sc__law_stream (fun vs H Q E h => ?_) (fun cdv A outer s H vs Q E hr h => ?_)
  · obtain ⟨c, rfl, _⟩ := h
    rfl
  · obtain ⟨c, rfl, q⟩ := h
    refine ⟨_, pss_one (ps_ret (pe_lst (pa_cons (pe_callB (call_max2 rfl) (by rfl) mmax (by decide +kernel) (pa_cons pe_int (pa_cons (pe_op op_sub (pv 0) (pe_op op_pow pe_int pe_int)) pa_nil))) (pa_cons (pe_op op_mod (pv 0) pe_int) (pa_cons pe_int pa_nil))))), ?_⟩
    refine ⟨_, rfl, _, _, rfl, rfl, ⟨by decide, by decide, by decide⟩, _, _, rfl, rfl, _, _, rfl, _, rfl, _, _, rfl, rfl, (by show (0 : Int) < _; decide), (by show 3 ≤ sizeLine; decide), fun p hp => ?_⟩
    exact q p hp _ (Ex.new hp) ⟨_, _, _, upd_same⟩
theorem ok__law_take (D : Df K mg "_law_take" s__law_take ["_law_stream_here", "_law_many"]) : Ok P w K mg base 1 "_law_take" ["_law_stream_here", "_law_many"] spTake3 := by
  refine D.ok fun f fd F => F.ok sc__law_take (fun vs H Q E h => ?_) (fun cdv A outer s H vs Q E hr h => ?_)
  · obtain ⟨s, m, rfl, _⟩ := h
    rfl
  · obtain ⟨s, m, rfl, ⟨a, b, c, hS⟩, m0, m1, q⟩ := h
    refine ⟨_, pss_cons (ps_if (pt_cmpR op_gt (pe_ix ix_list (pv 0) pe_int (fun _ _ => rfl)) pe_int (nomark _)) (pss_cons (ps_set (i := 2) sc__law_take.nd rfl (.inl rfl) (pe_op op_mod (pe_ix ix_list (pv 0) pe_int (fun _ _ => rfl)) (pv 1))) (pss_cons (ps_asg (pe_op op_fdivW (pe_ix ix_list (pv 0) pe_int (fun _ _ => rfl)) (pv 1)) (pg_sub (pv 0) pe_int set_list)) (pss_one (ps_ret (pv 2))))) pss_nil)
      (pss_cons (ps_asg (pe_op op_add (pe_ix ix_list (pv 0) pe_int (fun _ _ => rfl)) pe_int) (pg_sub (pv 0) pe_int set_list))
      (pss_cons (ps_set (i := 3) sc__law_take.nd rfl (.inl rfl) (pe_op op_mod (pe_op op_add (pe_op op_mul (pe_op op_add (pe_ix ix_list (pv 0) pe_int (fun _ _ => rfl)) (pe_op op_mul pe_int (pe_ix ix_list (pv 0) pe_int (fun _ _ => rfl)))) pe_int) pe_int) pe_int))
      (pss_cons (ps_set (i := 3) sc__law_take.nd rfl (.inl rfl) (pe_op op_mod (pe_op op_mul (pv 3) (pv 3)) pe_int))
      (pss_one (ps_ret (pe_op op_mod (pe_op op_fdiv (pe_op op_mod (pe_op op_add (pe_op op_mul (pv 3) (pv 3)) (pe_op op_mul pe_int (pe_ix ix_list (pv 0) pe_int (fun _ _ => rfl)))) pe_int) pe_int) (pv 1))))))), ?_⟩
    have hL : SqL K H s [.int a, .int b, .int c] := sq_of hS
    refine ⟨_, rfl, _, _, _, _, rfl, rfl, hL, at0, _, _, rfl, rfl, _, rfl, ite2 (fun hd => ?_) (fun hd => ?_)⟩
    · refine ⟨_, rfl, _, _, _, _, rfl, rfl, hL, at0, _, rfl, _, _, rfl, rfl, m0, _, rfl, _, _, _, _, rfl, rfl, hL, at0, _, rfl, _, _, rfl, rfl, cdivT m0 m1, _, rfl, s, _, _, 0, rfl, rfl, hS, rfl, _, rfl, ?_⟩
      exact q _ _ (Int.emod_nonneg _ (by omega)) (Int.emod_lt_of_pos _ m0) (Dk.put hS) ⟨_, _, _, upd_same⟩
    · refine ⟨_, rfl, _, _, _, _, rfl, rfl, hL, at2, _, _, rfl, rfl, _, rfl, s, _, _, 2, rfl, rfl, hS, rfl, ?_⟩
      have d1 : Dk s H (upd H s (.lst [.int a, .int b, .int (c + 1)])) := Dk.put hS
      have t1 : St3 s (upd H s (.lst [.int a, .int b, .int (c + 1)])) := ⟨_, _, _, upd_same⟩
      have hL2 : SqL K (upd H s (.lst [.int a, .int b, .int (c + 1)])) s [.int a, .int b, .int (c + 1)] := sq_of upd_same
      refine ⟨_, rfl, _, _, _, _, rfl, rfl, hL2, at1, _, rfl, _, _, _, _, rfl, rfl, hL2, at2, _, _, rfl, rfl, .inl ⟨by decide, by decide⟩, _, _, rfl, rfl, _, _, rfl, rfl, .inr ⟨by decide, by decide⟩, _, _, rfl, rfl, _, _, rfl, rfl, (by show (0 : Int) < _; decide), ?_⟩
      refine ⟨_, rfl, _, rfl, _, _, rfl, rfl, .inl (modb _ (by decide) (by decide)), _, _, rfl, rfl, (by show (0 : Int) < _; decide), ?_⟩
      refine ⟨_, rfl, _, rfl, _, _, rfl, rfl, .inl (modb _ (by decide) (by decide)), _, rfl, _, _, _, _, rfl, rfl, hL2, at2, _, _, rfl, rfl, .inl ⟨by decide, by decide⟩, _, _, rfl, rfl, _, _, rfl, rfl, (by show (0 : Int) < _; decide), _, _, rfl, rfl, ⟨by decide, by decide⟩, _, rfl, _, _, rfl, rfl, m0, ?_⟩
      exact q _ _ (Int.emod_nonneg _ (by omega)) (Int.emod_lt_of_pos _ m0) d1 t1
theorem d6 {c : Int} (h0 : 0 ≤ c) (h1 : c < 3) : 0 < 1 + c ∧ (1 + c).natAbs < 2 ^ 100 ∧ (1 + c).toNat ∣ 6 := by
  have h : c = 0 ∨ c = 1 ∨ c = 2 := by omega
  refine ⟨by omega, by omega, ?_⟩
  rcases h with rfl | rfl | rfl
  · exact ⟨6, rfl⟩
  · exact ⟨3, rfl⟩
  · exact ⟨2, rfl⟩
theorem ok__law_share (D : Df K mg "_law_share" s__law_share ["_law_stream_here"]) (GT : Ok P w K mg base 1 "_law_take" ["_law_stream_here", "_law_many"] spTake3) (GP : Ok P w K mg base 1 "_law_made" ["_law_top", "_law_bottom"] (spPart K)) : Ok P w K mg base 2 "_law_share" ["_law_stream_here"] (spShareB K) := by
  refine D.ok fun f fd F => F.ok sc__law_share (fun vs H Q E h => ?_) (fun cdv A outer s H vs Q E hr h => ?_)
  · obtain ⟨s, rfl, _⟩ := h
    rfl
  · obtain ⟨s, rfl, hS, q⟩ := h
    have hr1 : Room 1 _ := hr.mono (by decide)
    refine ⟨_, pss_one (ps_ret (cl GP hr1 (pa_cons (pe_op op_sub (cl GT hr1 (pa_cons (pv 0) (pa_cons pe_int pa_nil))) pe_int) (pa_cons (pe_op op_add pe_int (cl GT hr1 (pa_cons (pv 0) (pa_cons pe_int pa_nil)))) pa_nil)))), ?_⟩
    refine ⟨_, rfl, s, _, rfl, hS, by decide, by decide, fun d H1 a0 a1 r1 t1 => ⟨_, _, rfl, rfl, _, rfl, s, _, rfl, t1, by decide, by decide, fun c H2 c0 c1 r2 t2 => ⟨_, _, rfl, rfl, ?_⟩⟩⟩
    obtain ⟨cb0, cb1, cb2⟩ := d6 c0 c1
    refine ⟨_, _, 100, rfl, cb0, cb1, by decide, .inl (by decide), fun v H' e hv => ?_⟩
    exact q v _ H' ((r1.trans r2).then e) (t2.ex e) hv (bd_div cb0 (by have : ((4 : Nat) : Int) = 4 := rfl; omega) (by have : ((4 : Nat) : Int) = 4 := rfl; omega) cb2)
theorem ok__law_node (D : Df K mg "_law_node" s__law_node ["_law_stream_here", "_law_many"]) (GN : Ok P w K mg base 2 "_law_share" ["_law_stream_here"] (spShareB K)) (mtuple : mg "tuple" = none) (mrange : mg "range" = none) : Ok P w K mg base 3 "_law_node" ["_law_stream_here", "_law_many"] (spNode3B K) := by
  refine D.ok fun f fd F => F.ok sc__law_node (fun vs H Q E h => ?_) (fun cdv A outer s H vs Q E hr h => ?_)
  · obtain ⟨s, n, rfl, _⟩ := h
    rfl
  · obtain ⟨s, n, rfl, hS, hn, q⟩ := h
    refine ⟨_, pss_one (ps_ret (pe_tup (pa_cons (pe_callTy call_tuple_of (by rfl) mtuple (by decide +kernel) (pa_cons (pe_lc (own := [("_law_k", 2)]) (g := gName 2) (tt := tYes) rfl sc__law_node.nd (pi_range1 (by rfl) mrange (pa_cons (pv 1) pa_nil)) (blkOk_by (N := ["_law_stream_here", "_law_many", "_law_k"]) (sc := defScope s__law_node) (by decide +kernel)) (fun _ _ _ _ _ => (pg_name (i := 2) sc__law_node.nd rfl (.inl rfl))) (fun _ _ _ _ _ => pts_nil) (fun _ _ _ _ _ => cl GN hr (pa_cons (pv 0) pa_nil))) pa_nil)) (pa_cons (cl GN hr (pa_cons (pv 0) pa_nil)) pa_nil)))), ?_⟩
    refine ⟨_, rfl, (n : Int), rfl, by omega, by omega, fun D hD => ?_⟩
    refine lc_range (lo := 0) (n := ((n : Int)).toNat) (BldD (FrV K) (fun L => BdL 4 6 L) s H D) (bdd0 hS hD (fun _ z => by cases z)) ?_ ?_
    · rintro i H' hi b
      rw [Int.toNat_natCast] at hi
      obtain ⟨_, _, _, _, _, _, d0, t0⟩ := id b
      refine ⟨rfl, ?_⟩
      refine ⟨_, rfl, s, rfl, t0, fun v r H4 r4 t4 hv hs => ?_⟩
      exact bdd_step sdF hS.lst hD b (by omega) r4 t4 hv (fun L hL _ => bdl_snoc hL hs)
    · rintro H' ⟨L, xs, hx, hl, hn', hz, r1, t1⟩
      rw [Int.toNat_natCast] at hn'
      refine ⟨D, xs, rfl, .inl ⟨sq_of hx, fun l hl' => ?_⟩⟩
      have row : RowV K (upd H' l (.tup xs)) (.ref l) L := ⟨l, xs, rfl, st_of upd_same, FrL.ex (Ex.new hl') hl⟩
      have r2 := r1.then (Ex.new (o := .tup xs) hl')
      have t2 := t1.new (o := .tup xs) hl'
      refine ⟨_, rfl, s, rfl, t2, fun v r H4 r4 t4 hv hs => ⟨(by show 2 ≤ sizeLine; decide), fun p hp => ?_⟩⟩
      refine q _ (L, r) _ ((r2.trans r4).then (Ex.new hp)) (t4.new hp) ⟨p, _, _, rfl, st_of upd_same, (row.dk r2.st r4).ex (Ex.new hp), hv.ex (Ex.new hp)⟩ hn' hz hs
end

end K30
end
section
set_option maxRecDepth 100000
set_option maxHeartbeats 400000
namespace K30
open PySem Evl Nc PyProof.Rows
open L2 hiding spCell
/-- data that is like itself -/
structure Sy (d : PyData) (k : Nat) : Prop where
  lay : d.canLay0 = true
  dp : d.depth ≤ k
theorem sy_els {K : PySem.W.Frag} {s : Addr} {H : Hp} {k : Nat} : ∀ {ys : List V}, (∀ x ∈ ys, ∃ d, Dz K s H x d ∧ Sy d k) → ∃ ds, DzA K s H ys ds ∧ PyData.canLayAll0 ds = true ∧ PyData.depthAll ds ≤ k
  | [], _ => ⟨[], .nil, rfl, Nat.zero_le _⟩
  | y :: ys, h => by
    obtain ⟨d, h1, h2⟩ := h y (by simp)
    obtain ⟨ds, g1, g2, g3⟩ := sy_els (ys := ys) fun z hz => h z (by simp [hz])
    refine ⟨d :: ds, .cons h1 g1, ?_, ?_⟩
    · show (d.canLay0 && PyData.canLayAll0 ds) = true
      rw [h2.lay, g2]
      rfl
    · show max d.depth (PyData.depthAll ds) ≤ k
      have := h2.dp
      omega
theorem sy_tup {K : PySem.W.Frag} {s t : Addr} {H : Hp} {k : Nat} {ys : List V} (q : SqT K H t ys) (h : ∀ x ∈ ys, ∃ d, Dz K s H x d ∧ Sy d k) : ∃ d, Dz K s H (.ref t) d ∧ Sy d (k + 1) := by
  obtain ⟨ds, g1, g2, g3⟩ := sy_els h
  exact ⟨.tuple ds, .tup q g1, g2, by show PyData.depthAll ds + 1 ≤ k + 1; omega⟩
theorem sy_lst {K : PySem.W.Frag} {s t : Addr} {H : Hp} {k : Nat} {ys : List V} (q : H t = some (.lst ys)) (n : t ≠ s) (h : ∀ x ∈ ys, ∃ d, Dz K s H x d ∧ Sy d k) : ∃ d, Dz K s H (.ref t) d ∧ Sy d (k + 1) := by
  obtain ⟨ds, g1, g2, g3⟩ := sy_els h
  exact ⟨.list ds, .lst n q g1, g2, by show PyData.depthAll ds + 1 ≤ k + 1; omega⟩
theorem sy_mono {K : PySem.W.Frag} {s : Addr} {H : Hp} {v : V} {k k' : Nat} (h : ∃ d, Dz K s H v d ∧ Sy d k) (hk : k ≤ k') : ∃ d, Dz K s H v d ∧ Sy d k' := by
  obtain ⟨d, h1, h2⟩ := h
  exact ⟨d, h1, h2.lay, Nat.le_trans h2.dp hk⟩
theorem sy_int {K : PySem.W.Frag} {s : Addr} {H : Hp} (i : Int) : ∃ d, Dz K s H (.int i) d ∧ Sy d 0 := ⟨_, .int i, rfl, Nat.le_refl 0⟩
theorem sy_bl {K : PySem.W.Frag} {s : Addr} {H : Hp} (b : Bool) : ∃ d, Dz K s H (.bl b) d ∧ Sy d 0 := ⟨_, .bl b, rfl, Nat.le_refl 0⟩
theorem sy_non {K : PySem.W.Frag} {s : Addr} {H : Hp} : ∃ d, Dz K s H .non d ∧ Sy d 0 := ⟨_, .non, rfl, Nat.le_refl 0⟩
theorem sy_str {K : PySem.W.Frag} {s : Addr} {H : Hp} (x : Str) (h : PyData.strOk x = true) : ∃ d, Dz K s H (.str x) d ∧ Sy d 0 := ⟨_, .str x, h, Nat.le_refl 0⟩
theorem sy_fr {K : PySem.W.Frag} {s : Addr} {H : Hp} {v : V} {r : Rat} (h : FrV K H v r) : ∃ d, Dz K s H v d ∧ Sy d 1 := by
  obtain ⟨t, rfl, q⟩ := h
  exact sy_tup q fun x hx => by
    simp only [List.mem_cons, List.not_mem_nil, or_false] at hx
    rcases hx with rfl | rfl
    · exact sy_int _
    · exact sy_int _
theorem sy_sp {K : PySem.W.Frag} {s : Addr} {H : Hp} {v : V} {p : Span} (h : SpanV K H v p) : ∃ d, Dz K s H v d ∧ Sy d 2 := by
  obtain ⟨t, a, b, rfl, q, fa, fb⟩ := h
  exact sy_tup q fun x hx => by
    simp only [List.mem_cons, List.not_mem_nil, or_false] at hx
    rcases hx with rfl | rfl
    · exact sy_fr fa
    · exact sy_fr fb
theorem thb_i {K : PySem.W.Frag} {H : Hp} (i : Int) : ThB K H (.int i) false := .oth (k := .int) ⟨.base (.int _), fun _ => ⟨_, rfl⟩⟩ (by decide)
theorem dbl_odd {a b : Int} : (decide ((0 : Int) < 2 * b) && decide (Nat.gcd (2 * a).natAbs (2 * b).natAbs = 1)) = false := by
  have h : Nat.gcd (2 * a).natAbs (2 * b).natAbs ≠ 1 := by
    rw [Int.natAbs_mul, Int.natAbs_mul, show (2 : Int).natAbs = 2 from rfl, Nat.gcd_mul_left]
    omega
  rw [decide_eq_false h, Bool.and_false]
/-- an end made another thing: r, r and one, or no fraction -/
def EndP (K : PySem.W.Frag) (s : Addr) (H : Hp) (v : V) (r : Rat) : Prop := ((∃ u, FrV K H v u ∧ (u = r ∨ u = r + 1)) ∨ ThB K H v false) ∧ ∃ d, Dz K s H v d ∧ Sy d 2
def spEnd (K : PySem.W.Frag) : Sp := fun vs H Q _ => ∃ (s : Addr) (x : V) (r : Rat), vs = [.ref s, x] ∧ St3 s H ∧ FrV K H x r ∧ Bd 21 6 r ∧ ∀ v H', Dk s H H' → St3 s H' → EndP K s H' v r → Q v H'
theorem add1 (r : Rat) : (r + 1).num = r.num + (r.den : Int) ∧ ((r + 1).den : Int) = (r.den : Int) := by
  have h : Rat.divInt (r.num + (r.den : Int)) (r.den : Int) = r + 1 := by
    rw [← add_is r 1]
    show _ = Rat.divInt (r.num * (1 : Int) + 1 * (r.den : Int)) ((r.den : Int) * 1)
    rw [Int.mul_one, Int.one_mul, Int.mul_one]
  have g : Nat.gcd (r.num + (r.den : Int)).natAbs (r.den : Int).natAbs = 1 := by
    have e : Int.gcd (r.num + (r.den : Int)) (r.den : Int) = Int.gcd r.num (r.den : Int) := Int.gcd_add_self_left _ _
    have e2 : Int.gcd r.num (r.den : Int) = 1 := by
      show Nat.gcd r.num.natAbs (r.den : Int).natAbs = 1
      rw [Int.natAbs_natCast]
      exact r.reduced
    exact e.trans e2
  have d0 := den_pos r
  have h1 := num_div (t := r.num + (r.den : Int)) d0
  have h2 := den_div (t := r.num + (r.den : Int)) d0
  rw [g, show ((1 : Nat) : Int) = 1 from rfl, Int.ediv_one, h] at h1 h2
  exact ⟨h1.symm, h2.symm⟩
theorem num21 {r : Rat} (h : Bd 21 6 r) : r.num.natAbs < 2 ^ 90 ∧ (r.den = 1 ∨ r.den = 2 ∨ r.den = 3 ∨ r.den = 6) := by
  have z : Sz (85 + 5) 5 r := h.sz (k := 85) (b := 5) (by decide) (by decide) (by decide)
  refine ⟨z.1, ?_⟩
  have d := h.2
  have dp : r.den ≠ 0 := r.den_nz
  have le : r.den ≤ 6 := Nat.le_of_dvd (by decide) d
  have : r.den = 1 ∨ r.den = 2 ∨ r.den = 3 ∨ r.den = 4 ∨ r.den = 5 ∨ r.den = 6 := by omega
  rcases this with h | h | h | h | h | h <;> simp_all
section
variable {P : Program} {w : World} {K : PySem.W.Frag} {mg : Str → Option Value} {base : Heap}
theorem ok__law_end (D : Df K mg "_law_end" s__law_end ["_law_stream_here", "_law_one"]) (GT : Ok P w K mg base 1 "_law_take" ["_law_stream_here", "_law_many"] spTake3) (mstr : mg "str" = none) : Ok P w K mg base 2 "_law_end" ["_law_stream_here", "_law_one"] (spEnd K) := by
  refine D.ok fun f fd F => F.ok sc__law_end (fun vs H Q E h => ?_) (fun cdv A outer s H vs Q E hr h => ?_)
  · obtain ⟨s, x, r, rfl, _⟩ := h
    rfl
  · obtain ⟨s, x, r, rfl, hS, hx, hb, q⟩ := h
    have hr1 : Room 1 _ := hr.mono (by decide)
    obtain ⟨n90, dens⟩ := num21 hb
    obtain ⟨t, rfl, qt⟩ := hx
    have sne : ∀ {G : Hp} {p : Addr}, St3 s G → G p = none → p ≠ s := fun t hp => Ne.symm (t.lst.ne hp)
    refine ⟨_, (pss_cons (ps_asg (pv 1) (pg_tup rfl (pgs_cons (pg_name (i := 2) sc__law_end.nd rfl (.inl rfl)) (pgs_cons (pg_name (i := 3) sc__law_end.nd rfl (.inl rfl)) pgs_nil))))
      (pss_cons (ps_set (i := 4) sc__law_end.nd rfl (.inl rfl) (pe_lstE (pa_cons (pe_tupE (pa_cons (pe_op op_mul pe_int (pv 2)) (pa_cons (pe_op op_mul pe_int (pv 3)) pa_nil))) (pa_cons (pe_tupE (pa_cons (pv 2) (pa_cons pe_int pa_nil))) (pa_cons (pe_tupE (pa_cons (pe_op op_sub pe_int (pv 2)) (pa_cons (pe_op op_sub pe_int (pv 3)) pa_nil))) (pa_cons (pe_tupE (pa_cons (pe_cmpR op_eq (pv 2) pe_int (nomark _)) (pa_cons (pv 3) pa_nil))) (pa_cons (pe_tupE (pa_cons (pv 2) (pa_cons (pe_cmpR op_eq (pv 3) pe_int (nomark _)) pa_nil))) (pa_cons (pv 2) pa_nil))))))))
      (pss_cons (ps_set (i := 4) sc__law_end.nd rfl (.inl rfl) (pe_op op_catE (pv 4) (pe_lstE (pa_cons pe_non (pa_cons pe_str (pa_cons (pe_lstE (pa_cons (pv 2) (pa_cons (pv 3) pa_nil))) (pa_cons (pe_tupE (pa_cons (pv 2) pa_nil)) (pa_cons (pe_tupE (pa_cons (pv 2) (pa_cons (pv 3) (pa_cons pe_int pa_nil)))) (pa_cons (pe_tupE (pa_cons (pv 2) (pa_cons (pe_callTy call_str_int (by rfl) mstr (by decide +kernel) (pa_cons (pv 3) pa_nil)) pa_nil))) (pa_cons (pv 1) (pa_cons (pe_tupE (pa_cons (pe_op op_add (pv 2) (pv 3)) (pa_cons (pv 3) pa_nil))) pa_nil)))))))))))
      (pss_one (ps_ret (pe_ix ix_list (pv 4) (cl GT hr1 (pa_cons (pv 0) (pa_cons pe_int pa_nil))) (fun _ _ => rfl))))))), ?_⟩
    refine ⟨_, rfl, t, [.int r.num, .int (r.den : Int)], rfl, qt, rfl, .int r.num, [.int (r.den : Int)], rfl, .int (r.den : Int), [], rfl, rfl, ?_⟩
    refine ⟨_, rfl, _, _, rfl, rfl, .inl ⟨by decide, by decide⟩, _, rfl, _, _, rfl, rfl, .inl ⟨by decide, by decide⟩, (by show 2 ≤ sizeLine; decide), fun p1 A1 n1 e1 k1 => ⟨_, rfl, (by show 2 ≤ sizeLine; decide), fun p2 A2 n2 e2 k2 => ⟨_, rfl, _, _, rfl, rfl, _, rfl, _, _, rfl, rfl, (by show 2 ≤ sizeLine; decide), fun p3 A3 n3 e3 k3 => ?_⟩⟩⟩
    refine ⟨_, rfl, rfl, _, rfl, (by show 2 ≤ sizeLine; decide), fun p4 A4 n4 e4 k4 => ⟨_, rfl, _, rfl, rfl, (by show 2 ≤ sizeLine; decide), fun p5 A5 n5 e5 k5 => ⟨_, rfl, (by show 6 ≤ sizeLine; decide), fun pL A6 n6 e6 k6 => ?_⟩⟩⟩
    refine ⟨_, rfl, _, rfl, _, rfl, (by show 2 ≤ sizeLine; decide), fun p7 A7 n7 e7 k7 => ⟨_, rfl, (by show 1 ≤ sizeLine; decide), fun p8 A8 n8 e8 k8 => ⟨_, rfl, _, rfl, (by show 3 ≤ sizeLine; decide), fun p9 A9 n9 e9 k9 => ?_⟩⟩⟩
    refine ⟨_, rfl, _, rfl, (r.den : Int), rfl, (by rcases dens with h | h | h | h <;> rw [h] <;> decide), (by show 2 ≤ sizeLine; decide), fun w1 B1 m1 g1 j1 => ⟨_, rfl, _, rfl, _, rfl, _, _, rfl, rfl, _, rfl, (by show 2 ≤ sizeLine; decide), fun w2 B2 m2 g2 j2 => ⟨(by show 8 ≤ sizeLine; decide), fun w3 B3 m3 g3 j3 => ?_⟩⟩⟩
    have h3 := g3
    have h2 := g2.trans h3
    have h1 := g1.trans h2
    have f9 := h1
    have f8 := e9.trans f9
    have f7 := e8.trans f8
    have f6 := e7.trans f7
    have f5 := e6.trans f6
    have f4 := e5.trans f5
    have f3 := e4.trans f4
    have f2 := e3.trans f3
    have f1 := e2.trans f2
    have f0 := e1.trans f1
    refine ⟨pL, w3, _, _, rfl, rfl, f6 _ _ k6, j3, (by show 6 + 8 ≤ sizeLine; decide), fun w4 B4 m4 g4 j4 => ?_⟩
    have t4 := hS.ex (f0.trans g4)
    refine ⟨_, rfl, _, rfl, s, _, rfl, t4, by decide, by decide, fun k H2 a0 a1 r2 t2 => ?_⟩
    have kw := r2.keep w4 _ (sne (hS.ex f0) m4) j4
    obtain ⟨v, hv, hm⟩ := at_mem (xs := [.ref p1, .ref p2, .ref p3, .ref p4, .ref p5, .int r.num] ++ [.non, .str "0", .ref p7, .ref p8, .ref p9, .ref w1, .ref t, .ref w2]) (d := k) a0 (by show k < 14; omega)
    refine ⟨w4, _, _, _, rfl, rfl, sq_of kw, hv, ?_⟩
    have R := (Dk.ex hS.lst (f0.trans g4)).trans r2
    have T : ∀ {G : Hp} {p : Addr} {ys : List V}, Ex G B4 → SqT K G p ys → SqT K H2 p ys := fun e qq => sqt_dk t4.lst r2 (ex_t e qq)
    have sm : ∀ {a : Int}, a.natAbs < 2 ^ 90 → a.natAbs < 2 ^ 100 := fun h => lt_mono h (by decide)
    have dn : ((r.den : Int)).natAbs < 2 ^ 90 := by rcases dens with h | h | h | h <;> rw [h] <;> decide
    have two : ∀ {p : Addr} {x y : V}, SqT K H2 p [x, y] → (∃ d, Dz K s H2 x d ∧ Sy d 0) → (∃ d, Dz K s H2 y d ∧ Sy d 0) → ∃ d, Dz K s H2 (.ref p) d ∧ Sy d 2 := fun qq h1 h2 => sy_mono (sy_tup qq fun z hz => by
      simp only [List.mem_cons, List.not_mem_nil, or_false] at hz
      rcases hz with rfl | rfl
      · exact h1
      · exact h2) (by decide)
    have bad : ∀ {v : V}, ThB K H2 v false → (∃ d, Dz K s H2 v d ∧ Sy d 2) → Q v H2 := fun h1 h2 => q _ H2 R t2 ⟨.inr h1, h2⟩
    have kI : ∀ {i : Int}, KdV K H2 (.int i) .int := ⟨.base (.int _), fun _ => ⟨_, rfl⟩⟩
    have kB : ∀ {b : Bool}, KdV K H2 (.bl b) .bl := ⟨.base (.bl _), fun zz => by cases zz⟩
    simp only [List.cons_append, List.nil_append, List.mem_cons, List.not_mem_nil, or_false] at hm
    rcases hm with rfl | rfl | rfl | rfl | rfl | rfl | rfl | rfl | rfl | rfl | rfl | rfl | rfl | rfl
    · have qq := T (f1.trans g4) (st_of k1)
      have e := ThB.nums qq (by rw [Int.natAbs_mul]; show 2 * _ < _; have : (2 : Nat) * 2 ^ 90 < 2 ^ 100 := by decide
                                omega) (by rw [Int.natAbs_mul]; show 2 * _ < _; have : (2 : Nat) * 2 ^ 90 < 2 ^ 100 := by decide
                                           omega)
      rw [dbl_odd] at e
      exact bad e (two qq (sy_int _) (sy_int _))
    · have qq := T (f2.trans g4) (st_of k2)
      exact bad (.nums qq (sm n90) (by decide)) (two qq (sy_int _) (sy_int _))
    · have qq := T (f3.trans g4) (st_of k3)
      have e := ThB.nums qq (by rw [show (0 : Int) - r.num = -r.num by omega, Int.natAbs_neg]; exact sm n90) (by rw [show (0 : Int) - (r.den : Int) = -(r.den : Int) by omega, Int.natAbs_neg]; exact sm dn)
      rw [decide_eq_false (show ¬ (0 : Int) < 0 - (r.den : Int) by have := den_pos r; omega), Bool.false_and] at e
      exact bad e (two qq (sy_int _) (sy_int _))
    · have qq := T (f4.trans g4) (st_of k4)
      exact bad (.two qq kB kI (by decide)) (two qq (sy_bl _) (sy_int _))
    · have qq := T (f5.trans g4) (st_of k5)
      exact bad (.two qq kI kB (by decide)) (two qq (sy_int _) (sy_bl _))
    · exact bad (thb_i _) (sy_mono (sy_int _) (by decide))
    · exact bad (.oth (k := .non) ⟨.base .non, fun zz => by cases zz⟩ (by decide)) (sy_mono sy_non (by decide))
    · exact bad (.oth (k := .str) ⟨.base (.str _), fun zz => by cases zz⟩ (by decide)) (sy_mono (sy_str _ (by decide +kernel)) (by decide))
    · have n7s := sne (hS.ex (e1.trans (e2.trans (e3.trans (e4.trans (e5.trans e6)))))) n7
      have kk := r2.keep p7 _ n7s ((f7.trans g4) _ _ k7)
      exact bad (.oth (k := .lst) ⟨tyL (sq_of kk), fun zz => by cases zz⟩ (by decide)) (sy_mono (sy_lst (k := 0) kk n7s fun z hz => by
        simp only [List.mem_cons, List.not_mem_nil, or_false] at hz
        rcases hz with rfl | rfl
        · exact sy_int _
        · exact sy_int _) (by decide))
    · have qq := T (f8.trans g4) (st_of k8)
      exact bad (.tupN qq (by show 1 ≠ 2; decide)) (sy_mono (sy_tup (k := 0) qq fun z hz => by
        rw [List.mem_singleton.mp hz]
        exact sy_int _) (by decide))
    · have qq := T (f9.trans g4) (st_of k9)
      exact bad (.tupN qq (by show 3 ≠ 2; decide)) (sy_mono (sy_tup (k := 0) qq fun z hz => by
        simp only [List.mem_cons, List.not_mem_nil, or_false] at hz
        rcases hz with rfl | rfl | rfl
        · exact sy_int _
        · exact sy_int _
        · exact sy_int _) (by decide))
    · have qq := T (h2.trans g4) (st_of j1)
      exact bad (.two qq kI (ky := .str) ⟨.base (.str _), fun zz => by cases zz⟩ (by decide)) (two qq (sy_int _) (sy_str _ (by rcases dens with h | h | h | h <;> rw [h] <;> decide +kernel)))
    · have fr : FrV K H2 (.ref t) r := ⟨t, rfl, sqt_dk hS.lst R qt⟩
      exact q _ H2 R t2 ⟨.inl ⟨r, fr, .inl rfl⟩, sy_mono (sy_fr fr) (by decide)⟩
    · have qq := T (h3.trans g4) (st_of j2)
      obtain ⟨a1', a2'⟩ := add1 r
      have fr : FrV K H2 (.ref w2) (r + 1) := ⟨w2, rfl, by rw [a1', a2']; exact qq⟩
      exact q _ H2 R t2 ⟨.inl ⟨r + 1, fr, .inr rfl⟩, sy_mono (sy_fr fr) (by decide)⟩
end

end K30
end
section
set_option maxRecDepth 100000
set_option maxHeartbeats 400000
namespace K30
open PySem Evl Nc PyProof.Rows
open L2 hiding spCell
section
variable {P : Program} {w : World} {K : PySem.W.Frag} {mg : Str → Option Value} {base : Heap}
def spPair (K : PySem.W.Frag) : Sp := fun vs H Q _ => ∃ (s : Addr) (x : V) (p : Span), vs = [.ref s, x] ∧ St3 s H ∧ SpanV K H x p ∧ Bd 21 6 p.1 ∧ Bd 21 6 p.2 ∧ p.1 ≤ p.2 ∧ p.2 - p.1 ≤ 12 ∧ ∀ v b H', Dk s H H' → St3 s H' → PtL K H' v b → (∃ d, Dz K s H' v d ∧ Sy d 3) → Q v H'
theorem bd_up {r : Rat} (h : Bd 21 6 r) : Bd 22 6 r ∧ Bd 22 6 (r + 1) := by
  have one : Bd 1 6 (1 : Rat) := ⟨⟨by decide, by decide⟩, by decide⟩
  exact ⟨h.mono (by decide) (Nat.dvd_refl _), (h.add (by decide) one).mono (by decide) (Nat.dvd_refl _)⟩
theorem ok__law_pair (D : Df K mg "_law_pair" s__law_pair ["_law_stream_here", "_law_pair_here"]) (GT : Ok P w K mg base 1 "_law_take" ["_law_stream_here", "_law_many"] spTake3) (GE : Ok P w K mg base 2 "_law_end" ["_law_stream_here", "_law_one"] (spEnd K)) : Ok P w K mg base 3 "_law_pair" ["_law_stream_here", "_law_pair_here"] (spPair K) := by
  refine D.ok fun f fd F => F.ok sc__law_pair (fun vs H Q E h => ?_) (fun cdv A outer s H vs Q E hr h => ?_)
  · obtain ⟨s, x, p, rfl, _⟩ := h
    rfl
  · obtain ⟨s, x, p, rfl, hS, hx, b1, b2, hle, hw, q⟩ := h
    have hr1 : Room 1 _ := hr.mono (by decide)
    have sne : ∀ {G : Hp} {p : Addr}, St3 s G → G p = none → p ≠ s := fun t hp => Ne.symm (t.lst.ne hp)
    obtain ⟨t, lo, hi, rfl, qt, flo, fhi⟩ := hx
    refine ⟨_, (pss_cons (ps_asg (pv 1) (pg_tup rfl (pgs_cons (pg_name (i := 2) sc__law_pair.nd rfl (.inl rfl)) (pgs_cons (pg_name (i := 3) sc__law_pair.nd rfl (.inl rfl)) pgs_nil))))
      (pss_cons (ps_set (i := 4) sc__law_pair.nd rfl (.inl rfl) (cl GT hr1 (pa_cons (pv 0) (pa_cons pe_int pa_nil))))
      (pss_cons (ps_if (pt_cmpR op_eq (pv 4) pe_int (nomark _)) (pss_one (ps_ret (pe_ix ix_list (pe_lstE (pa_cons (pe_tupE (pa_cons (pv 3) (pa_cons (pv 2) pa_nil))) (pa_cons (pe_lstE (pa_cons (pv 2) (pa_cons (pv 3) pa_nil))) (pa_cons (pe_tupE (pa_cons (pv 2) pa_nil)) (pa_cons (pe_tupE (pa_cons (pv 2) (pa_cons (pv 3) (pa_cons (pv 3) pa_nil)))) (pa_cons pe_non pa_nil)))))) (cl GT hr1 (pa_cons (pv 0) (pa_cons pe_int pa_nil))) (fun _ _ => rfl)))) pss_nil)
      (pss_cons (ps_if (pt_cmpR op_lt (pv 4) pe_int (nomark _)) (pss_one (ps_ret (pe_tupE (pa_cons (cl GE hr (pa_cons (pv 0) (pa_cons (pv 2) pa_nil))) (pa_cons (pv 3) pa_nil))))) pss_nil)
      (pss_one (ps_ret (pe_tupE (pa_cons (pv 2) (pa_cons (cl GE hr (pa_cons (pv 0) (pa_cons (pv 3) pa_nil))) pa_nil))))))))), ?_⟩
    refine ⟨_, rfl, t, [lo, hi], rfl, qt, rfl, lo, [hi], rfl, hi, [], rfl, rfl, ?_⟩
    refine ⟨_, rfl, s, _, rfl, hS, by decide, by decide, fun d H1 d0 d1 r1 t1 => ?_⟩
    have flo1 := flo.dk hS.lst r1
    have fhi1 := fhi.dk hS.lst r1
    obtain ⟨u1, u1'⟩ := bd_up b1
    obtain ⟨u2, u2'⟩ := bd_up b2
    have fin : ∀ {H' : Hp} {v : V} {b : Bool} {k : Nat}, Dk s H1 H' → St3 s H' → PtL K H' v b → (∃ d, Dz K s H' v d ∧ Sy d k) → k ≤ 3 → Q v H' := fun r t h1 h2 h3 => q _ _ _ (r1.trans r) t h1 (sy_mono h2 h3)
    refine ⟨_, rfl, rfl, _, rfl, ite2 (fun _ => ?_) (fun _ => ?_)⟩
    · refine ⟨_, rfl, _, rfl, (by show 2 ≤ sizeLine; decide), fun p1 A1 n1 e1 k1 => ⟨_, rfl, _, rfl, (by show 2 ≤ sizeLine; decide), fun p2 A2 n2 e2 k2 => ⟨_, rfl, (by show 1 ≤ sizeLine; decide), fun p3 A3 n3 e3 k3 => ⟨_, rfl, _, rfl, _, rfl, (by show 3 ≤ sizeLine; decide), fun p4 A4 n4 e4 k4 => ⟨(by show 5 ≤ sizeLine; decide), fun p5 A5 n5 e5 k5 => ?_⟩⟩⟩⟩⟩
      have f4 := e5
      have f3 := e4.trans f4
      have f2 := e3.trans f3
      have f1 := e2.trans f2
      have f0 := e1.trans f1
      have t5 := t1.ex f0
      refine ⟨_, rfl, s, _, rfl, t5, by decide, by decide, fun k H2 a0 a1 r2 t2 => ?_⟩
      have kk := r2.keep p5 _ (sne (t1.ex (e1.trans (e2.trans (e3.trans e4)))) n5) k5
      obtain ⟨v, hv, hm⟩ := at_mem (xs := [.ref p1, .ref p2, .ref p3, .ref p4, .non]) (d := k) a0 (by show k < 5; omega)
      refine ⟨p5, _, _, _, rfl, rfl, sq_of kk, hv, ?_⟩
      have R := (Dk.ex t1.lst f0).trans r2
      have T : ∀ {G : Hp} {p : Addr} {ys : List V}, Ex G A5 → SqT K G p ys → SqT K H2 p ys := fun e qq => sqt_dk t5.lst r2 (ex_t e qq)
      have flo2 := (flo1.ex f0).dk t5.lst r2
      have fhi2 := (fhi1.ex f0).dk t5.lst r2
      have thl := fr_thb flo2 (bd22 u1)
      have thh := fr_thb fhi2 (bd22 u2)
      simp only [List.mem_cons, List.not_mem_nil, or_false] at hm
      rcases hm with rfl | rfl | rfl | rfl | rfl
      · have sv : SpanV K H2 (.ref p1) (p.2, p.1) := ⟨p1, hi, lo, rfl, T f1 (st_of k1), fhi2, flo2⟩
        exact fin R t2 (.span sv u2 u1 (by show p.1 - p.2 ≤ 18; grind)) (sy_sp sv) (by decide)
      · have n2s := sne (t1.ex e1) n2
        have k2' := r2.keep p2 _ n2s (f2 _ _ k2)
        exact fin R t2 (.oth (k := .lst) ⟨tyL (sq_of k2'), fun zz => by cases zz⟩ (by decide)) (sy_lst (k := 1) k2' n2s fun z hz => by
          simp only [List.mem_cons, List.not_mem_nil, or_false] at hz
          rcases hz with rfl | rfl
          · exact sy_fr flo2
          · exact sy_fr fhi2) (by decide)
      · exact fin R t2 (.len (T f3 (st_of k3)) (.cons thl .nil) (by show 1 ≠ 2; decide) (by show 1 ≤ 10; decide)) (sy_tup (k := 1) (T f3 (st_of k3)) fun z hz => by
          rw [List.mem_singleton.mp hz]
          exact sy_fr flo2) (by decide)
      · exact fin R t2 (.len (T f4 (st_of k4)) (.cons thl (.cons thh (.cons thh .nil))) (by show 3 ≠ 2; decide) (by show 3 ≤ 10; decide)) (sy_tup (k := 1) (T f4 (st_of k4)) fun z hz => by
          simp only [List.mem_cons, List.not_mem_nil, or_false, or_self] at hz
          rcases hz with rfl | rfl
          · exact sy_fr flo2
          · exact sy_fr fhi2) (by decide)
      · exact fin R t2 (.oth (k := .non) ⟨.base .non, fun zz => by cases zz⟩ (by decide)) sy_non (by decide)
    · refine ⟨_, rfl, _, _, rfl, rfl, _, rfl, ite2 (fun _ => ?_) (fun _ => ?_)⟩
      · refine ⟨_, rfl, _, rfl, s, lo, p.1, rfl, t1, flo1, b1, fun v H2 r2 t2 hv => ⟨_, rfl, (by show 2 ≤ sizeLine; decide), fun p1 A1 n1 e1 k1 => ?_⟩⟩
        have fhi2 := (fhi1.dk t1.lst r2).ex e1
        have R := r2.then e1
        obtain ⟨hv1, d, hd1, hd2⟩ := hv
        have sy : ∃ d, Dz K s A1 (.ref p1) d ∧ Sy d 3 := sy_tup (k := 2) (st_of k1) fun z hz => by
          simp only [List.mem_cons, List.not_mem_nil, or_false] at hz
          rcases hz with rfl | rfl
          · exact ⟨d, Dz.ex e1 d _ hd1, hd2⟩
          · exact sy_mono (sy_fr fhi2) (by decide)
        rcases hv1 with ⟨u, fu, hu⟩ | hb
        · have sv : SpanV K A1 (.ref p1) (u, p.2) := ⟨p1, v, hi, rfl, st_of k1, fu.ex e1, fhi2⟩
          refine fin R (t2.ex e1) (.span sv (by rcases hu with rfl | rfl <;> assumption) u2 ?_) sy (Nat.le_refl _)
          show p.2 - u ≤ 18
          rcases hu with rfl | rfl <;> grind
        · exact fin R (t2.ex e1) (.two (st_of k1) (thb_ex e1 hb) (fr_thb fhi2 (bd22 u2)) rfl) sy (Nat.le_refl _)
      · refine ⟨_, rfl, _, rfl, _, rfl, s, hi, p.2, rfl, t1, fhi1, b2, fun v H2 r2 t2 hv => ⟨(by show 2 ≤ sizeLine; decide), fun p1 A1 n1 e1 k1 => ?_⟩⟩
        have flo2 := (flo1.dk t1.lst r2).ex e1
        have R := r2.then e1
        obtain ⟨hv1, d, hd1, hd2⟩ := hv
        have sy : ∃ d, Dz K s A1 (.ref p1) d ∧ Sy d 3 := sy_tup (k := 2) (st_of k1) fun z hz => by
          simp only [List.mem_cons, List.not_mem_nil, or_false] at hz
          rcases hz with rfl | rfl
          · exact sy_mono (sy_fr flo2) (by decide)
          · exact ⟨d, Dz.ex e1 d _ hd1, hd2⟩
        rcases hv1 with ⟨u, fu, hu⟩ | hb
        · have sv : SpanV K A1 (.ref p1) (p.1, u) := ⟨p1, lo, v, rfl, st_of k1, flo2, fu.ex e1⟩
          refine fin R (t2.ex e1) (.span sv u1 (by rcases hu with rfl | rfl <;> assumption) ?_) sy (Nat.le_refl _)
          show u - p.1 ≤ 18
          rcases hu with rfl | rfl <;> grind
        · exact fin R (t2.ex e1) (.two (st_of k1) (fr_thb flo2 (bd22 u1)) (thb_ex e1 hb) (Bool.and_false _)) sy (Nat.le_refl _)
end

end K30
end
section
set_option maxRecDepth 100000
set_option maxHeartbeats 400000
namespace K30
open PySem Evl Nc PyProof.Rows
open L2 hiding spCell
section
variable {P : Program} {w : World} {K : PySem.W.Frag} {mg : Str → Option Value} {base : Heap}
theorem dk_noneT {s D : Addr} {H H1 : Hp} (r : Dk s H H1) (n : D ≠ s) (h : H1 D = none) : H D = none := Option.eq_none_iff_forall_ne_some.mpr fun o ho => by
  have := r.keep D o n ho
  rw [h] at this
  cases this
theorem kd_lst (k : Kn) : kitB k.nm "list" = some (decide (k = .lst)) := by cases k <;> decide +kernel
/-- a thing that is like itself -/
inductive EqV (K : PySem.W.Frag) (s : Addr) (Nw : Addr → Prop) (H : Hp) (m : Nat) : V → Prop
  | lst {a xs ds} (q : H a = some (.lst xs)) (n : a ≠ s) (l : xs.length ≤ m) (p : DzA K a H xs ds) (lay : PyData.canLayAll0 ds = true) (dp : PyData.depthAll ds ≤ 5) (nw : Nw a) : EqV K s Nw H m (.ref a)
  | dat {v d k} (h : KdV K H v k) (kn : k ≠ .lst) (p : Dz K s H v d) (y : Sy d 6) : EqV K s Nw H m v
  | dic {a} (q : H a = some (.dK [])) : EqV K s Nw H m (.ref a)
theorem eqv_ex {K : PySem.W.Frag} {s : Addr} {H H' : Hp} {m : Nat} {Nw : Addr → Prop} {v : V} (e : Ex H H') (h : EqV K s Nw H m v) : EqV K s Nw H' m v := by
  cases h with
  | lst q n l p lay dp nw => exact .lst (e _ _ q) n l (DzA.ex e _ _ p) lay dp nw
  | dat h kn p y => exact .dat (kd_ex e h) kn (Dz.ex e _ _ p) y
  | dic q => exact .dic (e _ _ q)
def spThing30 (K : PySem.W.Frag) : Sp := fun vs H Q _ => ∃ (s : Addr) (x : V) (sp : List Span), vs = [.ref s, x] ∧ St3 s H ∧ SpsV K true H x sp ∧ SpB 21 12 6 sp ∧ 1 ≤ sp.length ∧ sp.length ≤ 3 ∧ ∀ v b H', Dk s H H' → St3 s H' → LkB K H' sp.length v b → EqV K s (fun a => H a = none) H' 10 v → Q v H'
theorem thb_ps {K : PySem.W.Frag} {H : Hp} : ∀ {ys : List V}, (∀ x ∈ ys, ∃ b, ThB K H x b) → ∃ bs, Paired (ThB K H) ys bs
  | [], _ => ⟨[], .nil⟩
  | y :: ys, h => by
    obtain ⟨b, hb⟩ := h y (by simp)
    obtain ⟨bs, hbs⟩ := thb_ps (ys := ys) fun z hz => h z (by simp [hz])
    exact ⟨b :: bs, .cons hb hbs⟩
theorem thb_tt {K : PySem.W.Frag} {H : Hp} {t w z : Addr} (q : SqT K H t [.ref w, .ref z]) (h : TyX K H (.ref w) (.type "tuple")) (h2 : TyX K H (.ref z) (.type "tuple")) : ThB K H (.ref t) false := .two (kx := .tup) (ky := .tup) q ⟨h, fun zz => by cases zz⟩ ⟨h2, fun zz => by cases zz⟩ (by decide)
theorem ptl_ps {K : PySem.W.Frag} {H : Hp} : ∀ {ys : List V}, (∀ x ∈ ys, ∃ b, PtL K H x b) → ∃ bs, Paired (PtL K H) ys bs
  | [], _ => ⟨[], .nil⟩
  | y :: ys, h => by
    obtain ⟨b, hb⟩ := h y (by simp)
    obtain ⟨bs, hbs⟩ := ptl_ps (ys := ys) fun z hz => h z (by simp [hz])
    exact ⟨b :: bs, .cons hb hbs⟩
theorem ok__law_thing (D : Df K mg "_law_thing" s__law_thing ["_law_stream_here", "_law_box_here"]) (GT : Ok P w K mg base 1 "_law_take" ["_law_stream_here", "_law_many"] spTake3) (GPr : Ok P w K mg base 3 "_law_pair" ["_law_stream_here", "_law_pair_here"] (spPair K)) (mlen : mg "len" = none) (mlist : mg "list" = none) : Ok P w K mg base 4 "_law_thing" ["_law_stream_here", "_law_box_here"] (spThing30 K) := by
  refine D.ok fun f fd F => F.ok sc__law_thing (fun vs H Q E h => ?_) (fun cdv A outer s H vs Q E hr h => ?_)
  · obtain ⟨s, x, sp, rfl, _⟩ := h
    rfl
  · obtain ⟨s, x, sp, rfl, hS, hx, hsb, l1, l3, q⟩ := h
    have hr1 : Room 1 _ := hr.mono (by decide)
    have z0 : 1000 ≤ sizeLine := by decide
    have sne : ∀ {G : Hp} {p : Addr}, St3 s G → G p = none → p ≠ s := fun t hp => Ne.symm (t.lst.ne hp)
    obtain ⟨a, xs, rfl, qa, pa⟩ := hx
    have qa : SqT K H a xs := qa
    have xl := Paired.length pa
    refine ⟨_, (pss_cons (ps_set (i := 2) sc__law_thing.nd rfl (.inl rfl) (cl GT hr1 (pa_cons (pv 0) (pa_cons (pe_callB call_len_seq (by rfl) mlen PySem.boot_len (pa_cons (pv 1) pa_nil)) pa_nil))))
      (pss_cons (ps_set (i := 3) sc__law_thing.nd rfl (.inl rfl) (cl GT hr1 (pa_cons (pv 0) (pa_cons pe_int pa_nil))))
      (pss_cons (ps_if (pt_cmpR op_eq (pv 3) pe_int (nomark _)) (pss_one (ps_ret (pe_op (op_catTE K) (pe_slice (sl_tupE K) (pv 1) po_none (po_some (pv 2))) (pe_slice (sl_tupE K) (pv 1) (po_some (pe_op op_add (pv 2) pe_int)) po_none)))) pss_nil)
      (pss_cons (ps_if (pt_cmpR op_eq (pv 3) pe_int (nomark _)) (pss_one (ps_ret (pe_op (op_catTE K) (pe_op (op_catTE K) (pe_slice (sl_tupE K) (pv 1) po_none (po_some (pv 2))) (pe_tupE (pa_cons (pe_ix ix_tup (pv 1) (pv 2) (fun _ _ => rfl)) pa_nil))) (pe_slice (sl_tupE K) (pv 1) (po_some (pv 2)) po_none)))) pss_nil)
      (pss_cons (ps_if (pt_cmpR op_eq (pv 3) pe_int (nomark _)) (pss_one (ps_ret (pe_ix ix_list (pe_lstE (pa_cons (pe_callTy (T := "list") (call_lstK K) (by rfl) mlist (by decide +kernel) (pa_cons (pv 1) pa_nil)) (pa_cons (pe_tupE pa_nil) (pa_cons pe_non (pa_cons pe_int (pa_cons pe_str (pa_cons pe_bl (pa_cons pe_dicE (pa_cons (pe_ix ix_tup (pv 1) pe_int (fun _ _ => rfl)) (pa_cons (pe_tupE (pa_cons (pv 1) pa_nil)) (pa_cons (pe_lstE pa_nil) pa_nil))))))))))) (cl GT hr1 (pa_cons (pv 0) (pa_cons pe_int pa_nil))) (fun _ _ => rfl)))) pss_nil)
      (pss_cons (ps_if (pt_cmpR op_eq (pv 3) pe_int (nomark _)) (pss_one (ps_ret (pv 1))) pss_nil)
      (pss_one (ps_ret (pe_op (op_catTE K) (pe_op (op_catTE K) (pe_slice (sl_tupE K) (pv 1) po_none (po_some (pv 2))) (pe_tupE (pa_cons (cl GPr hr (pa_cons (pv 0) (pa_cons (pe_ix ix_tup (pv 1) (pv 2) (fun _ _ => rfl)) pa_nil))) pa_nil))) (pe_slice (sl_tupE K) (pv 1) (po_some (pe_op op_add (pv 2) pe_int)) po_none)))))))))), ?_⟩
    refine ⟨_, rfl, _, rfl, a, _, rfl, .inr qa, s, _, rfl, hS, (by omega), (by omega), fun at_ H1 a0 a1 r1 t1 => ?_⟩
    obtain ⟨i, rfl⟩ := Int.eq_ofNat_of_zero_le a0
    have il : i < xs.length := by omega
    refine ⟨_, rfl, s, _, rfl, t1, by decide, by decide, fun w2 H2 b0 b1 r2 t2 => ?_⟩
    have r12 := r1.trans r2
    have qa2 := sqt_dk hS.lst r12 qa
    have c1 : (cutV xs none (some (i : Int))) = xs.take i := cut_to (by omega)
    have c2 : (cutV xs (some ((i : Int) + 1)) none) = xs.drop (i + 1) := cut_from (i := i + 1) (by omega)
    have c3 : (cutV xs (some (i : Int)) none) = xs.drop i := cut_from (by omega)
    have lt1 : (xs.take i).length = i := by rw [List.length_take]; omega
    have ld1 : (xs.drop (i + 1)).length = xs.length - (i + 1) := List.length_drop ..
    have ld0 : (xs.drop i).length = xs.length - i := List.length_drop ..
    have spx : ∀ {H' : Hp}, Dk s H2 H' → ∀ x ∈ xs, ∃ p, SpanV K H' x p ∧ Bd 21 6 p.1 ∧ Bd 21 6 p.2 ∧ p.1 ≤ p.2 ∧ p.2 - p.1 ≤ 12 := fun r x hx => by
      obtain ⟨k, hk⟩ := List.getElem?_of_mem hx
      obtain ⟨p, hp, fp⟩ := pget pa hk
      have hm := List.mem_of_getElem? hp
      exact ⟨p, SpanV.dk hS.lst (r12.trans r) fp, (hsb.bd p hm).1, (hsb.bd p hm).2, hsb.le p hm, hsb.wide p hm⟩
    have ptx : ∀ {H' : Hp}, Dk s H2 H' → ∀ x ∈ xs, ∃ b, PtL K H' x b := fun r x hx => by
      obtain ⟨p, fp, h1, h2, h3, h4⟩ := spx r x hx
      exact ⟨_, .span fp (bd_up h1).1 (bd_up h2).1 (by grind)⟩
    have syx : ∀ {H' : Hp}, Dk s H2 H' → ∀ x ∈ xs, ∃ d, Dz K s H' x d ∧ Sy d 3 := fun r x hx => by
      obtain ⟨p, fp, _⟩ := spx r x hx
      exact sy_mono (sy_sp fp) (by decide)
    -- a tuple of spans and such
    have tupQ : ∀ {H' : Hp} {t : Addr} {ys : List V}, Dk s H2 H' → St3 s H' → SqT K H' t ys → (∀ x ∈ ys, (∃ b, PtL K H' x b) ∧ ∃ d, Dz K s H' x d ∧ Sy d 3) → Q (.ref t) H' := fun {H' t ys} r t' qq h => by
      obtain ⟨d, h1, h2⟩ := sy_tup (s := s) (k := 3) qq fun x hx => (h x hx).2
      have ev : EqV K s (fun a => H a = none) H' 10 (.ref t) := .dat (k := .tup) ⟨tyT qq, fun zz => by cases zz⟩ (by decide) h1 ⟨h2.lay, Nat.le_trans h2.dp (by decide)⟩
      obtain ⟨bs, hbs⟩ := ptl_ps fun x hx => (h x hx).1
      by_cases hl : ys.length = sp.length
      · exact q _ _ H' (r12.trans r) t' (.parts qq hl hbs) ev
      · exact q _ _ H' (r12.trans r) t' (.len qq hl (.inr (.inr ⟨bs, hbs⟩))) ev
    have both : ∀ {H' : Hp}, Dk s H2 H' → ∀ x ∈ xs, (∃ b, PtL K H' x b) ∧ ∃ d, Dz K s H' x d ∧ Sy d 3 := fun r x hx => ⟨ptx r x hx, syx r x hx⟩
    have ofEx : ∀ {H' : Hp}, Ex H2 H' → Dk s H2 H' := fun e => Dk.ex t2.lst e
    obtain ⟨xi, hxi⟩ : ∃ xi, xs[i]? = some xi := ⟨_, List.getElem?_eq_getElem il⟩
    have hxim := List.mem_of_getElem? hxi
    refine ⟨_, rfl, rfl, _, rfl, ite2 (fun _ => ?_) (fun _ => ?_)⟩
    · refine ⟨_, rfl, _, rfl, (i : Int), rfl, a, xs, rfl, qa2, fun p1 A1 e1 d1 => ?_⟩
      refine ⟨_, rfl, _, rfl, _, _, rfl, rfl, _, rfl, a, xs, rfl, ex_t e1 qa2, fun p2 A2 e2 d2 => ?_⟩
      rw [c1] at d1
      rw [c2] at d2
      refine ⟨p1, p2, _, _, rfl, rfl, ex_t e2 d1, d2, (by rw [lt1, ld1]; omega), fun p3 A3 e3 d3 => ?_⟩
      have E := e1.trans (e2.trans e3)
      refine tupQ (ofEx E) (t2.ex E) d3 fun x hx => ?_
      rcases List.mem_append.mp hx with hx | hx
      · exact both (ofEx E) x (List.mem_of_mem_take hx)
      · exact both (ofEx E) x (List.mem_of_mem_drop hx)
    refine ⟨_, rfl, rfl, _, rfl, ite2 (fun _ => ?_) (fun _ => ?_)⟩
    · refine ⟨_, rfl, _, rfl, (i : Int), rfl, a, xs, rfl, qa2, fun p1 A1 e1 d1 => ?_⟩
      refine ⟨_, rfl, _, rfl, _, _, _, _, rfl, rfl, ex_t e1 qa2, atI_nat hxi, (by show 1 ≤ sizeLine; decide), fun p2 A2 n2 e2 k2 => ?_⟩
      rw [c1] at d1
      refine ⟨p1, p2, _, _, rfl, rfl, ex_t e2 d1, st_of k2, (by rw [lt1]; show i + 1 ≤ sizeLine; omega), fun p3 A3 e3 d3 => ?_⟩
      refine ⟨_, rfl, _, rfl, (i : Int), rfl, a, xs, rfl, ex_t (e1.trans (e2.trans e3)) qa2, fun p4 A4 e4 d4 => ?_⟩
      rw [c3] at d4
      refine ⟨p3, p4, _, _, rfl, rfl, ex_t e4 d3, d4, (by rw [List.length_append, lt1, ld0]; show i + 1 + _ ≤ sizeLine; omega), fun p5 A5 e5 d5 => ?_⟩
      have E := e1.trans (e2.trans (e3.trans (e4.trans e5)))
      refine tupQ (ofEx E) (t2.ex E) d5 fun x hx => ?_
      rcases List.mem_append.mp hx with hx | hx
      · rcases List.mem_append.mp hx with hx | hx
        · exact both (ofEx E) x (List.mem_of_mem_take hx)
        · rw [List.mem_singleton.mp hx]
          exact both (ofEx E) _ hxim
      · exact both (ofEx E) x (List.mem_of_mem_drop hx)
    refine ⟨_, rfl, rfl, _, rfl, ite2 (fun _ => ?_) (fun _ => ?_)⟩
    · obtain ⟨x0, hx0⟩ : ∃ x0, xs[0]? = some x0 := ⟨_, List.getElem?_eq_getElem (show 0 < xs.length by omega)⟩
      refine ⟨_, rfl, a, xs, rfl, .inr qa2, fun p1 n1 => ?_⟩
      have e1 : Ex H2 (upd H2 p1 (.lst xs)) := Ex.new n1
      have k1 : upd H2 p1 (.lst xs) p1 = some (.lst xs) := upd_same
      generalize upd H2 p1 (.lst xs) = A1 at e1 k1 ⊢
      refine ⟨(by show 0 ≤ sizeLine; decide), fun p2 A2 n2 e2 k2 => fun p3 A3 n3 e3 k3 => ?_⟩
      have e13 := e1.trans (e2.trans e3)
      refine ⟨_, rfl, _, _, _, _, rfl, rfl, ex_t e13 qa2, atI_nat (j := 0) hx0, _, rfl, (by show 1 ≤ sizeLine; decide), fun p4 A4 n4 e4 k4 => ⟨(by show 0 ≤ sizeLine; decide), fun p5 A5 n5 e5 k5 => ⟨(by show 10 ≤ sizeLine; decide), fun p6 A6 n6 e6 k6 => ?_⟩⟩⟩
      have g5 := e6
      have g4 := e5.trans g5
      have g3 := e4.trans g4
      have g2 := e3.trans g3
      have g1 := e2.trans g2
      have E := e1.trans g1
      have t6 := t2.ex E
      refine ⟨_, rfl, s, _, rfl, t6, by decide, by decide, fun k H3 k0' k1' r3 t3 => ?_⟩
      have kk := r3.keep p6 _ (sne (t2.ex (e1.trans (e2.trans (e3.trans (e4.trans e5))))) n6) k6
      obtain ⟨v, hv, hm⟩ := at_mem (xs := [.ref p1, .ref p2, .non, .int 5, .str "box", .bl true, .ref p3, x0, .ref p4, .ref p5]) (d := k) k0' (by show k < 10; omega)
      refine ⟨p6, _, _, _, rfl, rfl, sq_of kk, hv, ?_⟩
      have R := (ofEx E).trans r3
      have T : ∀ {G : Hp} {p : Addr} {ys : List V}, Ex G A6 → SqT K G p ys → SqT K H3 p ys := fun e qq => sqt_dk t6.lst r3 (ex_t e qq)
      have leaf : ∀ {v : V} {k : Kn} {d : PyData}, KdV K H3 v k → k ≠ .tup → k ≠ .lst → Dz K s H3 v d → Sy d 6 → Q v H3 := fun h1 h2 h3 h4 h5 => q _ _ H3 (r12.trans R) t3 (.oth h1 h2) (.dat h1 h3 h4 h5)
      have lstQ : ∀ {p : Addr} {ys : List V}, H3 p = some (.lst ys) → p ≠ s → ys.length ≤ 10 → H p = none → (∀ x ∈ ys, x ∈ xs) → Q (.ref p) H3 := fun {p ys} hk hn hl hw hy => by
        obtain ⟨ds, g1, g2, g3⟩ := sy_els (s := p) (k := 3) fun x hx => by
          obtain ⟨p', fp', _⟩ := spx R x (hy x hx)
          exact sy_mono (sy_sp (s := p) fp') (by decide)
        exact q _ _ H3 (r12.trans R) t3 (.oth (k := .lst) ⟨tyL (sq_of hk), fun zz => by cases zz⟩ (by decide)) (.lst hk hn hl g1 g2 (by omega) hw)
      simp only [List.mem_cons, List.not_mem_nil, or_false] at hm
      rcases hm with rfl | rfl | rfl | rfl | rfl | rfl | rfl | rfl | rfl | rfl
      · have n1s := sne t2 n1
        exact lstQ (r3.keep p1 _ n1s (g1 _ _ k1)) n1s (by omega) (dk_noneT r12 n1s n1) fun x hx => hx
      · exact tupQ R t3 (T g2 (st_of k2)) fun x hx => by cases hx
      · exact leaf (k := .non) ⟨.base .non, fun zz => by cases zz⟩ (by decide) (by decide) .non ⟨rfl, by decide⟩
      · exact leaf (k := .int) ⟨.base (.int _), fun _ => ⟨_, rfl⟩⟩ (by decide) (by decide) (.int 5) ⟨rfl, by decide⟩
      · exact leaf (k := .str) ⟨.base (.str _), fun zz => by cases zz⟩ (by decide) (by decide) (.str _) ⟨by decide +kernel, by decide⟩
      · exact leaf (k := .bl) ⟨.base (.bl _), fun zz => by cases zz⟩ (by decide) (by decide) (.bl true) ⟨rfl, by decide⟩
      · have n3s := sne (t2.ex (e1.trans e2)) n3
        have k3' := r3.keep p3 _ n3s (g3 _ _ k3)
        exact q _ _ H3 (r12.trans R) t3 (.oth (k := .dic) ⟨.base (.dK k3'), fun zz => by cases zz⟩ (by decide)) (.dic k3')
      · obtain ⟨p, ⟨t, va, vb, rfl, qt, fa, fb⟩, b1', b2', _⟩ := spx R _ (List.mem_of_getElem? hx0)
        obtain ⟨ta, rfl, qta⟩ := id fa
        obtain ⟨tb, rfl, qtb⟩ := id fb
        refine tupQ R t3 qt fun x hx => ?_
        simp only [List.mem_cons, List.not_mem_nil, or_false] at hx
        rcases hx with rfl | rfl
        · exact ⟨⟨_, .two qta (thb_i _) (thb_i _) rfl⟩, sy_mono (sy_fr fa) (by decide)⟩
        · exact ⟨⟨_, .two qtb (thb_i _) (thb_i _) rfl⟩, sy_mono (sy_fr fb) (by decide)⟩
      · have qq := T g4 (st_of k4)
        have qa3 := sqt_dk hS.lst (r12.trans R) qa
        obtain ⟨d, h1, h2⟩ := sy_tup (k := 4) qq fun x hx => by
          rw [List.mem_singleton.mp hx]
          exact sy_tup (k := 3) qa3 (syx R)
        have ev : EqV K s (fun a => H a = none) H3 10 (.ref p4) := .dat (k := .tup) ⟨tyT qq, fun zz => by cases zz⟩ (by decide) h1 ⟨h2.lay, Nat.le_trans h2.dp (by decide)⟩
        have bx : ∃ b, PtL K H3 (.ref a) b := by
          by_cases h2 : xs.length = 2
          · match xs, h2, qa3, spx R with
            | [y1, y2], _, qa3, spx' =>
              obtain ⟨p1', ⟨t1', u1, u2, rfl, q1, f1, f2⟩, _⟩ := spx' y1 (by simp)
              obtain ⟨p2', ⟨t2', u3, u4, rfl, q2, f3, f4⟩, _⟩ := spx' y2 (by simp)
              obtain ⟨w1, rfl, qw1⟩ := f1
              obtain ⟨w2, rfl, qw2⟩ := f2
              obtain ⟨w3, rfl, qw3⟩ := f3
              obtain ⟨w4, rfl, qw4⟩ := f4
              exact ⟨_, .two qa3 (thb_tt q1 (tyT qw1) (tyT qw2)) (thb_tt q2 (tyT qw3) (tyT qw4)) rfl⟩
          · obtain ⟨bs, hbs⟩ := thb_ps (K := K) (H := H3) (ys := xs) fun y hy => by
              obtain ⟨p', ⟨t', u1, u2, rfl, q1, ⟨w1, rfl, qw1⟩, ⟨w2, rfl, qw2⟩⟩, _⟩ := spx R y hy
              exact ⟨false, thb_tt q1 (tyT qw1) (tyT qw2)⟩
            exact ⟨_, .len qa3 hbs h2 (by omega)⟩
        obtain ⟨b, hb⟩ := bx
        by_cases hl : 1 = sp.length
        · exact q _ _ H3 (r12.trans R) t3 (.parts qq hl (.cons hb .nil)) ev
        · exact q _ _ H3 (r12.trans R) t3 (.len qq hl (.inr (.inr ⟨[b], .cons hb .nil⟩))) ev
      · have n5s := sne (t2.ex (e13.trans e4)) n5
        exact lstQ (r3.keep p5 _ n5s (g5 _ _ k5)) n5s (by decide) (dk_noneT r12 n5s (none_of' (e13.trans e4) n5)) fun x hx => by cases hx
    refine ⟨_, rfl, rfl, _, rfl, ite2 (fun _ => ?_) (fun _ => ?_)⟩
    · exact ⟨_, rfl, tupQ (Dk.refl t2.lst) t2 qa2 (both (Dk.refl t2.lst))⟩
    · refine ⟨_, rfl, _, rfl, (i : Int), rfl, a, xs, rfl, qa2, fun p1 A1 e1 d1 => ?_⟩
      have tA := t2.ex e1
      obtain ⟨p, fp, h1, h2, h3, h4⟩ := spx (ofEx e1) xi hxim
      refine ⟨_, rfl, _, rfl, _, rfl, _, _, _, _, rfl, rfl, ex_t e1 qa2, atI_nat hxi, s, xi, p, rfl, tA, fp, h1, h2, h3, h4, fun u b HB rB tB hpt hsy => ?_⟩
      refine ⟨(by show 1 ≤ sizeLine; decide), fun p2 A2 n2 e2 k2 => ?_⟩
      rw [c1] at d1
      have d1' := ex_t e2 (sqt_dk tA.lst rB d1)
      refine ⟨p1, p2, _, _, rfl, rfl, d1', st_of k2, (by rw [lt1]; show i + 1 ≤ sizeLine; omega), fun p3 A3 e3 d3 => ?_⟩
      have R3 := ((ofEx e1).trans rB).then (e2.trans e3)
      refine ⟨_, rfl, _, rfl, _, _, rfl, rfl, _, rfl, a, xs, rfl, sqt_dk t2.lst R3 qa2, fun p4 A4 e4 d4 => ?_⟩
      rw [c2] at d4
      refine ⟨p3, p4, _, _, rfl, rfl, ex_t e4 d3, d4, (by rw [List.length_append, lt1, ld1]; show i + 1 + _ ≤ sizeLine; omega), fun p5 A5 e5 d5 => ?_⟩
      have R5 := R3.then (e4.trans e5)
      have eB := (e2.trans e3).trans (e4.trans e5)
      obtain ⟨du, hd1, hd2⟩ := hsy
      refine tupQ R5 (tB.ex eB) d5 fun x hx => ?_
      rcases List.mem_append.mp hx with hx | hx
      · rcases List.mem_append.mp hx with hx | hx
        · exact both R5 x (List.mem_of_mem_take hx)
        · rw [List.mem_singleton.mp hx]
          exact ⟨⟨b, ptl_ex eB hpt⟩, du, Dz.ex eB _ _ hd1, hd2⟩
      · exact both R5 x (List.mem_of_mem_drop hx)
end

end K30
end
section
set_option maxRecDepth 100000
set_option maxHeartbeats 400000
namespace K30
open PySem Evl Nc PyProof.Rows
open L2 hiding spCell
section
variable {X : Cx} {k i : Nat} {f : Addr} {sp : Sp} {W : WX} {y x : Str} {ps : List Str} {e : Expr} {es : List Expr} {t : TA} {p pos : Pos}
def tCallSV (i : Nat) (f : Addr) (sp : Sp) (E : L2.St → XK) (t : TA) : TE := fun σ H Q => σ[i]? = some (some (.ref f)) ∧ t σ H fun vs H1 => sp vs H1 Q (E σ)
theorem clXV (D : OkX X.prog X.w X.K X.mg X.base k y ps sp) (g : X.mg y = some (.ref f)) (hr : Room k X.A) (tk : Takes X W) (hN : X.N[i]? = some x) (hv : Vis X.env.scope x) (ha : PA X (e :: es) t)
    (hd : (x == ("__debug__" : Str)) = false := by decide) (hcd : (x == ("__classdict__" : Str)) = false := by decide)
    (he : starEach (e :: es) X.env = (false, eval e X.env) :: starEach es X.env := by rfl) (hpl : (backTo pos (starEach es X.env)).any (·.1) = false := by rfl) : PE X (.Call (.Name x p) (e :: es) [] pos) (tCallSV i f sp (WE W) t) := by
  obtain ⟨f', fd, g', kp, F, b⟩ := D.ex
  rw [g] at g'
  cases g'
  refine ⟨fun pins s σ H Q I h => ?_⟩
  obtain ⟨hs, h⟩ := h
  refine wpAny_Call_Name_kw (thn ((pe_var (pos := p) (i := i) hN hv hd hcd).run pins s σ H (fun v H1 => v = .ref f ∧ H1 = H) I ⟨.ref f, hs, rfl, rfl⟩) fun u s1 ⟨v, H1, I1, r1, ev, eH⟩ => ?_)
  subst ev
  rw [eH] at I1
  cases r1
  refine PySem.W.callWith_K (h₀ := X.base) I.ok.mod.kin kp (thn (ha.run pos pins s1 σ H _ I1 h) fun us s2 ⟨vs, H2, I2, r, q⟩ => ⟨I2.kIn, ?_⟩) he hpl
  exact run_fnS F hr b (passAt tk σ) I2 r q
end
section
variable {P : Program} {w : World} {K : PySem.W.Frag} {mg : Str → Option Value} {base : Heap}
end

end K30
end
section
set_option maxRecDepth 100000
set_option maxHeartbeats 400000
namespace K30
open PySem Evl Nc PyProof.Rows
open L2 hiding spCell
section
variable {P : Program} {w : World} {K : PySem.W.Frag} {mg : Str → Option Value} {base : Heap}
theorem ok_Net_ins {CN CL CC : Addr} (D : Md K CN "ins" "Net.ins" s_Net_ins ["self"]) (N : NDefs P w K mg base CN CL CC) : MOk P w K mg base 1 CN "ins" ["self"] (spInsN K CN CL CC) := by
  obtain ⟨fTL, dTL, mTL, FTL, bTL⟩ := N.toldL.ex
  obtain ⟨fTC, dTC, mTC, FTC, bTC⟩ := N.toldC.ex
  obtain ⟨fSL, dSL, mSL, FSL, bSL⟩ := N.sumsL.ex
  obtain ⟨fSC, dSC, mSC, FSC, bSC⟩ := N.sumsC.ex
  refine D.ok fun f fd F => F.ok sc_Net_ins (fun vs H Q E h => ?_) (fun cdv A outer s H vs Q E hr h => ?_)
  · obtain ⟨p, n, ls, rfl, _⟩ := h
    rfl
  · obtain ⟨p, n, ls, rfl, ⟨dx, t, ps, hp, qt, pl⟩, q⟩ := h
    refine ⟨_, pss_one (ps_ret (pe_fld (pv 0) rfl)), ?_⟩
    exact ⟨_, rfl, p, CN, dx, _, _, rfl, hp, N.tN, N.nI, rfl, q⟩
def FrL2 (K : PySem.W.Frag) (H : Hp) (F : Addr) (H' : Hp) (v : V) (l : List Sum2) : Prop := ∃ a xs, v = .ref a ∧ H a = none ∧ a ≠ F ∧ H' a = some (.lst xs) ∧ Paired (SumV K H') xs l
theorem ok_Net_layers_told {CN CL CC : Addr} (D : Md K CN "layers_told" "Net.layers_told" s_Net_layers_told ["self"]) (N : NDefs P w K mg base CN CL CC) (mlist : mg "list" = none) : MOk P w K mg base 2 CN "layers_told" ["self"] (spLaysTold K CN CL CC) := by
  obtain ⟨fTL, dTL, mTL, FTL, bTL⟩ := N.toldL.ex
  obtain ⟨fTC, dTC, mTC, FTC, bTC⟩ := N.toldC.ex
  obtain ⟨fSL, dSL, mSL, FSL, bSL⟩ := N.sumsL.ex
  obtain ⟨fSC, dSC, mSC, FSC, bSC⟩ := N.sumsC.ex
  refine D.ok fun f fd F => F.ok sc_Net_layers_told (fun vs H Q E h => ?_) (fun cdv A outer s H vs Q E hr h => ?_)
  · obtain ⟨p, n, ls, rfl, _⟩ := h
    rfl
  · obtain ⟨p, n, ls, rfl, ⟨dx, t, ps, hp, qt, pl⟩, hl, hl2, q⟩ := h
    refine ⟨_, pss_one (ps_ret (pe_lc (own := [("layer", 1)]) (g := gName 1) (tt := tYes) rfl sc_Net_layers_told.nd (pi_tup (pe_fld (pv 0) rfl)) (blkOk_by (N := ["self", "layer"]) (sc := defScope s_Net_layers_told) (by decide +kernel)) (fun _ _ _ _ _ => (pg_name (i := 1) sc_Net_layers_told.nd rfl (.inl rfl))) (fun _ _ _ _ _ => pts_nil) (fun _ _ _ _ _ => pe_callTy (T := "list") (call_lstK K) (by rfl) mlist (by decide +kernel) (pa_cons (pe_or (pe_meth0 (pv 1) N.tL mTL FTL hr bTL .nil pass0) (pe_meth0 (pv 1) N.tC mTC FTC hr bTC .nil pass0)) pa_nil)))), ?_⟩
    have hlen := Paired.length pl
    refine ⟨_, rfl, p, CN, dx, _, _, rfl, hp, N.tN, N.nL, rfl, ?_⟩
    refine ⟨t, rfl, ⟨_, qt⟩, fun G hG => ?_⟩
    refine lc_tup (K := K) (a := t) (xs := ps) (fun i H' => Ex H H' ∧ ∃ ys, H' G = some (.lst ys) ∧ ys.length = i ∧ Paired (FrL2 K H G H') ys (ls.take i)) ⟨Ex.new hG, [], upd_same, rfl, .nil⟩ (fun i H' _ b => ex_t b.1 qt) ?_ ?_
    · rintro i x H' hx ⟨e1, ys, hys, hn, pz⟩
      obtain ⟨l, hl1, lv0⟩ := pget pl hx
      have lv := lv0.ex e1
      have hi := (List.getElem?_eq_some_iff.mp hx).1
      obtain ⟨a, C, nv, rfl, hc, ⟨dy, la⟩, nn⟩ := lv
      have la' : LayerAt C H' a nv := ⟨dy, la⟩
      have nT : List.lookup ("told" : Str) [(("_nodes" : Str), nv)] = none := no_m (by decide +kernel)
      refine ⟨rfl, ?_⟩
      obtain ⟨u, xs, rfl, qu, lu⟩ := nn
      have go : ∀ c, H' c = none → ∃ acc, upd H' c (.lst xs) G = some (.lst acc) ∧ acc.length < sizeLine ∧ Ex H (upd (upd H' c (.lst xs)) G (.lst (acc ++ [.ref c]))) ∧ ∃ zs, upd (upd H' c (.lst xs)) G (.lst (acc ++ [.ref c])) G = some (.lst zs) ∧ zs.length = i + 1 ∧ Paired (FrL2 K H G (upd (upd H' c (.lst xs)) G (.lst (acc ++ [.ref c])))) zs (ls.take (i + 1)) := by
        intro c hc0
        have e2 : Ex H' (upd H' c (.lst xs)) := Ex.new hc0
        have k2 : upd H' c (.lst xs) c = some (.lst xs) := upd_same
        have hcH : H c = none := Option.eq_none_iff_forall_ne_some.mpr fun o ho => by
          rw [e1 _ _ ho] at hc0
          cases hc0
        have hcG : c ≠ G := fun z => by
          rw [z, hys] at hc0
          cases hc0
        have g2 := e2 _ _ hys
        generalize upd H' c (.lst xs) = H2 at e2 k2 g2 ⊢
        refine ⟨ys, g2, sz_lt (by omega), Ex.mut (e1.trans e2) hG, ys ++ [.ref c], upd_same, by simp [hn], ?_⟩
        rw [List.take_add_one, hl1]
        refine Paired.snoc (pmono (fun v l q => ?_) pz) ⟨c, xs, rfl, hcH, hcG, by rw [upd_ne hcG]; exact k2, pmono (fun _ _ q => SumV.mut g2 (SumV.ex e2 q)) lu⟩
        obtain ⟨b, us, rfl, n1, n2, q1, q2⟩ := q
        exact ⟨b, us, rfl, n1, n2, by rw [upd_ne n2]; exact e2 _ _ q1, pmono (fun _ _ q => SumV.mut g2 (SumV.ex e2 q)) q2⟩
      rcases hc with rfl | rfl
      · exact Or.inl ⟨_, rfl, a, dy, _, rfl, la, nT, a, _, rfl, la', u, xs, rfl, .inr qu, go⟩
      · exact Or.inr ⟨_, rfl, a, dy, _, rfl, la, nT, a, _, rfl, la', u, xs, rfl, .inr qu, go⟩
    · rintro H' ⟨e1, ys, hys, hn, pz⟩
      refine q G ys H' hG e1 hys ?_
      rw [hlen, List.take_length] at pz
      exact pz
end

end K30
end
section
set_option maxRecDepth 100000
set_option maxHeartbeats 400000
namespace K30
open PySem Evl Nc PyProof.Rows
open L2 hiding spCell
section
variable {P : Program} {w : World} {K : PySem.W.Frag} {mg : Str → Option Value} {base : Heap}
theorem fn_netinit {CN CL CC fI f : Addr} {fd fdI : FuncData} (F : Fun K "__init__" "Net.__init__" s_Net___init__ f fd) (N : NDefs P w K mg base CN CL CC) (ML : Mk K CL fI) (MC : Mk K CC fI) (FL : FnOk P w K mg base CX0 1 fI fdI ["self", "nodes"] (spInitL K CL)) (FC : FnOk P w K mg base CX0 1 fI fdI ["self", "nodes"] (spInitL K CC))
    (bL : Binds K fdI ["self", "nodes"] []) (mgL : mg "Layer" = some (.ref CL)) (mgC : mg "CutLayer" = some (.ref CC)) (GAI : Ok P w K mg base 2 "_are_ins" ["thing"] spAreIns) (GAL : Ok P w K mg base 5 "_are_layers" ["thing", "ins"] (spAreLays K)) (mtuple : mg "tuple" = none) : FnOk P w K mg base CX0 6 f fd ["self", "ins", "layers"] (spInitN K CN CL CC) := by
  have bC := bL
  refine F.ok sc_Net___init__ (fun vs H Q E h => ?_) (fun cdv A outer s H vs Q E hr h => ?_)
  · obtain ⟨p, dx, x, n, ls, W, rfl, _⟩ := h
    rfl
  · obtain ⟨p, dx, x, n, ls, W, rfl, hp, hx, ok, q⟩ := h
    have hr2 : Room (1 + 1) _ := hr.mono (by decide)
    have hr2' : Room 2 _ := hr.mono (by decide)
    refine ⟨_, (pss_cons (ps_if (pt_not (pt_val (cl GAI hr2' (pa_cons (pv 1) pa_nil)))) (pss_one ps_never) pss_nil)
      (pss_cons (ps_if (pt_not (pt_val (cl GAL hr (pa_cons (pv 2) (pa_cons (pv 1) pa_nil))))) (pss_one ps_never) pss_nil)
      (pss_cons (ps_fld (pv 0) (pv 1) rfl)
      (pss_one (ps_fld (pv 0) (pe_callTy call_tuple_of (by rfl) mtuple (by decide +kernel) (pa_cons (pe_op op_catE (pe_lc (own := [("nodes", 3)]) (g := gName 3) (tt := tYes) rfl sc_Net___init__.nd (pi_list (pe_slice sl_listE (pv 2) po_none (po_some (pe_un un_neg pe_int)))) (blkOk_by (N := ["self", "ins", "layers", "nodes"]) (sc := defScope s_Net___init__) (by decide +kernel)) (fun _ _ _ _ _ => (pg_name (i := 3) sc_Net___init__.nd rfl (.inl rfl))) (fun _ _ _ _ _ => pts_nil) (fun _ _ _ _ _ => pe_make MC FC hr2 (by rfl) mgC bC .nil pass0 (pa_cons (pv 3) pa_nil))) (pe_lst (pa_cons (pe_make ML FL hr2 (by rfl) mgL bL .nil pass0 (pa_cons (pe_ix ix_list (pv 2) (pe_un un_neg pe_int) (fun _ _ => rfl)) pa_nil)) pa_nil))) pa_nil)) rfl))))), ?_⟩
    refine ⟨_, rfl, n, rfl, ok.n1, ok.n3, _, rfl, iteF ?_⟩
    refine ⟨_, rfl, _, rfl, x, n, ls, W, rfl, hx, ok, fun H1 e1 => ⟨_, rfl, iteF ?_⟩⟩
    have hp1 := e1 _ _ hp
    refine ⟨_, rfl, _, rfl, p, CN, dx, [], rfl, hp1, N.tN, N.nI, (by show 0 < 1000; decide), ?_⟩
    have c2 : Ch p H (upd H1 p (.ins CN dx (putF ("_ins" : Str) (.int (n : Int)) []))) := (Ch.ex e1).trans Ch.put
    have k2 : upd H1 p (.ins CN dx (putF ("_ins" : Str) (.int (n : Int)) [])) p = some (.ins CN dx [(("_ins" : Str), .int (n : Int))]) := upd_same
    have x2 := hx.ch hp c2
    generalize upd H1 p (.ins CN dx (putF ("_ins" : Str) (.int (n : Int)) [])) = H2 at c2 k2 x2 ⊢
    obtain ⟨D0, ys, rfl, qD, pl⟩ := x2
    have hly := Paired.length pl
    have l1 := ok.l1
    have l4 := ok.l4
    have hne : ys ≠ [] := fun z => by
      rw [z] at hly
      simp at hly
      omega
    have hgl : ls[ls.length - 1]? = some (ls[ls.length - 1]'(by omega)) := List.getElem?_eq_getElem _
    generalize ls[ls.length - 1]'(by omega) = lastL at hgl
    obtain ⟨vL, hvL, lyL⟩ := pget' pl hgl
    rw [← hly] at hvL
    have pin := pair_init pl
    -- the cut ones
    refine ⟨_, rfl, _, rfl, _, rfl, D0, ys, rfl, qD, fun pS H3 hS eS kS => ?_⟩
    rw [cut_init hne] at kS
    refine ⟨pS, rfl, ⟨_, sq_of kS⟩, fun G hG => ?_⟩
    have pin3 : Paired (LyV K H3) ys.dropLast ls.dropLast := pmono (fun _ _ => LyV.ex eS) pin
    refine lc_list (K := K) (a := pS) (xs := ys.dropLast) (Bld (LayV K CL CC) H3 G ls.dropLast) (bld0 hG) (fun i H' _ b => ex_l b.1 (sq_of kS)) ?_ ?_
    · rintro i v H' hi b
      obtain ⟨l, hl, lv0⟩ := pget pin3 hi
      obtain ⟨a, xs, rfl, qa, pz⟩ := lv0.ex b.1
      have hlt := (List.getElem?_eq_some_iff.mp hi).1
      rw [List.length_dropLast] at hlt
      refine ⟨rfl, ?_⟩
      refine ⟨_, rfl, fun p2 dx2 np2 nd2 ne2 => ?_⟩
      have eC : Ex H' (upd (upd H' dx2 (.own p2)) p2 (.ins CC dx2 [])) := fun b o hb => by
        rw [upd_ne (ne_of_none hb np2), upd_ne (ne_of_none hb nd2)]
        exact hb
      have kC : upd (upd H' dx2 (.own p2)) p2 (.ins CC dx2 []) p2 = some (.ins CC dx2 []) := upd_same
      generalize upd (upd H' dx2 (.own p2)) p2 (.ins CC dx2 []) = HC at eC kC ⊢
      refine ⟨p2, dx2, a, xs, l, rfl, kC, .inl (ex_l eC qa), pmono (fun _ _ => SumV.ex eC) pz, fun HD v2 kpD lD nD => ⟨rfl, ?_⟩⟩
      have eD : Ex H' HD := fun b o hb => kpD b o (ne_of_none hb np2) (eC b o hb)
      exact bld_step stL hG b eD hl (by omega) ⟨p2, CC, v2, rfl, .inr rfl, lD, nD⟩
    intro H4 b4
    obtain ⟨e4, ws, hws, pw⟩ := bld_end (by rw [List.length_dropLast, List.length_dropLast]; omega) b4
    have E4 := eS.trans e4
    have hwl := Paired.length pw
    rw [List.length_dropLast] at hwl
    -- the last one
    obtain ⟨a, xs, rfl, qa, pz⟩ := lyL.ex E4
    refine ⟨_, rfl, 1, rfl, D0, ys, _, .ref a, rfl, rfl, ex_l E4 qD, at_last hvL, fun p2 dx2 np2 nd2 ne2 => ?_⟩
    have eC : Ex H4 (upd (upd H4 dx2 (.own p2)) p2 (.ins CL dx2 [])) := fun b o hb => by
      rw [upd_ne (ne_of_none hb np2), upd_ne (ne_of_none hb nd2)]
      exact hb
    have kC : upd (upd H4 dx2 (.own p2)) p2 (.ins CL dx2 []) p2 = some (.ins CL dx2 []) := upd_same
    generalize upd (upd H4 dx2 (.own p2)) p2 (.ins CL dx2 []) = HC at eC kC ⊢
    refine ⟨p2, dx2, a, xs, lastL, rfl, kC, .inl (ex_l eC qa), pmono (fun _ _ => SumV.ex eC) pz, fun H5 v2 kpD lD nD => ⟨rfl, ?_⟩⟩
    have e5 : Ex H4 H5 := fun b o hb => kpD b o (ne_of_none hb np2) (eC b o hb)
    refine ⟨(by show 1 ≤ sizeLine; decide), fun pl1 hpl1 => ?_⟩
    have e6 : Ex H5 (upd H5 pl1 (.lst [.ref p2])) := Ex.new hpl1
    have k6 : upd H5 pl1 (.lst [.ref p2]) pl1 = some (.lst [.ref p2]) := upd_same
    generalize upd H5 pl1 (.lst [.ref p2]) = H6 at e6 k6 ⊢
    have E6 := e5.trans e6
    refine ⟨G, pl1, ws, [.ref p2], rfl, rfl, E6 _ _ hws, k6, Nat.le_of_lt (sz_lt (by simp; omega)), fun p7 H7 hp7 e7 k7 => ?_⟩
    refine ⟨p7, _, rfl, .inl ⟨sq_of k7, fun p8 hp8 => ?_⟩⟩
    have e8 : Ex H7 (upd H7 p8 (.tup (ws ++ [.ref p2]))) := Ex.new hp8
    have k8 : upd H7 p8 (.tup (ws ++ [.ref p2])) p8 = some (.tup (ws ++ [.ref p2])) := upd_same
    generalize upd H7 p8 (.tup (ws ++ [.ref p2])) = H8 at e8 k8 ⊢
    have E8 : Ex H4 H8 := E6.trans (e7.trans e8)
    have E28 : Ex H2 H8 := E4.trans E8
    have kp := E28 _ _ k2
    have pAll : Paired (LayV K CL CC H8) (ws ++ [.ref p2]) ls := by
      have h1 : Paired (LayV K CL CC H8) ws ls.dropLast := pmono (fun _ _ => LayV.ex E8) pw
      have h2 : LayV K CL CC H8 (.ref p2) lastL := LayV.ex (e6.trans (e7.trans e8)) ⟨p2, CL, v2, rfl, .inl rfl, lD, nD⟩
      have h3 := pair_app h1 (.cons h2 .nil)
      rwa [init_last hgl] at h3
    refine ⟨_, rfl, p, CN, dx, _, rfl, kp, N.tN, N.nL, (by show 1 < 1000; decide), ?_⟩
    have kF : upd H8 p (.ins CN dx [(("_ins" : Str), .int (n : Int)), (("_layers" : Str), .ref p8)]) p = some (.ins CN dx [(("_ins" : Str), .int (n : Int)), (("_layers" : Str), .ref p8)]) := upd_same
    have cF : Ch p H8 (upd H8 p (.ins CN dx [(("_ins" : Str), .int (n : Int)), (("_layers" : Str), .ref p8)])) := Ch.put
    exact q _ ((c2.trans (Ch.ex E28)).trans cF) ⟨dx, p8, _, kF, sqt_ch kp cF (st_of k8), pmono (fun _ _ => LayV.ch kp cF) pAll⟩
end

end K30
end
section
set_option maxRecDepth 100000
set_option maxHeartbeats 400000
namespace K30
open PySem Evl Nc PyProof.Rows
open L2 hiding spCell
section
variable {P : Program} {w : World} {K : PySem.W.Frag} {mg : Str → Option Value} {base : Heap}
theorem over_many : ∀ {n : Nat} {ls : List (List Sum2)} {l : List Sum2}, Over n ls → l ∈ ls → l.length ≤ 4
  | _, [], _, _, h => by cases h
  | _, _ :: _, _, ⟨_, o2, o3⟩, h => by
    rcases List.mem_cons.mp h with rfl | h
    · exact o2.2
    · exact over_many o3 h
def spHandX (K : PySem.W.Frag) (CN CL CC CB : Addr) : Sp := fun vs H Q E => ∃ (p : Addr) (y : V), vs = [.ref p, y] ∧ ((∃ (n : Nat) (ls : List (List Sum2)), NetV K CN CL CC H p n ls ∧ NoBx K H y n ∧ Fly CB y H E) ∨ ∃ (ls : List (List Sum2)) (L : List Span) (W : Nat → Nat) (D : Nat), BxT K H y true ∧ NetV K CN CL CC H p L.length ls ∧ SpsV K true H y L ∧ SpOk L ∧ NetOk L.length ls W ∧ SpSv 1500 D L ∧ Fits W D ∧
  ∀ F rs H', H F = none → Ex H H' → H' F = some (.lst rs) → Paired (FourL K H F H') rs (foursAt ls L) → Q (.ref F) H')
theorem ok_handed_on (D : Df K mg "handed_on" s_handed_on ["net", "box"]) {CN CL CC CB : Addr} (N : NDefs P w K mg base CN CL CC) (GI : MOk P w K mg base 1 CN "ins" ["self"] (spInsN K CN CL CC)) (GLT : MOk P w K mg base 2 CN "layers_told" ["self"] (spLaysTold K CN CL CC)) (GB : OkX P w K mg base 6 "check_box_over" ["thing", "many"] (spBoxOverX K CB)) (GBd : Ok P w K mg base 5 "_bounds" ["node", "spans"] (spBounds K)) (GC : Ok P w K mg base 1 "cut_at_nought" ["one"] (spCutQ K)) : OkX P w K mg base 7 "handed_on" ["net", "box"] (spHandX K CN CL CC CB) := by
  refine D.okX fun f fd F => F.okX sc_handed_on (fun vs H Q E h => ?_) (fun cdv A outer s H vs Q E hr h => ?_)
  · obtain ⟨p, y, rfl, _⟩ := h
    rfl
  · obtain ⟨p, y, rfl, h⟩ := h
    obtain ⟨fIN, dIN, mIN, FIN, bIN⟩ := GI.ex
    obtain ⟨fLT, dLT, mLT, FLT, bLT⟩ := GLT.ex
    have hr1 : Room 1 _ := hr.mono (by decide)
    have hr2 : Room 2 _ := hr.mono (by decide)
    have hr5 : Room 5 _ := hr.mono (by decide)
    refine ⟨_, (pss_cons (ps_expr (clX (W := fun cls d _ H => E cls d H) GB hr (takes_of rfl rfl rfl rfl) (pa_cons (pv 1) (pa_cons (pe_meth0 (pv 0) N.tN mIN FIN hr1 bIN .nil pass0) pa_nil))))
      (pss_cons (ps_set (i := 2) sc_handed_on.nd rfl (.inl rfl) (pe_lst pa_nil))
      (pss_cons (ps_set (i := 3) sc_handed_on.nd rfl (.inr rfl) (pv 1))
      (pss_cons (ps_for PassesOwn.leaving rfl (pi_list (pe_meth0 (pv 0) N.tN mLT FLT hr2 bLT .nil pass0)) (pg_name (i := 4) sc_handed_on.nd rfl (.inl rfl)) (pss_cons (ps_setLc (i := 5) (own := [("node", 6)]) (g := gName 6) (tt := tYes) rfl sc_handed_on.nd rfl rfl (sw_true rfl rfl rfl (by decide +kernel)) (pi_list (pv 4)) (blkOk_by (N := ["net", "box", "found", "spans", "nodes", "bounds", "node", "bound"]) (sc := defScope s_handed_on) (by decide +kernel)) (fun _ _ _ _ _ => (pg_name (i := 6) sc_handed_on.nd rfl (.inl rfl))) (fun _ _ _ _ _ => pts_nil) (fun _ _ _ _ _ => cl GBd hr5 (pa_cons (pv 6) (pa_cons (pv 3) pa_nil))))
      (pss_cons (ps_expr (pe_bm PySem.F.plainAttrs_list PySem.F.slot_list_append PySem.F.type_list_append mt_append (pv 2) (pa_cons (pv 5) pa_nil)))
      (pss_one (ps_set (i := 3) sc_handed_on.nd rfl (.inr rfl) (pe_lc (own := [("bound", 7)]) (g := gName 7) (tt := tYes) rfl sc_handed_on.nd (pi_list (pv 5)) (blkOk_by (N := ["net", "box", "found", "spans", "nodes", "bounds", "node", "bound"]) (sc := defScope s_handed_on) (by decide +kernel)) (fun _ _ _ _ _ => (pg_name (i := 7) sc_handed_on.nd rfl (.inl rfl))) (fun _ _ _ _ _ => pts_nil) (fun _ _ _ _ _ => pe_tup (pa_cons (cl GC hr1 (pa_cons (pe_ix (ix_tK K) (pv 7) pe_int (fun _ _ => rfl)) pa_nil)) (pa_cons (cl GC hr1 (pa_cons (pe_ix (ix_tK K) (pv 7) pe_int (fun _ _ => rfl)) pa_nil)) pa_nil)))))))))
      (pss_one (ps_ret (pv 2))))))), ?_⟩
    rcases h with ⟨n, ls, hN, hb, fly⟩ | ⟨ls, L, W, D, hbx, hN, hy, hok, ok, sL, ft, q⟩
    · have hN0 := hN
      obtain ⟨dx, t, ps, hp, qt, pl⟩ := hN
      have nI : List.lookup ("ins" : Str) [(("_ins" : Str), V.int (n : Int)), (("_layers" : Str), V.ref t)] = none := no_n (by decide +kernel) (by decide +kernel)
      exact ⟨_, rfl, _, rfl, p, dx, _, rfl, hp, nI, p, n, ls, rfl, hN0, y, n, rfl, .inl ⟨hb, fly⟩⟩
    have n1 := ok.n1
    have n3 := ok.n3
    have hl4 := ok.l4
    have hN0 := hN
    obtain ⟨dx, t, ps, hp, qt, pl⟩ := hN
    have nI : List.lookup ("ins" : Str) [(("_ins" : Str), V.int (L.length : Int)), (("_layers" : Str), V.ref t)] = none := no_n (by decide +kernel) (by decide +kernel)
    have nT : List.lookup ("layers_told" : Str) [(("_ins" : Str), V.int (L.length : Int)), (("_layers" : Str), V.ref t)] = none := no_n (by decide +kernel) (by decide +kernel)
    have dlt : D < 2 ^ 1600 := ft.dlt ok.w0
    refine ⟨_, rfl, _, rfl, p, dx, _, rfl, hp, nI, p, L.length, ls, rfl, hN0, ?_⟩
    refine ⟨y, L.length, rfl, .inr ⟨L, hbx, hy, rfl, fun H1 e1 => ?_⟩⟩
    refine ⟨(by show 0 ≤ sizeLine; decide), fun F hF => ?_⟩
    have hF0 : H F = none := Option.eq_none_iff_forall_ne_some.mpr fun o ho => by
      rw [e1 _ _ ho] at hF
      cases hF
    have e2 : Ex H (upd H1 F (.lst [])) := e1.trans (Ex.new hF)
    have k2 : upd H1 F (.lst []) F = some (.lst []) := upd_same
    generalize upd H1 F (.lst []) = H2 at e2 k2 ⊢
    refine ⟨_, rfl, _, rfl, p, dx, _, rfl, e2 _ _ hp, nT, p, L.length, ls, rfl, hN0.ex e2, by omega, fun l hl => ?_, fun B ys H3 hB e3 hys py => ?_⟩
    · obtain ⟨i, hi⟩ := List.mem_iff_getElem?.mp hl
      have := over_many ok.over hl
      omega
    have E3 := e2.trans e3
    have hyl := Paired.length py
    refine ⟨B, rfl, ⟨_, sq_of hys⟩, ?_⟩
    refine for_list (K := K) (a := B) (xs := ys) (fun i σ H' => ∃ (c : Bool) (v3 : V) (o4 o5 o6 o7 : Option V) (xs : List V) (A : List Span) (dn : List (List Four)), σ = [some (.ref p), some y, some (.ref F), some v3, o4, o5, o6, o7] ∧ Ex H H' ∧ Dk F H3 H' ∧ H' F = some (.lst xs) ∧ Paired (FourL K H F H') xs dn ∧ SpsV K c H' v3 A ∧ MidS ls L W D i dn A) ⟨true, y, none, none, none, none, [], L, [], rfl, E3, Dk.refl ⟨_, e3 _ _ k2⟩, e3 _ _ k2, .nil, hy.ex E3, midS0 ok sL⟩ (fun i σ H' _ ⟨_, _, _, _, _, _, _, _, _, _, _, e, _⟩ => sq_of (e.keep _ _ (fun z => by rw [z, k2] at hB; cases hB) hys)) ?_ ?_
    · rintro i x σ H' hx ⟨c, v3, o4, o5, o6, o7, xs, A, dn, rfl, e4, kp, hF4, pr, hA, md⟩
      obtain ⟨l, hl1, a, us, rfl, na, aF, qa0, pz0⟩ := pget py hx
      have hnF : a ≠ F := fun z => by
        rw [z, k2] at na
        cases na
      have qa := kp.keep _ _ hnF qa0
      have hFH : H3 F = some (.lst []) := e3 _ _ k2
      have pz : Paired (SumV K H') us l := pmono (fun _ _ q => SumV.dk ⟨_, hFH⟩ kp q) pz0
      have hi := (List.getElem?_eq_some_iff.mp hx).1
      obtain ⟨k, md2, l4⟩ := midS_step ok ft md hl1
      have hdn := md.len
      have hxl := Paired.length pr
      have hul := Paired.length pz
      refine ⟨_, rfl, a, rfl, ⟨_, sq_of qa⟩, fun G hG => ?_⟩
      have hGH : H G = none := Option.eq_none_iff_forall_ne_some.mpr fun o ho => by
        rw [e4 _ _ ho] at hG
        cases hG
      have hGF : G ≠ F := fun z => by
        rw [z, hF4] at hG
        cases hG
      refine lc_list (K := K) (a := a) (xs := us) (Bld (FourV K) H' G (l.map (four A))) (bld0 hG) (fun j H5 _ b => sq_of (b.1 _ _ qa)) ?_ ?_
      · rintro j u H5 hj b
        obtain ⟨z, hz1, fz⟩ := pget pz hj
        refine ⟨rfl, ?_⟩
        refine ⟨_, rfl, _, rfl, c, u, v3, l, z, A, _, _, _, rfl, fz.ex b.1, hA.ex b.1, List.mem_of_getElem? hz1, k, fun v H6 e6 hv => ?_⟩
        refine bld_step stFo hG b e6 ?_ ?_ hv
        · rw [List.getElem?_map, hz1]
          rfl
        · have := (List.getElem?_eq_some_iff.mp hj).1
          omega
      intro H5 b5
      obtain ⟨e5, ws, hws, pw⟩ := bld_end (by simp; omega) b5
      have hF5 := e5 _ _ hF4
      refine ⟨_, rfl, .inl ⟨rfl, _, sq_of hF5⟩, _, rfl, F, xs, .ref G, rfl, rfl, hF5, sz_lt (by omega), ?_⟩
      have e7 : Ex H (upd H5 F (.lst (xs ++ [.ref G]))) := Ex.mut (e4.trans e5) hF0
      have kF : upd H5 F (.lst (xs ++ [.ref G])) F = some (.lst (xs ++ [.ref G])) := upd_same
      have kG : upd H5 F (.lst (xs ++ [.ref G])) G = some (.lst ws) := by rw [upd_ne hGF]; exact hws
      have pw7 : Paired (FourV K (upd H5 F (.lst (xs ++ [.ref G])))) ws (l.map (four A)) := pmono (fun _ _ q => FourV.mut hF5 q) pw
      have pr7 : Paired (FourL K H F (upd H5 F (.lst (xs ++ [.ref G])))) (xs ++ [.ref G]) (dn ++ [l.map (four A)]) := Paired.snoc (pmono (fun _ _ q => FourL.putF hF5 (FourL.ex e5 q)) pr) ⟨G, ws, rfl, hGH, hGF, kG, pw7⟩
      have kp7 : Dk F H3 (upd H5 F (.lst (xs ++ [.ref G]))) := (kp.then e5).trans (Dk.put hF5)
      generalize upd H5 F (.lst (xs ++ [.ref G])) = H7 at e7 kF kG pw7 pr7 kp7 ⊢
      have hwl := Paired.length pw7
      rw [List.length_map] at hwl
      refine ⟨_, rfl, G, rfl, ⟨_, sq_of kG⟩, fun G2 hG2 => ?_⟩
      refine lc_list (K := K) (a := G) (xs := ws) (Bld (SpanV K) H7 G2 ((l.map (bnd A)).map cutS)) (bld0 hG2) (fun j H8 _ b => sq_of (b.1 _ _ kG)) ?_ ?_
      · rintro j u H8 hj b
        obtain ⟨f, hf1, ff⟩ := pget pw7 hj
        obtain ⟨tf, va, vb, vx, vy, rfl, qf, fa, fb, _, _⟩ := ff.ex b.1
        rw [List.getElem?_map] at hf1
        obtain ⟨z, hz, rfl⟩ := Option.map_eq_some_iff.mp hf1
        refine ⟨rfl, ?_⟩
        refine ⟨_, rfl, _, _, _, _, rfl, rfl, qf, at0, va, _, rfl, fa, fun ca hca => ⟨_, rfl, _, _, _, _, rfl, rfl, qf, at1, vb, _, rfl, fb, fun cb hcb => ⟨(by show 2 ≤ sizeLine; decide), fun pq hpq => ?_⟩⟩⟩
        have e9 : Ex H8 (upd H8 pq (.tup [ca, cb])) := Ex.new hpq
        refine bld_step (a := cutS (bnd A z)) stSp hG2 b e9 ?_ ?_ ⟨pq, ca, cb, rfl, st_of upd_same, hca.ex e9, hcb.ex e9⟩
        · rw [List.getElem?_map, List.getElem?_map, hz]
          rfl
        · have := (List.getElem?_eq_some_iff.mp hj).1
          omega
      · intro H8 b8
        obtain ⟨e8, vs8, hvs8, pv8⟩ := bld_end (by simp; omega) b8
        exact ⟨false, .ref G2, _, _, _, _, _, _, _, rfl, e7.trans e8, kp7.then e8, e8 _ _ kF, pmono (fun _ _ => FourL.ex e8) pr7, ⟨G2, vs8, rfl, sq_of hvs8, pv8⟩, md2⟩
    · rintro σ H' ⟨c, v3, o4, o5, o6, o7, xs, A, dn, rfl, e4, kp, hF4, pr, hA, md⟩
      refine ⟨_, rfl, q F xs H' hF0 e4 hF4 ?_⟩
      rw [hyl] at md
      rw [← midS_end md]
      exact pr
end

end K30
end
section
set_option maxRecDepth 100000
set_option maxHeartbeats 400000
namespace K30
open PySem Evl Nc PyProof.Rows
open L2 hiding spCell
section
variable {P : Program} {w : World} {K : PySem.W.Frag} {mg : Str → Option Value} {base : Heap}
theorem ok_check_box (D : Df K mg "check_box" s_check_box ["thing"]) (GB : Ok P w K mg base 5 "is_box" ["thing"] (spIsBox K)) : Ok P w K mg base 6 "check_box" ["thing"] (spCheckBox K) := by
  refine D.ok fun f fd F => F.ok sc_check_box (fun vs H Q E h => ?_) (fun cdv A outer s H vs Q E hr h => ?_)
  · obtain ⟨x, DB, box, rfl, _⟩ := h
    rfl
  · obtain ⟨x, DB, sp, rfl, ⟨hx, l1, l3, hb, d0, dl⟩, q⟩ := h
    refine ⟨_, (pss_one (ps_if (pt_not (pt_val (cl GB hr (pa_cons (pv 0) pa_nil)))) (pss_one ps_never) pss_nil)), ?_⟩
    exact ⟨_, rfl, x, sp, DB, rfl, hx, l1, l3, hb.ok, hb.sv d0 dl, d0, Nat.lt_of_le_of_lt dl (by decide +kernel), fun H1 e1 => ⟨_, rfl, iteF (q H1 e1)⟩⟩
theorem ok__check_sum (D : Df K mg "_check_sum" s__check_sum ["box", "one"]) (GB : Ok P w K mg base 6 "check_box" ["thing"] (spCheckBox K)) (GS : Ok P w K mg base 4 "is_sum" ["thing", "many"] (spIsSum K)) (mlen : mg "len" = none) : Ok P w K mg base 7 "_check_sum" ["box", "one"] (spCheckSum K) := by
  refine D.ok fun f fd F => F.ok sc__check_sum (fun vs H Q E h => ?_) (fun cdv A outer s H vs Q E hr h => ?_)
  · obtain ⟨x, y, DB, box, s, rfl, _⟩ := h
    rfl
  · obtain ⟨x, y, DB, sp, s, rfl, hb, hy, hl, q⟩ := h
    have hr4 : Room 4 _ := hr.mono (by decide)
    have hb0 := hb
    obtain ⟨⟨a, xs, rfl, qa, pa⟩, l1, l3, hbb, _⟩ := hb
    have hxl := Paired.length pa
    refine ⟨_, pss_cons (ps_expr (cl GB hr (pa_cons (pv 0) pa_nil))) (pss_one (ps_if (pt_not (pt_val (cl GS hr4 (pa_cons (pv 1) (pa_cons (pe_callB call_len_seq (by rfl) mlen PySem.boot_len (pa_cons (pv 0) pa_nil)) pa_nil))))) (pss_one ps_never) pss_nil)), ?_⟩
    refine ⟨_, rfl, .ref a, DB, sp, rfl, hb0, fun H1 e1 => ?_⟩
    have qa : SqT K H a xs := qa
    refine ⟨_, rfl, _, rfl, a, _, rfl, .inr (ex_t e1 qa), y, s, (by rw [hxl, hl]; rfl), hy.ex e1, by omega, fun H2 e2 => ⟨_, rfl, iteF (q H2 (e1.trans e2))⟩⟩
theorem ok_least_of (D : Df K mg "least_of" s_least_of ["box", "one"]) (GC : Ok P w K mg base 7 "_check_sum" ["box", "one"] (spCheckSum K)) (GLo : Ok P w K mg base 1 "low_corner" ["one"] (spCorner K fun r => decide (r.num < 0))) (GP : Ok P w K mg base 1 "spot_at" ["spans", "corner"] (spSpotAt K)) (GS : Ok P w K mg base 4 "sum_at" ["one", "row"] (spTellsB K)) : Ok P w K mg base 8 "least_of" ["box", "one"] (spLeastB K lowT) := by
  refine D.ok fun f fd F => F.ok sc_least_of (fun vs H Q E h => ?_) (fun cdv A outer s H vs Q E hr h => ?_)
  · obtain ⟨x, y, DB, box, s, v, Dc, E, k, b, rfl, _⟩ := h
    rfl
  · obtain ⟨x, y, DB, box, s, vv, Dc, E, kk, bb, rfl, hb, hy, hs, c0, hdv, E0, hE, hv0, hcn, q⟩ := h
    have hr1 : Room 1 _ := hr.mono (by decide)
    have hr4 : Room 4 _ := hr.mono (by decide)
    refine ⟨_, (pss_cons (ps_expr (cl GC hr (pa_cons (pv 0) (pa_cons (pv 1) pa_nil))))
      (pss_cons (ps_set (i := 2) sc_least_of.nd rfl (.inl rfl) (cl GP hr1 (pa_cons (pv 0) (pa_cons (cl GLo hr1 (pa_cons (pv 1) pa_nil)) pa_nil))))
      (pss_one (ps_ret (pe_tup (pa_cons (cl GS hr4 (pa_cons (pv 1) (pa_cons (pv 2) pa_nil))) (pa_cons (pv 2) pa_nil))))))), ?_⟩
    obtain ⟨l1, l3, hbb, d0, dl⟩ := hb.2
    have sl := hs.len
    have hlL : (lowB s).length = box.length := by rw [lowB_len, sl]
    refine ⟨_, rfl, _, rfl, x, y, DB, box, s, rfl, hb, hy, sl, fun H1 e1 => ?_⟩
    refine ⟨_, rfl, _, rfl, y, s, rfl, hy.ex e1, by omega, fun vb H2 e2 hvb => ?_⟩
    refine ⟨true, x, vb, box, lowB s, rfl, hb.1.ex (e1.trans e2), hvb, hlL.symm, by omega, fun r1 H3 e3 hr1 => ?_⟩
    have E3 := (e1.trans e2).trans e3
    refine ⟨_, rfl, _, rfl, y, r1, s, picks box (lowB s), vv, vv, Dc, 22, DB, E, kk, bb, rfl, hy.ex E3, hr1, by rw [picks_len hlL]; exact sl, by omega, hs.row, hs.num, bd_picks hbb.bd _, Nat.mul_pos c0 d0, hdv, E0, hE, by omega, by omega, by omega, by omega, hcn, fun v1 H4 e4 hv1 => ?_⟩
    refine ⟨_, rfl, (by show 2 ≤ sizeLine; decide), fun p hp => ?_⟩
    exact q p v1 r1 _ (E3.trans (e4.trans (Ex.new hp))) (st_of upd_same) (hv1.ex (Ex.new hp))
theorem ok_greatest_of (D : Df K mg "greatest_of" s_greatest_of ["box", "one"]) (GC : Ok P w K mg base 7 "_check_sum" ["box", "one"] (spCheckSum K)) (GLo : Ok P w K mg base 1 "high_corner" ["one"] (spCorner K fun r => decide (0 < r.num))) (GP : Ok P w K mg base 1 "spot_at" ["spans", "corner"] (spSpotAt K)) (GS : Ok P w K mg base 4 "sum_at" ["one", "row"] (spTellsB K)) : Ok P w K mg base 8 "greatest_of" ["box", "one"] (spLeastB K highT) := by
  refine D.ok fun f fd F => F.ok sc_greatest_of (fun vs H Q E h => ?_) (fun cdv A outer s H vs Q E hr h => ?_)
  · obtain ⟨x, y, DB, box, s, v, Dc, E, k, b, rfl, _⟩ := h
    rfl
  · obtain ⟨x, y, DB, box, s, vv, Dc, E, kk, bb, rfl, hb, hy, hs, c0, hdv, E0, hE, hv0, hcn, q⟩ := h
    have hr1 : Room 1 _ := hr.mono (by decide)
    have hr4 : Room 4 _ := hr.mono (by decide)
    refine ⟨_, (pss_cons (ps_expr (cl GC hr (pa_cons (pv 0) (pa_cons (pv 1) pa_nil))))
      (pss_cons (ps_set (i := 2) sc_greatest_of.nd rfl (.inl rfl) (cl GP hr1 (pa_cons (pv 0) (pa_cons (cl GLo hr1 (pa_cons (pv 1) pa_nil)) pa_nil))))
      (pss_one (ps_ret (pe_tup (pa_cons (cl GS hr4 (pa_cons (pv 1) (pa_cons (pv 2) pa_nil))) (pa_cons (pv 2) pa_nil))))))), ?_⟩
    obtain ⟨l1, l3, hbb, d0, dl⟩ := hb.2
    have sl := hs.len
    have hlL : (highB s).length = box.length := by rw [highB_len, sl]
    refine ⟨_, rfl, _, rfl, x, y, DB, box, s, rfl, hb, hy, sl, fun H1 e1 => ?_⟩
    refine ⟨_, rfl, _, rfl, y, s, rfl, hy.ex e1, by omega, fun vb H2 e2 hvb => ?_⟩
    refine ⟨true, x, vb, box, highB s, rfl, hb.1.ex (e1.trans e2), hvb, hlL.symm, by omega, fun r1 H3 e3 hr1 => ?_⟩
    have E3 := (e1.trans e2).trans e3
    refine ⟨_, rfl, _, rfl, y, r1, s, picks box (highB s), vv, vv, Dc, 22, DB, E, kk, bb, rfl, hy.ex E3, hr1, by rw [picks_len hlL]; exact sl, by omega, hs.row, hs.num, bd_picks hbb.bd _, Nat.mul_pos c0 d0, hdv, E0, hE, by omega, by omega, by omega, by omega, hcn, fun v1 H4 e4 hv1 => ?_⟩
    refine ⟨_, rfl, (by show 2 ≤ sizeLine; decide), fun p hp => ?_⟩
    exact q p v1 r1 _ (E3.trans (e4.trans (Ex.new hp))) (st_of upd_same) (hv1.ex (Ex.new hp))
end

end K30
end
section
set_option maxRecDepth 100000
set_option maxHeartbeats 400000
namespace K30
open PySem Evl Nc PyProof.Rows
open L2 hiding spCell
section
variable {P : Program} {w : World} {K : PySem.W.Frag} {mg : Str → Option Value} {base : Heap}
theorem ok_through (D : Df K mg "through" s_through ["node", "above", "below", "many"]) (GF : Ok P w K mg base 1 "flat_sum" ["many", "number"] (spFlat K)) (GP : Ok P w K mg base 3 "sum_plus" ["one", "other"] (spSumP K)) (GT : Ok P w K mg base 3 "sum_times" ["by", "one"] (spSumT K)) (mzip : mg "zip" = none) : Ok P w K mg base 4 "through" ["node", "above", "below", "many"] (spThr K) := by
  refine D.ok fun f fd F => F.ok sc_through (fun vs H Q E h => ?_) (fun cdv A outer s H vs Q E hr h => ?_)
  · obtain ⟨c, c', x, y, u, z, A, B, n, v, a, m, D, Dc, Dn, k, b, rfl, _⟩ := h
    rfl
  · obtain ⟨c, c', x, y, u, z, A, B, n, vv, aa, mm, D, Dc, Dn, kk, bb, rfl, ⟨t, ra, fb_, rfl, qt, ⟨tw, ws, rfl, qw, pw_⟩, fb⟩, ⟨aA, xA, rfl, qA, pA⟩, ⟨aB, xB, rfl, qB, pB⟩, h1, h2, h4, hn100, bw, bn, bA, bB, D0, Dc0, Dn0, hc, hn, hv0, hm0, hk4, ⟨b0, hkb⟩, q⟩ := h
    have hr1 : Room 1 _ := hr.mono (by decide)
    refine ⟨_, (pss_cons (ps_asg (pv 0) (pg_tup rfl (pgs_cons (pg_name (i := 4) sc_through.nd rfl (.inl rfl)) (pgs_cons (pg_name (i := 5) sc_through.nd rfl (.inl rfl)) pgs_nil))))
      (pss_cons (ps_set (i := 6) sc_through.nd rfl (.inl rfl) (cl GF hr1 (pa_cons (pv 3) (pa_cons (pv 5) pa_nil))))
      (pss_cons (ps_for PassesOwn.never rfl (pi_zip3 (by rfl) mzip (pa_cons (pv 4) (pa_cons (pv 1) (pa_cons (pv 2) pa_nil)))) (pg_tup rfl (pgs_cons (pg_name (i := 7) sc_through.nd rfl (.inl rfl)) (pgs_cons (pg_name (i := 8) sc_through.nd rfl (.inl rfl)) (pgs_cons (pg_name (i := 9) sc_through.nd rfl (.inl rfl)) pgs_nil)))) (pss_one (ps_if (pt_cmpR op_gt (pe_ix ix_tup (pv 7) pe_int (fun _ _ => rfl)) pe_int (nomark _)) (pss_one (ps_set (i := 6) sc_through.nd rfl (.inl rfl) (cl GP hr (pa_cons (pv 6) (pa_cons (cl GT hr (pa_cons (pv 7) (pa_cons (pv 8) pa_nil))) pa_nil))))) (pss_one (ps_if (pt_cmpR op_lt (pe_ix ix_tup (pv 7) pe_int (fun _ _ => rfl)) pe_int (nomark _)) (pss_one (ps_set (i := 6) sc_through.nd rfl (.inl rfl) (cl GP hr (pa_cons (pv 6) (pa_cons (cl GT hr (pa_cons (pv 7) (pa_cons (pv 9) pa_nil))) pa_nil))))) pss_nil)))))
      (pss_one (ps_ret (pv 6)))))), ?_⟩
    have lw := Paired.length pw_
    have lA := Paired.length pA
    have lB := Paired.length pB
    have c0 : 0 < D * Dc := Nat.mul_pos D0 Dc0
    have n0 : 0 < D * Dn := Nat.mul_pos D0 Dn0
    have dl : D < 2 ^ bb := Nat.lt_of_le_of_lt (Nat.le_mul_of_pos_right D Dc0) hc
    have dc0 := Dc0
    have dcl : Dc < 2 ^ bb := Nat.lt_of_le_of_lt (Nat.le_mul_of_pos_left Dc D0) hc
    have dn0 := Dn0
    have dnl : Dn < 2 ^ bb := Nat.lt_of_le_of_lt (Nat.le_mul_of_pos_left Dn D0) hn
    refine ⟨_, rfl, t, [.ref tw, fb_], rfl, qt, rfl, .ref tw, [fb_], rfl, fb_, [], rfl, rfl, ?_⟩
    refine ⟨_, rfl, _, rfl, n, fb_, z.2, rfl, fb, by omega, fun tot H1 e1 htot => ?_⟩
    refine ⟨_, rfl, _, rfl, _, rfl, true, c, c', tw, aA, aB, ws, xA, xB, rfl, ex_t e1 qw, sqX_ex e1 qA, sqX_ex e1 qB, for_zip3 (K := K) (by omega) (by omega) (fun i σ H' => ∃ (tv : V) (o7 o8 o9 : Option V), σ = [some (.ref t), some (.ref aA), some (.ref aB), some (.int (n : Int)), some (.ref tw), some fb_, some tv, o7, o8, o9] ∧ Ex H H' ∧ SumV K H' tv (thrL n z.2 ((z.1.zip (A.zip B)).take i))) ⟨tot, none, none, none, rfl, e1, htot⟩ (fun i σ H' ⟨_, _, _, _, _, e, _⟩ => ⟨ex_t e qw, sqX_ex e qA, sqX_ex e qB⟩) ?_ ?_⟩
    · rintro i wv av bv T σ H' hw ha hb ⟨tv, o7, o8, o9, rfl, e1, ht⟩ hT
      obtain ⟨wt, hw1, fw0⟩ := pget pw_ hw
      obtain ⟨as, ha1, ha0⟩ := pget pA ha
      obtain ⟨bs, hb1, hb0⟩ := pget pB hb
      have eT : Ex H' (upd H' T (.tup [wv, av, bv])) := Ex.new hT
      have fw := fw0.ex (e1.trans eT)
      have hil := (List.getElem?_eq_some_iff.mp hw1).1
      have hz : (z.1.zip (A.zip B))[i]? = some (wt, (as, bs)) := by
        rw [List.getElem?_zip_eq_some, List.getElem?_zip_eq_some]
        exact ⟨hw1, ha1, hb1⟩
      have szw := bw wt (List.mem_of_getElem? hw1)
      have sw : Sz (kk + bb) bb wt := szw.sz D0 dl hv0
      have ba := bA as (List.mem_of_getElem? ha1)
      have bbs := bB bs (List.mem_of_getElem? hb1)
      have bi := bds_thrL c0 n0 bn (ps := z.1.zip (A.zip B)) (fun p hp => ⟨bw _ (zip3_mem hp).1, bA _ (zip3_mem hp).2.1, bB _ (zip3_mem hp).2.2⟩) i (by rw [List.length_zip, List.length_zip]; omega)
      have hk : aa + i * (vv * mm) ≤ 2 ^ kk := Nat.le_trans (Nat.add_le_add_left (Nat.mul_le_mul_right _ (by omega)) aa) hk4
      refine ⟨T, [wv, av, bv], rfl, st_of upd_same, rfl, wv, [av, bv], rfl, av, [bv], rfl, bv, [], rfl, rfl, ?_⟩
      have fw1 := fw
      obtain ⟨tt, rfl, qtt⟩ := fw1
      refine ⟨_, rfl, _, _, _, _, rfl, rfl, qtt, at0, _, _, rfl, rfl, _, rfl, ite2 (fun hd => ?_) (fun hd => ?_)⟩
      · refine ⟨_, rfl, _, rfl, _, rfl, .ref tt, av, wt, as, kk + bb, bb, kk + bb, bb, rfl, fw, ha0.ex (e1.trans eT), by rw [ba.len]; omega, sw, ba.row.szl dc0 dcl hm0, ba.num.sz dn0 dnl hm0, ⟨by omega, by omega, by omega, by omega, by omega, by omega⟩, fun v2 H2 e2 hv2 => ?_⟩
        have bt := bds_times szw ba
        refine ⟨tv, v2, _, _, kk + bb, bb, kk + bb, bb, rfl, ht.ex (eT.trans e2), hv2, by rw [bi.len, bt.len], by rw [bi.len]; omega, bi.row.szl c0 hc hk, bi.num.sz n0 hn hk, bt.row.szl c0 hc (by omega), bt.num.sz n0 hn (by omega), ⟨by omega, by omega, by omega, by omega, by omega, by omega⟩, fun v3 H3 e3 hv3 => ?_⟩
        refine ⟨v3, _, _, _, rfl, ((e1.trans eT).trans e2).trans e3, ?_⟩
        rw [thrL_take hz]
        unfold stp
        simp only
        rw [if_pos (of_decide_eq_true hd)]
        exact hv3
      · refine ⟨_, rfl, _, _, _, _, rfl, rfl, qtt, at0, _, _, rfl, rfl, _, rfl, ite2 (fun hd2 => ?_) (fun hd2 => ?_)⟩
        · refine ⟨_, rfl, _, rfl, _, rfl, .ref tt, bv, wt, bs, kk + bb, bb, kk + bb, bb, rfl, fw, hb0.ex (e1.trans eT), by rw [bbs.len]; omega, sw, bbs.row.szl dc0 dcl hm0, bbs.num.sz dn0 dnl hm0, ⟨by omega, by omega, by omega, by omega, by omega, by omega⟩, fun v2 H2 e2 hv2 => ?_⟩
          have bt := bds_times szw bbs
          refine ⟨tv, v2, _, _, kk + bb, bb, kk + bb, bb, rfl, ht.ex (eT.trans e2), hv2, by rw [bi.len, bt.len], by rw [bi.len]; omega, bi.row.szl c0 hc hk, bi.num.sz n0 hn hk, bt.row.szl c0 hc (by omega), bt.num.sz n0 hn (by omega), ⟨by omega, by omega, by omega, by omega, by omega, by omega⟩, fun v3 H3 e3 hv3 => ?_⟩
          refine ⟨v3, _, _, _, rfl, ((e1.trans eT).trans e2).trans e3, ?_⟩
          rw [thrL_take hz]
          unfold stp
          simp only
          rw [if_neg (fun z => hd (decide_eq_true z)), if_pos (of_decide_eq_true hd2)]
          exact hv3
        · refine ⟨tv, _, _, _, rfl, e1.trans eT, ?_⟩
          rw [thrL_take hz]
          unfold stp
          simp only
          rw [if_neg (fun z => hd (decide_eq_true z)), if_neg (fun z => hd2 (decide_eq_true z))]
          exact ht.ex eT
    · rintro σ H' ⟨tv, o7, o8, o9, rfl, e1, ht⟩
      refine ⟨_, rfl, q tv H' e1 ?_⟩
      rwa [List.take_of_length_le (by rw [List.length_zip, List.length_zip]; omega)] at ht
end

end K30
end
section
set_option maxRecDepth 100000
set_option maxHeartbeats 400000
namespace K30
open PySem Evl Nc PyProof.Rows
open L2 hiding spCell
section
variable {P : Program} {w : World} {K : PySem.W.Frag} {mg : Str → Option Value} {base : Heap}
theorem less_is {r s : Rat} : decide (r.num * (s.den : Int) < s.num * (r.den : Int)) = decide (r < s) := by
  by_cases h : r < s
  · rw [decide_eq_true h]
    refine decide_eq_true ?_
    have := mt (Rat.le_iff s r).mpr (Rat.not_le.mpr h)
    omega
  · rw [decide_eq_false h]
    refine decide_eq_false ?_
    have := (Rat.le_iff s r).mp (Rat.not_lt.mp h)
    omega
theorem ok__four (D : Df K mg "_four" s__four ["box", "under", "over", "bound"]) (GL : Ok P w K mg base 8 "least_of" ["box", "one"] (spLeastB K lowT)) (GG : Ok P w K mg base 8 "greatest_of" ["box", "one"] (spLeastB K highT)) (GI : Ok P w K mg base 1 "is_less" ["one", "other"] (spLess K)) : Ok P w K mg base 9 "_four" ["box", "under", "over", "bound"] (spFour K) := by
  refine D.ok fun f fd F => F.ok sc__four (fun vs H Q E h => ?_) (fun cdv A outer s H vs Q E hr h => ?_)
  · obtain ⟨x, y, u, w, DB, box, s, t, f, v, Dc, E, r, k, b, rfl, _⟩ := h
    rfl
  · obtain ⟨x, y, u, w, DB, box, s, t, f, vv, Dc, E, rr, kk, bb, rfl, hb, hy, hu, hw, bs, bt, r1, r2, c0, hdv, E0, hE, hv0, hr0, hcn, q⟩ := h
    have hr1 : Room 1 _ := hr.mono (by decide)
    refine ⟨_, (pss_cons (ps_set (i := 4) sc__four.nd rfl (.inl rfl) (pe_ix ix_tup (cl GL hr (pa_cons (pv 0) (pa_cons (pv 1) pa_nil))) pe_int (fun _ _ => rfl)))
      (pss_cut (ps_if (pt_val (cl GI hr1 (pa_cons (pv 4) (pa_cons (pe_ix ix_tup (pv 3) pe_int (fun _ _ => rfl)) pa_nil)))) (pss_one (ps_set (i := 4) sc__four.nd rfl (.inl rfl) (pe_ix ix_tup (pv 3) pe_int (fun _ _ => rfl)))) pss_nil)
      (pss_cons (ps_set (i := 5) sc__four.nd rfl (.inl rfl) (pe_ix ix_tup (cl GG hr (pa_cons (pv 0) (pa_cons (pv 2) pa_nil))) pe_int (fun _ _ => rfl)))
      (pss_cut (ps_if (pt_val (cl GI hr1 (pa_cons (pe_ix ix_tup (pv 3) pe_int (fun _ _ => rfl)) (pa_cons (pv 5) pa_nil)))) (pss_one (ps_set (i := 5) sc__four.nd rfl (.inl rfl) (pe_ix ix_tup (pv 3) pe_int (fun _ _ => rfl)))) pss_nil)
      (pss_one (ps_ret (pe_tup (pa_cons (pv 1) (pa_cons (pv 2) (pa_cons (pv 4) (pa_cons (pv 5) pa_nil))))))))))), ?_⟩
    have hcc := hcn
    obtain ⟨b0, hkb⟩ := hcn
    obtain ⟨l1, l3, hbb, d0, dl⟩ := hb.2
    have cor : ∀ {s : Sum2}, BdS box.length vv Dc E s → ∀ bs : List Bool, bs.length = box.length → Sz (kk + bb) bb (tells s (picks box bs)) := fun {s} hs bs hl => by
      have h0 := bd_tells (v := vv) (u := 22) (D := Dc) (E := DB) (F := E) (Nat.mul_pos c0 d0) E0 hdv hs.row hs.num (bd_picks hbb.bd bs) (by rw [picks_len hl]; exact hs.len)
      refine h0.sz E0 hE ?_
      have : s.1.length * (vv * 22) ≤ 3 * (vv * 22) := Nat.mul_le_mul_right _ (by rw [hs.len]; omega)
      omega
    have sl : Sz (kk + bb) bb (lowT s box) := cor bs _ (by rw [lowB_len, bs.len])
    have sh : Sz (kk + bb) bb (highT t box) := cor bt _ (by rw [highB_len, bt.len])
    have s1 : Sz (kk + bb) bb f.1.1 := r1.sz E0 hE hr0
    have s2 : Sz (kk + bb) bb f.1.2 := r2.sz E0 hE hr0
    refine ⟨_, rfl, _, rfl, x, y, DB, box, s, vv, Dc, E, kk, bb, rfl, hb, hy, bs, c0, hdv, E0, hE, hv0, hcc, fun p a c H1 e1 qp fa => ⟨_, _, _, _, rfl, rfl, qp, at0, ?_⟩⟩
    refine ⟨fun σ H' => ∃ lv, σ = [some x, some y, some u, some w, some lv, none] ∧ Ex H H' ∧ FrV K H' lv (maxQ (lowT s box) f.1.1), ?_, ?_⟩
    · obtain ⟨tf, va_, vb_, vx, vy, rfl, qf, ga, gb, _, _⟩ := hw.ex e1
      refine ⟨_, rfl, _, rfl, _, _, _, _, rfl, rfl, qf, at0, a, va_, _, _, kk + bb, bb, kk + bb, bb, rfl, fa, ga, sl, s1, ⟨by omega, by omega, by omega, by omega, by omega⟩, _, rfl, ?_⟩
      rw [less_is]
      refine ite2 (fun hd => ⟨_, rfl, _, _, _, _, rfl, rfl, qf, at0, _, rfl, e1, ?_⟩) (fun hd => ⟨_, rfl, e1, ?_⟩)
      · unfold maxQ
        rw [if_pos (of_decide_eq_true hd)]
        exact ga
      · unfold maxQ
        rw [if_neg (fun z => hd (decide_eq_true z))]
        exact fa
    · rintro σ H2 ⟨lv, rfl, e2, hlv⟩
      refine ⟨_, rfl, _, rfl, x, u, DB, box, t, vv, Dc, E, kk, bb, rfl, hb.ex e2, hu.ex e2, bt, c0, hdv, E0, hE, hv0, hcc, fun p2 a2 c2 H3 e3 qp2 fa2 => ⟨_, _, _, _, rfl, rfl, qp2, at0, ?_⟩⟩
      have E3 := e2.trans e3
      refine ⟨fun σ H' => ∃ hv, σ = [some x, some y, some u, some w, some lv, some hv] ∧ Ex H H' ∧ FrV K H' lv (maxQ (lowT s box) f.1.1) ∧ FrV K H' hv (minQ (highT t box) f.1.2), ?_, ?_⟩
      · obtain ⟨tf, va_, vb_, vx, vy, rfl, qf, ga, gb, _, _⟩ := hw.ex E3
        refine ⟨_, rfl, _, _, _, _, rfl, rfl, qf, at1, _, rfl, vb_, a2, _, _, kk + bb, bb, kk + bb, bb, rfl, gb, fa2, s2, sh, ⟨by omega, by omega, by omega, by omega, by omega⟩, _, rfl, ?_⟩
        rw [less_is]
        refine ite2 (fun hd => ⟨_, rfl, _, _, _, _, rfl, rfl, qf, at1, _, rfl, E3, hlv.ex e3, ?_⟩) (fun hd => ⟨_, rfl, E3, hlv.ex e3, ?_⟩)
        · unfold minQ
          rw [if_pos (of_decide_eq_true hd)]
          exact gb
        · unfold minQ
          rw [if_neg (fun z => hd (decide_eq_true z))]
          exact fa2
      · rintro σ H4 ⟨hv, rfl, e4, hl4, hh4⟩
        refine ⟨_, rfl, _, rfl, _, rfl, _, rfl, (by show 4 ≤ sizeLine; decide), fun pp hpp => ?_⟩
        have e5 : Ex H4 (upd H4 pp (.tup [y, u, lv, hv])) := Ex.new hpp
        exact q _ _ (e4.trans e5) ⟨pp, y, u, lv, hv, rfl, st_of upd_same, hy.ex (e4.trans e5), hu.ex (e4.trans e5), hl4.ex e5, hh4.ex e5⟩
theorem ok__under_passed (D : Df K mg "_under_passed" s__under_passed ["four", "many"]) (GP : Ok P w K mg base 2 "plus" ["one", "other"] (spPlus K)) (GF : Ok P w K mg base 1 "flat_sum" ["many", "number"] (spFlat K)) (CN : Cst K mg "NOUGHT" 0) : Ok P w K mg base 3 "_under_passed" ["four", "many"] (spUnderP K) := by
  refine D.ok fun f fd F => F.ok sc__under_passed (fun vs H Q E h => ?_) (fun cdv A outer s H vs Q E hr h => ?_)
  · obtain ⟨x, t, n, w, E, k, b, rfl, _⟩ := h
    rfl
  · obtain ⟨x, t, n, ww, E, kk, bb, rfl, ⟨pp, a, bb_, c, d, rfl, qp, hu, ho, hl, hh⟩, hn, bl, bh, E0, hE, hw0, ⟨b0, hkb⟩, q⟩ := h
    obtain ⟨aN, gN, hN⟩ := CN.ex
    have hr1 : Room 1 _ := hr.mono (by decide)
    refine ⟨_, (pss_cons (ps_asg (pv 0) (pg_tup rfl (pgs_cons (pg_name (i := 2) sc__under_passed.nd rfl (.inl rfl)) (pgs_cons (pg_name (i := 3) sc__under_passed.nd rfl (.inl rfl)) (pgs_cons (pg_name (i := 4) sc__under_passed.nd rfl (.inl rfl)) (pgs_cons (pg_name (i := 5) sc__under_passed.nd rfl (.inl rfl)) pgs_nil))))))
      (pss_cons (ps_if (pt_cmpR op_gt (pe_ix ix_tup (cl GP hr (pa_cons (pv 4) (pa_cons (pv 5) pa_nil))) pe_int (fun _ _ => rfl)) pe_int (nomark _)) (pss_one (ps_ret (pv 2))) pss_nil)
      (pss_one (ps_ret (cl GF hr1 (pa_cons (pv 1) (pa_cons (pe_glob (v := .ref aN) (by rfl) gN rfl) pa_nil))))))), ?_⟩
    refine ⟨_, rfl, pp, [a, bb_, c, d], rfl, qp, rfl, a, [bb_, c, d], rfl, bb_, [c, d], rfl, c, [d], rfl, d, [], rfl, rfl, ?_⟩
    refine ⟨_, rfl, _, rfl, c, d, _, _, kk + bb, bb, kk + bb, bb, rfl, hl, hh, bl.sz E0 hE hw0, bh.sz E0 hE hw0, ⟨by omega, by omega, by omega, by omega, by omega, by omega⟩, fun sv H1 e1 hs => ?_⟩
    obtain ⟨ts, rfl, qs⟩ := hs
    refine ⟨_, _, _, _, rfl, rfl, qs, at0, _, _, rfl, rfl, _, rfl, ite2 (fun hd => ?_) (fun hd => ?_)⟩
    · refine ⟨_, rfl, q _ _ e1 ?_⟩
      unfold uPass
      rw [if_pos (of_decide_eq_true hd)]
      exact hu.ex e1
    · refine ⟨_, rfl, n, .ref aN, 0, rfl, hN _, by omega, fun v H2 e2 hv => ?_⟩
      refine q v H2 (e1.trans e2) ?_
      unfold uPass
      rw [if_neg (fun z => hd (decide_eq_true z))]
      exact hv
theorem ok__over_passed (D : Df K mg "_over_passed" s__over_passed ["four", "many"]) (GM : Ok P w K mg base 2 "minus" ["one", "other"] (spMinus K)) (GR : Ok P w K mg base 2 "ratio" ["one", "other"] (spRatioP K)) (GT : Ok P w K mg base 3 "sum_times" ["by", "one"] (spSumT K)) (GF : Ok P w K mg base 1 "flat_sum" ["many", "number"] (spFlat K)) (CN : Cst K mg "NOUGHT" 0) : Ok P w K mg base 4 "_over_passed" ["four", "many"] (spOverP K) := by
  refine D.ok fun f fd F => F.ok sc__over_passed (fun vs H Q E h => ?_) (fun cdv A outer s H vs Q E hr h => ?_)
  · obtain ⟨x, t, n, v, w, s, Dc, E, k, b, rfl, _⟩ := h
    rfl
  · obtain ⟨x, t, n, vv, ww, ss, Dc, E, kk, bb, rfl, ⟨pp, a, bb_, c, d, rfl, qp, hu, ho, hl, hh⟩, hn, tg, Dc0, hDc, E0, hsE, s1, hv0, hw0, b0, hkb, q⟩ := h
    obtain ⟨aN, gN, hN⟩ := CN.ex
    have hr1 : Room 1 _ := hr.mono (by decide)
    have hr2 : Room 2 _ := hr.mono (by decide)
    have hE : E < 2 ^ bb := Nat.lt_of_le_of_lt (Nat.le_mul_of_pos_left E s1) hsE
    refine ⟨_, (pss_cons (ps_asg (pv 0) (pg_tup rfl (pgs_cons (pg_name (i := 2) sc__over_passed.nd rfl (.inl rfl)) (pgs_cons (pg_name (i := 3) sc__over_passed.nd rfl (.inl rfl)) (pgs_cons (pg_name (i := 4) sc__over_passed.nd rfl (.inl rfl)) (pgs_cons (pg_name (i := 5) sc__over_passed.nd rfl (.inl rfl)) pgs_nil))))))
      (pss_cons (ps_if (pt_cmpR op_le (pe_ix ix_tup (pv 5) pe_int (fun _ _ => rfl)) pe_int (nomark _)) (pss_one (ps_ret (cl GF hr1 (pa_cons (pv 1) (pa_cons (pe_glob (v := .ref aN) (by rfl) gN rfl) pa_nil))))) pss_nil)
      (pss_cons (ps_if (pt_cmpR op_ge (pe_ix ix_tup (pv 4) pe_int (fun _ _ => rfl)) pe_int (nomark _)) (pss_one (ps_ret (pv 3))) pss_nil)
      (pss_cons (ps_asg (pv 3) (pg_tup rfl (pgs_cons (pg_name (i := 6) sc__over_passed.nd rfl (.inl rfl)) (pgs_cons (pg_name (i := 7) sc__over_passed.nd rfl (.inl rfl)) pgs_nil))))
      (pss_one (ps_ret (cl GT hr (pa_cons (cl GR hr2 (pa_cons (pv 5) (pa_cons (cl GM hr2 (pa_cons (pv 5) (pa_cons (pv 4) pa_nil))) pa_nil))) (pa_cons (pe_tup (pa_cons (pv 6) (pa_cons (cl GM hr2 (pa_cons (pv 7) (pa_cons (pv 4) pa_nil))) pa_nil))) pa_nil))))))))), ?_⟩
    refine ⟨_, rfl, pp, [a, bb_, c, d], rfl, qp, rfl, a, [bb_, c, d], rfl, bb_, [c, d], rfl, c, [d], rfl, d, [], rfl, rfl, ?_⟩
    have hhi := hh
    obtain ⟨th, rfl, qh⟩ := hh
    refine ⟨_, rfl, _, _, _, _, rfl, rfl, qh, at0, _, _, rfl, rfl, _, rfl, ite2 (fun hd => ?_) (fun hd => ?_)⟩
    · refine ⟨_, rfl, n, .ref aN, 0, rfl, hN _, by omega, fun v H2 e2 hv => ?_⟩
      refine q v H2 e2 ?_
      unfold oPass
      rw [if_pos (of_decide_eq_true hd)]
      exact hv
    · have hd' : ¬ t.2.2.num ≤ 0 := fun z => hd (decide_eq_true z)
      have hlo := hl
      obtain ⟨tl, rfl, ql⟩ := hl
      refine ⟨_, rfl, _, _, _, _, rfl, rfl, ql, at0, _, _, rfl, rfl, _, rfl, ite2 (fun hd2 => ?_) (fun hd2 => ?_)⟩
      · refine ⟨_, rfl, q _ _ (Ex.refl H) ?_⟩
        unfold oPass
        rw [if_neg hd', if_pos (of_decide_eq_true hd2)]
        exact ho
      · have hd2' : ¬ 0 ≤ t.2.1.num := fun z => hd2 (decide_eq_true z)
        have hp : 0 < t.2.2 := numPos.mp (by omega)
        have hng : t.2.1 < 0 := num_lt.mp (by omega)
        obtain ⟨k0, k1, k2⟩ := ratio_facts E0 hng hp tg.hi.2 tg.lo.2 tg.wide
        have q0 : 0 < (t.2.2 - t.2.1).num := numPos.mpr (by grind)
        have ob := ho
        obtain ⟨to, oa, on, rfl, qo, hra, hno⟩ := ho
        refine ⟨_, rfl, to, [oa, on], rfl, qo, rfl, oa, [on], rfl, on, [], rfl, rfl, ?_⟩
        have szh : Sz (kk + bb) bb t.2.2 := tg.hi.sz E0 hE (by omega)
        have szl : Sz (kk + bb) bb t.2.1 := tg.lo.sz E0 hE (by omega)
        have szn : Sz (kk + bb) bb t.1.2.2 := tg.o.num.sz E0 hE (by omega)
        have szq : Sz (kk + bb) bb (t.2.2 - t.2.1) := (tg.hi.sub E0 tg.lo).sz E0 hE (by omega)
        have szm : Sz (kk + bb) bb (t.1.2.2 - t.2.1) := (tg.o.num.sub E0 tg.lo).sz E0 hE (by omega)
        refine ⟨_, rfl, _, rfl, _, rfl, .ref th, .ref tl, _, _, kk + bb, bb, kk + bb, bb, rfl, hhi, hlo, szh, szl, ⟨by omega, by omega, by omega, by omega, by omega, by omega⟩, fun v1 H1 e1 hv1 => ?_⟩
        refine ⟨.ref th, v1, _, _, kk, bb, rfl, hhi.ex e1, hv1, szh, szq, q0, b0, hkb, fun v2 H2 e2 hv2 => ?_⟩
        refine ⟨_, rfl, _, rfl, _, rfl, on, .ref tl, _, _, kk + bb, bb, kk + bb, bb, rfl, hno.ex (e1.trans e2), hlo.ex (e1.trans e2), szn, szl, ⟨by omega, by omega, by omega, by omega, by omega, by omega⟩, fun v3 H3 e3 hv3 => ⟨(by show 2 ≤ sizeLine; decide), fun pr_ hpr => ?_⟩⟩
        have e4 : Ex H3 (upd H3 pr_ (.tup [oa, v3])) := Ex.new hpr
        have E4 := (e1.trans e2).trans (e3.trans e4)
        have sr : Sz (kk + bb) bb (t.2.2 / (t.2.2 - t.2.1)) := k1.sz k0 (Nat.lt_of_le_of_lt k2 hsE) (Nat.one_le_two_pow)
        refine ⟨v2, .ref pr_, _, (t.1.2.1, t.1.2.2 - t.2.1), kk + bb, bb, kk + bb, bb, rfl, hv2.ex (e3.trans e4), ⟨pr_, oa, v3, rfl, st_of upd_same, hra.ex E4, hv3.ex e4⟩, by show t.1.2.1.length ≤ 100; rw [tg.o.len]; omega, sr, tg.o.row.szl Dc0 hDc (by omega), szm, ⟨by omega, by omega, by omega, by omega, by omega, by omega⟩, fun v5 H5 e5 hv5 => ?_⟩
        refine q v5 H5 (E4.trans e5) ?_
        unfold oPass
        rw [if_neg hd', if_neg hd2']
        exact hv5
end

end K30
end
section
set_option maxRecDepth 100000
set_option maxHeartbeats 400000
namespace K30
open PySem Evl Nc PyProof.Rows
open L2 hiding spCell
section
variable {P : Program} {w : World} {K : PySem.W.Frag} {mg : Str → Option Value} {base : Heap}
theorem fours_at {ls : List (List Sum2)} {L A : List Span} {i : Nat} {l : List Sum2} {pre : List (List Four)} (hp : pre.length = i) (e : foursAt ls L = pre ++ foursAt (ls.drop i) A) (hi : ls[i]? = some l) :
    (foursAt ls L)[i]? = some (l.map (four A)) ∧ foursAt ls L = (pre ++ [l.map (four A)]) ++ foursAt (ls.drop (i + 1)) ((l.map (bnd A)).map cutS) := by
  rw [e, foursAt_cons hi]
  constructor
  · rw [List.getElem?_append_right (by omega), hp, Nat.sub_self]
    rfl
  · rw [List.append_assoc]
    rfl
theorem pair_at {α β : Type} {R : α → β → Prop} : ∀ {xs : List α} {ys : List β} {i : Nat} {x : α} {y : β}, Paired R xs ys → xs[i]? = some x → ys[i]? = some y → R x y
  | _, _, i, x, y, p, h1, h2 => by
    obtain ⟨y', h3, r⟩ := pget p h1
    rw [h2] at h3
    cases h3
    exact r
def spTighX (K : PySem.W.Frag) (CN CL CC CB : Addr) : Sp := fun vs H Q E => ∃ (p : Addr) (y : V), vs = [.ref p, y] ∧ ((∃ (n : Nat) (ls : List (List Sum2)), NetV K CN CL CC H p n ls ∧ NoBx K H y n ∧ Fly CB y H E) ∨ ∃ (ls : List (List Sum2)) (L : List Span) (g M DB : Nat) (Md : Nat → List (List Tg) → List Span → List Sum2 → List Sum2 → Prop), BxT K H y true ∧ NetV K CN CL CC H p L.length ls ∧ BoxV K DB H y L ∧ NetOk L.length ls (wL g M) ∧ Fits (wL g M) DB ∧ GrB g M ls ∧ Fam DB L L.length g M ls Md ∧
  ∀ F H', H F = none → Ex H H' → Q (.ref F) H')
theorem ok_tightened (D : Df K mg "tightened" s_tightened ["net", "box"]) {CN CL CC CB : Addr} (N : NDefs P w K mg base CN CL CC) (GI : MOk P w K mg base 1 CN "ins" ["self"] (spInsN K CN CL CC)) (GLT : MOk P w K mg base 2 CN "layers_told" ["self"] (spLaysTold K CN CL CC)) (GH : OkX P w K mg base 7 "handed_on" ["net", "box"] (spHandX K CN CL CC CB)) (GPl : Ok P w K mg base 1 "place_sum" ["many", "place"] (spPlace K)) (GT : Ok P w K mg base 4 "through" ["node", "above", "below", "many"] (spThr K)) (GF : Ok P w K mg base 9 "_four" ["box", "under", "over", "bound"] (spFour K)) (GU : Ok P w K mg base 3 "_under_passed" ["four", "many"] (spUnderP K)) (GO : Ok P w K mg base 4 "_over_passed" ["four", "many"] (spOverP K)) (mrange : mg "range" = none) (mzip : mg "zip" = none) : OkX P w K mg base 10 "tightened" ["net", "box"] (spTighX K CN CL CC CB) := by
  refine D.okX fun f fd F => F.okX sc_tightened (fun vs H Q E h => ?_) (fun cdv A outer s H vs Q E hr h => ?_)
  · obtain ⟨p, y, rfl, _⟩ := h
    rfl
  · obtain ⟨p, y, rfl, h⟩ := h
    obtain ⟨fIN, dIN, mIN, FIN, bIN⟩ := GI.ex
    obtain ⟨fLT, dLT, mLT, FLT, bLT⟩ := GLT.ex
    have hr1 : Room 1 _ := hr.mono (by decide)
    have hr2 : Room 2 _ := hr.mono (by decide)
    have hr3 : Room 3 _ := hr.mono (by decide)
    have hr4 : Room 4 _ := hr.mono (by decide)
    have hr7 : Room 7 _ := hr.mono (by decide)
    refine ⟨_, (pss_cons (ps_set (i := 2) sc_tightened.nd rfl (.inl rfl) (clX (W := fun cls d _ H => E cls d H) GH hr7 (takes_of rfl rfl rfl rfl) (pa_cons (pv 0) (pa_cons (pv 1) pa_nil))))
      (pss_cons (ps_set (i := 3) sc_tightened.nd rfl (.inr rfl) (pe_meth0 (pv 0) N.tN mIN FIN hr1 bIN .nil pass0))
      (pss_cons (ps_setLc (i := 4) (own := [("place", 14)]) (g := gName 14) (tt := tYes) rfl sc_tightened.nd rfl rfl (sw_true rfl rfl rfl (by decide +kernel)) (pi_range1 (by rfl) mrange (pa_cons (pv 3) pa_nil)) (blkOk_by (N := ["net", "box", "handed", "many", "unders", "overs", "found", "nodes", "bounds", "fours", "node", "bound", "under", "over", "place", "four"]) (sc := defScope s_tightened) (by decide +kernel)) (fun _ _ _ _ _ => (pg_name (i := 14) sc_tightened.nd rfl (.inl rfl))) (fun _ _ _ _ _ => pts_nil) (fun _ _ _ _ _ => cl GPl hr1 (pa_cons (pv 3) (pa_cons (pv 14) pa_nil))))
      (pss_cons (ps_set (i := 5) sc_tightened.nd rfl (.inl rfl) (pv 4))
      (pss_cons (ps_set (i := 6) sc_tightened.nd rfl (.inl rfl) (pe_lst pa_nil))
      (pss_cons (ps_for PassesOwn.leaving rfl (pi_zipX (by rfl) mzip (pa_cons (pe_meth0 (pv 0) N.tN mLT FLT hr2 bLT .nil pass0) (pa_cons (pv 2) pa_nil))) (pg_tup rfl (pgs_cons (pg_name (i := 7) sc_tightened.nd rfl (.inl rfl)) (pgs_cons (pg_name (i := 8) sc_tightened.nd rfl (.inl rfl)) pgs_nil))) (pss_cons (ps_set (i := 9) sc_tightened.nd rfl (.inl rfl) (pe_lst pa_nil))
      (pss_cons (ps_for PassesOwn.leaving rfl (pi_zipX (by rfl) mzip (pa_cons (pv 7) (pa_cons (pv 8) pa_nil))) (pg_tup rfl (pgs_cons (pg_name (i := 10) sc_tightened.nd rfl (.inl rfl)) (pgs_cons (pg_name (i := 11) sc_tightened.nd rfl (.inl rfl)) pgs_nil))) (pss_cons (ps_set (i := 12) sc_tightened.nd rfl (.inl rfl) (cl GT hr4 (pa_cons (pv 10) (pa_cons (pv 4) (pa_cons (pv 5) (pa_cons (pv 3) pa_nil))))))
      (pss_cons (ps_set (i := 13) sc_tightened.nd rfl (.inl rfl) (cl GT hr4 (pa_cons (pv 10) (pa_cons (pv 5) (pa_cons (pv 4) (pa_cons (pv 3) pa_nil))))))
      (pss_one (ps_expr (pe_bm PySem.F.plainAttrs_list PySem.F.slot_list_append PySem.F.type_list_append mt_append (pv 9) (pa_cons (cl GF hr (pa_cons (pv 1) (pa_cons (pv 12) (pa_cons (pv 13) (pa_cons (pv 11) pa_nil))))) pa_nil)))))))
      (pss_cons (ps_expr (pe_bm PySem.F.plainAttrs_list PySem.F.slot_list_append PySem.F.type_list_append mt_append (pv 6) (pa_cons (pv 9) pa_nil)))
      (pss_cons (ps_setLc (i := 4) (own := [("four", 15)]) (g := gName 15) (tt := tYes) rfl sc_tightened.nd rfl rfl (sw_true rfl rfl rfl (by decide +kernel)) (pi_list (pv 9)) (blkOk_by (N := ["net", "box", "handed", "many", "unders", "overs", "found", "nodes", "bounds", "fours", "node", "bound", "under", "over", "place", "four"]) (sc := defScope s_tightened) (by decide +kernel)) (fun _ _ _ _ _ => (pg_name (i := 15) sc_tightened.nd rfl (.inl rfl))) (fun _ _ _ _ _ => pts_nil) (fun _ _ _ _ _ => cl GU hr3 (pa_cons (pv 15) (pa_cons (pv 3) pa_nil))))
      (pss_one (ps_setLc (i := 5) (own := [("four", 15)]) (g := gName 15) (tt := tYes) rfl sc_tightened.nd rfl rfl (sw_true rfl rfl rfl (by decide +kernel)) (pi_list (pv 9)) (blkOk_by (N := ["net", "box", "handed", "many", "unders", "overs", "found", "nodes", "bounds", "fours", "node", "bound", "under", "over", "place", "four"]) (sc := defScope s_tightened) (by decide +kernel)) (fun _ _ _ _ _ => (pg_name (i := 15) sc_tightened.nd rfl (.inl rfl))) (fun _ _ _ _ _ => pts_nil) (fun _ _ _ _ _ => cl GO hr4 (pa_cons (pv 15) (pa_cons (pv 3) pa_nil))))))))))
      (pss_one (ps_ret (pv 6))))))))), ?_⟩
    rcases h with ⟨n, ls, hN, hb, fly⟩ | ⟨ls, L, g, M, DB, Md, hbx, hN, hB, ok, ft, gr, fam, q0⟩
    · exact ⟨_, rfl, _, rfl, p, y, rfl, .inl ⟨n, ls, hN, hb, fly⟩⟩
    have q : ∀ F rs H', H F = none → Ex H H' → H' F = some (.lst rs) → Paired (TgL K H F H') rs (tightAt L L.length ls L (units L.length) (units L.length)) → Q (.ref F) H' := fun F _ H' h1 h2 _ _ => q0 F H' h1 h2
    have n1 := ok.n1
    have n3 := ok.n3
    have hl4 := ok.l4
    have hN0 := hN
    obtain ⟨dx, t, ps, hp, qt, pl⟩ := hN
    have nI : List.lookup ("ins" : Str) [(("_ins" : Str), V.int (L.length : Int)), (("_layers" : Str), V.ref t)] = none := no_n (by decide +kernel) (by decide +kernel)
    have nT : List.lookup ("layers_told" : Str) [(("_ins" : Str), V.int (L.length : Int)), (("_layers" : Str), V.ref t)] = none := no_n (by decide +kernel) (by decide +kernel)
    refine ⟨_, rfl, _, rfl, p, y, rfl, .inr ⟨ls, L, _, DB, hbx, hN0, hB.1, hB.2.2.2.1.ok, ok, hB.2.2.2.1.sv hB.2.2.2.2.1 hB.2.2.2.2.2, ft, fun F0 rs H1 hF0 e1 kF0 pr0 => ?_⟩⟩
    have hfl := Paired.length pr0
    rw [foursAt_length] at hfl
    refine ⟨_, rfl, p, dx, _, rfl, e1 _ _ hp, nI, p, L.length, ls, rfl, hN0.ex e1, ?_⟩
    refine ⟨_, rfl, (L.length : Int), rfl, by omega, by omega, fun G0 hG0 => ?_⟩
    refine lc_range (lo := 0) (n := ((L.length : Int)).toNat) (Bld (SumV K) H1 G0 (units L.length)) (bld0 hG0) ?_ ?_
    · rintro i H' hi b
      rw [Int.toNat_natCast] at hi
      refine ⟨rfl, ?_⟩
      rw [show (0 : Int) + (i : Int) = (i : Int) by omega]
      refine ⟨_, rfl, _, rfl, L.length, i, rfl, by omega, fun v H4 e4 hv => ?_⟩
      refine bld_step stSm hG0 b e4 ?_ (by omega) hv
      unfold units
      rw [List.getElem?_map, List.getElem?_range hi]
      rfl
    intro H2 b2
    rw [Int.toNat_natCast] at b2
    obtain ⟨e2, us0, hus0, pu0⟩ := bld_end (units_len _).symm b2
    refine ⟨_, rfl, (by show 0 ≤ sizeLine; decide), fun F hF => ?_⟩
    have E2 := e1.trans e2
    have hFH : H F = none := Option.eq_none_iff_forall_ne_some.mpr fun o ho => by
      rw [E2 _ _ ho] at hF
      cases hF
    have e3 : Ex H2 (upd H2 F (.lst [])) := Ex.new hF
    have k3 : upd H2 F (.lst []) F = some (.lst []) := upd_same
    generalize upd H2 F (.lst []) = H3 at e3 k3 ⊢
    have E3 := E2.trans e3
    refine ⟨_, rfl, p, dx, _, rfl, E3 _ _ hp, nT, p, L.length, ls, rfl, hN0.ex E3, by omega, fun l hl => ?_, fun B ys H4 hB4 e4 hys py => ?_⟩
    · have := over_many ok.over hl
      omega
    have hyl := Paired.length py
    have e24 := e3.trans e4
    have kF4 := e4 _ _ k3
    have kF0' := (e2.trans e24) _ _ kF0
    have hBF : B ≠ F := fun z => by
      rw [z, k3] at hB4
      cases hB4
    refine ⟨_, rfl, false, false, B, F0, ys, rs, rfl, sq_of hys, sq_of kF0', for_zipX (K := K) (by omega) (fun i σ H' => ∃ (v4 v5 : V) (o7 o8 o9 o10 o11 o12 o13 o14 o15 : Option V) (xs : List V) (A : List Span) (U O : List Sum2) (dn : List (List Tg)) (pre : List (List Four)), σ = [some (.ref p), some y, some (.ref F0), some (.int (L.length : Int)), some v4, some v5, some (.ref F), o7, o8, o9, o10, o11, o12, o13, o14, o15] ∧ Ex H2 H' ∧ Dk F H4 H' ∧ H' F = some (.lst xs) ∧ Paired (TgL K H F H') xs dn ∧ SmsV K false H' v4 U ∧ SmsV K false H' v5 O ∧ Md i dn A U O ∧ pre.length = i ∧ foursAt ls L = pre ++ foursAt (ls.drop i) A)
      ⟨.ref G0, .ref G0, none, none, none, none, none, none, none, none, none, [], L, units L.length, units L.length, [], [], rfl, e24, Dk.refl ⟨_, kF4⟩, kF4, .nil, ⟨G0, us0, rfl, sq_of (e24 _ _ hus0), pmono (fun _ _ => SumV.ex e24) pu0⟩, ⟨G0, us0, rfl, sq_of (e24 _ _ hus0), pmono (fun _ _ => SumV.ex e24) pu0⟩, fam.z, rfl, rfl⟩ (fun i σ H' ⟨_, _, _, _, _, _, _, _, _, _, _, _, _, _, _, _, _, _, e, d, _⟩ => ⟨sq_of (d.keep _ _ hBF hys), sq_of (e _ _ (e2 _ _ kF0))⟩) ?_ ?_⟩
    · rintro i ny by_ T σ H5 hny hby ⟨v4, v5, o7, o8, o9, o10, o11, o12, o13, o14, o15, xs, A, U, O, dn, pre, rfl, e5, kp, hF5, prt, hU, hO, md, hpre, hfo⟩ hT
      have eT : Ex H5 (upd H5 T (.tup [ny, by_])) := Ex.new hT
      refine ⟨T, [ny, by_], rfl, st_of upd_same, rfl, ny, [by_], rfl, by_, [], rfl, rfl, ?_⟩
      generalize upd H5 T (.tup [ny, by_]) = H6 at eT ⊢
      obtain ⟨l, hl1, a, us, rfl, na, aFB, qa0, pz0⟩ := pget py hny
      have hnF : a ≠ F := fun z => by
        rw [z, k3] at na
        cases na
      obtain ⟨hf1, hf2⟩ := fours_at hpre hfo hl1
      obtain ⟨bl, fs, rfl, nb, bF0, qb0, pf0⟩ := pair_at pr0 hby hf1
      have qa := eT _ _ (kp.keep _ _ hnF qa0)
      have pz : Paired (SumV K H6) us l := pmono (fun _ _ q => SumV.ex eT (SumV.dk ⟨_, kF4⟩ kp q)) pz0
      have e26 := e5.trans eT
      have qb := (e2.trans e26) _ _ qb0
      have pf : Paired (FourV K H6) fs (l.map (four A)) := pmono (fun _ _ q => FourV.ex (e2.trans e26) q) pf0
      have hil := (List.getElem?_eq_some_iff.mp hl1).1
      obtain ⟨R, k, md2⟩ := fam.step md hl1
      have k4 := k.many
      have hul := Paired.length pz
      have hfl2 := Paired.length pf
      rw [List.length_map] at hfl2
      have hdn := fam.len md
      have hxl := Paired.length prt
      have lims := vl_lt i k.i3
      refine ⟨(by show 0 ≤ sizeLine; decide), fun G hG => ?_⟩
      have hGH : H G = none := Option.eq_none_iff_forall_ne_some.mpr fun o ho => by
        rw [(E2.trans e26) _ _ ho] at hG
        cases hG
      have hF6 := eT _ _ hF5
      have hGF : G ≠ F := fun z => by
        rw [z, hF6] at hG
        cases hG
      have eG : Ex H6 (upd H6 G (.lst [])) := Ex.new hG
      have U6 := hU.ex eT
      have O6 := hO.ex eT
      refine ⟨_, rfl, _, rfl, false, false, a, bl, us, fs, rfl, sq_of (eG _ _ qa), sq_of (eG _ _ qb), for_zipX (K := K) (by omega) (fun j σ H' => ∃ (o10 o11 o12 o13 : Option V), σ = [some (.ref p), some y, some (.ref F0), some (.int (L.length : Int)), some v4, some v5, some (.ref F), some (.ref a), some (.ref bl), some (.ref G), o10, o11, o12, o13, o14, o15] ∧ Bld (TgV K) H6 G (l.map (tgt L L.length U O A)) j H') ⟨_, _, _, _, rfl, bld0 hG⟩ (fun j σ H' ⟨_, _, _, _, _, b⟩ => ⟨sq_of (b.1 _ _ qa), sq_of (b.1 _ _ qb)⟩) ?_ ?_⟩
      · rintro j nv fv T2 σ H7 hj hfv ⟨o10, o11, o12, o13, rfl, b⟩ hT2
        obtain ⟨z, hz, fz0⟩ := pget pz hj
        have hfz : (l.map (four A))[j]? = some (four A z) := by
          rw [List.getElem?_map, hz]
          rfl
        have ff0 := pair_at pf hfv hfz
        have eT2 : Ex H7 (upd H7 T2 (.tup [nv, fv])) := Ex.new hT2
        refine ⟨T2, [nv, fv], rfl, st_of upd_same, rfl, nv, [fv], rfl, fv, [], rfl, rfl, ?_⟩
        generalize upd H7 T2 (.tup [nv, fv]) = H8 at eT2 ⊢
        have e68 := b.1.trans eT2
        obtain ⟨z1, z2, z3⟩ := k.nodes j z hz
        obtain ⟨p1, p2⟩ := k.pos j
        have klt := k.lt j
        have w0 : 0 < wN g M i j := wN_pos gr.m0
        have klt1 : wN g M i j * R < 2 ^ 6672 := Nat.lt_of_le_of_lt (Nat.mul_le_mul_left _ (Nat.le_mul_of_pos_left R k.d0)) klt
        have zb := z3.mono (Nat.le_refl _) (Nat.dvd_mul_right (wN g M i j) (DB * R))
        have ulen := k.ul
        have olen := k.ol
        have a4 := k.a4
        have u40 : ub i ≤ 2 ^ 40 := lims.2.2.1
        have s40 := k.sums hz
        have c48 : Cnd 48 6672 := ⟨by decide, .inr (by decide)⟩
        have big : ∀ {x : Nat}, x ≤ 2 ^ 40 → x ≤ 2 ^ 48 := fun h => Nat.le_trans h (Nat.pow_le_pow_right (by decide) (by decide))
        refine ⟨_, rfl, _, rfl, _, rfl, _, rfl, false, false, nv, v4, v5, z, U, O, L.length, 4, 10, ub i, wN g M i j, R, DB * R, 48, 6672, rfl, fz0.ex e68, U6.ex e68, O6.ex e68, by omega, by omega, by omega, by omega, z2, zb, k.hu, k.ho, w0, k.r0, Nat.mul_pos k.d0 k.r0, klt1, klt, by decide, big u40, by omega, c48, fun un H9 e9 hun => ?_⟩
        refine ⟨_, rfl, _, rfl, _, rfl, _, rfl, false, false, nv, v5, v4, z, O, U, L.length, 4, 10, ub i, wN g M i j, R, DB * R, 48, 6672, rfl, fz0.ex (e68.trans e9), O6.ex (e68.trans e9), U6.ex (e68.trans e9), by omega, by omega, by omega, by omega, z2, zb, k.ho, k.hu, w0, k.r0, Nat.mul_pos k.d0 k.r0, klt1, klt, by decide, big u40, by omega, c48, fun ov H10 e10 hov => ?_⟩
        have e610 := e68.trans (e9.trans e10)
        obtain ⟨⟨en1, en2⟩, _, _⟩ := k.ends hz
        have v40 : vs i ≤ 2 ^ 40 := lims.2.1
        have r24 : va (i + 1) ≤ 2 ^ 24 := lims.2.2.2.1
        obtain ⟨_, xsG, kG10, hGl, _⟩ := id b
        have kG' := (eT2.trans (e9.trans e10)) _ _ kG10
        have E10 : Ex H H10 := (E2.trans e26).trans e610
        refine ⟨_, rfl, .inl ⟨rfl, _, sq_of kG'⟩, _, rfl, _, rfl, _, rfl, _, rfl, y, un, ov, fv, DB, L, thr z U O L.length, thr z O U L.length, four A z, vs i, wN g M i j * R, wN g M i j * (DB * R), va (i + 1), 48, 6672, rfl, hB.ex E10, hun.ex e10, hov, ff0.ex e610, s40.1, s40.2, en1, en2, p1, by rw [Nat.mul_assoc, Nat.mul_comm R]; exact Nat.dvd_refl _, p2, klt, by omega, by omega, c48, fun tv H11 e11 htv => ?_⟩
        have hjl := (List.getElem?_eq_some_iff.mp hj).1
        obtain ⟨acc, hacc, hsz, bb⟩ := bld_step (a := tgt L L.length U O A z) stTg hG b (eT2.trans ((e9.trans e10).trans e11)) (by rw [List.getElem?_map, hz]; rfl) (by omega) htv
        exact ⟨G, acc, tv, rfl, rfl, hacc, hsz, _, _, _, _, rfl, bb⟩
      rintro σ H7 ⟨o10, o11, o12, o13, rfl, b7⟩
      obtain ⟨e7, ws, hws, pw7⟩ := bld_end (by rw [List.length_map]; omega) b7
      have hF7 := e7 _ _ hF6
      refine ⟨_, rfl, .inl ⟨rfl, _, sq_of hF7⟩, _, rfl, F, xs, .ref G, rfl, rfl, hF7, sz_lt (by omega), ?_⟩
      have e8 : Ex H2 (upd H7 F (.lst (xs ++ [.ref G]))) := Ex.mut (e26.trans e7) hF
      have kF : upd H7 F (.lst (xs ++ [.ref G])) F = some (.lst (xs ++ [.ref G])) := upd_same
      have kG : upd H7 F (.lst (xs ++ [.ref G])) G = some (.lst ws) := by rw [upd_ne hGF]; exact hws
      have pw8 : Paired (TgV K (upd H7 F (.lst (xs ++ [.ref G])))) ws (l.map (tgt L L.length U O A)) := pmono (fun _ _ q => TgV.mut hF7 q) pw7
      have pr8 : Paired (TgL K H F (upd H7 F (.lst (xs ++ [.ref G])))) (xs ++ [.ref G]) (dn ++ [l.map (tgt L L.length U O A)]) := Paired.snoc (pmono (fun _ _ q => TgL.putF hF7 (TgL.ex (eT.trans e7) q)) prt) ⟨G, ws, rfl, hGH, hGF, kG, pw8⟩
      have kp8 : Dk F H4 (upd H7 F (.lst (xs ++ [.ref G]))) := (kp.then (eT.trans e7)).trans (Dk.put hF7)
      generalize upd H7 F (.lst (xs ++ [.ref G])) = H8 at e8 kF kG pw8 pr8 kp8 ⊢
      have hwl := Paired.length pw8
      rw [List.length_map] at hwl
      have s1 : 1 ≤ sa (i + 1) := by
        have sa1 : ∀ i, i ≤ 4 → 1 ≤ sa i := by decide
        have i3 := k.i3
        exact sa1 _ (by omega)
      have at_z : ∀ {j : Nat} {t : Tg}, (l.map (tgt L L.length U O A))[j]? = some t → ∃ z, l[j]? = some z ∧ t = tgt L L.length U O A z := fun h => by
        rw [List.getElem?_map] at h
        obtain ⟨z, hz, rfl⟩ := Option.map_eq_some_iff.mp h
        exact ⟨z, hz, rfl⟩
      refine ⟨_, rfl, G, rfl, ⟨_, sq_of kG⟩, fun G2 hG2 => ?_⟩
      refine lc_list (K := K) (a := G) (xs := ws) (Bld (SumV K) H8 G2 ((l.map (tgt L L.length U O A)).map (uPass L.length))) (bld0 hG2) (fun j H9 _ b => sq_of (b.1 _ _ kG)) ?_ ?_
      · rintro j u H9 hj b
        obtain ⟨t, ht, tv⟩ := pget pw8 hj
        obtain ⟨z, hz, rfl⟩ := at_z ht
        have tg := k.tg hz
        have hjl := (List.getElem?_eq_some_iff.mp hj).1
        refine ⟨rfl, ?_⟩
        refine ⟨_, rfl, _, rfl, u, _, L.length, vl i, wN g M i j * (DB * R), 48, 6672, rfl, tv.ex b.1, by omega, tg.lo, tg.hi, (k.pos j).2, k.lt j, Nat.le_trans lims.1 (Nat.pow_le_pow_right (by decide) (by decide)), ⟨by decide, .inr (by decide)⟩, fun v H10 e10 hv => ?_⟩
        exact bld_step stSm hG2 b e10 (by rw [List.getElem?_map, ht]; rfl) (by omega) hv
      intro H9 b9
      obtain ⟨e9, us9, hus9, pu9⟩ := bld_end (by rw [List.length_map, List.length_map]; omega) b9
      refine ⟨_, rfl, G, rfl, ⟨_, sq_of (e9 _ _ kG)⟩, fun G3 hG3 => ?_⟩
      refine lc_list (K := K) (a := G) (xs := ws) (Bld (SumV K) H9 G3 ((l.map (tgt L L.length U O A)).map (oPass L.length))) (bld0 hG3) (fun j H10 _ b => sq_of (b.1 _ _ (e9 _ _ kG))) ?_ ?_
      · rintro j u H10 hj b
        obtain ⟨t, ht, tv⟩ := pget pw8 hj
        obtain ⟨z, hz, rfl⟩ := at_z ht
        have tg := k.tg hz
        have hjl := (List.getElem?_eq_some_iff.mp hj).1
        obtain ⟨p1, p2⟩ := k.pos j
        have v40 : vs i ≤ 2 ^ 40 := lims.2.1
        have l44 : vl i ≤ 2 ^ 44 := lims.1
        have s24 : sa (i + 1) ≤ 2 ^ 24 := lims.2.2.2.2
        have klt := k.lt j
        have klt1 : wN g M i j * R < 2 ^ 6696 := Nat.lt_of_lt_of_le (Nat.lt_of_le_of_lt (Nat.mul_le_mul_left _ (Nat.le_mul_of_pos_left R k.d0)) klt) (Nat.pow_le_pow_right (by decide) (by decide))
        have slt : sa (i + 1) * (wN g M i j * (DB * R)) < 2 ^ 6696 := by
          have h1 : sa (i + 1) * (wN g M i j * (DB * R)) < 2 ^ 24 * 2 ^ 6672 := Nat.lt_of_le_of_lt (Nat.mul_le_mul_right _ s24) (Nat.mul_lt_mul_of_pos_left klt (by decide))
          rw [← Nat.pow_add] at h1
          exact Nat.lt_of_lt_of_le h1 (Nat.pow_le_pow_right (by decide) (by decide))
        refine ⟨rfl, ?_⟩
        refine ⟨_, rfl, _, rfl, u, _, L.length, vs i, vl i, sa (i + 1), wN g M i j * R, wN g M i j * (DB * R), 48, 6696, rfl, tv.ex (e9.trans b.1), by omega, tg, p1, klt1, p2, slt, s1, by omega, by omega, by decide, by decide, fun v H11 e11 hv => ?_⟩
        exact bld_step stSm hG3 b e11 (by rw [List.getElem?_map, ht]; rfl) (by omega) hv
      intro H10 b10
      obtain ⟨e10, us10, hus10, pu10⟩ := bld_end (by rw [List.length_map, List.length_map]; omega) b10
      have e810 := e9.trans e10
      exact ⟨.ref G2, .ref G3, _, _, _, _, _, _, _, _, _, _, _, _, _, _, _, rfl, e8.trans e810, kp8.then e810, e810 _ _ kF, pmono (fun _ _ => TgL.ex e810) pr8, ⟨G2, us9, rfl, sq_of (e10 _ _ hus9), pmono (fun _ _ => SumV.ex e10) pu9⟩, ⟨G3, us10, rfl, sq_of hus10, pu10⟩, md2, by simp [hpre], hf2⟩
    · rintro σ H' ⟨v4, v5, o7, o8, o9, o10, o11, o12, o13, o14, o15, xs, A, U, O, dn, pre, rfl, e5, kp, hF5, prt, hU, hO, md, hpre, hfo⟩
      refine ⟨_, rfl, q F xs H' hFH (E2.trans e5) hF5 ?_⟩
      rw [hyl] at md
      rw [← fam.fin md]
      exact prt
end

end K30
end
section
set_option maxRecDepth 100000
set_option maxHeartbeats 400000
namespace K30
open PySem Evl Nc PyProof.Rows
open L2 hiding spCell
section
variable {P : Program} {w : World} {K : PySem.W.Frag} {mg : Str → Option Value} {base : Heap}
theorem ok__state (D : Df K mg "_state" s__state ["low", "high"]) : Ok P w K mg base 1 "_state" ["low", "high"] (spState K) := by
  refine D.ok fun f fd F => F.ok sc__state (fun vs H Q E h => ?_) (fun cdv A outer s H vs Q E hr h => ?_)
  · obtain ⟨x, y, p, rfl, _⟩ := h
    rfl
  · obtain ⟨x, y, p, rfl, ⟨tx, rfl, qx⟩, ⟨ty, rfl, qy⟩, q⟩ := h
    refine ⟨_, (pss_cons (ps_if (pt_cmpR op_le (pe_ix ix_tup (pv 1) pe_int (fun _ _ => rfl)) pe_int (nomark _)) (pss_one (ps_ret pe_str)) pss_nil)
      (pss_cons (ps_if (pt_cmpR op_ge (pe_ix ix_tup (pv 0) pe_int (fun _ _ => rfl)) pe_int (nomark _)) (pss_one (ps_ret pe_str)) pss_nil)
      (pss_one (ps_ret pe_str)))), ?_⟩
    unfold stateW at q
    refine ⟨_, rfl, _, _, _, _, rfl, rfl, qy, at0, _, _, rfl, rfl, _, rfl, ite2 (fun hd => ?_) (fun hd => ?_)⟩
    · rw [if_pos (of_decide_eq_true hd)] at q
      exact q
    · rw [if_neg (fun z => hd (decide_eq_true z))] at q
      refine ⟨_, rfl, _, _, _, _, rfl, rfl, qx, at0, _, _, rfl, rfl, _, rfl, ite2 (fun hd => ?_) (fun hd => ?_)⟩
      · rw [if_pos (of_decide_eq_true hd)] at q
        exact q
      · rw [if_neg (fun z => hd (decide_eq_true z))] at q
        exact q
end

end K30
end
section
set_option maxRecDepth 100000
set_option maxHeartbeats 400000
namespace K30
open PySem Evl Nc PyProof.Rows
open L2 hiding spCell
section
variable {P : Program} {w : World} {K : PySem.W.Frag} {mg : Str → Option Value} {base : Heap}
/-- a walk over a list, any body -/
theorem it_list {K : PySem.W.Frag} {a : Addr} {xs : List V} {B : V → Hp → (Hp → Prop) → Prop} {H0 : Hp} {Qd : Hp → Prop} (Pv : Nat → Hp → Prop) (h0 : Pv 0 H0) (hl : ∀ i H, i ≤ xs.length → Pv i H → SqL K H a xs)
    (hs : ∀ i x H, xs[i]? = some x → Pv i H → B x H (Pv (i + 1))) (hd : ∀ H, Pv xs.length H → Qd H) :
    ∃ W : Nat → Nat → Hp → Prop, (∃ m, W 0 m H0) ∧ ∀ i m H, W i m H →
      ((Itl K a).stop i H ∧ Qd H) ∨ ((Itl K a).go i H ∧ ∃ Nx : Hp → Prop, (∀ H', Nx H' → ∃ m', m' < m ∧ W (i + 1) m' H') ∧ ∀ x H', (Itl K a).yld i H x H' → B x H' Nx) := by
  refine ⟨fun i m H => m = xs.length - i ∧ i ≤ xs.length ∧ Pv i H, ⟨xs.length, by simp, Nat.zero_le _, h0⟩, ?_⟩
  rintro i m H ⟨rfl, hi, p⟩
  have q := hl i H hi p
  by_cases hlt : i < xs.length
  · refine .inr ⟨⟨xs, xs[i], q, by simp [hlt]⟩, Pv (i + 1), fun H' p' => ⟨xs.length - (i + 1), by omega, rfl, hlt, p'⟩, fun x H' y => ?_⟩
    obtain ⟨e, y⟩ := y
    subst e
    exact hs i x _ (y xs q) p
  · have e : i = xs.length := by omega
    subst e
    exact .inl ⟨⟨xs, q, Nat.le_refl _⟩, hd H p⟩
theorem fours_many : ∀ {ls : List (List Sum2)} {n : Nat} {sp : List Span}, Over n ls → ∀ l ∈ foursAt ls sp, l.length ≤ 4
  | [], _, _, _, l, h => by cases h
  | _ :: _, _, _, ⟨_, o2, o3⟩, l, h => by
    rcases List.mem_cons.mp h with rfl | h
    · rw [List.length_map]
      exact o2.2
    · exact fours_many o3 l h
theorem flat_len {α : Type} : ∀ {X : List (List α)}, (∀ l ∈ X, l.length ≤ 4) → X.flatten.length ≤ 4 * X.length
  | [], _ => Nat.le_refl _
  | l :: X, h => by
    have h1 := h l (by simp)
    have h2 := flat_len (X := X) fun y hy => h y (by simp [hy])
    rw [List.flatten_cons, List.length_append, List.length_cons]
    omega
def fW (f : Four) : V := V.str (stateW f.1)
theorem words_fours (ls : List (List Sum2)) (L : List Span) : (wordsAt ls L).map (fun s => V.str s) = ((foursAt ls L).dropLast.flatten).map fW := by
  unfold wordsAt
  rw [← fours_bounds, ← List.map_dropLast, ← List.map_flatten, List.map_map, List.map_map]
  rfl
def spStatX (K : PySem.W.Frag) (CN CL CC CB : Addr) : Sp := fun vs H Q E => ∃ (p : Addr) (y : V), vs = [.ref p, y] ∧ ((∃ (n : Nat) (ls : List (List Sum2)), NetV K CN CL CC H p n ls ∧ NoBx K H y n ∧ Fly CB y H E) ∨ ∃ (ls : List (List Sum2)) (L : List Span) (W : Nat → Nat) (D : Nat), BxT K H y true ∧ NetV K CN CL CC H p L.length ls ∧ SpsV K true H y L ∧ SpOk L ∧ NetOk L.length ls W ∧ SpSv 1500 D L ∧ Fits W D ∧ ∀ F H', H F = none → Ex H H' → Q (.ref F) H')
theorem ok_states_of (D : Df K mg "states_of" s_states_of ["net", "box"]) {CN CL CC CB : Addr} (GH : OkX P w K mg base 7 "handed_on" ["net", "box"] (spHandX K CN CL CC CB)) (GSt : Ok P w K mg base 1 "_state" ["low", "high"] (spState K)) : OkX P w K mg base 8 "states_of" ["net", "box"] (spStatX K CN CL CC CB) := by
  refine D.okX fun f fd F => F.okX sc_states_of (fun vs H Q E h => ?_) (fun cdv A outer s H vs Q E hr h => ?_)
  · obtain ⟨p, y, rfl, _⟩ := h
    rfl
  · obtain ⟨p, y, rfl, h⟩ := h
    have hr1 : Room 1 _ := hr.mono (by decide)
    refine ⟨_, pss_one (ps_ret (pe_lc2 (own := [("bounds", 2), ("bound", 3)]) (vs1 := [3]) (g := gName 2) (g1 := gName 3) (tt := tYes) (tt1 := tYes) (wi1 := iList K (tVar 2)) rfl sc_states_of.nd (pi_list (pe_slice sl_listE (clX (W := fun cls d _ H => E cls d H) GH (hr.mono (by decide)) (takes_of rfl rfl rfl rfl) (pa_cons (pv 0) (pa_cons (pv 1) pa_nil))) po_none (po_some (pe_un un_neg pe_int)))) (blkOk_by (N := ["net", "box", "bounds", "bound"]) (sc := defScope s_states_of) (by decide +kernel)) (by decide) (fun _ _ _ _ _ => (pg_name (i := 2) sc_states_of.nd rfl (.inl rfl))) (fun _ _ _ _ _ => pts_nil) (fun _ _ _ _ _ => pi_list (pv 2)) (fun _ _ _ _ _ => (pg_name (i := 3) sc_states_of.nd rfl (.inl rfl))) (fun _ _ _ _ _ => pts_nil) (fun _ _ _ _ _ => cl GSt hr1 (pa_cons (pe_ix (ix_tK K) (pv 3) pe_int (fun _ _ => rfl)) (pa_cons (pe_ix (ix_tK K) (pv 3) pe_int (fun _ _ => rfl)) pa_nil))))), ?_⟩
    rcases h with ⟨n, ls, hN, hb, fly⟩ | ⟨ls, L, W, D, hbx, hN, hy, hok, ok, sL, ft, q0⟩
    · exact ⟨_, rfl, _, rfl, p, y, rfl, .inl ⟨n, ls, hN, hb, fly⟩⟩
    have q : ∀ F H', H F = none → Ex H H' → H' F = some (.lst ((wordsAt ls L).map fun s => V.str s)) → Q (.ref F) H' := fun F H' h1 h2 _ => q0 F H' h1 h2
    have l1 := ok.l1
    have l4 := ok.l4
    refine ⟨_, rfl, _, rfl, p, y, rfl, .inr ⟨ls, L, W, D, hbx, hN, hy, hok, ok, sL, ft, fun F rs H1 hF e1 hrs pr => ?_⟩⟩
    have hrl := Paired.length pr
    have hfl := foursAt_length ls L
    have hne : rs ≠ [] := fun z => by
      rw [z] at hrl
      simp at hrl
      omega
    refine ⟨_, rfl, _, rfl, F, rs, rfl, sq_of hrs, fun pS H2 hS eS kS => ?_⟩
    rw [cut_init hne] at kS
    have many : ∀ l ∈ (foursAt ls L).dropLast, l.length ≤ 4 := fun l hl => fours_many ok.over l ((List.dropLast_sublist _).subset hl)
    have dl : (foursAt ls L).dropLast.length ≤ 4 := by rw [List.length_dropLast]; omega
    have pin : Paired (FourL K H F H2) rs.dropLast (foursAt ls L).dropLast := pmono (fun _ _ => FourL.ex eS) (pair_init pr)
    have hpl := Paired.length pin
    have hq := q
    rw [words_fours] at hq
    generalize (foursAt ls L).dropLast = X at many dl pin hpl hq
    generalize rs.dropLast = ws at kS pin hpl
    have E2 := e1.trans eS
    refine ⟨pS, rfl, ⟨_, sq_of kS⟩, fun G hG => ?_⟩
    have hG0 : H G = none := Option.eq_none_iff_forall_ne_some.mpr fun o ho => by
      rw [E2 _ _ ho] at hG
      cases hG
    refine it_list (K := K) (a := pS) (xs := ws) (fun i H' => Ex H2 H' ∧ H' G = some (.lst ((X.take i).flatten.map fW))) ⟨Ex.new hG, upd_same⟩ (fun i H' _ b => sq_of (b.1 _ _ kS)) ?_ ?_
    · rintro i v H' hi ⟨e3, k3⟩
      obtain ⟨l, hl, lv⟩ := pget pin hi
      obtain ⟨a, us, rfl, _, _, qa, pa⟩ := lv
      have hil := (List.getElem?_eq_some_iff.mp hl).1
      have hul := Paired.length pa
      have hm4 := many l (List.mem_of_getElem? hl)
      have hfl2 := flat_len (X := X.take i) fun y hy => many y (List.mem_of_mem_take hy)
      rw [List.length_take] at hfl2
      refine ⟨rfl, ?_⟩
      refine ⟨_, rfl, a, rfl, ⟨_, sq_of (e3 _ _ qa)⟩, ?_⟩
      refine it_list (K := K) (a := a) (xs := us) (fun j H5 => Ex H2 H5 ∧ H5 G = some (.lst ((X.take i).flatten.map fW ++ (l.take j).map fW))) ⟨e3, by rw [k3]; simp⟩ (fun j H5 _ b => ?_) ?_ ?_
      · exact sq_of (b.1 _ _ qa)
      · rintro j u H5 hj ⟨e5, k5⟩
        obtain ⟨f, hf, ff⟩ := pget pa hj
        obtain ⟨tf, va, vb, vx, vy, rfl, qf, fa, fb, _, _⟩ := ff.ex e5
        have hjl := (List.getElem?_eq_some_iff.mp hf).1
        refine ⟨rfl, ?_⟩
        refine ⟨_, rfl, _, _, _, _, rfl, rfl, qf, at0, _, rfl, _, _, _, _, rfl, rfl, qf, at1, va, vb, f.1, rfl, fa, fb, _, k5, sz_lt (by rw [List.length_append, List.length_map, List.length_map, List.length_take]; omega), Ex.mut e5 hG, ?_⟩
        rw [List.take_add_one, hf, List.map_append, ← List.append_assoc]
        exact upd_same
      · rintro H5 ⟨e5, k5⟩
        refine ⟨e5, ?_⟩
        rw [hul, List.take_length] at k5
        rw [k5, List.take_add_one, hl]
        simp
    · rintro H' ⟨e3, k3⟩
      rw [hpl, List.take_length] at k3
      exact hq G H' hG0 (E2.trans e3) k3
end

end K30
end
section
set_option maxRecDepth 100000
set_option maxHeartbeats 4000000
namespace Nc
open PySem PySem.Spec PyProof.Rows L2
/-! ### boxes within boxes, flat boxes (for k31) -/
/-- spans each within the other's -/
def Narrow (A B : List Span) : Prop := Paired (fun p q : Span => q.1 ≤ p.1 ∧ p.1 ≤ p.2 ∧ p.2 ≤ q.2) A B
theorem narrow_len {A B : List Span} (h : Narrow A B) : A.length = B.length := Paired.length h
theorem narrow_picks : ∀ {A B : List Span} {bs : List Bool}, Narrow A B → bs.length = A.length → Within (picks A bs) B
  | _, _, _, .nil, _ => .nil
  | _, _, [], .cons _ _, h => by simp at h
  | p :: _, q :: _, b :: bs, .cons hp t, h => by
    refine .cons ?_ (narrow_picks t (by simpa using h))
    obtain ⟨h1, h2, h3⟩ := hp
    cases b
    · exact ⟨h1, Rat.le_trans h2 h3⟩
    · exact ⟨Rat.le_trans h1 h2, h3⟩
theorem narrow_bnd {A B : List Span} {z : Sum2} (h : Narrow A B) (hl : z.1.length = A.length) : (bnd B z).1 ≤ (bnd A z).1 ∧ (bnd A z).1 ≤ (bnd A z).2 ∧ (bnd A z).2 ≤ (bnd B z).2 := by
  have hb := lowB_len z
  have hb2 := highB_len z
  have w1 := within_tells (z := z) (narrow_picks (bs := lowB z) h (by omega)) (by rw [picks_len (by omega)]; exact hl)
  have w2 := within_tells (z := z) (narrow_picks (bs := highB z) h (by omega)) (by rw [picks_len (by omega)]; exact hl)
  refine ⟨w1.1, ?_, w2.2⟩
  have self : Narrow A A := by
    clear w1 w2 hl hb hb2
    induction h with
    | nil => exact .nil
    | cons hp _ ih => exact .cons ⟨Rat.le_refl, hp.2.1, Rat.le_refl⟩ ih
  have w3 := within_tells (z := z) (narrow_picks (bs := highB z) self (by omega)) (by rw [picks_len (by omega)]; exact hl)
  exact w3.1
theorem narrow_map {A B : List Span} (h : Narrow A B) : ∀ {l : List Sum2}, (∀ z ∈ l, z.1.length = A.length) → Narrow (l.map (bnd A)) (l.map (bnd B))
  | [], _ => .nil
  | z :: l, hl => .cons (narrow_bnd h (hl z (by simp))) (narrow_map h fun y hy => hl y (by simp [hy]))
theorem narrow_cut {A B : List Span} (h : Narrow A B) : Narrow (A.map cutS) (B.map cutS) := by
  induction h with
  | nil => exact .nil
  | cons hp _ ih => exact .cons ⟨cutQ_mono hp.1, cutQ_mono hp.2.1, cutQ_mono hp.2.2⟩ ih
/-- of a box within another all bounds are no wider, with the same corners -/
theorem narrow_fours : ∀ {ls : List (List Sum2)} {A B : List Span}, Narrow A B → Over A.length ls → Paired (Paired fun f g : Four => (g.1.1 ≤ f.1.1 ∧ f.1.1 ≤ f.1.2 ∧ f.1.2 ≤ g.1.2) ∧ f.2 = g.2) (foursAt ls A) (foursAt ls B)
  | [], _, _, _, _ => .nil
  | l :: ls, A, B, h, ⟨o1, o2, o3⟩ => by
    have row : ∀ l' : List Sum2, (∀ z ∈ l', z.1.length = A.length) → Paired (fun f g : Four => (g.1.1 ≤ f.1.1 ∧ f.1.1 ≤ f.1.2 ∧ f.1.2 ≤ g.1.2) ∧ f.2 = g.2) (l'.map (four A)) (l'.map (four B)) := fun l' => by
      induction l' with
      | nil => exact fun _ => .nil
      | cons z l' ih => exact fun hz => .cons ⟨narrow_bnd h (hz z (by simp)), rfl⟩ (ih fun y hy => hz y (by simp [hy]))
    refine .cons (row l o1) (narrow_fours (narrow_cut (narrow_map h o1)) ?_)
    rw [List.length_map, List.length_map]
    exact o3
/-- a spot as a box -/
def flatB (x : List Rat) : List Span := x.map fun r => (r, r)
theorem flat_picks : ∀ {x : List Rat} {bs : List Bool}, bs.length = x.length → picks (flatB x) bs = x
  | [], _, _ => rfl
  | _ :: _, [], h => by simp at h
  | r :: x, b :: bs, h => by
    show pickB (r, r) b :: picks (flatB x) bs = r :: x
    rw [flat_picks (by simpa using h)]
    cases b <;> rfl
theorem flat_bnd {x : List Rat} {z : Sum2} (h : z.1.length = x.length) : bnd (flatB x) z = (tells z x, tells z x) := by
  unfold bnd lowT highT
  rw [flat_picks (by rw [lowB_len, h]), flat_picks (by rw [highB_len, h])]
theorem flat_map {x : List Rat} : ∀ {l : List Sum2}, (∀ z ∈ l, z.1.length = x.length) → l.map (bnd (flatB x)) = flatB (l.map fun z => tells z x)
  | [], _ => rfl
  | z :: l, h => by
    show bnd (flatB x) z :: l.map (bnd (flatB x)) = (tells z x, tells z x) :: flatB (l.map fun z => tells z x)
    rw [flat_bnd (h z (by simp)), flat_map fun y hy => h y (by simp [hy])]
theorem flat_cut (x : List Rat) : (flatB x).map cutS = flatB (x.map cutQ) := by
  unfold flatB
  rw [List.map_map, List.map_map]
  rfl
/-- of a spot alone the bounds are what the nodes come to there -/
theorem flat_all : ∀ {ls : List (List Sum2)} {x : List Rat}, Over x.length ls → boundsAt ls (flatB x) = (rowsAt ls x).map flatB
  | [], _, _ => rfl
  | l :: ls, x, ⟨o1, _, o3⟩ => by
    show l.map (bnd (flatB x)) :: boundsAt ls ((l.map (bnd (flatB x))).map cutS) = flatB (l.map fun z => tells z x) :: (rowsAt ls _).map flatB
    rw [flat_map o1, flat_cut]
    congr 1
    exact flat_all (by rw [List.length_map, List.length_map]; exact o3)
end Nc
end
section
set_option maxRecDepth 100000
set_option maxHeartbeats 4000000
namespace Nc
open PySem PySem.Spec PyProof.Rows L2
/-! ### any walk whose layers have what their nodes need; of a spot alone -/
theorem famT {box : List Span} {n g M : Nat} {ls : List (List Sum2)} (hb : SpB 22 18 6 box) (hn : n = box.length) (h3 : n ≤ 3) (h4 : ls.length ≤ 4) (ov : Over n ls) (gr : GrB g M ls) : Fam 6 box n g M ls (MidT box n g M ls) :=
  ⟨midT0 hb hn h3 ov, fun m => m.len, fun m => m.eq, fun m hi => midT_step hb hn h3 h4 gr m hi⟩
theorem max_self (a : Rat) : maxQ a a = a := by
  unfold maxQ
  rw [if_neg Rat.lt_irrefl]
theorem min_self (a : Rat) : minQ a a = a := by
  unfold minQ
  rw [if_neg Rat.lt_irrefl]
/-- sums that tell just this at the spot -/
def Exact (n : Nat) (x : List Rat) (U O : List Sum2) (y : List Rat) : Prop := Btw n x U O y ∧ Btw n x O U y
theorem exact_thr {n : Nat} {x y : List Rat} {U O : List Sum2} {z : Sum2} (h : Exact n x U O y) (hl : U.length = O.length) (hz : z.1.length = U.length) : tells (thr z U O n) x = tells z y ∧ tells (thr z O U n) x = tells z y := by
  have a := node_btw (z := z) h.1 hl hz
  have b := node_btw (z := z) h.2 hl.symm (by omega)
  exact ⟨by grind, by grind⟩
theorem flat_tgt {n : Nat} {x y : List Rat} {U O : List Sum2} {z : Sum2} (hn : n = x.length) (h : Exact n x U O y) (hl : U.length = O.length) (hz : z.1.length = U.length) (hy : z.1.length = y.length) :
    tgt (flatB x) n U O (flatB y) z = ((thr z U O n, thr z O U n), (tells z y, tells z y)) := by
  obtain ⟨e1, e2⟩ := exact_thr h hl hz
  obtain ⟨l1, l2, _, _⟩ := node_btw (z := z) h.1 hl hz
  unfold tgt
  have a1 : lowT (thr z U O n) (flatB x) = tells z y := by
    unfold lowT
    rw [flat_picks (by rw [lowB_len, l1, hn]), e1]
  have a2 : highT (thr z O U n) (flatB x) = tells z y := by
    unfold highT
    rw [flat_picks (by rw [highB_len, l2, hn]), e2]
  rw [a1, a2, flat_bnd hy, max_self, min_self]
theorem pass_exact {n : Nat} {x : List Rat} {u o : Sum2} {r : Rat} (hu : u.1.length = n) (ho : o.1.length = n) (h1 : tells u x = r) (h2 : tells o x = r) :
    (uPass n ((u, o), (r, r))).1.length = n ∧ (oPass n ((u, o), (r, r))).1.length = n ∧ tells (uPass n ((u, o), (r, r))) x = cutQ r ∧ tells (oPass n ((u, o), (r, r))) x = cutQ r := by
  have f0 := flat0_tells n x
  have fl := flat0_len n
  unfold uPass oPass
  simp only
  rw [cutQ_eq]
  by_cases c : 0 < r
  · have c1 : 0 < (r + r).num := numPos.mpr (by grind)
    have c2 : ¬ r.num ≤ 0 := by
      have := numPos.mpr c
      omega
    have c3 : 0 ≤ r.num := by
      have := numPos.mpr c
      omega
    rw [if_pos c1, if_neg c2, if_pos c3, if_neg (by grind)]
    exact ⟨hu, ho, h1, h2⟩
  · have c1 : ¬ 0 < (r + r).num := fun z => by
      have := numPos.mp z
      grind
    have c2 : r.num ≤ 0 := by
      have : ¬ 0 < r.num := fun z => c (numPos.mp z)
      omega
    rw [if_neg c1, if_pos c2]
    refine ⟨fl, fl, ?_, ?_⟩ <;> rw [f0] <;> split <;> grind
end Nc
end
section
set_option maxRecDepth 100000
set_option maxHeartbeats 400000
namespace K30
open PySem Evl Nc PyProof.Rows
open L2 hiding spCell
theorem lt_of_units {u : Nat} (h : u + 64 < cLine) : u < cLine := by omega
section
variable {P : Program} {w : World} {K : PySem.W.Frag} {mg : Str → Option Value} {base : Heap}
theorem call_isiE {X : Cx} (K : PySem.W.Frag) (h : X.K = K := by rfl) : CallR X (.builtin "isinstance") (rIsi K) := by
  subst h
  exact call_isi
theorem pe_bmK {X : Cx} {o e : Expr} {es : List Expr} {to : TE} {t : TA} {name : Str} {apos cpos : Pos} {T id : String} {r : V → List V → Hp → VK → Prop} (K : PySem.W.Frag) (hK : X.K = K) (pa : PlainAttrs T) (slot : Slot T name id) (hty : typeOf (.builtin id) = pure (.type "method_descriptor")) (hm : MtR X id r) (ho : PE X o to) (ha : PA X (e :: es) t)
    (hbase : attributeBase o name X.env (eval o X.env) = eval o X.env := by rfl)
    (hfew : ((backTo cpos (starEach (e :: es) X.env)).all (fun x => !x.1) && (backToKw cpos (keywordEach [] X.env)).all (fun x => x.1.isSome)
      && decide ((e :: es).length + ([] : List Keyword).length + (if ([] : List Keyword).isEmpty then 0 else 1) < 30)) = true := by rfl)
    (hline : (apos.endLine == cpos.line) = true := by rfl) (hs : starEach (e :: es) X.env = (false, eval e X.env) :: starEach es X.env := by rfl) (hplain : (backTo cpos (starEach es X.env)).any (·.1) = false := by rfl) :
    PE X (.Call (.Attribute o name apos) (e :: es) [] cpos) (tBM K T r to t) := by
  subst hK
  exact pe_bm pa slot hty hm ho ha hbase hfew hline hs hplain
theorem op_eqDK {X : Cx} (K : PySem.W.Frag) (h : X.K = K := by rfl) (hu : X.A.units + 64 < cLine) : OpR X (compareOp .Eq) (rEqD K) := by
  subst h
  exact op_eqD hu
theorem lay_snoc {ds : List PyData} (h : PyData.canLayAll0 ds = true) (dp : PyData.depthAll ds ≤ 5) : PyData.canLayAll0 (ds ++ [.int 5]) = true ∧ PyData.depthAll (ds ++ [.int 5]) ≤ 5 := by
  induction ds with
  | nil => exact ⟨rfl, by decide⟩
  | cons d ds ih =>
    have h : (d.canLay0 && PyData.canLayAll0 ds) = true := h
    have dp : max d.depth (PyData.depthAll ds) ≤ 5 := dp
    obtain ⟨h1, h2⟩ := Bool.and_eq_true_iff.mp h
    obtain ⟨i1, i2⟩ := ih h2 (by omega)
    refine ⟨?_, ?_⟩
    · show (d.canLay0 && PyData.canLayAll0 (ds ++ [.int 5])) = true
      rw [h1, i1]
      rfl
    · show max d.depth (PyData.depthAll (ds ++ [.int 5])) ≤ 5
      omega
theorem shaped_of {d : PyData} (h : d.canLay0 = true) (hd : d.depth ≤ 60) : SeqAt.shaped d = true := by
  unfold SeqAt.shaped
  rw [h, Bool.true_and]
  exact decide_eq_true (by omega)
theorem xfc_of {K : PySem.W.Frag} {C : Addr} (h : ErC K C) : XfC K C := ⟨h.ga, h.gt, h.oex.exC, h.hd⟩
def spRef30 (K : PySem.W.Frag) (CN CL CC : Addr) (fH fS fT : Addr) : Sp := fun vs H Q _ => ∃ (f p : Addr) (v : V) (n : Nat) (ls : List (List Sum2)) (b : Bool) (s : Addr) (m : Nat) (Nw : Addr → Prop), vs = [.ref f, .ref p, v] ∧ (f = fH ∨ f = fS ∨ f = fT) ∧ NetV K CN CL CC H p n ls ∧ 1 ≤ n ∧ n ≤ 3 ∧ (∃ g M, NetOk n ls (wL g M) ∧ GrB g M ls) ∧ LkB K H n v b ∧ EqV K s Nw H m v ∧ m ≤ 100 ∧
  (b = true → ∀ H', Ex H H' → Q .non H') ∧ (b = false → ∀ H', (Ex H H' ∨ ∃ a, v = .ref a ∧ Lst a H ∧ a ≠ s ∧ Nw a ∧ Dk a H H') → EqV K s Nw H' (m + 1) v → LkB K H' n v false → Q (.bl true) H')
theorem rI_bl (b : Bool) : (V.bl (decide (V.bl b = V.bl b))) = V.bl true := by
  rw [decide_eq_true rfl]
theorem ok__law_refused (D : Df K mg "_law_refused" s__law_refused ["_law_ask", "_law_net_here", "_law_thing_here"]) {CB : Addr} (EB : Er P w K mg base "NoBox" CB "found" ["self", "found"]) {CN CL CC fH fS fT CU : Addr} (gU : mg "CutError" = some (.ref CU)) (x1 : PySem.W.exmOne K (.ref CB) (.ref CB) = some true) (GH : OkX P w K mg base 7 "handed_on" ["net", "box"] (spHandX K CN CL CC CB)) (GSt : OkX P w K mg base 8 "states_of" ["net", "box"] (spStatX K CN CL CC CB)) (GT : OkX P w K mg base 10 "tightened" ["net", "box"] (spTighX K CN CL CC CB)) (gH : mg "handed_on" = some (.ref fH)) (gS : mg "states_of" = some (.ref fS)) (gT : mg "tightened" = some (.ref fT)) (misi : mg "isinstance" = none) (mlist : mg "list" = none) (mbool : mg "bool" = none) : Ok P w K mg base 11 "_law_refused" ["_law_ask", "_law_net_here", "_law_thing_here"] (spRef30 K CN CL CC fH fS fT) := by
  refine D.ok fun f fd F => F.ok sc__law_refused (fun vs H Q E h => ?_) (fun cdv A outer s H vs Q E hr h => ?_)
  · obtain ⟨f0, p, v, n, ls, b, s, m, Nw, rfl, _⟩ := h
    rfl
  · obtain ⟨f0, p, v, n, ls, b, s, m, Nw, rfl, hf, hN, n1, n3, ⟨g, M, nok, gr⟩, hl, hv, hm, qg, qb⟩ := h
    have hr7 : Room 7 _ := hr.mono (by decide)
    have hr8 : Room 8 _ := hr.mono (by decide)
    refine ⟨_, (pss_cons (ps_tryX rfl rfl (Clauses.named (i := 3) sc__law_refused.nd rfl rfl ⟨rfl, by decide, .inl EB.gm⟩ (fun a oe cls d pn hz hf => (pss_cons (ps_if (pt_val (pe_callB (call_isiE K) (by rfl) misi (by decide +kernel) (pa_cons (pv 2) (pa_cons (pe_bltn (v := .ty "list") (by rfl) mlist (by decide +kernel) rfl) pa_nil)))) (pss_one (ps_expr (pe_bmK K rfl PySem.F.plainAttrs_list PySem.F.slot_list_append PySem.F.type_list_append mt_append (pv 2) (pa_cons pe_int pa_nil)))) pss_nil)
      (pss_one (ps_ret (pe_and (Nc.pe_or (pe_cmpR (op_eqDK K rfl hr.units) (pe_xf (xfc_of EB.ec) EB.no hz hf (pv 3)) (pv 2) (nomark _)) (pe_cmpR (op_eq_dict (lt_of_units hr.units)) (pe_xf (xfc_of EB.ec) EB.no hz hf (pv 3)) (pv 2) (nomark _))) (pe_one (pe_cmpR op_eq (pe_callB (call_isiE K) (by rfl) misi (by decide +kernel) (pa_cons (pe_xf (xfc_of EB.ec) EB.no hz hf (pv 3)) (pa_cons (pe_bltn (v := .ty "bool") (by rfl) mbool (by decide +kernel) rfl) pa_nil))) (pe_callB (call_isiE K) (by rfl) misi (by decide +kernel) (pa_cons (pv 2) (pa_cons (pe_bltn (v := .ty "bool") (by rfl) mbool (by decide +kernel) rfl) pa_nil))) (nomark _)))))))) (Clauses.plain ⟨rfl, by decide, .inl gU⟩ (fun a oe cls d pn hz hf => pss_one (ps_ret pe_bl)) (Clauses.nil takes0))) (fun W pn xe tk _ => pss_one (ps_expr (Nc.pe_or (clXV GH gH hr7 tk (i := 0) (by rfl) (Or.inl rfl) (pa_cons (pv 1) (pa_cons (pv 2) pa_nil))) (Nc.pe_or (clXV GSt gS hr8 tk (i := 0) (by rfl) (Or.inl rfl) (pa_cons (pv 1) (pa_cons (pv 2) pa_nil))) (clXV GT gT hr tk (i := 0) (by rfl) (Or.inl rfl) (pa_cons (pv 1) (pa_cons (pv 2) pa_nil))))))))
      (pss_one (ps_ret pe_non))), ?_⟩
    have ft : Fits (wL g M) 6 := fits_gr gr.mle (by decide) (by decide)
    cases b with
    | true =>
      obtain ⟨bx, sp, hb, sl⟩ := lk_box hl n1 n3
      subst sl
      rcases hf with rfl | rfl | rfl
      · exact .inl ⟨rfl, _, rfl, _, rfl, p, v, rfl, .inr ⟨ls, sp, _, 6, bx, hN, hb.1, hb.2.2.2.1.ok, nok, hb.2.2.2.1.sv (by decide) (by decide), ft, fun F rs H1 _ e1 _ _ => qg rfl H1 e1⟩⟩
      · exact .inr (.inl ⟨rfl, _, rfl, _, rfl, p, v, rfl, .inr ⟨ls, sp, _, 6, bx, hN, hb.1, hb.2.2.2.1.ok, nok, hb.2.2.2.1.sv (by decide) (by decide), ft, fun F H1 _ e1 => qg rfl H1 e1⟩⟩)
      · exact .inr (.inr ⟨rfl, _, rfl, _, rfl, p, v, rfl, .inr ⟨ls, sp, g, M, 6, _, bx, hN, hb, nok, ft, gr, famT hb.2.2.2.1 rfl hb.2.2.1 nok.l4 nok.over gr, fun F H1 _ e1 => qg rfl H1 e1⟩⟩)
    | false =>
      have nb := lk_nobx hl n1 n3
      have hq := qb rfl
      rcases hf with rfl | rfl | rfl
      · refine .inl ⟨rfl, _, rfl, _, rfl, p, v, rfl, .inl ⟨n, ls, hN, nb, fun d H3 hd e3 hk => ⟨true, x1, fun _ a ha => ?_, fun z => by cases z⟩⟩⟩
        cases hv with
        | @lst c xs ds q0 nx lx px0 lay dp nw =>
          have qx := e3 _ _ q0
          have px := DzA.ex e3 _ _ px0
          refine ⟨_, rfl, .ref c, _, _, _, _, rfl, .ty _, tyL (sq_of qx), kit_ty (kd_lst .lst), _, rfl, ite_t rfl ?_⟩
          refine ⟨_, rfl, .inl ⟨rfl, _, sq_of qx⟩, c, xs, .int 5, rfl, rfl, qx, sz_lt (by omega), ?_⟩
          have ndc : d ≠ c := ne_of hk qx (by intro z; cases z)
          have lc : Lst c H := ⟨_, q0⟩
          have dkc : Dk c H (upd H3 c (.lst (xs ++ [.int 5]))) := (Dk.ex lc e3).trans (Dk.put qx)
          have kc : upd H3 c (.lst (xs ++ [.int 5])) c = some (.lst (xs ++ [.int 5])) := upd_same
          have hk4 : upd H3 c (.lst (xs ++ [.int 5])) d = some (.xd [(("found" : Str), .ref c)]) := by rw [upd_ne ndc]; exact hk
          have px4 : DzA K c (upd H3 c (.lst (xs ++ [.int 5]))) (xs ++ [.int 5]) (ds ++ [.int 5]) := (DzA.dk ⟨_, qx⟩ (Dk.put qx) _ _ px).app (.cons (.int 5) .nil)
          generalize upd H3 c (.lst (xs ++ [.int 5])) = H4 at dkc kc hk4 px4 ⊢
          obtain ⟨lay4, dp4⟩ := lay_snoc lay dp
          have eqd : SeqAt.shaped (.list (ds ++ [.int 5])) = true := shaped_of lay4 (by show PyData.depthAll _ + 1 ≤ 60; omega)
          have ddp : Dp K H4 (.ref c) (.list (ds ++ [.int 5])) := .lst (sq_of kc) (DzA.dp _ _ px4)
          refine .inl ⟨_, rfl, rfl, rfl, d, _, .ref c, rfl, hk4, rfl, _, rfl, _, _, ddp, ddp, eqd, eqd, _, rfl, ?_⟩
          have e1_ : PyData.eqv (.list (ds ++ [.int 5])) (.list (ds ++ [.int 5])) = true := SeqAt.eqv_refl _ (show (PyData.list (ds ++ [.int 5])).canLay0 = true from lay4)
          rw [e1_]
          refine iteT ⟨_, rfl, rfl, rfl, d, _, .ref c, rfl, hk4, rfl, .ref c, _, _, _, _, rfl, .ty _, (tyL (sq_of kc)), kit_ty (kd_bool .lst), _, rfl, .ref c, _, _, _, _, rfl, .ty _, (tyL (sq_of kc)), kit_ty (kd_bool .lst), rfl,  ?_⟩
          refine q_bl (hq H4 (.inr ⟨c, rfl, lc, nx, nw, dkc⟩) (.lst kc nx (by rw [List.length_append]; show xs.length + 1 ≤ m + 1; omega) px4 lay4 dp4 nw) (.oth (k := .lst) ⟨tyL (sq_of kc), fun zz => by cases zz⟩ (by decide))) (decide_eq_true rfl)
        | @dat w dd k h0 kn pd0 y =>
          have h := kd_ex e3 h0
          have pd := Dz.ex e3 _ _ pd0
          refine ⟨_, rfl, v, _, _, _, _, rfl, .ty _, h.1, kit_ty (kd_lst k), _, rfl, ite_f (decide_eq_false kn) ?_⟩
          have sh : SeqAt.shaped dd = true := shaped_of y.lay (Nat.le_trans y.dp (by decide))
          have ddp := Dz.dp _ _ pd
          refine .inl ⟨_, rfl, rfl, rfl, d, _, v, rfl, hk, rfl, _, rfl, _, _, ddp, ddp, sh, sh, _, rfl, ?_⟩
          rw [SeqAt.eqv_refl _ y.lay]
          refine iteT ⟨_, rfl, rfl, rfl, d, _, v, rfl, hk, rfl, v, _, _, _, _, rfl, .ty _, h.1, kit_ty (kd_bool k), _, rfl, v, _, _, _, _, rfl, .ty _, h.1, kit_ty (kd_bool k), rfl,  ?_⟩
          exact q_bl (hq H3 (.inl e3) (.dat h kn pd y) (hl.ex e3)) (decide_eq_true rfl)
        | @dic c q0 =>
          have qx := e3 _ _ q0
          refine ⟨_, rfl, .ref c, _, _, _, _, rfl, .ty _, .base (.dK qx), kit_ty (kd_lst .dic), _, rfl, ite_f rfl ?_⟩
          refine .inr ⟨_, rfl, rfl, rfl, d, _, .ref c, rfl, hk, rfl, _, rfl, c, c, [], rfl, rfl, qx, qx, .nil, (fun z hz => by cases hz), _, rfl, iteT ?_⟩
          refine ⟨_, rfl, rfl, rfl, d, _, .ref c, rfl, hk, rfl, .ref c, _, _, _, _, rfl, .ty _, (.base (.dK qx)), kit_ty (kd_bool .dic), _, rfl, .ref c, _, _, _, _, rfl, .ty _, (.base (.dK qx)), kit_ty (kd_bool .dic), rfl,  ?_⟩
          exact q_bl (hq H3 (.inl e3) (.dic qx) (hl.ex e3)) (decide_eq_true rfl)
      · refine .inr (.inl ⟨rfl, _, rfl, _, rfl, p, v, rfl, .inl ⟨n, ls, hN, nb, fun d H3 hd e3 hk => ⟨true, x1, fun _ a ha => ?_, fun z => by cases z⟩⟩⟩)
        cases hv with
        | @lst c xs ds q0 nx lx px0 lay dp nw =>
          have qx := e3 _ _ q0
          have px := DzA.ex e3 _ _ px0
          refine ⟨_, rfl, .ref c, _, _, _, _, rfl, .ty _, tyL (sq_of qx), kit_ty (kd_lst .lst), _, rfl, ite_t rfl ?_⟩
          refine ⟨_, rfl, .inl ⟨rfl, _, sq_of qx⟩, c, xs, .int 5, rfl, rfl, qx, sz_lt (by omega), ?_⟩
          have ndc : d ≠ c := ne_of hk qx (by intro z; cases z)
          have lc : Lst c H := ⟨_, q0⟩
          have dkc : Dk c H (upd H3 c (.lst (xs ++ [.int 5]))) := (Dk.ex lc e3).trans (Dk.put qx)
          have kc : upd H3 c (.lst (xs ++ [.int 5])) c = some (.lst (xs ++ [.int 5])) := upd_same
          have hk4 : upd H3 c (.lst (xs ++ [.int 5])) d = some (.xd [(("found" : Str), .ref c)]) := by rw [upd_ne ndc]; exact hk
          have px4 : DzA K c (upd H3 c (.lst (xs ++ [.int 5]))) (xs ++ [.int 5]) (ds ++ [.int 5]) := (DzA.dk ⟨_, qx⟩ (Dk.put qx) _ _ px).app (.cons (.int 5) .nil)
          generalize upd H3 c (.lst (xs ++ [.int 5])) = H4 at dkc kc hk4 px4 ⊢
          obtain ⟨lay4, dp4⟩ := lay_snoc lay dp
          have eqd : SeqAt.shaped (.list (ds ++ [.int 5])) = true := shaped_of lay4 (by show PyData.depthAll _ + 1 ≤ 60; omega)
          have ddp : Dp K H4 (.ref c) (.list (ds ++ [.int 5])) := .lst (sq_of kc) (DzA.dp _ _ px4)
          refine .inl ⟨_, rfl, rfl, rfl, d, _, .ref c, rfl, hk4, rfl, _, rfl, _, _, ddp, ddp, eqd, eqd, _, rfl, ?_⟩
          have e1_ : PyData.eqv (.list (ds ++ [.int 5])) (.list (ds ++ [.int 5])) = true := SeqAt.eqv_refl _ (show (PyData.list (ds ++ [.int 5])).canLay0 = true from lay4)
          rw [e1_]
          refine iteT ⟨_, rfl, rfl, rfl, d, _, .ref c, rfl, hk4, rfl, .ref c, _, _, _, _, rfl, .ty _, (tyL (sq_of kc)), kit_ty (kd_bool .lst), _, rfl, .ref c, _, _, _, _, rfl, .ty _, (tyL (sq_of kc)), kit_ty (kd_bool .lst), rfl,  ?_⟩
          refine q_bl (hq H4 (.inr ⟨c, rfl, lc, nx, nw, dkc⟩) (.lst kc nx (by rw [List.length_append]; show xs.length + 1 ≤ m + 1; omega) px4 lay4 dp4 nw) (.oth (k := .lst) ⟨tyL (sq_of kc), fun zz => by cases zz⟩ (by decide))) (decide_eq_true rfl)
        | @dat w dd k h0 kn pd0 y =>
          have h := kd_ex e3 h0
          have pd := Dz.ex e3 _ _ pd0
          refine ⟨_, rfl, v, _, _, _, _, rfl, .ty _, h.1, kit_ty (kd_lst k), _, rfl, ite_f (decide_eq_false kn) ?_⟩
          have sh : SeqAt.shaped dd = true := shaped_of y.lay (Nat.le_trans y.dp (by decide))
          have ddp := Dz.dp _ _ pd
          refine .inl ⟨_, rfl, rfl, rfl, d, _, v, rfl, hk, rfl, _, rfl, _, _, ddp, ddp, sh, sh, _, rfl, ?_⟩
          rw [SeqAt.eqv_refl _ y.lay]
          refine iteT ⟨_, rfl, rfl, rfl, d, _, v, rfl, hk, rfl, v, _, _, _, _, rfl, .ty _, h.1, kit_ty (kd_bool k), _, rfl, v, _, _, _, _, rfl, .ty _, h.1, kit_ty (kd_bool k), rfl,  ?_⟩
          exact q_bl (hq H3 (.inl e3) (.dat h kn pd y) (hl.ex e3)) (decide_eq_true rfl)
        | @dic c q0 =>
          have qx := e3 _ _ q0
          refine ⟨_, rfl, .ref c, _, _, _, _, rfl, .ty _, .base (.dK qx), kit_ty (kd_lst .dic), _, rfl, ite_f rfl ?_⟩
          refine .inr ⟨_, rfl, rfl, rfl, d, _, .ref c, rfl, hk, rfl, _, rfl, c, c, [], rfl, rfl, qx, qx, .nil, (fun z hz => by cases hz), _, rfl, iteT ?_⟩
          refine ⟨_, rfl, rfl, rfl, d, _, .ref c, rfl, hk, rfl, .ref c, _, _, _, _, rfl, .ty _, (.base (.dK qx)), kit_ty (kd_bool .dic), _, rfl, .ref c, _, _, _, _, rfl, .ty _, (.base (.dK qx)), kit_ty (kd_bool .dic), rfl,  ?_⟩
          exact q_bl (hq H3 (.inl e3) (.dic qx) (hl.ex e3)) (decide_eq_true rfl)
      · refine .inr (.inr ⟨rfl, _, rfl, _, rfl, p, v, rfl, .inl ⟨n, ls, hN, nb, fun d H3 hd e3 hk => ⟨true, x1, fun _ a ha => ?_, fun z => by cases z⟩⟩⟩)
        cases hv with
        | @lst c xs ds q0 nx lx px0 lay dp nw =>
          have qx := e3 _ _ q0
          have px := DzA.ex e3 _ _ px0
          refine ⟨_, rfl, .ref c, _, _, _, _, rfl, .ty _, tyL (sq_of qx), kit_ty (kd_lst .lst), _, rfl, ite_t rfl ?_⟩
          refine ⟨_, rfl, .inl ⟨rfl, _, sq_of qx⟩, c, xs, .int 5, rfl, rfl, qx, sz_lt (by omega), ?_⟩
          have ndc : d ≠ c := ne_of hk qx (by intro z; cases z)
          have lc : Lst c H := ⟨_, q0⟩
          have dkc : Dk c H (upd H3 c (.lst (xs ++ [.int 5]))) := (Dk.ex lc e3).trans (Dk.put qx)
          have kc : upd H3 c (.lst (xs ++ [.int 5])) c = some (.lst (xs ++ [.int 5])) := upd_same
          have hk4 : upd H3 c (.lst (xs ++ [.int 5])) d = some (.xd [(("found" : Str), .ref c)]) := by rw [upd_ne ndc]; exact hk
          have px4 : DzA K c (upd H3 c (.lst (xs ++ [.int 5]))) (xs ++ [.int 5]) (ds ++ [.int 5]) := (DzA.dk ⟨_, qx⟩ (Dk.put qx) _ _ px).app (.cons (.int 5) .nil)
          generalize upd H3 c (.lst (xs ++ [.int 5])) = H4 at dkc kc hk4 px4 ⊢
          obtain ⟨lay4, dp4⟩ := lay_snoc lay dp
          have eqd : SeqAt.shaped (.list (ds ++ [.int 5])) = true := shaped_of lay4 (by show PyData.depthAll _ + 1 ≤ 60; omega)
          have ddp : Dp K H4 (.ref c) (.list (ds ++ [.int 5])) := .lst (sq_of kc) (DzA.dp _ _ px4)
          refine .inl ⟨_, rfl, rfl, rfl, d, _, .ref c, rfl, hk4, rfl, _, rfl, _, _, ddp, ddp, eqd, eqd, _, rfl, ?_⟩
          have e1_ : PyData.eqv (.list (ds ++ [.int 5])) (.list (ds ++ [.int 5])) = true := SeqAt.eqv_refl _ (show (PyData.list (ds ++ [.int 5])).canLay0 = true from lay4)
          rw [e1_]
          refine iteT ⟨_, rfl, rfl, rfl, d, _, .ref c, rfl, hk4, rfl, .ref c, _, _, _, _, rfl, .ty _, (tyL (sq_of kc)), kit_ty (kd_bool .lst), _, rfl, .ref c, _, _, _, _, rfl, .ty _, (tyL (sq_of kc)), kit_ty (kd_bool .lst), rfl,  ?_⟩
          refine q_bl (hq H4 (.inr ⟨c, rfl, lc, nx, nw, dkc⟩) (.lst kc nx (by rw [List.length_append]; show xs.length + 1 ≤ m + 1; omega) px4 lay4 dp4 nw) (.oth (k := .lst) ⟨tyL (sq_of kc), fun zz => by cases zz⟩ (by decide))) (decide_eq_true rfl)
        | @dat w dd k h0 kn pd0 y =>
          have h := kd_ex e3 h0
          have pd := Dz.ex e3 _ _ pd0
          refine ⟨_, rfl, v, _, _, _, _, rfl, .ty _, h.1, kit_ty (kd_lst k), _, rfl, ite_f (decide_eq_false kn) ?_⟩
          have sh : SeqAt.shaped dd = true := shaped_of y.lay (Nat.le_trans y.dp (by decide))
          have ddp := Dz.dp _ _ pd
          refine .inl ⟨_, rfl, rfl, rfl, d, _, v, rfl, hk, rfl, _, rfl, _, _, ddp, ddp, sh, sh, _, rfl, ?_⟩
          rw [SeqAt.eqv_refl _ y.lay]
          refine iteT ⟨_, rfl, rfl, rfl, d, _, v, rfl, hk, rfl, v, _, _, _, _, rfl, .ty _, h.1, kit_ty (kd_bool k), _, rfl, v, _, _, _, _, rfl, .ty _, h.1, kit_ty (kd_bool k), rfl,  ?_⟩
          exact q_bl (hq H3 (.inl e3) (.dat h kn pd y) (hl.ex e3)) (decide_eq_true rfl)
        | @dic c q0 =>
          have qx := e3 _ _ q0
          refine ⟨_, rfl, .ref c, _, _, _, _, rfl, .ty _, .base (.dK qx), kit_ty (kd_lst .dic), _, rfl, ite_f rfl ?_⟩
          refine .inr ⟨_, rfl, rfl, rfl, d, _, .ref c, rfl, hk, rfl, _, rfl, c, c, [], rfl, rfl, qx, qx, .nil, (fun z hz => by cases hz), _, rfl, iteT ?_⟩
          refine ⟨_, rfl, rfl, rfl, d, _, .ref c, rfl, hk, rfl, .ref c, _, _, _, _, rfl, .ty _, (.base (.dK qx)), kit_ty (kd_bool .dic), _, rfl, .ref c, _, _, _, _, rfl, .ty _, (.base (.dK qx)), kit_ty (kd_bool .dic), rfl,  ?_⟩
          exact q_bl (hq H3 (.inl e3) (.dic qx) (hl.ex e3)) (decide_eq_true rfl)
end

end K30
end
section
set_option maxRecDepth 100000
set_option maxHeartbeats 400000
namespace K30
open PySem Evl Nc PyProof.Rows
open L2 hiding spCell
section
variable {P : Program} {w : World} {K : PySem.W.Frag} {mg : Str → Option Value} {base : Heap}
theorem dk_none {s F : Addr} {H H' : Hp} (h : Lst s H') (d : Dk s H H') (hF : H' F = none) : H F = none := by
  refine Option.eq_none_iff_forall_ne_some.mpr fun o ho => ?_
  have := d.keep F o (h.ne hF).symm ho
  rw [hF] at this
  cases this
theorem sdI {s : Addr} : StaysD (fun (_ : Hp) (v : V) (c : Nat) => v = V.int (c : Int)) s := ⟨fun _ h => h, fun _ _ h => h⟩
theorem pair_int {H : Hp} : ∀ {xs : List V} {cs : List Nat}, Paired ((fun (_ : Hp) (v : V) (c : Nat) => v = V.int (c : Int)) H) xs cs → xs = cs.map fun (c : Nat) => V.int (c : Int)
  | _, _, .nil => rfl
  | _, _, .cons h t => by
    rw [h, pair_int (H := H) t]
    rfl
theorem ok__law_shape (D : Df K mg "_law_shape" s__law_shape ["_law_stream_here"]) (GT : Ok P w K mg base 1 "_law_take" ["_law_stream_here", "_law_many"] spTake3) (mint : mg "int" = none) (mrange : mg "range" = none) : Ok P w K mg base 2 "_law_shape" ["_law_stream_here"] spSize3 := by
  refine D.ok fun f fd F => F.ok sc__law_shape (fun vs H Q E h => ?_) (fun cdv A outer s H vs Q E hr h => ?_)
  · obtain ⟨s, rfl, _⟩ := h
    rfl
  · obtain ⟨s, rfl, hS, q⟩ := h
    have hr1 : Room 1 _ := hr.mono (by decide)
    refine ⟨_, (pss_cons (ps_set (i := 1) sc__law_shape.nd rfl (.inl rfl) (pe_op op_add pe_int (pe_ix (ix_lK K) (pe_lst (pa_cons (cl GT hr1 (pa_cons (pv 0) (pa_cons pe_int pa_nil))) (pa_cons pe_int pa_nil))) (pe_callTy call_int1 (by rfl) mint (by decide +kernel) (pa_cons (pe_cmpR op_eq (cl GT hr1 (pa_cons (pv 0) (pa_cons pe_int pa_nil))) pe_int (nomark _)) pa_nil)) (fun _ _ => rfl))))
      (pss_one (ps_ret (pe_lc (own := [("_law_k", 2)]) (g := gName 2) (tt := tYes) rfl sc__law_shape.nd (pi_range1 (by rfl) mrange (pa_cons (pv 1) pa_nil)) (blkOk_by (N := ["_law_stream_here", "_law_many", "_law_k"]) (sc := defScope s__law_shape) (by decide +kernel)) (fun _ _ _ _ _ => (pg_name (i := 2) sc__law_shape.nd rfl (.inl rfl))) (fun _ _ _ _ _ => pts_nil) (fun _ _ _ _ _ => (pe_op op_add pe_int (pe_ix (ix_lK K) (pe_lst (pa_cons (cl GT hr1 (pa_cons (pv 0) (pa_cons pe_int pa_nil))) (pa_cons pe_int pa_nil))) (pe_callTy call_int1 (by rfl) mint (by decide +kernel) (pa_cons (pe_cmpR op_eq (cl GT hr1 (pa_cons (pv 0) (pa_cons pe_int pa_nil))) pe_int (nomark _)) pa_nil)) (fun _ _ => rfl)))))))), ?_⟩
    refine ⟨_, rfl, s, _, rfl, hS, by decide, by decide, fun d H1 a0 a1 r1 t1 => ⟨(by show 2 ≤ sizeLine; decide), fun p hp => ?_⟩⟩
    refine ⟨_, rfl, s, _, rfl, t1.new hp, by decide, by decide, fun d2 H2 b0 b1 r2 t2 => ?_⟩
    have hp2 := r2.keep p _ (Ne.symm (t1.lst.ne hp)) upd_same
    obtain ⟨v, hv, hmm⟩ := at_mem (xs := [.int d, .int 3]) (d := if decide (V.int d2 = V.int 0) = true then 1 else 0) (by split <;> decide) (by
      show (if decide (V.int d2 = V.int 0) = true then (1 : Int) else 0) < 2
      split <;> decide)
    have hv2 : ∃ z : Int, v = .int z ∧ 0 ≤ z ∧ z ≤ 3 := by
      simp only [List.mem_cons, List.not_mem_nil, or_false] at hmm
      rcases hmm with rfl | rfl
      · exact ⟨_, rfl, a0, by omega⟩
      · exact ⟨_, rfl, by omega, by omega⟩
    obtain ⟨z, rfl, z0, z1⟩ := hv2
    have r12 := (r1.trans (Dk.new (o := .lst [.int d, .int 3]) t1.lst hp)).trans r2
    refine ⟨rfl, .inr ⟨_, rfl, p, _, _, _, rfl, rfl, sq_of hp2, hv, _, _, rfl, rfl, ?_⟩⟩

    refine ⟨_, rfl, 1 + z, rfl, by omega, by omega, fun F hF => ?_⟩
    refine lc_range (lo := 0) (n := (1 + z).toNat) (BldD (fun (_ : Hp) (v : V) (c : Nat) => v = V.int (c : Int)) (fun L => ∀ c ∈ L, 1 ≤ c ∧ c ≤ 4) s H2 F) (bdd0 t2 hF (fun _ z => by cases z)) ?_ ?_
    · rintro i H' hi b
      obtain ⟨_, _, _, _, _, _, d0, t0⟩ := id b
      refine ⟨rfl, ?_⟩
      refine ⟨_, rfl, s, _, rfl, t0, by decide, by decide, fun d H1 a0 a1 r1 t1 => ⟨(by show 2 ≤ sizeLine; decide), fun p hp => ?_⟩⟩
      refine ⟨_, rfl, s, _, rfl, t1.new hp, by decide, by decide, fun d2 H2 b0 b1 r2 t2' => ?_⟩
      have hp2 := r2.keep p _ (Ne.symm (t1.lst.ne hp)) upd_same
      obtain ⟨v, hv, hmm⟩ := at_mem (xs := [.int d, .int 3]) (d := if decide (V.int d2 = V.int 0) = true then 1 else 0) (by split <;> decide) (by
        show (if decide (V.int d2 = V.int 0) = true then (1 : Int) else 0) < 2
        split <;> decide)
      have hv2 : ∃ z : Int, v = .int z ∧ 0 ≤ z ∧ z ≤ 3 := by
        simp only [List.mem_cons, List.not_mem_nil, or_false] at hmm
        rcases hmm with rfl | rfl
        · exact ⟨_, rfl, a0, by omega⟩
        · exact ⟨_, rfl, by omega, by omega⟩
      obtain ⟨z, rfl, z0, z1⟩ := hv2
      have r12 := (r1.trans (Dk.new (o := .lst [.int d, .int 3]) t1.lst hp)).trans r2
      refine ⟨rfl, .inr ⟨_, rfl, p, _, _, _, rfl, rfl, sq_of hp2, hv, _, _, rfl, rfl, ?_⟩⟩

      refine bdd_step sdI t2.lst hF b (by omega) r12 t2' (show V.int (1 + z) = V.int (((1 + z).toNat : Nat) : Int) by rw [show (((1 + z).toNat : Nat) : Int) = 1 + z by omega]) (fun L hL _ c hc => ?_)
      rcases List.mem_append.mp hc with hc | hc
      · exact hL c hc
      · rw [List.mem_singleton.mp hc]
        omega
    · rintro H' ⟨L, xs, hx, pl, hn, hP, d1, t1'⟩
      rw [pair_int (H := H') pl] at hx
      exact q F L H' (dk_none t2.lst r12 hF) (r12.trans d1) t1' hx (by omega) (by omega) hP
def spBox30 (K : PySem.W.Frag) : Sp := fun vs H Q _ => ∃ (s : Addr) (n : Nat), vs = [.ref s, .int (n : Int)] ∧ St3 s H ∧ n ≤ 3 ∧ ∀ v sp H', Dk s H H' → St3 s H' → SpsV K true H' v sp → sp.length = n → SpB 21 12 6 sp → Q v H'
theorem ok__law_box (D : Df K mg "_law_box" s__law_box ["_law_stream_here", "_law_ins"]) (GT : Ok P w K mg base 1 "_law_take" ["_law_stream_here", "_law_many"] spTake3) (GM : Ok P w K mg base 1 "_law_made" ["_law_top", "_law_bottom"] (spPart K)) (GP : Ok P w K mg base 2 "_law_plus" ["_law_one", "_law_other"] (spPlus K)) (mrange : mg "range" = none) (mtuple : mg "tuple" = none) : Ok P w K mg base 3 "_law_box" ["_law_stream_here", "_law_ins"] (spBox30 K) := by
  refine D.ok fun f fd F => F.ok sc__law_box (fun vs H Q E h => ?_) (fun cdv A outer s H vs Q E hr h => ?_)
  · obtain ⟨s, n, rfl, _⟩ := h
    rfl
  · obtain ⟨s, n, rfl, hS, hn3, q⟩ := h
    have hr1 : Room 1 _ := hr.mono (by decide)
    have hr2 : Room 2 _ := hr.mono (by decide)
    refine ⟨_, (pss_cons (ps_set (i := 2) sc__law_box.nd rfl (.inl rfl) (pe_lst pa_nil))
      (pss_cons (ps_for PassesOwn.never rfl (pi_range1 (by rfl) mrange (pa_cons (pv 1) pa_nil)) (pg_name (i := 3) sc__law_box.nd rfl (.inl rfl)) (pss_cons (ps_set (i := 4) sc__law_box.nd rfl (.inl rfl) (cl GM hr1 (pa_cons (pe_op op_sub (cl GT hr1 (pa_cons (pv 0) (pa_cons pe_int pa_nil))) pe_int) (pa_cons (pe_op op_add pe_int (cl GT hr1 (pa_cons (pv 0) (pa_cons pe_int pa_nil)))) pa_nil))))
      (pss_cons (ps_set (i := 5) sc__law_box.nd rfl (.inl rfl) (pe_ix (ix_lK K) (pe_lst (pa_cons pe_int (pa_cons (cl GT hr1 (pa_cons (pv 0) (pa_cons pe_int pa_nil))) (pa_cons (pe_op op_add pe_int (cl GT hr1 (pa_cons (pv 0) (pa_cons pe_int pa_nil)))) pa_nil)))) (cl GT hr1 (pa_cons (pv 0) (pa_cons pe_int pa_nil))) (fun _ _ => rfl)))
      (pss_one (ps_expr (pe_bm PySem.F.plainAttrs_list PySem.F.slot_list_append PySem.F.type_list_append mt_append (pv 2) (pa_cons (pe_tup (pa_cons (pv 4) (pa_cons (cl GP hr2 (pa_cons (pv 4) (pa_cons (cl GM hr1 (pa_cons (pv 5) (pa_cons (pe_op op_add pe_int (cl GT hr1 (pa_cons (pv 0) (pa_cons pe_int pa_nil)))) pa_nil))) pa_nil))) pa_nil))) pa_nil)))))))
      (pss_one (ps_ret (pe_callTy call_tuple_of (by rfl) mtuple (by decide +kernel) (pa_cons (pv 2) pa_nil)))))), ?_⟩
    refine ⟨(by show 0 ≤ sizeLine; decide), fun F hF => ?_⟩
    have b0 : BldD (SpanV K) (fun sp => SpB 21 12 6 sp) s H F 0 (upd H F (.lst [])) := bdd0 hS hF spb_nil
    refine ⟨_, rfl, (n : Int), rfl, by omega, by omega, for_range (lo := 0) (n := ((n : Int)).toNat) (fun i σ H' => ∃ o3 o4 o5 : Option V, σ = [some (.ref s), some (.int (n : Int)), some (.ref F), o3, o4, o5] ∧ BldD (SpanV K) (fun sp => SpB 21 12 6 sp) s H F i H') ⟨none, none, none, rfl, b0⟩ ?_ ?_⟩
    · rintro i σ H' hi ⟨o3, o4, o5, rfl, b⟩
      rw [Int.toNat_natCast] at hi
      obtain ⟨_, xs, hxs, hpl, hLn, _, d0, t0⟩ := id b
      have hxl := Paired.length hpl
      refine ⟨_, rfl, s, _, rfl, t0, by decide, by decide, fun d H1 a0 a1 r1 t1 => ⟨_, _, rfl, rfl, _, rfl, s, _, rfl, t1, by decide, by decide, fun c H2 c0 c1 r2 t2 => ⟨_, _, rfl, rfl, ?_⟩⟩⟩
      obtain ⟨cb0, cb1, cb2⟩ := d6 c0 c1
      refine ⟨_, _, 100, rfl, cb0, cb1, by decide, .inl (by decide), fun lo H3 e3 hlo => ?_⟩
      have slo : Bd 9 6 (Rat.divInt (d - 9) (1 + c)) := bd_div cb0 (by have : ((9 : Nat) : Int) = 9 := rfl; omega) (by have : ((9 : Nat) : Int) = 9 := rfl; omega) cb2
      generalize Rat.divInt (d - 9) (1 + c) = l0 at hlo slo
      have t3 := t2.ex e3
      have r3 := (r1.trans r2).then e3
      -- how wide
      refine ⟨_, rfl, s, _, rfl, t3, by decide, by decide, fun x1 H4 x10 x11 r4 t4 => ⟨_, rfl, s, _, rfl, t4, by decide, by decide, fun x2 H5 x20 x21 r5 t5 => ⟨_, _, rfl, rfl, (by show 3 ≤ sizeLine; decide), fun p hp => ?_⟩⟩⟩
      refine ⟨_, rfl, s, _, rfl, t5.new hp, by decide, by decide, fun x3 H6 x30 x31 r6 t6 => ?_⟩
      have hp6 := r6.keep p _ (Ne.symm (t5.lst.ne hp)) upd_same
      obtain ⟨v, hv, hm⟩ := at_mem (xs := [.int 0, .int x1, .int (1 + x2)]) x30 (by simpa using x31)
      have hv2 : ∃ z : Int, v = .int z ∧ 0 ≤ z ∧ z ≤ 12 := by
        simp only [List.mem_cons, List.not_mem_nil, or_false] at hm
        rcases hm with rfl | rfl | rfl
        · exact ⟨_, rfl, by omega, by omega⟩
        · exact ⟨_, rfl, by omega, by omega⟩
        · exact ⟨_, rfl, by omega, by omega⟩
      obtain ⟨z, rfl, z0, z1⟩ := hv2
      have r46 := ((r4.trans r5).trans (Dk.new (o := .lst [.int 0, .int x1, .int (1 + x2)]) t5.lst hp)).trans r6
      refine ⟨p, _, x3, _, rfl, rfl, sq_of hp6, hv, ?_⟩
      have hF6 := ((r3.trans r46).keep F _ (hS.lst.ne hF).symm hxs)
      refine ⟨_, rfl, .inl ⟨rfl, _, sq_of hF6⟩, _, rfl, _, rfl, _, rfl, _, rfl, s, _, rfl, t6, by decide, by decide, fun c' H7 c0' c1' r7 t7 => ⟨_, _, rfl, rfl, ?_⟩⟩
      obtain ⟨cb0', cb1', cb2'⟩ := d6 c0' c1'
      refine ⟨_, _, 100, rfl, cb0', cb1', by decide, .inl (by decide), fun wv H8 e8 hw => ?_⟩
      have sw : Bd 12 6 (Rat.divInt z (1 + c')) := bd_div cb0' (by have : ((12 : Nat) : Int) = 12 := rfl; omega) (by have : ((12 : Nat) : Int) = 12 := rfl; omega) cb2'
      have w0 : (0 : Rat) ≤ Rat.divInt z (1 + c') := Rat.divInt_nonneg z0 (by omega)
      generalize Rat.divInt z (1 + c') = w1 at hw sw w0
      have hlo8 := (hlo.dk t3.lst r46).dk t6.lst (r7.then e8)
      refine ⟨lo, wv, l0, w1, 8, 3, 8, 3, rfl, hlo8, hw, slo.sz (k := 5) (b := 3) (by decide) (by decide) (by decide), sw.sz (k := 5) (b := 3) (by decide) (by decide) (by decide), ⟨by decide, by decide, by decide, by decide, by decide, by decide⟩, fun hi' H9 e9 hhi => ⟨(by show 2 ≤ sizeLine; decide), fun pp hpp => ?_⟩⟩
      have eA : Ex H9 (upd H9 pp (.tup [lo, hi'])) := Ex.new hpp
      have rA := ((r3.trans r46).trans (r7.then e8)).then (e9.trans eA)
      have tA := (t7.ex e8).ex (e9.trans eA)
      have spv : SpanV K (upd H9 pp (.tup [lo, hi'])) (.ref pp) (l0, l0 + w1) := ⟨pp, lo, hi', rfl, st_of upd_same, hlo8.ex (e9.trans eA), hhi.ex eA⟩
      have pz : ∀ L : List Span, SpB 21 12 6 L → L.length = i → SpB 21 12 6 (L ++ [(l0, l0 + w1)]) := by
        intro L hL _
        have w12 := sw.1.2
        have e12 : ((12 : Nat) : Rat) = 12 := rfl
        exact spb_snoc hL ⟨slo.mono (by decide) (Nat.dvd_refl _), slo.add (by decide) sw⟩ (by show l0 ≤ l0 + w1; grind) (by
          have e18 : ((12 : Nat) : Rat) = 12 := rfl
          show l0 + w1 - l0 ≤ _
          rw [e18]
          rw [e12] at w12
          grind)
      obtain ⟨acc, hacc, hsz, bb⟩ := bdd_step (a := (l0, l0 + w1)) sdSp hS.lst hF b (by omega) rA tA spv pz
      exact ⟨F, acc, .ref pp, rfl, rfl, hacc, hsz, _, _, _, rfl, bb⟩
    · rintro σ H' ⟨o3, o4, o5, rfl, ⟨L, xs, hx, pl, hn', h1, d1, t1⟩⟩
      rw [Int.toNat_natCast] at hn'
      refine ⟨_, rfl, F, xs, rfl, .inl ⟨sq_of hx, fun l hl' => ?_⟩⟩
      have e := Ex.new (o := .tup xs) hl'
      exact q _ L _ (d1.then e) (t1.ex e) ⟨l, xs, rfl, st_of upd_same, pmono (fun _ _ => SpanV.ex e) pl⟩ hn' h1
end

end K30
end
section
set_option maxRecDepth 100000
set_option maxHeartbeats 400000
namespace K30
open PySem Evl Nc PyProof.Rows
open L2 hiding spCell
section
variable {P : Program} {w : World} {K : PySem.W.Frag} {mg : Str → Option Value} {base : Heap}
theorem over_set : ∀ {ls : List (List Sum2)} {n j : Nat} {l l' : List Sum2}, Over n ls → ls[j]? = some l → l'.length = l.length → (∀ m, (∀ z ∈ l, z.1.length = m) → ∀ z ∈ l', z.1.length = m) → Over n (ls.set j l')
  | [], _, _, _, _, _, h, _, _ => by simp at h
  | a :: ls, n, 0, l, l', ⟨o1, o2, o3⟩, h, hl, hz => by
    rw [List.getElem?_cons_zero] at h
    cases h
    exact ⟨hz n o1, by omega, by rw [hl]; exact o3⟩
  | a :: ls, n, j + 1, l, l', ⟨o1, o2, o3⟩, h, hl, hz => ⟨o1, o2, over_set o3 (by simpa using h) hl hz⟩
def LyX (K : PySem.W.Frag) (s D : Addr) (H0 H : Hp) (v : V) (l : List Sum2) : Prop := LyS K s H v l ∧ v ≠ .ref D ∧ ∀ a, v = .ref a → H0 a = none
theorem pair_first {α β : Type} {R : α → β → Prop} {xs : List α} {ys : List β} (p : Paired R xs ys) (h : 1 ≤ ys.length) : ∃ b l u us, ys = b :: l ∧ xs = u :: us ∧ R u b ∧ Paired R us l := by
  cases p with
  | nil => exact absurd h (by simp)
  | cons a t => exact ⟨_, _, _, _, rfl, rfl, a, t⟩
theorem pair_of_get {α β : Type} {R : α → β → Prop} : ∀ {xs : List α} {ys : List β}, xs.length = ys.length → (∀ (k : Nat) x y, xs[k]? = some x → ys[k]? = some y → R x y) → Paired R xs ys
  | [], [], _, _ => .nil
  | x :: xs, y :: ys, h, f => .cons (f 0 x y rfl rfl) (pair_of_get (by simpa using h) fun k a b h1 h2 => f (k + 1) a b (by simpa using h1) (by simpa using h2))
theorem nodup_at {α : Type} {xs : List α} {i j : Nat} {a : α} (nd : xs.Nodup) (hi : xs[i]? = some a) (hj : xs[j]? = some a) : i = j := by
  obtain ⟨i1, rfl⟩ := List.getElem?_eq_some_iff.mp hi
  obtain ⟨j1, e⟩ := List.getElem?_eq_some_iff.mp hj
  rcases Nat.lt_trichotomy i j with h | h | h
  · exact absurd e.symm (List.pairwise_iff_getElem.mp nd i j i1 j1 h)
  · exact h
  · exact absurd e (List.pairwise_iff_getElem.mp nd j i j1 i1 h)
theorem over_one : ∀ {n : Nat} {ls : List (List Sum2)} {l : List Sum2}, Over n ls → l ∈ ls → 1 ≤ l.length
  | _, [], _, _, h => by cases h
  | _, _ :: _, _, ⟨_, o2, o3⟩, h => by
    rcases List.mem_cons.mp h with rfl | h
    · exact o2.1
    · exact over_one o3 h
def Num6 (ls : List (List Sum2)) : Prop := ∀ l ∈ ls, ∀ z ∈ l, BdL 4 6 z.1 ∧ Bd 4 6 z.2
theorem gr_at {M j : Nat} {ls : List (List Sum2)} {l l' : List Sum2} {z0 : Sum2} {gv : Rat} (m0 : 0 < M) (mle : M ≤ M0) (nu : Num6 ls) (hl : ls[j]? = some l) (el : l = z0 :: l') (bg : Bd 10 M gv) : GrB j M (ls.set j ((z0.1, gv) :: l')) := by
  have hj := (List.getElem?_eq_some_iff.mp hl).1
  have six : ∀ i k, 6 ∣ wN j M i k := fun i k => by
    unfold wN
    split
    · exact Nat.dvd_mul_right 6 M
    · exact Nat.dvd_refl 6
  refine ⟨m0, mle, fun i x hx k z hz => ?_⟩
  by_cases e : i = j
  · subst e
    rw [List.getElem?_set_self hj] at hx
    cases hx
    cases k with
    | zero =>
      have ez : (z0.1, gv) = z := Option.some.inj hz
      subst ez
      have h0 := nu l (List.mem_of_getElem? hl) z0 (by rw [el]; simp)
      refine ⟨h0.1.mono (Nat.le_refl _) (six _ _), ?_⟩
      unfold wN
      rw [if_pos ⟨rfl, rfl⟩]
      exact bg.mono (Nat.le_refl _) (Nat.dvd_mul_left M 6)
    | succ k =>
      have hz' : l'[k]? = some z := by simpa using hz
      have h0 := nu l (List.mem_of_getElem? hl) z (by rw [el]; simp [List.mem_of_getElem? hz'])
      exact ⟨h0.1.mono (Nat.le_refl _) (six _ _), h0.2.mono (by decide) (six _ _)⟩
  · rw [List.getElem?_set_ne (Ne.symm e)] at hx
    have h0 := nu x (List.mem_of_getElem? hx) z (List.mem_of_getElem? hz)
    exact ⟨h0.1.mono (Nat.le_refl _) (six _ _), h0.2.mono (by decide) (six _ _)⟩
theorem gr_none {ls : List (List Sum2)} (nu : Num6 ls) : GrB 9 1 ls := by
  refine ⟨by decide, by decide, fun i x hx k z hz => ?_⟩
  have h0 := nu x (List.mem_of_getElem? hx) z (List.mem_of_getElem? hz)
  have six : 6 ∣ wN 9 1 i k := by
    unfold wN
    split
    · exact ⟨1, rfl⟩
    · exact Nat.dvd_refl 6
  exact ⟨h0.1.mono (Nat.le_refl _) six, h0.2.mono (by decide) six⟩
def big30 : Int := (10 : Int) ^ (30 : Int).toNat
def big29 : Int := (10 : Int) ^ (29 : Int).toNat
theorem big_30 {d e : Int} (h0 : 0 ≤ d) (h1 : d < 2000) (g0 : 0 ≤ e) (g1 : e < 1000) : 0 < big29 + e ∧ (big29 + e).natAbs < 2 ^ 100 ∧ 0 < (big29 + e).toNat ∧ (big29 + e).toNat ≤ M0 ∧ Bd 10 (big29 + e).toNat (Rat.divInt (big30 - 1 - d) (big29 + e)) ∧ (big30 - 1 - d).natAbs < 2 ^ 100 := by
  have e30 : big30 = 1000000000000000000000000000000 := by decide
  have e29 : big29 = 100000000000000000000000000000 := by decide
  have eM : M0 = 100000000000000000000000001000 := by decide
  have t10 : ((10 : Nat) : Int) = 10 := rfl
  rw [e30, e29, eM]
  exact ⟨by omega, by omega, by omega, by omega, bd_div (by omega) (by rw [t10]; omega) (by rw [t10]; omega) (Nat.dvd_refl _), by omega⟩
theorem ok__law_layers (D : Df K mg "_law_layers" s__law_layers ["_law_stream_here", "_law_ins", "_law_shape_here"]) (GT : Ok P w K mg base 1 "_law_take" ["_law_stream_here", "_law_many"] spTake3) (GM : Ok P w K mg base 1 "_law_made" ["_law_top", "_law_bottom"] (spPart K)) (GD : Ok P w K mg base 3 "_law_node" ["_law_stream_here", "_law_many"] (spNode3B K)) (mrange : mg "range" = none) (mlen : mg "len" = none) : Ok P w K mg base 4 "_law_layers" ["_law_stream_here", "_law_ins", "_law_shape_here"] (spLays3B K) := by
  refine D.ok fun f fd F => F.ok sc__law_layers (fun vs H Q E h => ?_) (fun cdv A outer s H vs Q E hr h => ?_)
  · obtain ⟨s, S, n, cs, rfl, _⟩ := h
    rfl
  · obtain ⟨s, S, n, cs, rfl, hS, hSs, hcs, c1, c4, hc, hn1, hn3, q⟩ := h
    have hr1 : Room 1 _ := hr.mono (by decide)
    have hr2 : Room 2 _ := hr.mono (by decide)
    have hr3 : Room 3 _ := hr.mono (by decide)
    refine ⟨_, (pss_cons (ps_set (i := 3) sc__law_layers.nd rfl (.inl rfl) (pe_lst pa_nil))
      (pss_cons (ps_set (i := 4) sc__law_layers.nd rfl (.inr rfl) (pv 1))
      (pss_cons (ps_for PassesOwn.never rfl (pi_list (pv 2)) (pg_name (i := 5) sc__law_layers.nd rfl (.inl rfl)) (pss_cons (ps_expr (pe_bm PySem.F.plainAttrs_list PySem.F.slot_list_append PySem.F.type_list_append mt_append (pv 3) (pa_cons (pe_lc (own := [("_law_k", 8)]) (g := gName 8) (tt := tYes) rfl sc__law_layers.nd (pi_range1 (by rfl) mrange (pa_cons (pv 5) pa_nil)) (blkOk_by (N := ["_law_stream_here", "_law_ins", "_law_shape_here", "_law_layers_here", "_law_many", "_law_nodes", "_law_great", "_law_layer", "_law_k"]) (sc := defScope s__law_layers) (by decide +kernel)) (fun _ _ _ _ _ => (pg_name (i := 8) sc__law_layers.nd rfl (.inl rfl))) (fun _ _ _ _ _ => pts_nil) (fun _ _ _ _ _ => cl GD hr3 (pa_cons (pv 0) (pa_cons (pv 4) pa_nil)))) pa_nil)))
      (pss_one (ps_set (i := 4) sc__law_layers.nd rfl (.inr rfl) (pv 5)))))
      (pss_cut (ps_if (pt_cmpR op_eq (cl GT hr1 (pa_cons (pv 0) (pa_cons pe_int pa_nil))) pe_int (nomark _)) (pss_cons (ps_set (i := 6) sc__law_layers.nd rfl (.inl rfl) (cl GM hr1 (pa_cons (pe_op op_sub (pe_op op_sub (pe_op op_pow pe_int pe_int) pe_int) (cl GT hr1 (pa_cons (pv 0) (pa_cons pe_int pa_nil)))) (pa_cons (pe_op op_add (pe_op op_pow pe_int pe_int) (cl GT hr1 (pa_cons (pv 0) (pa_cons pe_int pa_nil)))) pa_nil))))
      (pss_cons (ps_set (i := 7) sc__law_layers.nd rfl (.inl rfl) (pe_ix ix_list (pv 3) (cl GT hr1 (pa_cons (pv 0) (pa_cons (pe_callB call_len_seq (by rfl) mlen PySem.boot_len (pa_cons (pv 3) pa_nil)) pa_nil))) (fun _ _ => rfl)))
      (pss_one (ps_asg (pe_tup (pa_cons (pe_ix ix_tup (pe_ix ix_list (pv 7) pe_int (fun _ _ => rfl)) pe_int (fun _ _ => rfl)) (pa_cons (pe_tup (pa_cons (pe_op op_mul (pe_ix ix_tup (pv 6) pe_int (fun _ _ => rfl)) (pe_op op_sub (pe_op op_mul pe_int (cl GT hr1 (pa_cons (pv 0) (pa_cons pe_int pa_nil)))) pe_int)) (pa_cons (pe_ix ix_tup (pv 6) pe_int (fun _ _ => rfl)) pa_nil))) pa_nil))) (pg_sub (pv 7) pe_int set_list))))) pss_nil)
      (pss_one (ps_ret (pv 3))))))), ?_⟩
    refine ⟨(by show 0 ≤ sizeLine; decide), fun D hD => ?_⟩
    have hsD := hS.lst.ne hD
    have e0 : Ex H (upd H D (.lst [])) := Ex.new hD
    have k0 : upd H D (.lst []) D = some (.lst []) := upd_same
    have S0 := hS.ex e0
    have D0 : Dk s H (upd H D (.lst [])) := Dk.ex hS.lst e0
    generalize upd H D (.lst []) = H0 at e0 k0 S0 D0 ⊢
    refine ⟨_, rfl, _, rfl, S, rfl, ⟨_, sq_of (e0 _ _ hcs)⟩, ?_⟩
    refine for_list (K := K) (a := S) (xs := cs.map fun (c : Nat) => V.int (c : Int)) (fun i σ H' => ∃ (o5 o6 o7 o8 : Option V) (n' : Nat) (ls : List (List Sum2)) (ys : List V), σ = [some (.ref s), some (.int (n : Int)), some (.ref S), some (.ref D), some (.int (n' : Int)), o5, o6, o7, o8] ∧ H' D = some (.lst ys) ∧ ys.Nodup ∧ Paired (LyX K s D H H') ys ls ∧ ls.length = i ∧ Over n ls ∧ lastN n ls = n' ∧ 1 ≤ n' ∧ n' ≤ 4 ∧ Num6 ls ∧ Dk s H H' ∧ St3 s H')
      ⟨none, none, none, none, n, [], [], rfl, k0, .nil, .nil, rfl, trivial, rfl, hn1, by omega, (fun _ z => by cases z), D0, S0⟩ (fun i σ H' _ ⟨_, _, _, _, _, _, _, _, _, _, _, _, _, _, _, _, _, d, _⟩ => sq_of (d.keep _ _ hSs hcs)) ?_ ?_
    · rintro i x σ H2 hi ⟨o5, o6, o7, o8, n', ls, ys, rfl, hx, nd, pl, hn, ov, la, a1, a4, nu, r2, t2⟩
      rw [List.getElem?_map] at hi
      obtain ⟨m, hm, rfl⟩ := Option.map_eq_some_iff.mp hi
      obtain ⟨m1, m4⟩ := hc m (List.mem_of_getElem? hm)
      refine ⟨_, rfl, .inl ⟨rfl, _, sq_of hx⟩, _, rfl, (m : Int), rfl, by omega, by omega, fun G hG => ?_⟩
      have hsG := t2.lst.ne hG
      have hDG : D ≠ G := ne_of_none hx hG
      refine lc_range (lo := 0) (n := ((m : Int)).toNat) (BldD (SumV K) (fun l => ∀ z ∈ l, z.1.length = n' ∧ BdL 4 6 z.1 ∧ Bd 4 6 z.2) s H2 G) (bdd0 t2 hG (fun _ z => by cases z)) ?_ ?_
      · rintro j H4 hj b
        rw [Int.toNat_natCast] at hj
        obtain ⟨_, _, _, _, _, _, d4, t4⟩ := id b
        refine ⟨rfl, ?_⟩
        refine ⟨_, rfl, _, rfl, s, n', rfl, t4, by omega, fun v z H5 r5 t5 hv z1 z2 z3 => ?_⟩
        refine bdd_step sdS t2.lst hG b (by omega) r5 t5 hv (fun l hl _ a ha => ?_)
        rcases List.mem_append.mp ha with ha | ha
        · exact hl a ha
        · rw [List.mem_singleton.mp ha]
          exact ⟨z1, z2, z3⟩
      · rintro H4 ⟨l, xs, hxs, pz, hl, hz, r4, t4⟩
        rw [Int.toNat_natCast] at hl
        have x4 := r4.keep D _ (Ne.symm hsD) hx
        have p4 : Paired (LyX K s D H H4) ys ls := pmono (fun _ _ q => ⟨LyS.dk t2.lst r4 q.1, q.2⟩) pl
        have hly := Paired.length p4
        have hi' := (List.getElem?_eq_some_iff.mp hm).1
        refine ⟨D, ys, _, rfl, rfl, x4, sz_lt (by omega), ?_⟩
        have em : ∀ {b : Addr} {o : HO}, b ≠ D → H4 b = some o → upd H4 D (.lst (ys ++ [.ref G])) b = some o := fun hb ho => by
          rw [upd_ne hb]
          exact ho
        have lm : ∀ {v l}, LyX K s D H H4 v l → LyX K s D H (upd H4 D (.lst (ys ++ [.ref G]))) v l := by
          rintro v l ⟨⟨a, zs, rfl, na, qa, pa⟩, nv⟩
          exact ⟨⟨a, zs, rfl, na, em (fun z => nv.1 (by rw [z])) qa, pmono (fun _ _ => SumV.mut x4) pa⟩, nv⟩
        obtain ⟨v1, v2⟩ := over_snoc ov (l := l) (by rw [la]; exact fun z hz' => (hz z hz').1) (by omega) (by omega)
        have nd' : (ys ++ [V.ref G]).Nodup := by
          rw [List.nodup_append]
          refine ⟨nd, by simp, fun a ha b hb => ?_⟩
          rw [List.mem_singleton.mp hb]
          rintro rfl
          obtain ⟨k, hk⟩ := List.mem_iff_getElem?.mp ha
          obtain ⟨l', _, ⟨a, zs, ea, _, qa, _⟩, _⟩ := pget pl hk
          cases ea
          rw [hG] at qa
          cases qa
        refine ⟨_, rfl, _, _, _, _, m, ls ++ [l], ys ++ [.ref G], rfl, upd_same, nd', ?_, by simp [hn], v1, v2.trans (by omega), m1, m4, ?_, (r2.trans r4).mut hD hsD, t4.mut hsD⟩
        · exact Paired.snoc (pmono (fun _ _ => lm) p4) ⟨⟨G, xs, rfl, Ne.symm hsG, em (Ne.symm hDG) hxs, pmono (fun _ _ => SumV.mut x4) pz⟩, fun e => hDG (V.ref.inj e).symm, fun b e => by rw [← V.ref.inj e]; exact dk_none t2.lst r2 hG⟩
        · intro a ha z hz'
          rcases List.mem_append.mp ha with ha | ha
          · exact nu a ha z hz'
          · rw [List.mem_singleton.mp ha] at hz'
            exact (hz z hz').2
    · rintro σ H2 ⟨o5, o6, o7, o8, n', ls, ys, rfl, hx, nd, pl, hn, ov, la, a1, a4, nu, r2, t2⟩
      rw [List.length_map] at hn
      refine ⟨fun σ H' => ∃ (ls' : List (List Sum2)) (g M : Nat) (o5 o6 o7 o8 : Option V), σ = [some (.ref s), some (.int (n : Int)), some (.ref S), some (.ref D), some (.int (n' : Int)), o5, o6, o7, o8] ∧ Dk s H H' ∧ St3 s H' ∧ LayS K s H' D ls' ∧ NetOk n ls' (wL g M) ∧ GrB g M ls', ?_, ?_⟩
      · refine ⟨_, rfl, s, _, rfl, t2, by decide, by decide, fun d H3 a0 a1' r3 t3 => ⟨rfl, _, rfl, ite2 (fun _ => ?_) (fun _ => ?_)⟩⟩
        · refine ⟨_, _, rfl, rfl, ⟨by decide, by decide, by decide⟩, _, _, rfl, rfl, _, rfl, s, _, rfl, t3, by decide, by decide, fun d1 H4 b0 b1 r4 t4 => ⟨_, _, rfl, rfl, _, _, rfl, rfl, ⟨by decide, by decide, by decide⟩, _, rfl, s, _, rfl, t4, by decide, by decide, fun d2 H5 g0 g1 r5 t5 => ⟨_, _, rfl, rfl, ?_⟩⟩⟩
          obtain ⟨hb, hb2, hM0, hMl, hbd, _⟩ := big_30 b0 b1 g0 g1
          refine ⟨big30 - 1 - d1, big29 + d2, 100, rfl, hb, hb2, by decide, .inl (by decide), fun gv H6 e6 hgv => ?_⟩
          generalize (big29 + d2).toNat = M at hM0 hMl hbd
          generalize Rat.divInt (big30 - 1 - d1) (big29 + d2) = g at hgv hbd
          have t6 := t5.ex e6
          have r6 := ((r3.trans r4).trans r5).then e6
          have hyl := Paired.length pl
          have hx6 := r6.keep D _ (Ne.symm hsD) hx
          refine ⟨_, rfl, _, rfl, _, rfl, D, _, rfl, .inl (sq_of hx6), s, _, rfl, t6, by omega, by omega, fun d3 H7 j0 j1 r7 t7 => ?_⟩
          have hj : d3.toNat < ls.length := by omega
          obtain ⟨l, hl⟩ : ∃ l, ls[d3.toNat]? = some l := ⟨_, List.getElem?_eq_getElem hj⟩
          obtain ⟨y, hy, ⟨a, us, rfl, na, qa, pa⟩, nD, nH⟩ := pget' pl hl
          have nH' := nH a rfl
          have hlm := List.mem_of_getElem? hl
          have d3e : d3 = ((d3.toNat : Nat) : Int) := by omega
          have hx7 := r7.keep D _ (Ne.symm hsD) hx6
          have r27 := r6.trans r7
          have qa7 := r27.keep a _ na qa
          have pa7 : Paired (SumV K H7) us l := pmono (fun _ _ q => SumV.dk t2.lst r27 q) pa
          have l1 : 1 ≤ l.length := over_one ov hlm
          have hat : atI ys d3 = some (.ref a) := by rw [d3e]; exact atI_nat hy
          refine ⟨D, ys, _, _, rfl, rfl, sq_of hx7, hat, ?_⟩
          obtain ⟨z0, l', u0, us', rfl, rfl, hz0, pr0⟩ := pair_first pa7 l1
          obtain ⟨tz, va, vb, rfl, qz, ra, fb⟩ := hz0
          refine ⟨_, rfl, a, _, 0, _, rfl, rfl, sq_of qa7, at0, tz, _, 0, _, rfl, rfl, qz, at0, ?_⟩
          have hg7 := hgv.dk t6.lst r7
          have hg70 := hg7
          obtain ⟨tg, rfl, qtg⟩ := hg7
          refine ⟨_, rfl, _, _, _, _, rfl, rfl, qtg, at0, _, rfl, s, _, rfl, t7, by decide, by decide, fun d5 H8 k0' k1' r8 t8 => ⟨_, _, rfl, rfl, .inl ⟨by decide, by decide⟩, _, _, rfl, rfl, _, _, rfl, rfl, .inr ⟨by omega, by omega⟩, ?_⟩⟩
          have qtg8 := sqt_dk t7.lst r8 qtg
          refine ⟨_, rfl, _, _, _, _, rfl, rfl, qtg8, at1, (by show 2 ≤ sizeLine; decide), fun pm hpm => ⟨(by show 2 ≤ sizeLine; decide), fun pq hpq => ?_⟩⟩
          have em : Ex H8 (upd H8 pm (.tup [.int (g.num * (2 * d5 - 1)), .int (g.den : Int)])) := Ex.new hpm
          have km : upd H8 pm (.tup [.int (g.num * (2 * d5 - 1)), .int (g.den : Int)]) pm = some (.tup [.int (g.num * (2 * d5 - 1)), .int (g.den : Int)]) := upd_same
          obtain ⟨sgn, s1, s2⟩ : ∃ q : Rat, (q = 1 ∨ q = -1) ∧ (g * q).num = g.num * (2 * d5 - 1) ∧ (g * q).den = g.den := by
            have : d5 = 0 ∨ d5 = 1 := by omega
            rcases this with rfl | rfl
            · refine ⟨-1, .inr rfl, ?_, ?_⟩
              · rw [show g * (-1 : Rat) = -g by grind, Rat.neg_num]
                omega
              · rw [show g * (-1 : Rat) = -g by grind, Rat.neg_den]
            · refine ⟨1, .inl rfl, ?_, ?_⟩
              · rw [Rat.mul_one]
                omega
              · rw [Rat.mul_one]
          obtain ⟨s2, s3⟩ := s2
          have sn : Bd 10 M (g * sgn) := by
            rcases s1 with rfl | rfl
            · rw [Rat.mul_one]
              exact hbd
            · rw [show g * (-1 : Rat) = -g by grind]
              exact hbd.neg
          have hnv : FrV K (upd H8 pm (.tup [.int (g.num * (2 * d5 - 1)), .int (g.den : Int)])) (.ref pm) (g * sgn) := ⟨pm, rfl, by rw [s2, s3]; exact st_of km⟩
          generalize hnvv : V.ref pm = nv at hpq hnv
          have e10 := Ex.refl (upd H8 pm (.tup [.int (g.num * (2 * d5 - 1)), .int (g.den : Int)]))
          generalize hHH : upd H8 pm (.tup [.int (g.num * (2 * d5 - 1)), .int (g.den : Int)]) = H10 at em km hnv e10 hpq ⊢
          have r911 := em.trans (e10.trans (Ex.new (o := .tup [va, nv]) hpq))
          have r711 := r8.then r911
          have r211 := r27.trans r711
          have t11 := t8.ex r911
          have k11 : upd H10 pq (.tup [va, nv]) pq = some (.tup [va, nv]) := upd_same
          have ra11 := (ra.dk t7.lst r711)
          have nv11 := hnv.ex (Ex.new (o := .tup [va, nv]) hpq)
          generalize upd H10 pq (.tup [va, nv]) = H11 at r711 r211 t11 k11 ra11 nv11 ⊢
          have qa11 := r711.keep a _ na qa7
          refine ⟨_, rfl, a, _, _, 0, rfl, rfl, qa11, (by unfold ixN; simp), ?_⟩
          refine ⟨ls.set d3.toNat ((z0.1, g * sgn) :: l'), d3.toNat, M, _, _, _, _, rfl, (r2.trans r211).mut nH' (Ne.symm na), t11.mut (Ne.symm na), ?_, ?_, gr_at hM0 hMl nu hl rfl sn⟩
          · have haD : a ≠ D := fun z => nD (by rw [z])
            have x11 := r711.keep D _ (Ne.symm hsD) hx7
            refine ⟨Ne.symm hsD, ys, by rw [upd_ne (Ne.symm haD)]; exact x11, ?_⟩
            refine pair_of_get (by rw [List.length_set]; omega) fun k yk lk h1 h2 => ?_
            by_cases ek : k = d3.toNat
            · subst ek
              rw [hy] at h1
              cases h1
              rw [List.getElem?_set_self (by omega)] at h2
              cases h2
              refine ⟨a, _, rfl, na, upd_same, .cons (SumV.mut qa11 ⟨pq, va, nv, rfl, st_of k11, ra11, nv11⟩) (pmono (fun _ _ q => SumV.mut qa11 (SumV.dk t7.lst r711 q)) pr0)⟩
            · rw [List.getElem?_set_ne (Ne.symm ek)] at h2
              obtain ⟨lk', hlk, ⟨b, zs, rfl, nb, qb, pb⟩, _⟩ := pget pl h1
              rw [h2] at hlk
              cases hlk
              have hba : b ≠ a := by
                rintro rfl
                exact ek (nodup_at nd h1 hy)
              refine ⟨b, zs, rfl, nb, by rw [upd_ne hba]; exact r211.keep b _ nb qb, pmono (fun _ _ q => SumV.mut qa11 (SumV.dk t2.lst r211 q)) pb⟩
          · refine netok_gr hn1 hn3 (over_set ov hl rfl (fun m hm z hz => ?_)) (by rw [List.length_set]; omega) (by rw [List.length_set]; omega) (gr_at hM0 hMl nu hl rfl sn)
            rcases List.mem_cons.mp hz with rfl | hz
            · exact hm z0 (by simp)
            · exact hm z (by simp [hz])
        · exact ⟨ls, 9, 1, _, _, _, _, rfl, r2.trans r3, t3, ⟨Ne.symm hsD, ys, r3.keep D _ (Ne.symm hsD) hx, pmono (fun _ _ q => LyS.dk t2.lst r3 q.1) pl⟩, netok_gr hn1 hn3 ov (by omega) (by omega) (gr_none nu), gr_none nu⟩
      · rintro σ H3 ⟨ls', g, M, o5, o6, o7, o8, rfl, r3, t3, hl, ok, hW⟩
        exact ⟨_, rfl, q D ls' H3 g M hD r3 t3 hl ok hW⟩
end

end K30
end
section
set_option maxRecDepth 100000
set_option maxHeartbeats 400000
namespace K30
open PySem Evl Nc PyProof.Rows
open L2 hiding spCell
section
variable {P : Program} {w : World} {K : PySem.W.Frag} {mg : Str → Option Value} {base : Heap}
/-- ins, layers, a box, as they are handed about -/
def WorldV (K : PySem.W.Frag) (s : Addr) (H : Hp) (v : V) (n : Nat) (ls : List (List Sum2)) (sp : List Span) : Prop := ∃ t D bx, v = .ref t ∧ SqT K H t [.int (n : Int), .ref D, bx] ∧ LayS K s H D ls ∧ SpsV K true H bx sp
structure WorldOk (n : Nat) (ls : List (List Sum2)) (sp : List Span) : Prop where
  net : ∃ g M : Nat, NetOk n ls (wL g M) ∧ GrB g M ls
  len : sp.length = n
  sz : SpB 21 12 6 sp
def spWorld (K : PySem.W.Frag) : Sp := fun vs H Q _ => ∃ s : Addr, vs = [.ref s] ∧ St3 s H ∧ ∀ v n ls sp H', Dk s H H' → St3 s H' → WorldV K s H' v n ls sp → WorldOk n ls sp → Q v H'
theorem ok__law_world (D : Df K mg "_law_world" s__law_world ["_law_stream_here"]) (GT : Ok P w K mg base 1 "_law_take" ["_law_stream_here", "_law_many"] spTake3) (GS : Ok P w K mg base 2 "_law_shape" ["_law_stream_here"] spSize3) (GL : Ok P w K mg base 4 "_law_layers" ["_law_stream_here", "_law_ins", "_law_shape_here"] (spLays3B K)) (GB : Ok P w K mg base 3 "_law_box" ["_law_stream_here", "_law_ins"] (spBox30 K)) (mint : mg "int" = none) : Ok P w K mg base 5 "_law_world" ["_law_stream_here"] (spWorld K) := by
  refine D.ok fun f fd F => F.ok sc__law_world (fun vs H Q E h => ?_) (fun cdv A outer s H vs Q E hr h => ?_)
  · obtain ⟨s, rfl, _⟩ := h
    rfl
  · obtain ⟨s, rfl, hS, q⟩ := h
    have hr1 : Room 1 _ := hr.mono (by decide)
    have hr2 : Room 2 _ := hr.mono (by decide)
    have hr3 : Room 3 _ := hr.mono (by decide)
    refine ⟨_, (pss_cons (ps_set (i := 1) sc__law_world.nd rfl (.inl rfl) (pe_op op_add pe_int (pe_ix (ix_lK K) (pe_lst (pa_cons (cl GT hr1 (pa_cons (pv 0) (pa_cons pe_int pa_nil))) (pa_cons pe_int pa_nil))) (pe_callTy call_int1 (by rfl) mint (by decide +kernel) (pa_cons (pe_cmpR op_eq (cl GT hr1 (pa_cons (pv 0) (pa_cons pe_int pa_nil))) pe_int (nomark _)) pa_nil)) (fun _ _ => rfl))))
      (pss_cons (ps_set (i := 2) sc__law_world.nd rfl (.inl rfl) (cl GL hr (pa_cons (pv 0) (pa_cons (pv 1) (pa_cons (cl GS hr2 (pa_cons (pv 0) pa_nil)) pa_nil)))))
      (pss_one (ps_ret (pe_tup (pa_cons (pv 1) (pa_cons (pv 2) (pa_cons (cl GB hr3 (pa_cons (pv 0) (pa_cons (pv 1) pa_nil))) pa_nil)))))))), ?_⟩
    refine ⟨_, rfl, s, _, rfl, hS, by decide, by decide, fun d H1 a0 a1 r1 t1 => ⟨(by show 2 ≤ sizeLine; decide), fun p hp => ?_⟩⟩
    refine ⟨_, rfl, s, _, rfl, t1.new hp, by decide, by decide, fun d2 H2 b0 b1 r2 t2 => ?_⟩
    have hp2 := r2.keep p _ (Ne.symm (t1.lst.ne hp)) upd_same
    obtain ⟨v, hv, hmm⟩ := at_mem (xs := [.int d, .int 2]) (d := if decide (V.int d2 = V.int 0) = true then 1 else 0) (by split <;> decide) (by
      show (if decide (V.int d2 = V.int 0) = true then (1 : Int) else 0) < 2
      split <;> decide)
    have hv2 : ∃ z : Int, v = .int z ∧ 0 ≤ z ∧ z ≤ 2 := by
      simp only [List.mem_cons, List.not_mem_nil, or_false] at hmm
      rcases hmm with rfl | rfl
      · exact ⟨_, rfl, a0, by omega⟩
      · exact ⟨_, rfl, by omega, by omega⟩
    obtain ⟨z, rfl, z0, z1⟩ := hv2
    have r12 := (r1.trans (Dk.new (o := .lst [.int d, .int 2]) t1.lst hp)).trans r2
    refine ⟨rfl, .inr ⟨_, rfl, p, _, _, _, rfl, rfl, sq_of hp2, hv, _, _, rfl, rfl, ?_⟩⟩

    have ez : 1 + z = (((1 + z).toNat : Nat) : Int) := by omega
    have n1 : 1 ≤ (1 + z).toNat := by omega
    have n3 : (1 + z).toNat ≤ 3 := by omega
    generalize hn : (1 + z).toNat = n at ez n1 n3
    refine ⟨_, rfl, _, rfl, _, rfl, s, rfl, t2, fun S cs H3 hS0 r3 t3 hcs c1 c4 hc => ?_⟩
    have hSs : S ≠ s := (t2.lst.ne hS0).symm
    refine ⟨s, S, n, cs, (by show [V.ref s, V.int (1 + z), V.ref S] = _; rw [ez]), t3, hSs, hcs, c1, c4, hc, n1, n3, fun D ls H4 g M hD r4 t4 hl ok m1 => ?_⟩
    refine ⟨_, rfl, _, rfl, _, rfl, _, rfl, s, n, (by show [V.ref s, V.int (1 + z)] = _; rw [ez]), t4, n3, fun bx sp H5 r5 t5 hb b1 b2 => ⟨(by show 3 ≤ sizeLine; decide), fun p9 hp9 => ?_⟩⟩
    have e9 : Ex H5 (upd H5 p9 (.tup [.int (1 + z), .ref D, bx])) := Ex.new hp9
    refine q _ n ls sp _ ((((r12.trans r3).trans r4).trans r5).then e9) (t5.ex e9) ⟨p9, D, bx, rfl, by rw [← ez]; exact st_of upd_same, LayS.ex e9 (LayS.dk t4.lst r5 hl), hb.ex e9⟩ ⟨⟨g, M, ok, m1⟩, b1, b2⟩
end

end K30
end
section
set_option maxRecDepth 100000
set_option maxHeartbeats 400000
namespace K30
open PySem Evl Nc PyProof.Rows
open L2 hiding spCell
section
variable {P : Program} {w : World} {K : PySem.W.Frag} {mg : Str → Option Value} {base : Heap}
def LayT (K : PySem.W.Frag) (H : Hp) (v : V) (ls : List (List Sum2)) : Prop := ∃ D ys, v = .ref D ∧ SqT K H D ys ∧ Paired (NodesV K H) ys ls
def spAreLaysT (K : PySem.W.Frag) : Sp := fun vs H Q _ => ∃ (x : V) (n : Nat) (ls : List (List Sum2)) (W : Nat → Nat), vs = [x, .int (n : Int)] ∧ LayT K H x ls ∧ NetOk n ls W ∧ ∀ H', Ex H H' → Q (.bl true) H'
def spInitT (K : PySem.W.Frag) (CN CL CC : Addr) : Sp := fun vs H Q _ => ∃ (p dx : Addr) (x : V) (n : Nat) (ls : List (List Sum2)) (W : Nat → Nat), vs = [.ref p, .int (n : Int), x] ∧ H p = some (.ins CN dx []) ∧ LayT K H x ls ∧ NetOk n ls W ∧
  ∀ H', (∀ b o, b ≠ p → H b = some o → H' b = some o) → NetV K CN CL CC H' p n ls → Q .non H'
theorem LayT.ch {K : PySem.W.Frag} {H H' : Hp} {p C dx : Addr} {fs : List (Str × V)} {v : V} {ls : List (List Sum2)} (hp : H p = some (.ins C dx fs)) (c : Ch p H H') (h : LayT K H v ls) : LayT K H' v ls := by
  obtain ⟨D, ys, rfl, q, pl⟩ := h
  exact ⟨D, ys, rfl, sqt_ch hp c q, pmono (fun _ _ q => NodesV.ch hp c q) pl⟩
theorem okT__are_layers (D : Df K mg "_are_layers" s__are_layers ["thing", "ins"]) {tML tMN : Tok} (GI : Ok P w K mg base 4 "is_sum" ["thing", "many"] (spIsSum K)) (mML : mg "MOST_LAYERS" = some (.int 4 tML)) (mMN : mg "MOST_NODES" = some (.int 4 tMN)) (misi : mg "isinstance" = none) (mtuple : mg "tuple" = none) (mlist : mg "list" = none) (mlen : mg "len" = none) (mall : mg "all" = none) : Ok P w K mg base 5 "_are_layers" ["thing", "ins"] (spAreLaysT K) := by
  refine D.ok fun f fd F => F.ok sc__are_layers (fun vs H Q E h => ?_) (fun cdv A outer s H vs Q E hr h => ?_)
  · obtain ⟨x, n, ls, W, rfl, _⟩ := h
    rfl
  · obtain ⟨x, n, ls, W, rfl, ⟨D, ys, rfl, qD, pl⟩, ok, q⟩ := h
    refine ⟨_, (pss_cons (ps_if (PW.pt (pw_or (pt_not (pt_val (pe_callB call_isiT (by rfl) misi (by decide +kernel) (pa_cons (pv 0) (pa_cons (pe_tup (pa_cons (pe_bltn (v := .ty "list") (by rfl) mlist (by decide +kernel) rfl) (pa_cons (pe_bltn (v := .ty "tuple") (by rfl) mtuple (by decide +kernel) rfl) pa_nil))) pa_nil))))) (pw_or1 (pt_not (pt_chain op_le op_le pe_int (pe_callB call_len_seq (by rfl) mlen PySem.boot_len (pa_cons (pv 0) pa_nil)) (pe_glob (v := .int 4) (by rfl) mML ⟨_, rfl⟩)))))) (pss_one (ps_ret pe_bl)) pss_nil)
      (pss_cons (ps_set (i := 2) sc__are_layers.nd rfl (.inr rfl) (pv 1))
      (pss_cons (ps_for PassesOwn.never rfl (pi_tup (pv 0)) (pg_name (i := 3) sc__are_layers.nd rfl (.inl rfl)) (pss_cons (ps_if (PW.pt (pw_or (pt_not (pt_val (pe_callB call_isiT (by rfl) misi (by decide +kernel) (pa_cons (pv 3) (pa_cons (pe_tup (pa_cons (pe_bltn (v := .ty "list") (by rfl) mlist (by decide +kernel) rfl) (pa_cons (pe_bltn (v := .ty "tuple") (by rfl) mtuple (by decide +kernel) rfl) pa_nil))) pa_nil))))) (pw_or1 (pt_not (pt_chain op_le op_le pe_int (pe_callB call_len_seq (by rfl) mlen PySem.boot_len (pa_cons (pv 3) pa_nil)) (pe_glob (v := .int 4) (by rfl) mMN ⟨_, rfl⟩)))))) (pss_one (ps_ret pe_bl)) pss_nil)
      (pss_cons (ps_if (pt_not (pt_val (pe_callB (cr_all rfl) (by rfl) mall (by decide +kernel) (pa_cons (pe_lc (own := [("node", 4)]) (g := gName 4) (tt := tYes) rfl sc__are_layers.nd (pi_tup (pv 3)) (blkOk_by (N := ["thing", "ins", "ahead", "nodes", "node"]) (sc := defScope s__are_layers) (by decide +kernel)) (fun _ _ _ _ _ => (pg_name (i := 4) sc__are_layers.nd rfl (.inl rfl))) (fun _ _ _ _ _ => pts_nil) (fun _ _ _ _ _ => cl GI hr (pa_cons (pv 4) (pa_cons (pv 2) pa_nil)))) pa_nil)))) (pss_one (ps_ret pe_bl)) pss_nil)
      (pss_one (ps_set (i := 2) sc__are_layers.nd rfl (.inr rfl) (pe_callB call_len_seq (by rfl) mlen PySem.boot_len (pa_cons (pv 3) pa_nil)))))))
      (pss_one (ps_ret pe_bl))))), ?_⟩
    have hly := Paired.length pl
    have l1 := ok.l1
    have l4 := ok.l4
    have n3 := ok.n3
    refine ⟨_, rfl, (by show 2 ≤ sizeLine; decide), fun p hp => ?_⟩
    have e1 : Ex H (upd H p (.tup [.ty "list", .ty "tuple"])) := Ex.new hp
    refine ⟨_, p, _, _, _, _, rfl, upd_same, .cons (.ty _) (.cons (.ty _) .nil), tyT (ex_t e1 qD), kitTT, _, rfl, iteF ?_⟩
    generalize upd H p (.tup [.ty "list", .ty "tuple"]) = H1 at e1 ⊢
    refine ⟨_, rfl, D, _, rfl, .inr (ex_t e1 qD), _, _, rfl, rfl, _, rfl, ite_t (decide_eq_true (by omega)) ⟨_, _, rfl, rfl, _, rfl, ite_nt (decide_eq_true (by omega)) ?_⟩⟩
    refine ⟨_, rfl, _, rfl, D, rfl, ⟨_, ex_t e1 qD⟩, for_tup (K := K) (a := D) (xs := ys) (fun i σ H' => ∃ (n' : Nat) (o3 o4 : Option V), σ = [some (.ref D), some (.int (n : Int)), some (.int (n' : Int)), o3, o4] ∧ Ex H H' ∧ n' ≤ 4 ∧ Over n' (ls.drop i)) ⟨n, none, none, rfl, e1, by omega, ok.over⟩ (fun i σ H' _ ⟨_, _, _, _, e, _⟩ => ex_t e qD) ?_ ?_⟩
    · rintro i v σ H2 hi ⟨n', o3, o4, rfl, e2, hn4, ov⟩
      obtain ⟨l, hl, lv⟩ := pget pl hi
      obtain ⟨a, xs, rfl, qa, pz⟩ := lv.ex e2
      rw [drop_at hl] at ov
      obtain ⟨o1, ⟨o2, o2'⟩, o5⟩ := ov
      have hlx := Paired.length pz
      refine ⟨_, rfl, (by show 2 ≤ sizeLine; decide), fun p hp => ?_⟩
      have e3 : Ex H2 (upd H2 p (.tup [.ty "list", .ty "tuple"])) := Ex.new hp
      refine ⟨_, p, _, _, _, _, rfl, upd_same, .cons (.ty _) (.cons (.ty _) .nil), tyT (ex_t e3 qa), kitTT, _, rfl, iteF ?_⟩
      generalize upd H2 p (.tup [.ty "list", .ty "tuple"]) = H3 at e3 ⊢
      have qa3 := ex_t e3 qa
      have pz3 : Paired (SumV K H3) xs l := pmono (fun _ _ => SumV.ex e3) pz
      refine ⟨_, rfl, a, _, rfl, .inr qa3, _, _, rfl, rfl, _, rfl, ite_t (decide_eq_true (by omega)) ⟨_, _, rfl, rfl, _, rfl, ite_nt (decide_eq_true (by omega)) ?_⟩⟩
      refine ⟨_, rfl, a, rfl, ⟨_, qa3⟩, fun G hG => ?_⟩
      refine lc_tup (K := K) (a := a) (xs := xs) (fun j H' => Ex H3 H' ∧ H' G = some (.lst ((List.replicate j true).map V.bl))) ⟨Ex.new hG, upd_same⟩ (fun j H' _ b => ex_t b.1 qa3) ?_ ?_
      · rintro j y H' hj ⟨e4, k4⟩
        obtain ⟨z, hz, sz⟩ := pget pz3 hj
        have hjl := (List.getElem?_eq_some_iff.mp hj).1
        have z1 := o1 z (List.mem_of_getElem? hz)
        refine ⟨rfl, ?_⟩
        refine ⟨_, rfl, _, rfl, y, z, (by rw [z1]; rfl), sz.ex e4, by omega, fun H5 e5 => ⟨_, e5 _ _ k4, sz_lt (by simp; omega), Ex.mut (e4.trans e5) hG, ?_⟩⟩
        rw [List.replicate_succ', List.map_append]
        exact upd_same
      · rintro H5 ⟨e5, k5⟩
        refine ⟨G, _, rfl, sq_of k5, _, rfl, ite_nt (by simp) ?_⟩
        have E5 := e3.trans e5
        exact ⟨_, rfl, a, _, rfl, .inr (ex_t E5 qa), xs.length, _, _, rfl, e2.trans E5, by omega, by rw [hlx]; exact o5⟩
    · rintro σ H2 ⟨n', o3, o4, rfl, e2, _, _⟩
      exact q H2 e2
theorem fnT_netinit {CN CL CC fI f : Addr} {fd fdI : FuncData} (F : Fun K "__init__" "Net.__init__" s_Net___init__ f fd) (N : NDefs P w K mg base CN CL CC) (ML : Mk K CL fI) (MC : Mk K CC fI) (FL : FnOk P w K mg base CX0 1 fI fdI ["self", "nodes"] (spInitL K CL)) (FC : FnOk P w K mg base CX0 1 fI fdI ["self", "nodes"] (spInitL K CC))
    (bL : Binds K fdI ["self", "nodes"] []) (mgL : mg "Layer" = some (.ref CL)) (mgC : mg "CutLayer" = some (.ref CC)) (GAI : Ok P w K mg base 2 "_are_ins" ["thing"] spAreIns) (GAL : Ok P w K mg base 5 "_are_layers" ["thing", "ins"] (spAreLaysT K)) (mtuple : mg "tuple" = none) : FnOk P w K mg base CX0 6 f fd ["self", "ins", "layers"] (spInitT K CN CL CC) := by
  have bC := bL
  refine F.ok sc_Net___init__ (fun vs H Q E h => ?_) (fun cdv A outer s H vs Q E hr h => ?_)
  · obtain ⟨p, dx, x, n, ls, W, rfl, _⟩ := h
    rfl
  · obtain ⟨p, dx, x, n, ls, W, rfl, hp, hx, ok, q⟩ := h
    have hr2 : Room (1 + 1) _ := hr.mono (by decide)
    have hr2' : Room 2 _ := hr.mono (by decide)
    refine ⟨_, (pss_cons (ps_if (pt_not (pt_val (cl GAI hr2' (pa_cons (pv 1) pa_nil)))) (pss_one ps_never) pss_nil)
      (pss_cons (ps_if (pt_not (pt_val (cl GAL hr (pa_cons (pv 2) (pa_cons (pv 1) pa_nil))))) (pss_one ps_never) pss_nil)
      (pss_cons (ps_fld (pv 0) (pv 1) rfl)
      (pss_one (ps_fld (pv 0) (pe_callTy call_tuple_of (by rfl) mtuple (by decide +kernel) (pa_cons (pe_op op_catE (pe_lc (own := [("nodes", 3)]) (g := gName 3) (tt := tYes) rfl sc_Net___init__.nd (pi_tup (pe_slice (sl_tupE K) (pv 2) po_none (po_some (pe_un un_neg pe_int)))) (blkOk_by (N := ["self", "ins", "layers", "nodes"]) (sc := defScope s_Net___init__) (by decide +kernel)) (fun _ _ _ _ _ => (pg_name (i := 3) sc_Net___init__.nd rfl (.inl rfl))) (fun _ _ _ _ _ => pts_nil) (fun _ _ _ _ _ => pe_make MC FC hr2 (by rfl) mgC bC .nil pass0 (pa_cons (pv 3) pa_nil))) (pe_lst (pa_cons (pe_make ML FL hr2 (by rfl) mgL bL .nil pass0 (pa_cons (pe_ix ix_tup (pv 2) (pe_un un_neg pe_int) (fun _ _ => rfl)) pa_nil)) pa_nil))) pa_nil)) rfl))))), ?_⟩
    refine ⟨_, rfl, n, rfl, ok.n1, ok.n3, _, rfl, iteF ?_⟩
    refine ⟨_, rfl, _, rfl, x, n, ls, W, rfl, hx, ok, fun H1 e1 => ⟨_, rfl, iteF ?_⟩⟩
    have hp1 := e1 _ _ hp
    refine ⟨_, rfl, _, rfl, p, CN, dx, [], rfl, hp1, N.tN, N.nI, (by show 0 < 1000; decide), ?_⟩
    have c2 : Ch p H (upd H1 p (.ins CN dx (putF ("_ins" : Str) (.int (n : Int)) []))) := (Ch.ex e1).trans Ch.put
    have k2 : upd H1 p (.ins CN dx (putF ("_ins" : Str) (.int (n : Int)) [])) p = some (.ins CN dx [(("_ins" : Str), .int (n : Int))]) := upd_same
    have x2 := hx.ch hp c2
    generalize upd H1 p (.ins CN dx (putF ("_ins" : Str) (.int (n : Int)) [])) = H2 at c2 k2 x2 ⊢
    obtain ⟨D0, ys, rfl, qD, pl⟩ := x2
    have hly := Paired.length pl
    have l1 := ok.l1
    have l4 := ok.l4
    have hne : ys ≠ [] := fun z => by
      rw [z] at hly
      simp at hly
      omega
    have hgl : ls[ls.length - 1]? = some (ls[ls.length - 1]'(by omega)) := List.getElem?_eq_getElem _
    generalize ls[ls.length - 1]'(by omega) = lastL at hgl
    obtain ⟨vL, hvL, lyL⟩ := pget' pl hgl
    rw [← hly] at hvL
    have pin := pair_init pl
    -- the cut ones
    refine ⟨_, rfl, _, rfl, _, rfl, D0, ys, rfl, qD, fun pS H3 eS kS => ?_⟩
    rw [cut_init hne] at kS
    refine ⟨pS, rfl, ⟨_, kS⟩, fun G hG => ?_⟩
    have pin3 : Paired (NodesV K H3) ys.dropLast ls.dropLast := pmono (fun _ _ => NodesV.ex eS) pin
    refine lc_tup (K := K) (a := pS) (xs := ys.dropLast) (Bld (LayV K CL CC) H3 G ls.dropLast) (bld0 hG) (fun i H' _ b => ex_t b.1 kS) ?_ ?_
    · rintro i v H' hi b
      obtain ⟨l, hl, lv0⟩ := pget pin3 hi
      obtain ⟨a, xs, rfl, qa, pz⟩ := lv0.ex b.1
      have hlt := (List.getElem?_eq_some_iff.mp hi).1
      rw [List.length_dropLast] at hlt
      refine ⟨rfl, ?_⟩
      refine ⟨_, rfl, fun p2 dx2 np2 nd2 ne2 => ?_⟩
      have eC : Ex H' (upd (upd H' dx2 (.own p2)) p2 (.ins CC dx2 [])) := fun b o hb => by
        rw [upd_ne (ne_of_none hb np2), upd_ne (ne_of_none hb nd2)]
        exact hb
      have kC : upd (upd H' dx2 (.own p2)) p2 (.ins CC dx2 []) p2 = some (.ins CC dx2 []) := upd_same
      generalize upd (upd H' dx2 (.own p2)) p2 (.ins CC dx2 []) = HC at eC kC ⊢
      refine ⟨p2, dx2, a, xs, l, rfl, kC, .inr (ex_t eC qa), pmono (fun _ _ => SumV.ex eC) pz, fun HD v2 kpD lD nD => ⟨rfl, ?_⟩⟩
      have eD : Ex H' HD := fun b o hb => kpD b o (ne_of_none hb np2) (eC b o hb)
      exact bld_step stL hG b eD hl (by omega) ⟨p2, CC, v2, rfl, .inr rfl, lD, nD⟩
    intro H4 b4
    obtain ⟨e4, ws, hws, pw⟩ := bld_end (by rw [List.length_dropLast, List.length_dropLast]; omega) b4
    have E4 := eS.trans e4
    have hwl := Paired.length pw
    rw [List.length_dropLast] at hwl
    -- the last one
    obtain ⟨a, xs, rfl, qa, pz⟩ := lyL.ex E4
    refine ⟨_, rfl, 1, rfl, D0, ys, _, .ref a, rfl, rfl, ex_t E4 qD, at_last hvL, fun p2 dx2 np2 nd2 ne2 => ?_⟩
    have eC : Ex H4 (upd (upd H4 dx2 (.own p2)) p2 (.ins CL dx2 [])) := fun b o hb => by
      rw [upd_ne (ne_of_none hb np2), upd_ne (ne_of_none hb nd2)]
      exact hb
    have kC : upd (upd H4 dx2 (.own p2)) p2 (.ins CL dx2 []) p2 = some (.ins CL dx2 []) := upd_same
    generalize upd (upd H4 dx2 (.own p2)) p2 (.ins CL dx2 []) = HC at eC kC ⊢
    refine ⟨p2, dx2, a, xs, lastL, rfl, kC, .inr (ex_t eC qa), pmono (fun _ _ => SumV.ex eC) pz, fun H5 v2 kpD lD nD => ⟨rfl, ?_⟩⟩
    have e5 : Ex H4 H5 := fun b o hb => kpD b o (ne_of_none hb np2) (eC b o hb)
    refine ⟨(by show 1 ≤ sizeLine; decide), fun pl1 hpl1 => ?_⟩
    have e6 : Ex H5 (upd H5 pl1 (.lst [.ref p2])) := Ex.new hpl1
    have k6 : upd H5 pl1 (.lst [.ref p2]) pl1 = some (.lst [.ref p2]) := upd_same
    generalize upd H5 pl1 (.lst [.ref p2]) = H6 at e6 k6 ⊢
    have E6 := e5.trans e6
    refine ⟨G, pl1, ws, [.ref p2], rfl, rfl, E6 _ _ hws, k6, Nat.le_of_lt (sz_lt (by simp; omega)), fun p7 H7 hp7 e7 k7 => ?_⟩
    refine ⟨p7, _, rfl, .inl ⟨sq_of k7, fun p8 hp8 => ?_⟩⟩
    have e8 : Ex H7 (upd H7 p8 (.tup (ws ++ [.ref p2]))) := Ex.new hp8
    have k8 : upd H7 p8 (.tup (ws ++ [.ref p2])) p8 = some (.tup (ws ++ [.ref p2])) := upd_same
    generalize upd H7 p8 (.tup (ws ++ [.ref p2])) = H8 at e8 k8 ⊢
    have E8 : Ex H4 H8 := E6.trans (e7.trans e8)
    have E28 : Ex H2 H8 := E4.trans E8
    have kp := E28 _ _ k2
    have pAll : Paired (LayV K CL CC H8) (ws ++ [.ref p2]) ls := by
      have h1 : Paired (LayV K CL CC H8) ws ls.dropLast := pmono (fun _ _ => LayV.ex E8) pw
      have h2 : LayV K CL CC H8 (.ref p2) lastL := LayV.ex (e6.trans (e7.trans e8)) ⟨p2, CL, v2, rfl, .inl rfl, lD, nD⟩
      have h3 := pair_app h1 (.cons h2 .nil)
      rwa [init_last hgl] at h3
    refine ⟨_, rfl, p, CN, dx, _, rfl, kp, N.tN, N.nL, (by show 1 < 1000; decide), ?_⟩
    have kF : upd H8 p (.ins CN dx [(("_ins" : Str), .int (n : Int)), (("_layers" : Str), .ref p8)]) p = some (.ins CN dx [(("_ins" : Str), .int (n : Int)), (("_layers" : Str), .ref p8)]) := upd_same
    have cF : Ch p H8 (upd H8 p (.ins CN dx [(("_ins" : Str), .int (n : Int)), (("_layers" : Str), .ref p8)])) := Ch.put
    exact q _ ((c2.trans (Ch.ex E28)).trans cF) ⟨dx, p8, _, kF, sqt_ch kp cF (st_of k8), pmono (fun _ _ => LayV.ch kp cF) pAll⟩
end

end K30
end
section
set_option maxRecDepth 100000
set_option maxHeartbeats 400000
namespace K30
open PySem Evl Nc PyProof.Rows
open L2 hiding spCell
section
variable {P : Program} {w : World} {K : PySem.W.Frag} {mg : Str → Option Value} {base : Heap}
def spNetL (K : PySem.W.Frag) (CN CL CC : Addr) : Sp := fun vs H Q _ => ∃ (D : Addr) (n : Nat) (ls : List (List Sum2)) (W : Nat → Nat), vs = [.int (n : Int), .ref D] ∧ LayI K H (.ref D) ls ∧ NetOk n ls W ∧ ∀ p H', H p = none → Ex H H' → NetV K CN CL CC H' p n ls → Q (.ref p) H'
theorem ok__law_net (D : Df K mg "_law_net" s__law_net ["_law_ins", "_law_layers_here"]) {CN CL CC fN : Addr} {fdN : FuncData} (MN : Mk K CN fN) (FN : FnOk P w K mg base CX0 6 fN fdN ["self", "ins", "layers"] (spInitN K CN CL CC)) (FNT : FnOk P w K mg base CX0 6 fN fdN ["self", "ins", "layers"] (spInitT K CN CL CC)) (bN : Binds K fdN ["self", "ins", "layers"] []) (mgN : mg "Net" = some (.ref CN)) (mlen : mg "len" = none) (mtuple : mg "tuple" = none) (mlist : mg "list" = none) : Ok P w K mg base 8 "_law_net" ["_law_ins", "_law_layers_here"] (spNetL K CN CL CC) := by
  refine D.ok fun f fd F => F.ok sc__law_net (fun vs H Q E h => ?_) (fun cdv A outer s H vs Q E hr h => ?_)
  · obtain ⟨D, n, ls, W, rfl, _⟩ := h
    rfl
  · obtain ⟨D, n, ls, W, rfl, ⟨D', ys, eD, qD, pl⟩, ok, q⟩ := h
    cases eD
    have hr7 : Room (6 + 1) _ := hr
    refine ⟨_, (pss_cons (ps_if (pt_cmpR op_gt (pe_callB call_len_seq (by rfl) mlen PySem.boot_len (pa_cons (pv 1) pa_nil)) pe_int (nomark _)) (pss_one (ps_ret (pe_make MN FNT hr7 (by rfl) mgN bN .nil pass0 (pa_cons (pv 0) (pa_cons (pe_callTy call_tuple_of (by rfl) mtuple (by decide +kernel) (pa_cons (pe_lc (own := [("_law_layer", 2)]) (g := gName 2) (tt := tYes) rfl sc__law_net.nd (pi_list (pv 1)) (blkOk_by (N := ["_law_ins", "_law_layers_here", "_law_layer"]) (sc := defScope s__law_net) (by decide +kernel)) (fun _ _ _ _ _ => (pg_name (i := 2) sc__law_net.nd rfl (.inl rfl))) (fun _ _ _ _ _ => pts_nil) (fun _ _ _ _ _ => pe_callTy (T := "tuple") (call_tupK K) (by rfl) mtuple (by decide +kernel) (pa_cons (pv 2) pa_nil))) pa_nil)) pa_nil))))) pss_nil)
      (pss_one (ps_ret (pe_make MN FN hr7 (by rfl) mgN bN .nil pass0 (pa_cons (pv 0) (pa_cons (pe_lc (own := [("_law_layer", 2)]) (g := gName 2) (tt := tYes) rfl sc__law_net.nd (pi_list (pv 1)) (blkOk_by (N := ["_law_ins", "_law_layers_here", "_law_layer"]) (sc := defScope s__law_net) (by decide +kernel)) (fun _ _ _ _ _ => (pg_name (i := 2) sc__law_net.nd rfl (.inl rfl))) (fun _ _ _ _ _ => pts_nil) (fun _ _ _ _ _ => pe_callTy (T := "list") (call_lstK K) (by rfl) mlist (by decide +kernel) (pa_cons (pv 2) pa_nil))) pa_nil)))))), ?_⟩
    have hlen := Paired.length pl
    have hl4 := ok.l4
    refine ⟨_, rfl, D, _, rfl, .inl qD, _, _, rfl, rfl, _, rfl, ite2 (fun _ => ?_) (fun _ => ?_)⟩
    · refine ⟨_, rfl, _, rfl, D, rfl, ⟨_, qD⟩, fun G hG => ?_⟩
      refine lc_list (K := K) (a := D) (xs := ys) (Bld (NodesV K) H G ls) (bld0 hG) (fun i H' _ b => ex_l b.1 qD) ?_ ?_
      · rintro i v H' hi b
        obtain ⟨l, hl, lv0⟩ := pget pl hi
        obtain ⟨a, us, rfl, qa, pz⟩ := lv0.ex b.1
        have hlt := (List.getElem?_eq_some_iff.mp hi).1
        refine ⟨rfl, ?_⟩
        refine ⟨_, rfl, a, us, rfl, .inl ⟨qa, fun c hc => ?_⟩⟩
        have e := Ex.new (o := .tup us) hc
        exact bld_step stN hG b e hl (by omega) ⟨c, us, rfl, st_of upd_same, pmono (fun _ _ => SumV.ex e) pz⟩
      intro H4 b4
      obtain ⟨e4, ws, hws, pw⟩ := bld_end (by omega) b4
      refine ⟨G, ws, rfl, .inl ⟨sq_of hws, fun l1 hl1 => ?_⟩⟩
      have e5 : Ex H4 (upd H4 l1 (.tup ws)) := Ex.new hl1
      have k5 : upd H4 l1 (.tup ws) l1 = some (.tup ws) := upd_same
      generalize upd H4 l1 (.tup ws) = H5 at e5 k5 ⊢
      have E5 := e4.trans e5
      refine fun x dx2 np nd ne => ?_
      have eX : Ex H5 (upd (upd H5 dx2 (.own x)) x (.ins CN dx2 [])) := fun b o hb => by
        rw [upd_ne (ne_of_none hb np), upd_ne (ne_of_none hb nd)]
        exact hb
      have kX : upd (upd H5 dx2 (.own x)) x (.ins CN dx2 []) x = some (.ins CN dx2 []) := upd_same
      generalize upd (upd H5 dx2 (.own x)) x (.ins CN dx2 []) = H7 at eX kX ⊢
      refine ⟨x, dx2, .ref l1, n, ls, W, rfl, kX, ⟨l1, ws, rfl, st_of (eX _ _ k5), pmono (fun _ _ => NodesV.ex (e5.trans eX)) pw⟩, ok, fun H8 kp hN8 => ⟨rfl, ?_⟩⟩
      refine q x H8 (Option.eq_none_iff_forall_ne_some.mpr fun o ho => ?_) (fun b o hb => kp b o (ne_of_none (E5 _ _ hb) np) (eX _ _ (E5 _ _ hb))) hN8
      rw [E5 _ _ ho] at np
      cases np
    · refine ⟨_, rfl, _, rfl, D, rfl, ⟨_, qD⟩, fun G hG => ?_⟩
      refine lc_list (K := K) (a := D) (xs := ys) (Bld (fun H' v l => LyV K H' v l ∧ v ≠ .ref G) H G ls) (bld0 hG) (fun i H' _ b => ex_l b.1 qD) ?_ ?_
      · rintro i v H' hi b
        obtain ⟨l, hl, lv0⟩ := pget pl hi
        obtain ⟨a, us, rfl, qa, pz⟩ := lv0.ex b.1
        have hlt := (List.getElem?_eq_some_iff.mp hi).1
        refine ⟨rfl, ?_⟩
        refine ⟨_, rfl, a, us, rfl, .inl qa, fun c hc => ?_⟩
        have e := Ex.new (o := .lst us) hc
        obtain ⟨e1, xs, hx, hxl, p⟩ := b
        have hcG : c ≠ G := fun z => by
          rw [z, hx] at hc
          cases hc
        have h4 := e G _ hx
        refine ⟨xs, h4, sz_lt (by omega), Ex.mut (e1.trans e) hG, xs ++ [.ref c], upd_same, by simp [hxl], ?_⟩
        rw [List.take_add_one, hl]
        refine Paired.snoc (pmono (fun v' l' q' => ?_) p) ⟨⟨c, us, rfl, sq_of (by rw [upd_ne hcG]; exact upd_same), pmono (fun _ _ q => SumV.mut h4 (SumV.ex e q)) pz⟩, fun z => hcG (V.ref.inj z)⟩
        obtain ⟨⟨b2, zs, rfl, qb, pb⟩, nb⟩ := q'
        refine ⟨⟨b2, zs, rfl, ?_, pmono (fun _ _ q => SumV.mut h4 (SumV.ex e q)) pb⟩, nb⟩
        have hbG : b2 ≠ G := fun z => nb (by rw [z])
        rcases ex_l e qb with (z | ⟨ob, z⟩) | z
        · exact .inl (.inl (by rw [upd_ne hbG]; exact z))
        · exact .inl (.inr ⟨ob, by rw [upd_ne hbG]; exact z⟩)
        · exact .inr z
      intro H4 b4
      obtain ⟨e4, ws, hws, pw⟩ := bld_end (by omega) b4
      refine fun x dx2 np nd ne => ?_
      have eX : Ex H4 (upd (upd H4 dx2 (.own x)) x (.ins CN dx2 [])) := fun b o hb => by
        rw [upd_ne (ne_of_none hb np), upd_ne (ne_of_none hb nd)]
        exact hb
      have kX : upd (upd H4 dx2 (.own x)) x (.ins CN dx2 []) x = some (.ins CN dx2 []) := upd_same
      generalize upd (upd H4 dx2 (.own x)) x (.ins CN dx2 []) = H7 at eX kX ⊢
      refine ⟨x, dx2, .ref G, n, ls, W, rfl, kX, ⟨G, ws, rfl, sq_of (eX _ _ hws), pmono (fun _ _ q => LyV.ex eX q.1) pw⟩, ok, fun H8 kp hN8 => ⟨rfl, ?_⟩⟩
      refine q x H8 (Option.eq_none_iff_forall_ne_some.mpr fun o ho => ?_) (fun b o hb => kp b o (ne_of_none (e4 _ _ hb) np) (eX _ _ (e4 _ _ hb))) hN8
      rw [e4 _ _ ho] at np
      cases np
end

end K30
end
section
set_option maxRecDepth 100000
set_option maxHeartbeats 400000
namespace K30
open PySem Evl Nc PyProof.Rows
open L2 hiding spCell
section
variable {P : Program} {w : World} {K : PySem.W.Frag} {mg : Str → Option Value} {base : Heap}
structure Dfs (P : Program) (w : World) (K : PySem.W.Frag) (mg : Str → Option Value) (base : Heap) (CN CL CC fH fS fT : Addr) : Prop where
  cell : Ok P w K mg base 1 "_law_cell" ["_law_script", "_law_k"] (Nc.spCell K)
  stream : Ok P w K mg base 1 "_law_stream" ["_law_cell_here"] spStream3
  world : Ok P w K mg base 5 "_law_world" ["_law_stream_here"] (spWorld K)
  net : Ok P w K mg base 8 "_law_net" ["_law_ins", "_law_layers_here"] (spNetL K CN CL CC)
  thing : Ok P w K mg base 4 "_law_thing" ["_law_stream_here", "_law_box_here"] (spThing30 K)
  look : Ok P w K mg base 3 "_law_is_box" ["_law_thing_here", "_law_ins"] (spLkB K)
  ref : Ok P w K mg base 11 "_law_refused" ["_law_ask", "_law_net_here", "_law_thing_here"] (spRef30 K CN CL CC fH fS fT)
theorem eqv_nw {K : PySem.W.Frag} {s : Addr} {H : Hp} {m : Nat} {Nw Nw' : Addr → Prop} {v : V} (h : EqV K s Nw H m v) (f : ∀ a xs, Nw a → H a = some (.lst xs) → Nw' a) : EqV K s Nw' H m v := by
  cases h with
  | lst q n l p lay dp nw => exact .lst q n l p lay dp (f _ _ nw q)
  | dat h kn p y => exact .dat h kn p y
  | dic q => exact .dic q
theorem fn_law {f : Addr} {fd : FuncData} {CN CL CC fH fS fT : Addr} (F : Fun K "law" "law" s_law f fd) (G : Dfs P w K mg base CN CL CC fH fS fT) (gH : mg "handed_on" = some (.ref fH)) (gS : mg "states_of" = some (.ref fS)) (gT : mg "tightened" = some (.ref fT)) (mrange : mg "range" = none) (mmax : mg "max" = none) (mmin : mg "min" = none) (mlen : mg "len" = none) : FnOk P w K mg base CX0 12 f fd ["_law_script"] (spLaw K) := by
  refine F.ok sc_law (fun vs H Q E h => ?_) (fun cdv A outer s H vs Q E hr h => ?_)
  · obtain ⟨a, ns, rfl, _⟩ := h
    rfl
  · obtain ⟨a, ns, rfl, hS, hn, q⟩ := h
    have hr1 : Room 1 _ := hr.mono (by decide)
    have hr3 : Room 3 _ := hr.mono (by decide)
    have hr4 : Room 4 _ := hr.mono (by decide)
    have hr5 : Room 5 _ := hr.mono (by decide)
    have hr8 : Room 8 _ := hr.mono (by decide)
    refine ⟨_, (pss_cons (ps_for PassesOwn.never rfl (pi_range1 (by rfl) mrange (pa_cons (pe_callB (call_max2 rfl) (by rfl) mmax (by decide +kernel) (pa_cons pe_int (pa_cons (pe_callB (call_min2 rfl) (by rfl) mmin (by decide +kernel) (pa_cons pe_int (pa_cons (pe_callB call_len_seq (by rfl) mlen PySem.boot_len (pa_cons (pv 0) pa_nil)) pa_nil))) pa_nil))) pa_nil)) (pg_name (i := 1) sc_law.nd rfl (.inl rfl)) (pss_cons (ps_set (i := 2) sc_law.nd rfl (.inl rfl) (cl G.stream hr1 (pa_cons (cl G.cell hr1 (pa_cons (pv 0) (pa_cons (pv 1) pa_nil))) pa_nil)))
      (pss_cons (ps_asg (cl G.world hr5 (pa_cons (pv 2) pa_nil)) (pg_tup rfl (pgs_cons (pg_name (i := 3) sc_law.nd rfl (.inl rfl)) (pgs_cons (pg_name (i := 4) sc_law.nd rfl (.inl rfl)) (pgs_cons (pg_name (i := 5) sc_law.nd rfl (.inl rfl)) pgs_nil)))))
      (pss_cons (ps_set (i := 6) sc_law.nd rfl (.inl rfl) (cl G.net hr8 (pa_cons (pv 3) (pa_cons (pv 4) pa_nil))))
      (pss_one (ps_for PassesOwn.never rfl (pi_range1 (by rfl) mrange (pa_cons pe_int pa_nil)) (pg_name (i := 7) sc_law.nd rfl (.inl rfl)) (pss_cons (ps_set (i := 8) sc_law.nd rfl (.inl rfl) (cl G.thing hr4 (pa_cons (pv 2) (pa_cons (pv 5) pa_nil))))
      (pss_cons (ps_set (i := 9) sc_law.nd rfl (.inl rfl) (pe_ifExp (pt_val (cl G.look hr3 (pa_cons (pv 8) (pa_cons (pv 3) pa_nil)))) pe_non pe_bl))
      (pss_one (ps_for PassesOwn.never rfl (pi_list (pe_lstE (pa_cons (pe_glob (v := .ref fH) (by rfl) gH rfl) (pa_cons (pe_glob (v := .ref fS) (by rfl) gS rfl) (pa_cons (pe_glob (v := .ref fT) (by rfl) gT rfl) pa_nil))))) (pg_name (i := 10) sc_law.nd rfl (.inl rfl)) (pss_one (ps_if (pt_cmpR op_ne (cl G.ref hr (pa_cons (pv 10) (pa_cons (pv 6) (pa_cons (pv 8) pa_nil)))) (pv 9) (nomark _)) (pss_one (ps_ret pe_bl)) pss_nil))))))))))))
      (pss_one (ps_ret pe_bl))), ?_⟩
    refine ⟨_, rfl, a, _, rfl, .inl hS, _, _, rfl, _, _, rfl, ?_⟩
    rw [List.length_map]
    generalize hm : (if (if ((ns.length : Nat) : Int) < 8 then ((ns.length : Nat) : Int) else 8) > 1 then (if ((ns.length : Nat) : Int) < 8 then ((ns.length : Nat) : Int) else 8) else 1) = m
    have hm1 : 1 ≤ m ∧ m ≤ 8 := by
      rw [← hm]
      split <;> split <;> omega
    refine ⟨m, rfl, by omega, by omega, for_range (lo := 0) (n := m.toNat) (fun i σ H' => ∃ o1 o2 o3 o4 o5 o6 o7 o8 o9 o10, σ = [some (.ref a), o1, o2, o3, o4, o5, o6, o7, o8, o9, o10] ∧ Ex H H') ⟨none, none, none, none, none, none, none, none, none, none, rfl, Ex.refl H⟩ ?_ ?_⟩
    · rintro i σ H1 hi ⟨o1, o2, o3, o4, o5, o6, o7, o8, o9, o10, rfl, e1⟩
      rw [show (0 : Int) + (i : Int) = (i : Int) by omega]
      refine ⟨_, rfl, _, rfl, a, ns, i, rfl, ex_l e1 hS, by omega, fun c => ?_⟩
      refine ⟨c, rfl, fun s0 hs H2 es st => ?_⟩
      have back : ∀ {H' : Hp}, Dk s0 H2 H' → Ex H H' := fun r b o hb => by
        have h1 := e1 b o hb
        exact r.keep b o (fun z => by rw [z, hs] at h1; cases h1) (es b o h1)
      refine ⟨_, rfl, s0, rfl, st, fun v n ls sp H3 r3 t3 hw wok => ?_⟩
      obtain ⟨t, D, bx, rfl, qt, lays, hbx⟩ := hw
      obtain ⟨g, M, nok, gr⟩ := wok.net
      have n1 := nok.n1
      have n3 := nok.n3
      refine ⟨t, [.int (n : Int), .ref D, bx], rfl, qt, rfl, .int (n : Int), [.ref D, bx], rfl, .ref D, [bx], rfl, bx, [], rfl, rfl, ?_⟩
      refine ⟨_, rfl, _, rfl, D, n, ls, _, rfl, lays.i, nok, fun p H4 np e4 hN => ?_⟩
      have t4 := t3.ex e4
      refine ⟨(6 : Int), rfl, by decide, by decide, for_range (lo := 0) (n := (6 : Int).toNat) (fun j σ H' => ∃ o7 o8 o9 o10, σ = [some (.ref a), some (.int (i : Int)), some (.ref s0), some (.int (n : Int)), some (.ref D), some bx, some (.ref p), o7, o8, o9, o10] ∧ Ex H H' ∧ St3 s0 H' ∧ NetV K CN CL CC H' p n ls ∧ SpsV K true H' bx sp) ⟨o7, o8, o9, o10, rfl, back (r3.then e4), t4, hN, hbx.ex e4⟩ ?_ ?_⟩
      · rintro j σ H5 hj ⟨o7, o8, o9, o10, rfl, e5, t5, hN5, hb5⟩
        refine ⟨_, rfl, _, rfl, s0, bx, sp, rfl, t5, hb5, wok.sz, (by rw [wok.len]; exact n1), (by rw [wok.len]; exact n3), fun v b H6 r6 t6 hl hv => ?_⟩
        rw [wok.len] at hl
        have hs0 : H s0 = none := none_of' e1 hs
        have e6 : Ex H H6 := fun b o hb => r6.keep b o (fun z => by rw [z, hs0] at hb; cases hb) (e5 b o hb)
        have hN6 := hN5.dk t5.lst r6
        have hb6 := hb5.dkT t5.lst r6
        refine ⟨_, rfl, _, rfl, v, n, b, rfl, hl, fun H7 e7 => ⟨_, rfl, ?_⟩⟩
        cases b with
        | true =>
          refine iteT ⟨(by show 3 ≤ sizeLine; decide), fun pl H8 n8 e8 k8 => ⟨pl, rfl, ⟨_, sq_of k8⟩, for_list (K := K) (a := pl) (xs := [.ref fH, .ref fS, .ref fT]) (fun l σ H' => ∃ o10, σ = [some (.ref a), some (.int (i : Int)), some (.ref s0), some (.int (n : Int)), some (.ref D), some bx, some (.ref p), some (.int (0 + (j : Int))), some v, some .non, o10] ∧ Ex H8 H') ⟨o10, rfl, Ex.refl _⟩ (fun l σ H' _ ⟨_, _, e⟩ => sq_of (e _ _ k8)) ?_ ?_⟩⟩
          · rintro l u σ H9 hu ⟨o10, rfl, e9⟩
            have E9 := e7.trans (e8.trans e9)
            obtain ⟨f1, rfl, hf⟩ : ∃ f1, u = .ref f1 ∧ (f1 = fH ∨ f1 = fS ∨ f1 = fT) := by
              have hm := List.mem_of_getElem? hu
              simp only [List.mem_cons, List.not_mem_nil, or_false] at hm
              rcases hm with rfl | rfl | rfl
              · exact ⟨_, rfl, .inl rfl⟩
              · exact ⟨_, rfl, .inr (.inl rfl)⟩
              · exact ⟨_, rfl, .inr (.inr rfl)⟩
            refine ⟨_, rfl, _, rfl, _, rfl, f1, p, v, n, ls, true, s0, 10, _, rfl, hf, hN6.ex E9, n1, n3, ⟨g, M, nok, gr⟩, hl.ex E9, eqv_ex E9 hv, by decide, (fun _ HA eA => ⟨_, rfl, rfl, _, rfl, iteNS rfl ⟨_, rfl, e9.trans eA⟩⟩), fun z => by cases z⟩
          · rintro σ H9 ⟨o10, rfl, e9⟩
            have E9 := e7.trans (e8.trans e9)
            exact ⟨_, _, _, _, rfl, e6.trans E9, t6.ex E9, hN6.ex E9, hb6.ex E9⟩
        | false =>
          refine iteF ⟨(by show 3 ≤ sizeLine; decide), fun pl H8 n8 e8 k8 => ?_⟩
          have E8 := e7.trans e8
          have hv7 : EqV K s0 (fun c => H5 c = none ∧ c ≠ pl) H7 10 v := eqv_nw (eqv_ex e7 hv) fun c xs h1 h2 => ⟨h1, fun z => by rw [z, n8] at h2; cases h2⟩
          have hv8 := eqv_ex e8 hv7
          refine ⟨pl, rfl, ⟨_, sq_of k8⟩, for_list (K := K) (a := pl) (xs := [.ref fH, .ref fS, .ref fT]) (fun l σ H' => ∃ o10, σ = [some (.ref a), some (.int (i : Int)), some (.ref s0), some (.int (n : Int)), some (.ref D), some bx, some (.ref p), some (.int (0 + (j : Int))), some v, some (.bl true), o10] ∧ Ex H H' ∧ St3 s0 H' ∧ NetV K CN CL CC H' p n ls ∧ SpsV K true H' bx sp ∧ LkB K H' n v false ∧ EqV K s0 (fun c => H5 c = none ∧ c ≠ pl) H' (10 + l) v ∧ H' pl = some (.lst [.ref fH, .ref fS, .ref fT])) ⟨o10, rfl, e6.trans E8, t6.ex E8, hN6.ex E8, hb6.ex E8, hl.ex E8, hv8, k8⟩ (fun l σ H' _ ⟨_, _, _, _, _, _, _, _, k⟩ => sq_of k) ?_ ?_⟩
          · rintro l u σ H9 hu ⟨o10, rfl, e9, t9, hN9, hb9, hl9, hv9, k9⟩
            have l3 := (List.getElem?_eq_some_iff.mp hu).1
            have l3' : l < 3 := l3
            obtain ⟨f1, rfl, hf⟩ : ∃ f1, u = .ref f1 ∧ (f1 = fH ∨ f1 = fS ∨ f1 = fT) := by
              have hm := List.mem_of_getElem? hu
              simp only [List.mem_cons, List.not_mem_nil, or_false] at hm
              rcases hm with rfl | rfl | rfl
              · exact ⟨_, rfl, .inl rfl⟩
              · exact ⟨_, rfl, .inr (.inl rfl)⟩
              · exact ⟨_, rfl, .inr (.inr rfl)⟩
            refine ⟨_, rfl, _, rfl, _, rfl, f1, p, v, n, ls, false, s0, 10 + l, _, rfl, hf, hN9, n1, n3, ⟨g, M, nok, gr⟩, hl9, hv9, by omega, (fun z => by cases z), fun _ HA rel ev lk => ⟨_, rfl, rfl, _, rfl, iteNS rfl ?_⟩⟩
            rcases rel with eA | ⟨c, rfl, lc, nc, ⟨nw1, nw2⟩, dk⟩
            · exact ⟨_, rfl, e9.trans eA, t9.ex eA, hN9.ex eA, hb9.ex eA, lk, ev, eA _ _ k9⟩
            · have hc : H c = none := none_of' e5 nw1
              refine ⟨_, rfl, fun b o hb => dk.keep b o (fun z => by rw [z, hc] at hb; cases hb) (e9 b o hb), ?_, hN9.dk lc dk, hb9.dkT lc dk, lk, ev, dk.keep _ _ (Ne.symm nw2) k9⟩
              obtain ⟨q1, q2, q3, q4⟩ := t9
              exact ⟨q1, q2, q3, dk.keep _ _ (Ne.symm nc) q4⟩
          · rintro σ H9 ⟨o10, rfl, e9, t9, hN9, hb9, _, _, _⟩
            exact ⟨_, _, _, _, rfl, e9, t9, hN9, hb9⟩
      · rintro σ H5 ⟨o7, o8, o9, o10, rfl, e5, t5, hN5, hb5⟩
        exact ⟨_, _, _, _, _, _, _, _, _, _, rfl, e5⟩
    · rintro σ H1 ⟨o1, o2, o3, o4, o5, o6, o7, o8, o9, o10, rfl, e1⟩
      exact q H1
end

end K30
end
section
set_option maxRecDepth 100000
set_option maxHeartbeats 400000
namespace K30
open PySem Evl Nc PyProof.Rows
open L2 hiding spCell
section
variable {P : Program} {w : World} {K : PySem.W.Frag} {mg : Str → Option Value} {base : Heap}
theorem ok__law_less (D : Df K mg "_law_less" s__law_less ["_law_one", "_law_other"]) : Ok P w K mg base 1 "_law_less" ["_law_one", "_law_other"] (spLess K) := by
  refine D.ok fun f fd F => F.ok sc__law_less (fun vs H Q E h => ?_) (fun cdv A outer s H vs Q E hr h => ?_)
  · obtain ⟨x, y, r, s, n, d, m, e, rfl, _⟩ := h
    rfl
  · obtain ⟨x, y, r, s, n, d, m, e, rfl, hx, hy, ha, hb, ⟨n0, d0, m0, e0, hnm⟩, q⟩ := h
    refine ⟨_, pss_one (ps_ret (pe_cmpR op_lt (pe_op op_mulBig (pe_ix ix_tup (pv 0) pe_int (fun _ _ => rfl)) (pe_ix ix_tup (pv 1) pe_int (fun _ _ => rfl))) (pe_op op_mulBig (pe_ix ix_tup (pv 1) pe_int (fun _ _ => rfl)) (pe_ix ix_tup (pv 0) pe_int (fun _ _ => rfl))) (nomark _))), ?_⟩
    obtain ⟨t, rfl, h1⟩ := hx
    obtain ⟨u, rfl, h2⟩ := hy
    exact ⟨_, rfl, _, _, _, _, rfl, rfl, h1, at0, _, rfl, _, _, _, _, rfl, rfl, h2, at1, _, _, rfl, rfl, mulOk ha.1 hb.den, _, rfl, _, _, _, _, rfl, rfl, h2, at0, _, rfl, _, _, _, _, rfl, rfl, h1, at1, _, _, rfl, rfl, mulOk hb.1 ha.den, _, _, rfl, rfl, q⟩
theorem ok_CutError_init {f : Addr} {fd : FuncData} (F : Fun K "__init__" "CutError.__init__" s_CutError___init__ f fd) (mV : mg "ValueError" = none) (vV : PySem.W.findCls K (.type "ValueError") (.type "type") "__init__" = some (.val (.builtin "ValueError.__init__"))) : FnOk P w K mg base CX0 1 f fd ["self", "text"] (spVeI K) := by
  refine F.ok sc_CutError___init__ (fun vs H Q E h => ?_) (fun cdv A outer s H vs Q E hr h => ?_)
  · obtain ⟨a, C, x, rfl, _⟩ := h
    rfl
  · obtain ⟨a, C, x, rfl, hC, ha, q⟩ := h
    refine ⟨_, pss_one (ps_expr (pe_veinit (by rfl) mV vV (pa_cons (pv 0) (pa_cons (pv 1) pa_nil)))), ?_⟩
    exact ⟨_, rfl, _, rfl, a, C, [_], rfl, by show 1 ≤ 1000; decide, hC, ha, q⟩
theorem ok_NoBox_init {C CB f fB : Addr} {fd fdB : FuncData} (F : Fun K "__init__" "NoBox.__init__" s_NoBox___init__ f fd) (c : CFn K mg "CutError" CB "__init__" fB) (G : FnOk P w K mg base CX0 1 fB fdB ["self", "text"] (spVeI K)) (hb : Binds K fdB ["self", "text"] []) : FnOk P w K mg base CX0 2 f fd ["self", "found"] (spErI K C "found") := by
  refine F.ok sc_NoBox___init__ (fun vs H Q E h => ?_) (fun cdv A outer s H vs Q E hr h => ?_)
  · obtain ⟨a, v, rfl, _⟩ := h
    rfl
  · obtain ⟨a, v, rfl, hC, hf, ha, q⟩ := h
    refine ⟨_, pss_cons (ps_expr (pe_cfn c G hr hb (pa_cons (pv 0) (pa_cons pe_str pa_nil)))) (pss_one (ps_ost (pv 0) (pv 1))), ?_⟩
    exact ⟨_, rfl, a, C, _, rfl, hC, ha, _, rfl, _, rfl, a, C, rfl, hC, hf, .inl ⟨ha, fun dx h1 h2 => q dx h1 h2⟩⟩
end

end K30
end
set_option maxRecDepth 100000
set_option maxHeartbeats 4000000
namespace K30
open PySem Evl Nc PyProof.Rows
open L2 hiding spCell
/-! ### what the top has written; the law's own head -/
theorem all_mk {l : PySem.W.OpenLaw} {w : World} {K : PySem.W.Frag} {h : Heap} {mg : Str → Option Value} {fa : Addr} (X : K.In h) (G : h.Ns mainGlobals mg) (hfa : mg "law" = some (.ref fa))
    {od0 an0 : Option Addr} {sl0 : Array (Option Value)} {oc0 kV0 dc0 pm0 cd0 ct0 : Value} {f0 : Addr}
    {od1 an1 : Option Addr} {sl1 : Array (Option Value)} {oc1 kV1 dc1 pm1 cd1 ct1 : Value} {f1 : Addr}
    {od2 an2 : Option Addr} {sl2 : Array (Option Value)} {oc2 kV2 dc2 pm2 cd2 ct2 : Value} {f2 : Addr}
    {od3 an3 : Option Addr} {sl3 : Array (Option Value)} {oc3 kV3 dc3 pm3 cd3 ct3 : Value} {f3 : Addr}
    {od4 an4 : Option Addr} {sl4 : Array (Option Value)} {oc4 kV4 dc4 pm4 cd4 ct4 : Value} {f4 : Addr}
    {od5 an5 : Option Addr} {sl5 : Array (Option Value)} {oc5 kV5 dc5 pm5 cd5 ct5 : Value} {f5 : Addr}
    {od6 an6 : Option Addr} {sl6 : Array (Option Value)} {oc6 kV6 dc6 pm6 cd6 ct6 : Value} {f6 : Addr}
    {od7 an7 : Option Addr} {sl7 : Array (Option Value)} {oc7 kV7 dc7 pm7 cd7 ct7 : Value} {f7 : Addr}
    {od8 an8 : Option Addr} {sl8 : Array (Option Value)} {oc8 kV8 dc8 pm8 cd8 ct8 : Value} {f8 : Addr}
    {od9 an9 : Option Addr} {sl9 : Array (Option Value)} {oc9 kV9 dc9 pm9 cd9 ct9 : Value} {f9 : Addr}
    {od10 an10 : Option Addr} {sl10 : Array (Option Value)} {oc10 kV10 dc10 pm10 cd10 ct10 : Value} {f10 : Addr}
    {od11 an11 : Option Addr} {sl11 : Array (Option Value)} {oc11 kV11 dc11 pm11 cd11 ct11 : Value} {f11 : Addr}
    {od12 an12 : Option Addr} {sl12 : Array (Option Value)} {oc12 kV12 dc12 pm12 cd12 ct12 : Value} {f12 : Addr}
    {od13 an13 : Option Addr} {sl13 : Array (Option Value)} {oc13 kV13 dc13 pm13 cd13 ct13 : Value} {f13 : Addr}
    {od14 an14 : Option Addr} {sl14 : Array (Option Value)} {oc14 kV14 dc14 pm14 cd14 ct14 : Value} {f14 : Addr}
    {od15 an15 : Option Addr} {sl15 : Array (Option Value)} {oc15 kV15 dc15 pm15 cd15 ct15 : Value} {f15 : Addr}
    {od16 an16 : Option Addr} {sl16 : Array (Option Value)} {oc16 kV16 dc16 pm16 cd16 ct16 : Value} {f16 : Addr}
    {od17 an17 : Option Addr} {sl17 : Array (Option Value)} {oc17 kV17 dc17 pm17 cd17 ct17 : Value} {f17 : Addr}
    {od18 an18 : Option Addr} {sl18 : Array (Option Value)} {oc18 kV18 dc18 pm18 cd18 ct18 : Value} {f18 : Addr}
    {od19 an19 : Option Addr} {sl19 : Array (Option Value)} {oc19 kV19 dc19 pm19 cd19 ct19 : Value} {f19 : Addr}
    {od20 an20 : Option Addr} {sl20 : Array (Option Value)} {oc20 kV20 dc20 pm20 cd20 ct20 : Value} {f20 : Addr}
    {od21 an21 : Option Addr} {sl21 : Array (Option Value)} {oc21 kV21 dc21 pm21 cd21 ct21 : Value} {f21 : Addr}
    {od22 an22 : Option Addr} {sl22 : Array (Option Value)} {oc22 kV22 dc22 pm22 cd22 ct22 : Value} {f22 : Addr}
    {od23 an23 : Option Addr} {sl23 : Array (Option Value)} {oc23 kV23 dc23 pm23 cd23 ct23 : Value} {f23 : Addr}
    {od24 an24 : Option Addr} {sl24 : Array (Option Value)} {oc24 kV24 dc24 pm24 cd24 ct24 : Value} {f24 : Addr}
    {od25 an25 : Option Addr} {sl25 : Array (Option Value)} {oc25 kV25 dc25 pm25 cd25 ct25 : Value} {f25 : Addr}
    {od26 an26 : Option Addr} {sl26 : Array (Option Value)} {oc26 kV26 dc26 pm26 cd26 ct26 : Value} {f26 : Addr}
    {od27 an27 : Option Addr} {sl27 : Array (Option Value)} {oc27 kV27 dc27 pm27 cd27 ct27 : Value} {f27 : Addr}
    {od28 an28 : Option Addr} {sl28 : Array (Option Value)} {oc28 kV28 dc28 pm28 cd28 ct28 : Value} {f28 : Addr}
    {od29 an29 : Option Addr} {sl29 : Array (Option Value)} {oc29 kV29 dc29 pm29 cd29 ct29 : Value} {f29 : Addr}
    {od30 an30 : Option Addr} {sl30 : Array (Option Value)} {oc30 kV30 dc30 pm30 cd30 ct30 : Value} {f30 : Addr}
    {od31 an31 : Option Addr} {sl31 : Array (Option Value)} {oc31 kV31 dc31 pm31 cd31 ct31 : Value} {f31 : Addr}
    {od32 an32 : Option Addr} {sl32 : Array (Option Value)} {oc32 kV32 dc32 pm32 cd32 ct32 : Value} {f32 : Addr}
    {od33 an33 : Option Addr} {sl33 : Array (Option Value)} {oc33 kV33 dc33 pm33 cd33 ct33 : Value} {f33 : Addr}
    {od34 an34 : Option Addr} {sl34 : Array (Option Value)} {oc34 kV34 dc34 pm34 cd34 ct34 : Value} {f34 : Addr}
    {od35 an35 : Option Addr} {sl35 : Array (Option Value)} {oc35 kV35 dc35 pm35 cd35 ct35 : Value} {f35 : Addr}
    {od36 an36 : Option Addr} {sl36 : Array (Option Value)} {oc36 kV36 dc36 pm36 cd36 ct36 : Value} {f36 : Addr}
    {od37 an37 : Option Addr} {sl37 : Array (Option Value)} {oc37 kV37 dc37 pm37 cd37 ct37 : Value} {f37 : Addr}
    {od38 an38 : Option Addr} {sl38 : Array (Option Value)} {oc38 kV38 dc38 pm38 cd38 ct38 : Value} {f38 : Addr}
    {od39 an39 : Option Addr} {sl39 : Array (Option Value)} {oc39 kV39 dc39 pm39 cd39 ct39 : Value} {f39 : Addr}
    {od40 an40 : Option Addr} {sl40 : Array (Option Value)} {oc40 kV40 dc40 pm40 cd40 ct40 : Value} {f40 : Addr}
    {od41 an41 : Option Addr} {sl41 : Array (Option Value)} {oc41 kV41 dc41 pm41 cd41 ct41 : Value} {f41 : Addr}
    {od42 an42 : Option Addr} {sl42 : Array (Option Value)} {oc42 kV42 dc42 pm42 cd42 ct42 : Value} {f42 : Addr}
    {od43 an43 : Option Addr} {sl43 : Array (Option Value)} {oc43 kV43 dc43 pm43 cd43 ct43 : Value} {f43 : Addr}
    {od44 an44 : Option Addr} {sl44 : Array (Option Value)} {oc44 kV44 dc44 pm44 cd44 ct44 : Value} {f44 : Addr}
    {od45 an45 : Option Addr} {sl45 : Array (Option Value)} {oc45 kV45 dc45 pm45 cd45 ct45 : Value} {f45 : Addr}
    {od46 an46 : Option Addr} {sl46 : Array (Option Value)} {oc46 kV46 dc46 pm46 cd46 ct46 : Value} {f46 : Addr}
    {od47 an47 : Option Addr} {sl47 : Array (Option Value)} {oc47 kV47 dc47 pm47 cd47 ct47 : Value} {f47 : Addr}
    {od48 an48 : Option Addr} {sl48 : Array (Option Value)} {oc48 kV48 dc48 pm48 cd48 ct48 : Value} {f48 : Addr}
    {od49 an49 : Option Addr} {sl49 : Array (Option Value)} {oc49 kV49 dc49 pm49 cd49 ct49 : Value} {f49 : Addr}
    {od50 an50 : Option Addr} {sl50 : Array (Option Value)} {oc50 kV50 dc50 pm50 cd50 ct50 : Value} {f50 : Addr}
    {od51 an51 : Option Addr} {sl51 : Array (Option Value)} {oc51 kV51 dc51 pm51 cd51 ct51 : Value} {f51 : Addr}
    {od52 an52 : Option Addr} {sl52 : Array (Option Value)} {oc52 kV52 dc52 pm52 cd52 ct52 : Value} {f52 : Addr}
    {od53 an53 : Option Addr} {sl53 : Array (Option Value)} {oc53 kV53 dc53 pm53 cd53 ct53 : Value} {f53 : Addr}
    {od54 an54 : Option Addr} {sl54 : Array (Option Value)} {oc54 kV54 dc54 pm54 cd54 ct54 : Value} {f54 : Addr}
    {od55 an55 : Option Addr} {sl55 : Array (Option Value)} {oc55 kV55 dc55 pm55 cd55 ct55 : Value} {f55 : Addr}
    {od56 an56 : Option Addr} {sl56 : Array (Option Value)} {oc56 kV56 dc56 pm56 cd56 ct56 : Value} {f56 : Addr}
    {od57 an57 : Option Addr} {sl57 : Array (Option Value)} {oc57 kV57 dc57 pm57 cd57 ct57 : Value} {f57 : Addr}
    {od58 an58 : Option Addr} {sl58 : Array (Option Value)} {oc58 kV58 dc58 pm58 cd58 ct58 : Value} {f58 : Addr}
    {od59 an59 : Option Addr} {sl59 : Array (Option Value)} {oc59 kV59 dc59 pm59 cd59 ct59 : Value} {f59 : Addr}
    {aCNOUGHT : Addr} {dCNOUGHT : Option Addr} {nCNOUGHT : Nat} {slCNOUGHT : Array (Option Value)} {t1NOUGHT t2NOUGHT : Tok}
    {aCONE : Addr} {dCONE : Option Addr} {nCONE : Nat} {slCONE : Array (Option Value)} {t1ONE t2ONE : Tok}
    {CL : Addr}
    {fI : Addr}
    {CC : Addr}
    {CN : Addr}
    {fNI : Addr}
    {od_I an_I : Option Addr} {sl_I : Array (Option Value)} {oc_I kV_I dc_I pm_I cd_I ct_I : Value}
    {od_NI an_NI : Option Addr} {sl_NI : Array (Option Value)} {oc_NI kV_NI dc_NI pm_NI cd_NI ct_NI : Value}
    {od_Ltold an_Ltold : Option Addr} {sl_Ltold : Array (Option Value)} {oc_Ltold kV_Ltold dc_Ltold pm_Ltold cd_Ltold ct_Ltold : Value} {fLtold : Addr}
    {od_Lsums an_Lsums : Option Addr} {sl_Lsums : Array (Option Value)} {oc_Lsums kV_Lsums dc_Lsums pm_Lsums cd_Lsums ct_Lsums : Value} {fLsums : Addr}
    {od_Ctold an_Ctold : Option Addr} {sl_Ctold : Array (Option Value)} {oc_Ctold kV_Ctold dc_Ctold pm_Ctold cd_Ctold ct_Ctold : Value} {fCtold : Addr}
    {od_Csums an_Csums : Option Addr} {sl_Csums : Array (Option Value)} {oc_Csums kV_Csums dc_Csums pm_Csums cd_Csums ct_Csums : Value} {fCsums : Addr}
    {od_Nins an_Nins : Option Addr} {sl_Nins : Array (Option Value)} {oc_Nins kV_Nins dc_Nins pm_Nins cd_Nins ct_Nins : Value} {fNins : Addr}
    {od_Nlayers_told an_Nlayers_told : Option Addr} {sl_Nlayers_told : Array (Option Value)} {oc_Nlayers_told kV_Nlayers_told dc_Nlayers_told pm_Nlayers_told cd_Nlayers_told ct_Nlayers_told : Value} {fNlayers_told : Addr}
    {t_MI : Tok}
    {t_ML : Tok}
    {t_MN : Tok}
    {t_MP : Tok}
    {CE fCE : Addr} {nm_CE q_CE : Str} {N_CE : Addr} {bs_CE : List Value} {sn_CE : List Str} {sub_CE : List Value} {ab_CE : Bool} {col_CE : Option Bool} {dd_CE : Option Addr} {k0_CE k1_CE k2_CE k3_CE k5_CE : Option Value} {od_CE an_CE : Option Addr} {sl_CE : Array (Option Value)} {oc_CE kV_CE dc_CE pm_CE cd_CE ct_CE : Value}
    {CB fCB : Addr} {nm_CB q_CB : Str} {N_CB : Addr} {bs_CB : List Value} {sn_CB : List Str} {sub_CB : List Value} {ab_CB : Bool} {col_CB : Option Bool} {dd_CB : Option Addr} {k0_CB k1_CB k2_CB k3_CB k5_CB : Option Value} {od_CB an_CB : Option Addr} {sl_CB : Array (Option Value)} {oc_CB kV_CB dc_CB pm_CB cd_CB ct_CB : Value}
    (a0 : PySem.W.nsIn K mainGlobals "is_whole" = some (some (.ref f0)))
    (l0 : K.lookup f0 = some ⟨oc0, od0, .func (PySem.W.fnOf "is_whole" "is_whole" (defArgs s_is_whole) (defBody s_is_whole) (defScope s_is_whole) .none kV0 dc0 pm0 an0 cd0 ct0), sl0⟩)
    (c0 : PySem.W.codeIn K cd0 "is_whole" = true)
    (k0 : PySem.W.keepIn K (.ref f0) = true)
    (a1 : PySem.W.nsIn K mainGlobals "is_fraction" = some (some (.ref f1)))
    (l1 : K.lookup f1 = some ⟨oc1, od1, .func (PySem.W.fnOf "is_fraction" "is_fraction" (defArgs s_is_fraction) (defBody s_is_fraction) (defScope s_is_fraction) .none kV1 dc1 pm1 an1 cd1 ct1), sl1⟩)
    (c1 : PySem.W.codeIn K cd1 "is_fraction" = true)
    (k1 : PySem.W.keepIn K (.ref f1) = true)
    (a2 : PySem.W.nsIn K mainGlobals "is_row" = some (some (.ref f2)))
    (l2 : K.lookup f2 = some ⟨oc2, od2, .func (PySem.W.fnOf "is_row" "is_row" (defArgs s_is_row) (defBody s_is_row) (defScope s_is_row) .none kV2 dc2 pm2 an2 cd2 ct2), sl2⟩)
    (c2 : PySem.W.codeIn K cd2 "is_row" = true)
    (k2 : PySem.W.keepIn K (.ref f2) = true)
    (a3 : PySem.W.nsIn K mainGlobals "fraction_of" = some (some (.ref f3)))
    (l3 : K.lookup f3 = some ⟨oc3, od3, .func (PySem.W.fnOf "fraction_of" "fraction_of" (defArgs s_fraction_of) (defBody s_fraction_of) (defScope s_fraction_of) .none kV3 dc3 pm3 an3 cd3 ct3), sl3⟩)
    (c3 : PySem.W.codeIn K cd3 "fraction_of" = true)
    (k3 : PySem.W.keepIn K (.ref f3) = true)
    (a4 : PySem.W.nsIn K mainGlobals "plus" = some (some (.ref f4)))
    (l4 : K.lookup f4 = some ⟨oc4, od4, .func (PySem.W.fnOf "plus" "plus" (defArgs s_plus) (defBody s_plus) (defScope s_plus) .none kV4 dc4 pm4 an4 cd4 ct4), sl4⟩)
    (c4 : PySem.W.codeIn K cd4 "plus" = true)
    (k4 : PySem.W.keepIn K (.ref f4) = true)
    (a5 : PySem.W.nsIn K mainGlobals "minus" = some (some (.ref f5)))
    (l5 : K.lookup f5 = some ⟨oc5, od5, .func (PySem.W.fnOf "minus" "minus" (defArgs s_minus) (defBody s_minus) (defScope s_minus) .none kV5 dc5 pm5 an5 cd5 ct5), sl5⟩)
    (c5 : PySem.W.codeIn K cd5 "minus" = true)
    (k5 : PySem.W.keepIn K (.ref f5) = true)
    (a6 : PySem.W.nsIn K mainGlobals "times" = some (some (.ref f6)))
    (l6 : K.lookup f6 = some ⟨oc6, od6, .func (PySem.W.fnOf "times" "times" (defArgs s_times) (defBody s_times) (defScope s_times) .none kV6 dc6 pm6 an6 cd6 ct6), sl6⟩)
    (c6 : PySem.W.codeIn K cd6 "times" = true)
    (k6 : PySem.W.keepIn K (.ref f6) = true)
    (a7 : PySem.W.nsIn K mainGlobals "ratio" = some (some (.ref f7)))
    (l7 : K.lookup f7 = some ⟨oc7, od7, .func (PySem.W.fnOf "ratio" "ratio" (defArgs s_ratio) (defBody s_ratio) (defScope s_ratio) .none kV7 dc7 pm7 an7 cd7 ct7), sl7⟩)
    (c7 : PySem.W.codeIn K cd7 "ratio" = true)
    (k7 : PySem.W.keepIn K (.ref f7) = true)
    (a8 : PySem.W.nsIn K mainGlobals "is_less" = some (some (.ref f8)))
    (l8 : K.lookup f8 = some ⟨oc8, od8, .func (PySem.W.fnOf "is_less" "is_less" (defArgs s_is_less) (defBody s_is_less) (defScope s_is_less) .none kV8 dc8 pm8 an8 cd8 ct8), sl8⟩)
    (c8 : PySem.W.codeIn K cd8 "is_less" = true)
    (k8 : PySem.W.keepIn K (.ref f8) = true)
    (a9 : PySem.W.nsIn K mainGlobals "cut_at_nought" = some (some (.ref f9)))
    (l9 : K.lookup f9 = some ⟨oc9, od9, .func (PySem.W.fnOf "cut_at_nought" "cut_at_nought" (defArgs s_cut_at_nought) (defBody s_cut_at_nought) (defScope s_cut_at_nought) .none kV9 dc9 pm9 an9 cd9 ct9), sl9⟩)
    (c9 : PySem.W.codeIn K cd9 "cut_at_nought" = true)
    (k9 : PySem.W.keepIn K (.ref f9) = true)
    (a10 : PySem.W.nsIn K mainGlobals "weigh" = some (some (.ref f10)))
    (l10 : K.lookup f10 = some ⟨oc10, od10, .func (PySem.W.fnOf "weigh" "weigh" (defArgs s_weigh) (defBody s_weigh) (defScope s_weigh) .none kV10 dc10 pm10 an10 cd10 ct10), sl10⟩)
    (c10 : PySem.W.codeIn K cd10 "weigh" = true)
    (k10 : PySem.W.keepIn K (.ref f10) = true)
    (a11 : PySem.W.nsIn K mainGlobals "is_sum" = some (some (.ref f11)))
    (l11 : K.lookup f11 = some ⟨oc11, od11, .func (PySem.W.fnOf "is_sum" "is_sum" (defArgs s_is_sum) (defBody s_is_sum) (defScope s_is_sum) .none kV11 dc11 pm11 an11 cd11 ct11), sl11⟩)
    (c11 : PySem.W.codeIn K cd11 "is_sum" = true)
    (k11 : PySem.W.keepIn K (.ref f11) = true)
    (a12 : PySem.W.nsIn K mainGlobals "sum_at" = some (some (.ref f12)))
    (l12 : K.lookup f12 = some ⟨oc12, od12, .func (PySem.W.fnOf "sum_at" "sum_at" (defArgs s_sum_at) (defBody s_sum_at) (defScope s_sum_at) .none kV12 dc12 pm12 an12 cd12 ct12), sl12⟩)
    (c12 : PySem.W.codeIn K cd12 "sum_at" = true)
    (k12 : PySem.W.keepIn K (.ref f12) = true)
    (a13 : PySem.W.nsIn K mainGlobals "sum_plus" = some (some (.ref f13)))
    (l13 : K.lookup f13 = some ⟨oc13, od13, .func (PySem.W.fnOf "sum_plus" "sum_plus" (defArgs s_sum_plus) (defBody s_sum_plus) (defScope s_sum_plus) .none kV13 dc13 pm13 an13 cd13 ct13), sl13⟩)
    (c13 : PySem.W.codeIn K cd13 "sum_plus" = true)
    (k13 : PySem.W.keepIn K (.ref f13) = true)
    (a14 : PySem.W.nsIn K mainGlobals "sum_times" = some (some (.ref f14)))
    (l14 : K.lookup f14 = some ⟨oc14, od14, .func (PySem.W.fnOf "sum_times" "sum_times" (defArgs s_sum_times) (defBody s_sum_times) (defScope s_sum_times) .none kV14 dc14 pm14 an14 cd14 ct14), sl14⟩)
    (c14 : PySem.W.codeIn K cd14 "sum_times" = true)
    (k14 : PySem.W.keepIn K (.ref f14) = true)
    (a15 : PySem.W.nsIn K mainGlobals "flat_sum" = some (some (.ref f15)))
    (l15 : K.lookup f15 = some ⟨oc15, od15, .func (PySem.W.fnOf "flat_sum" "flat_sum" (defArgs s_flat_sum) (defBody s_flat_sum) (defScope s_flat_sum) .none kV15 dc15 pm15 an15 cd15 ct15), sl15⟩)
    (c15 : PySem.W.codeIn K cd15 "flat_sum" = true)
    (k15 : PySem.W.keepIn K (.ref f15) = true)
    (a16 : PySem.W.nsIn K mainGlobals "place_sum" = some (some (.ref f16)))
    (l16 : K.lookup f16 = some ⟨oc16, od16, .func (PySem.W.fnOf "place_sum" "place_sum" (defArgs s_place_sum) (defBody s_place_sum) (defScope s_place_sum) .none kV16 dc16 pm16 an16 cd16 ct16), sl16⟩)
    (c16 : PySem.W.codeIn K cd16 "place_sum" = true)
    (k16 : PySem.W.keepIn K (.ref f16) = true)
    (a17 : PySem.W.nsIn K mainGlobals "is_box" = some (some (.ref f17)))
    (l17 : K.lookup f17 = some ⟨oc17, od17, .func (PySem.W.fnOf "is_box" "is_box" (defArgs s_is_box) (defBody s_is_box) (defScope s_is_box) .none kV17 dc17 pm17 an17 cd17 ct17), sl17⟩)
    (c17 : PySem.W.codeIn K cd17 "is_box" = true)
    (k17 : PySem.W.keepIn K (.ref f17) = true)
    (a18 : PySem.W.nsIn K mainGlobals "least_of" = some (some (.ref f18)))
    (l18 : K.lookup f18 = some ⟨oc18, od18, .func (PySem.W.fnOf "least_of" "least_of" (defArgs s_least_of) (defBody s_least_of) (defScope s_least_of) .none kV18 dc18 pm18 an18 cd18 ct18), sl18⟩)
    (c18 : PySem.W.codeIn K cd18 "least_of" = true)
    (k18 : PySem.W.keepIn K (.ref f18) = true)
    (a19 : PySem.W.nsIn K mainGlobals "greatest_of" = some (some (.ref f19)))
    (l19 : K.lookup f19 = some ⟨oc19, od19, .func (PySem.W.fnOf "greatest_of" "greatest_of" (defArgs s_greatest_of) (defBody s_greatest_of) (defScope s_greatest_of) .none kV19 dc19 pm19 an19 cd19 ct19), sl19⟩)
    (c19 : PySem.W.codeIn K cd19 "greatest_of" = true)
    (k19 : PySem.W.keepIn K (.ref f19) = true)
    (a20 : PySem.W.nsIn K mainGlobals "low_corner" = some (some (.ref f20)))
    (l20 : K.lookup f20 = some ⟨oc20, od20, .func (PySem.W.fnOf "low_corner" "low_corner" (defArgs s_low_corner) (defBody s_low_corner) (defScope s_low_corner) .none kV20 dc20 pm20 an20 cd20 ct20), sl20⟩)
    (c20 : PySem.W.codeIn K cd20 "low_corner" = true)
    (k20 : PySem.W.keepIn K (.ref f20) = true)
    (a21 : PySem.W.nsIn K mainGlobals "high_corner" = some (some (.ref f21)))
    (l21 : K.lookup f21 = some ⟨oc21, od21, .func (PySem.W.fnOf "high_corner" "high_corner" (defArgs s_high_corner) (defBody s_high_corner) (defScope s_high_corner) .none kV21 dc21 pm21 an21 cd21 ct21), sl21⟩)
    (c21 : PySem.W.codeIn K cd21 "high_corner" = true)
    (k21 : PySem.W.keepIn K (.ref f21) = true)
    (a22 : PySem.W.nsIn K mainGlobals "spot_at" = some (some (.ref f22)))
    (l22 : K.lookup f22 = some ⟨oc22, od22, .func (PySem.W.fnOf "spot_at" "spot_at" (defArgs s_spot_at) (defBody s_spot_at) (defScope s_spot_at) .none kV22 dc22 pm22 an22 cd22 ct22), sl22⟩)
    (c22 : PySem.W.codeIn K cd22 "spot_at" = true)
    (k22 : PySem.W.keepIn K (.ref f22) = true)
    (a23 : PySem.W.nsIn K mainGlobals "check_box" = some (some (.ref f23)))
    (l23 : K.lookup f23 = some ⟨oc23, od23, .func (PySem.W.fnOf "check_box" "check_box" (defArgs s_check_box) (defBody s_check_box) (defScope s_check_box) .none kV23 dc23 pm23 an23 cd23 ct23), sl23⟩)
    (c23 : PySem.W.codeIn K cd23 "check_box" = true)
    (k23 : PySem.W.keepIn K (.ref f23) = true)
    (a24 : PySem.W.nsIn K mainGlobals "check_box_over" = some (some (.ref f24)))
    (l24 : K.lookup f24 = some ⟨oc24, od24, .func (PySem.W.fnOf "check_box_over" "check_box_over" (defArgs s_check_box_over) (defBody s_check_box_over) (defScope s_check_box_over) .none kV24 dc24 pm24 an24 cd24 ct24), sl24⟩)
    (c24 : PySem.W.codeIn K cd24 "check_box_over" = true)
    (k24 : PySem.W.keepIn K (.ref f24) = true)
    (a25 : PySem.W.nsIn K mainGlobals "_check_sum" = some (some (.ref f25)))
    (l25 : K.lookup f25 = some ⟨oc25, od25, .func (PySem.W.fnOf "_check_sum" "_check_sum" (defArgs s__check_sum) (defBody s__check_sum) (defScope s__check_sum) .none kV25 dc25 pm25 an25 cd25 ct25), sl25⟩)
    (c25 : PySem.W.codeIn K cd25 "_check_sum" = true)
    (k25 : PySem.W.keepIn K (.ref f25) = true)
    (a26 : PySem.W.nsIn K mainGlobals "_is_span" = some (some (.ref f26)))
    (l26 : K.lookup f26 = some ⟨oc26, od26, .func (PySem.W.fnOf "_is_span" "_is_span" (defArgs s__is_span) (defBody s__is_span) (defScope s__is_span) .none kV26 dc26 pm26 an26 cd26 ct26), sl26⟩)
    (c26 : PySem.W.codeIn K cd26 "_is_span" = true)
    (k26 : PySem.W.keepIn K (.ref f26) = true)
    (a27 : PySem.W.nsIn K mainGlobals "handed_on" = some (some (.ref f27)))
    (l27 : K.lookup f27 = some ⟨oc27, od27, .func (PySem.W.fnOf "handed_on" "handed_on" (defArgs s_handed_on) (defBody s_handed_on) (defScope s_handed_on) .none kV27 dc27 pm27 an27 cd27 ct27), sl27⟩)
    (c27 : PySem.W.codeIn K cd27 "handed_on" = true)
    (k27 : PySem.W.keepIn K (.ref f27) = true)
    (a28 : PySem.W.nsIn K mainGlobals "states_of" = some (some (.ref f28)))
    (l28 : K.lookup f28 = some ⟨oc28, od28, .func (PySem.W.fnOf "states_of" "states_of" (defArgs s_states_of) (defBody s_states_of) (defScope s_states_of) .none kV28 dc28 pm28 an28 cd28 ct28), sl28⟩)
    (c28 : PySem.W.codeIn K cd28 "states_of" = true)
    (k28 : PySem.W.keepIn K (.ref f28) = true)
    (a29 : PySem.W.nsIn K mainGlobals "_bounds" = some (some (.ref f29)))
    (l29 : K.lookup f29 = some ⟨oc29, od29, .func (PySem.W.fnOf "_bounds" "_bounds" (defArgs s__bounds) (defBody s__bounds) (defScope s__bounds) .none kV29 dc29 pm29 an29 cd29 ct29), sl29⟩)
    (c29 : PySem.W.codeIn K cd29 "_bounds" = true)
    (k29 : PySem.W.keepIn K (.ref f29) = true)
    (a30 : PySem.W.nsIn K mainGlobals "_state" = some (some (.ref f30)))
    (l30 : K.lookup f30 = some ⟨oc30, od30, .func (PySem.W.fnOf "_state" "_state" (defArgs s__state) (defBody s__state) (defScope s__state) .none kV30 dc30 pm30 an30 cd30 ct30), sl30⟩)
    (c30 : PySem.W.codeIn K cd30 "_state" = true)
    (k30 : PySem.W.keepIn K (.ref f30) = true)
    (a31 : PySem.W.nsIn K mainGlobals "_reckoned" = some (some (.ref f31)))
    (l31 : K.lookup f31 = some ⟨oc31, od31, .func (PySem.W.fnOf "_reckoned" "_reckoned" (defArgs s__reckoned) (defBody s__reckoned) (defScope s__reckoned) .none kV31 dc31 pm31 an31 cd31 ct31), sl31⟩)
    (c31 : PySem.W.codeIn K cd31 "_reckoned" = true)
    (k31 : PySem.W.keepIn K (.ref f31) = true)
    (a32 : PySem.W.nsIn K mainGlobals "_are_ins" = some (some (.ref f32)))
    (l32 : K.lookup f32 = some ⟨oc32, od32, .func (PySem.W.fnOf "_are_ins" "_are_ins" (defArgs s__are_ins) (defBody s__are_ins) (defScope s__are_ins) .none kV32 dc32 pm32 an32 cd32 ct32), sl32⟩)
    (c32 : PySem.W.codeIn K cd32 "_are_ins" = true)
    (k32 : PySem.W.keepIn K (.ref f32) = true)
    (a33 : PySem.W.nsIn K mainGlobals "_are_layers" = some (some (.ref f33)))
    (l33 : K.lookup f33 = some ⟨oc33, od33, .func (PySem.W.fnOf "_are_layers" "_are_layers" (defArgs s__are_layers) (defBody s__are_layers) (defScope s__are_layers) .none kV33 dc33 pm33 an33 cd33 ct33), sl33⟩)
    (c33 : PySem.W.codeIn K cd33 "_are_layers" = true)
    (k33 : PySem.W.keepIn K (.ref f33) = true)
    (a34 : PySem.W.nsIn K mainGlobals "through" = some (some (.ref f34)))
    (l34 : K.lookup f34 = some ⟨oc34, od34, .func (PySem.W.fnOf "through" "through" (defArgs s_through) (defBody s_through) (defScope s_through) .none kV34 dc34 pm34 an34 cd34 ct34), sl34⟩)
    (c34 : PySem.W.codeIn K cd34 "through" = true)
    (k34 : PySem.W.keepIn K (.ref f34) = true)
    (a35 : PySem.W.nsIn K mainGlobals "tightened" = some (some (.ref f35)))
    (l35 : K.lookup f35 = some ⟨oc35, od35, .func (PySem.W.fnOf "tightened" "tightened" (defArgs s_tightened) (defBody s_tightened) (defScope s_tightened) .none kV35 dc35 pm35 an35 cd35 ct35), sl35⟩)
    (c35 : PySem.W.codeIn K cd35 "tightened" = true)
    (k35 : PySem.W.keepIn K (.ref f35) = true)
    (a36 : PySem.W.nsIn K mainGlobals "_four" = some (some (.ref f36)))
    (l36 : K.lookup f36 = some ⟨oc36, od36, .func (PySem.W.fnOf "_four" "_four" (defArgs s__four) (defBody s__four) (defScope s__four) .none kV36 dc36 pm36 an36 cd36 ct36), sl36⟩)
    (c36 : PySem.W.codeIn K cd36 "_four" = true)
    (k36 : PySem.W.keepIn K (.ref f36) = true)
    (a37 : PySem.W.nsIn K mainGlobals "_under_passed" = some (some (.ref f37)))
    (l37 : K.lookup f37 = some ⟨oc37, od37, .func (PySem.W.fnOf "_under_passed" "_under_passed" (defArgs s__under_passed) (defBody s__under_passed) (defScope s__under_passed) .none kV37 dc37 pm37 an37 cd37 ct37), sl37⟩)
    (c37 : PySem.W.codeIn K cd37 "_under_passed" = true)
    (k37 : PySem.W.keepIn K (.ref f37) = true)
    (a38 : PySem.W.nsIn K mainGlobals "_over_passed" = some (some (.ref f38)))
    (l38 : K.lookup f38 = some ⟨oc38, od38, .func (PySem.W.fnOf "_over_passed" "_over_passed" (defArgs s__over_passed) (defBody s__over_passed) (defScope s__over_passed) .none kV38 dc38 pm38 an38 cd38 ct38), sl38⟩)
    (c38 : PySem.W.codeIn K cd38 "_over_passed" = true)
    (k38 : PySem.W.keepIn K (.ref f38) = true)
    (a39 : PySem.W.nsIn K mainGlobals "_law_cell" = some (some (.ref f39)))
    (l39 : K.lookup f39 = some ⟨oc39, od39, .func (PySem.W.fnOf "_law_cell" "_law_cell" (defArgs s__law_cell) (defBody s__law_cell) (defScope s__law_cell) .none kV39 dc39 pm39 an39 cd39 ct39), sl39⟩)
    (c39 : PySem.W.codeIn K cd39 "_law_cell" = true)
    (k39 : PySem.W.keepIn K (.ref f39) = true)
    (a40 : PySem.W.nsIn K mainGlobals "_law_stream" = some (some (.ref f40)))
    (l40 : K.lookup f40 = some ⟨oc40, od40, .func (PySem.W.fnOf "_law_stream" "_law_stream" (defArgs s__law_stream) (defBody s__law_stream) (defScope s__law_stream) .none kV40 dc40 pm40 an40 cd40 ct40), sl40⟩)
    (c40 : PySem.W.codeIn K cd40 "_law_stream" = true)
    (k40 : PySem.W.keepIn K (.ref f40) = true)
    (a41 : PySem.W.nsIn K mainGlobals "_law_take" = some (some (.ref f41)))
    (l41 : K.lookup f41 = some ⟨oc41, od41, .func (PySem.W.fnOf "_law_take" "_law_take" (defArgs s__law_take) (defBody s__law_take) (defScope s__law_take) .none kV41 dc41 pm41 an41 cd41 ct41), sl41⟩)
    (c41 : PySem.W.codeIn K cd41 "_law_take" = true)
    (k41 : PySem.W.keepIn K (.ref f41) = true)
    (a42 : PySem.W.nsIn K mainGlobals "_law_made" = some (some (.ref f42)))
    (l42 : K.lookup f42 = some ⟨oc42, od42, .func (PySem.W.fnOf "_law_made" "_law_made" (defArgs s__law_made) (defBody s__law_made) (defScope s__law_made) .none kV42 dc42 pm42 an42 cd42 ct42), sl42⟩)
    (c42 : PySem.W.codeIn K cd42 "_law_made" = true)
    (k42 : PySem.W.keepIn K (.ref f42) = true)
    (a43 : PySem.W.nsIn K mainGlobals "_law_plus" = some (some (.ref f43)))
    (l43 : K.lookup f43 = some ⟨oc43, od43, .func (PySem.W.fnOf "_law_plus" "_law_plus" (defArgs s__law_plus) (defBody s__law_plus) (defScope s__law_plus) .none kV43 dc43 pm43 an43 cd43 ct43), sl43⟩)
    (c43 : PySem.W.codeIn K cd43 "_law_plus" = true)
    (k43 : PySem.W.keepIn K (.ref f43) = true)
    (a44 : PySem.W.nsIn K mainGlobals "_law_less" = some (some (.ref f44)))
    (l44 : K.lookup f44 = some ⟨oc44, od44, .func (PySem.W.fnOf "_law_less" "_law_less" (defArgs s__law_less) (defBody s__law_less) (defScope s__law_less) .none kV44 dc44 pm44 an44 cd44 ct44), sl44⟩)
    (c44 : PySem.W.codeIn K cd44 "_law_less" = true)
    (k44 : PySem.W.keepIn K (.ref f44) = true)
    (a45 : PySem.W.nsIn K mainGlobals "_law_share" = some (some (.ref f45)))
    (l45 : K.lookup f45 = some ⟨oc45, od45, .func (PySem.W.fnOf "_law_share" "_law_share" (defArgs s__law_share) (defBody s__law_share) (defScope s__law_share) .none kV45 dc45 pm45 an45 cd45 ct45), sl45⟩)
    (c45 : PySem.W.codeIn K cd45 "_law_share" = true)
    (k45 : PySem.W.keepIn K (.ref f45) = true)
    (a46 : PySem.W.nsIn K mainGlobals "_law_node" = some (some (.ref f46)))
    (l46 : K.lookup f46 = some ⟨oc46, od46, .func (PySem.W.fnOf "_law_node" "_law_node" (defArgs s__law_node) (defBody s__law_node) (defScope s__law_node) .none kV46 dc46 pm46 an46 cd46 ct46), sl46⟩)
    (c46 : PySem.W.codeIn K cd46 "_law_node" = true)
    (k46 : PySem.W.keepIn K (.ref f46) = true)
    (a47 : PySem.W.nsIn K mainGlobals "_law_layers" = some (some (.ref f47)))
    (l47 : K.lookup f47 = some ⟨oc47, od47, .func (PySem.W.fnOf "_law_layers" "_law_layers" (defArgs s__law_layers) (defBody s__law_layers) (defScope s__law_layers) .none kV47 dc47 pm47 an47 cd47 ct47), sl47⟩)
    (c47 : PySem.W.codeIn K cd47 "_law_layers" = true)
    (k47 : PySem.W.keepIn K (.ref f47) = true)
    (a48 : PySem.W.nsIn K mainGlobals "_law_box" = some (some (.ref f48)))
    (l48 : K.lookup f48 = some ⟨oc48, od48, .func (PySem.W.fnOf "_law_box" "_law_box" (defArgs s__law_box) (defBody s__law_box) (defScope s__law_box) .none kV48 dc48 pm48 an48 cd48 ct48), sl48⟩)
    (c48 : PySem.W.codeIn K cd48 "_law_box" = true)
    (k48 : PySem.W.keepIn K (.ref f48) = true)
    (a49 : PySem.W.nsIn K mainGlobals "_law_shape" = some (some (.ref f49)))
    (l49 : K.lookup f49 = some ⟨oc49, od49, .func (PySem.W.fnOf "_law_shape" "_law_shape" (defArgs s__law_shape) (defBody s__law_shape) (defScope s__law_shape) .none kV49 dc49 pm49 an49 cd49 ct49), sl49⟩)
    (c49 : PySem.W.codeIn K cd49 "_law_shape" = true)
    (k49 : PySem.W.keepIn K (.ref f49) = true)
    (a50 : PySem.W.nsIn K mainGlobals "_law_world" = some (some (.ref f50)))
    (l50 : K.lookup f50 = some ⟨oc50, od50, .func (PySem.W.fnOf "_law_world" "_law_world" (defArgs s__law_world) (defBody s__law_world) (defScope s__law_world) .none kV50 dc50 pm50 an50 cd50 ct50), sl50⟩)
    (c50 : PySem.W.codeIn K cd50 "_law_world" = true)
    (k50 : PySem.W.keepIn K (.ref f50) = true)
    (a51 : PySem.W.nsIn K mainGlobals "_law_net" = some (some (.ref f51)))
    (l51 : K.lookup f51 = some ⟨oc51, od51, .func (PySem.W.fnOf "_law_net" "_law_net" (defArgs s__law_net) (defBody s__law_net) (defScope s__law_net) .none kV51 dc51 pm51 an51 cd51 ct51), sl51⟩)
    (c51 : PySem.W.codeIn K cd51 "_law_net" = true)
    (k51 : PySem.W.keepIn K (.ref f51) = true)
    (a52 : PySem.W.nsIn K mainGlobals "_law_whole" = some (some (.ref f52)))
    (l52 : K.lookup f52 = some ⟨oc52, od52, .func (PySem.W.fnOf "_law_whole" "_law_whole" (defArgs s__law_whole) (defBody s__law_whole) (defScope s__law_whole) .none kV52 dc52 pm52 an52 cd52 ct52), sl52⟩)
    (c52 : PySem.W.codeIn K cd52 "_law_whole" = true)
    (k52 : PySem.W.keepIn K (.ref f52) = true)
    (a53 : PySem.W.nsIn K mainGlobals "_law_is_fraction" = some (some (.ref f53)))
    (l53 : K.lookup f53 = some ⟨oc53, od53, .func (PySem.W.fnOf "_law_is_fraction" "_law_is_fraction" (defArgs s__law_is_fraction) (defBody s__law_is_fraction) (defScope s__law_is_fraction) .none kV53 dc53 pm53 an53 cd53 ct53), sl53⟩)
    (c53 : PySem.W.codeIn K cd53 "_law_is_fraction" = true)
    (k53 : PySem.W.keepIn K (.ref f53) = true)
    (a54 : PySem.W.nsIn K mainGlobals "_law_is_box" = some (some (.ref f54)))
    (l54 : K.lookup f54 = some ⟨oc54, od54, .func (PySem.W.fnOf "_law_is_box" "_law_is_box" (defArgs s__law_is_box) (defBody s__law_is_box) (defScope s__law_is_box) .none kV54 dc54 pm54 an54 cd54 ct54), sl54⟩)
    (c54 : PySem.W.codeIn K cd54 "_law_is_box" = true)
    (k54 : PySem.W.keepIn K (.ref f54) = true)
    (a55 : PySem.W.nsIn K mainGlobals "_law_end" = some (some (.ref f55)))
    (l55 : K.lookup f55 = some ⟨oc55, od55, .func (PySem.W.fnOf "_law_end" "_law_end" (defArgs s__law_end) (defBody s__law_end) (defScope s__law_end) .none kV55 dc55 pm55 an55 cd55 ct55), sl55⟩)
    (c55 : PySem.W.codeIn K cd55 "_law_end" = true)
    (k55 : PySem.W.keepIn K (.ref f55) = true)
    (a56 : PySem.W.nsIn K mainGlobals "_law_pair" = some (some (.ref f56)))
    (l56 : K.lookup f56 = some ⟨oc56, od56, .func (PySem.W.fnOf "_law_pair" "_law_pair" (defArgs s__law_pair) (defBody s__law_pair) (defScope s__law_pair) .none kV56 dc56 pm56 an56 cd56 ct56), sl56⟩)
    (c56 : PySem.W.codeIn K cd56 "_law_pair" = true)
    (k56 : PySem.W.keepIn K (.ref f56) = true)
    (a57 : PySem.W.nsIn K mainGlobals "_law_thing" = some (some (.ref f57)))
    (l57 : K.lookup f57 = some ⟨oc57, od57, .func (PySem.W.fnOf "_law_thing" "_law_thing" (defArgs s__law_thing) (defBody s__law_thing) (defScope s__law_thing) .none kV57 dc57 pm57 an57 cd57 ct57), sl57⟩)
    (c57 : PySem.W.codeIn K cd57 "_law_thing" = true)
    (k57 : PySem.W.keepIn K (.ref f57) = true)
    (a58 : PySem.W.nsIn K mainGlobals "_law_refused" = some (some (.ref f58)))
    (l58 : K.lookup f58 = some ⟨oc58, od58, .func (PySem.W.fnOf "_law_refused" "_law_refused" (defArgs s__law_refused) (defBody s__law_refused) (defScope s__law_refused) .none kV58 dc58 pm58 an58 cd58 ct58), sl58⟩)
    (c58 : PySem.W.codeIn K cd58 "_law_refused" = true)
    (k58 : PySem.W.keepIn K (.ref f58) = true)
    (a59 : PySem.W.nsIn K mainGlobals "law" = some (some (.ref f59)))
    (l59 : K.lookup f59 = some ⟨oc59, od59, .func (PySem.W.fnOf "law" "law" (defArgs s_law) (defBody s_law) (defScope s_law) .none kV59 dc59 pm59 an59 cd59 ct59), sl59⟩)
    (c59 : PySem.W.codeIn K cd59 "law" = true)
    (k59 : PySem.W.keepIn K (.ref f59) = true)
    (z_len : PySem.W.nsIn K mainGlobals "len" = some none)
    (z_range : PySem.W.nsIn K mainGlobals "range" = some none)
    (z_zip : PySem.W.nsIn K mainGlobals "zip" = some none)
    (z_tuple : PySem.W.nsIn K mainGlobals "tuple" = some none)
    (z_int : PySem.W.nsIn K mainGlobals "int" = some none)
    (z_abs : PySem.W.nsIn K mainGlobals "abs" = some none)
    (z_isinstance : PySem.W.nsIn K mainGlobals "isinstance" = some none)
    (z_bool : PySem.W.nsIn K mainGlobals "bool" = some none)
    (z_list : PySem.W.nsIn K mainGlobals "list" = some none)
    (z_max : PySem.W.nsIn K mainGlobals "max" = some none)
    (z_min : PySem.W.nsIn K mainGlobals "min" = some none)
    (z_all : PySem.W.nsIn K mainGlobals "all" = some none)
    (z_str : PySem.W.nsIn K mainGlobals "str" = some none)
    (z_ValueError : PySem.W.nsIn K mainGlobals "ValueError" = some none)
    (zgcd : PySem.W.nsIn K mainGlobals "gcd" = some (some (.builtin "math.gcd")))
    (nNOUGHT : PySem.W.nsIn K mainGlobals "NOUGHT" = some (some (.ref aCNOUGHT)))
    (vNOUGHT : K.lookup aCNOUGHT = some ⟨.type "tuple", dCNOUGHT, .seq #[.int 0 t1NOUGHT, .int 1 t2NOUGHT] nCNOUGHT, slCNOUGHT⟩)
    (nONE : PySem.W.nsIn K mainGlobals "ONE" = some (some (.ref aCONE)))
    (vONE : K.lookup aCONE = some ⟨.type "tuple", dCONE, .seq #[.int 1 t1ONE, .int 1 t2ONE] nCONE, slCONE⟩)
    (aCL : PySem.W.nsIn K mainGlobals "Layer" = some (some (.ref CL)))
    (pgCL : PySem.W.plainGet K CL Str.empty = true)
    (hdCL : PySem.W.hasDictIn K CL = true)
    (poCL : PySem.W.plainOver K CL = true)
    (saCL : PySem.W.findIn K (.ref CL) "__setattr__" = some (some (.builtin "object.__setattr__")))
    (mkCL : PySem.W.makesIn K CL = true)
    (kcCL : PySem.W.keepIn K (.ref CL) = true)
    (naCL : PySem.W.findIn K (.ref CL) "_nodes" = some none)
    (iiCL : PySem.W.findIn K (.ref CL) "__init__" = some (some (.ref fI)))
    (aCC : PySem.W.nsIn K mainGlobals "CutLayer" = some (some (.ref CC)))
    (pgCC : PySem.W.plainGet K CC Str.empty = true)
    (hdCC : PySem.W.hasDictIn K CC = true)
    (poCC : PySem.W.plainOver K CC = true)
    (saCC : PySem.W.findIn K (.ref CC) "__setattr__" = some (some (.builtin "object.__setattr__")))
    (mkCC : PySem.W.makesIn K CC = true)
    (kcCC : PySem.W.keepIn K (.ref CC) = true)
    (naCC : PySem.W.findIn K (.ref CC) "_nodes" = some none)
    (iiCC : PySem.W.findIn K (.ref CC) "__init__" = some (some (.ref fI)))
    (aCN : PySem.W.nsIn K mainGlobals "Net" = some (some (.ref CN)))
    (pgCN : PySem.W.plainGet K CN Str.empty = true)
    (hdCN : PySem.W.hasDictIn K CN = true)
    (poCN : PySem.W.plainOver K CN = true)
    (saCN : PySem.W.findIn K (.ref CN) "__setattr__" = some (some (.builtin "object.__setattr__")))
    (mkCN : PySem.W.makesIn K CN = true)
    (kcCN : PySem.W.keepIn K (.ref CN) = true)
    (niCN : PySem.W.findIn K (.ref CN) "_ins" = some none)
    (nlCN : PySem.W.findIn K (.ref CN) "_layers" = some none)
    (iiCN : PySem.W.findIn K (.ref CN) "__init__" = some (some (.ref fNI)))
    (haCN : PySem.W.findIn K (.ref CN) "__class__" = some (some (.builtin "object.__class__")))
    (hmCN : PySem.W.mroIn K CN (.type "object") = some true)
    (meCN : PySem.W.kitOne K (.ref CN) (.ref CN) = some true)
    (hnO : PySem.W.specialIn K (.builtin "object.__class__") "__get__" = some (some (.builtin "getset_descriptor.__get__")))
    (htO : PySem.W.takesIn K (.builtin "object.__class__") = some true)
    (qI : PySem.W.isFn K (.ref fI) = true)
    (lI : K.lookup fI = some ⟨oc_I, od_I, .func (PySem.W.fnOf "__init__" "Layer.__init__" (defArgs s_Layer___init__) (defBody s_Layer___init__) (defScope s_Layer___init__) .none kV_I dc_I pm_I an_I cd_I ct_I), sl_I⟩)
    (cI : PySem.W.codeIn K cd_I "Layer.__init__" = true)
    (kI : PySem.W.keepIn K (.ref fI) = true)
    (qNI : PySem.W.isFn K (.ref fNI) = true)
    (lNI : K.lookup fNI = some ⟨oc_NI, od_NI, .func (PySem.W.fnOf "__init__" "Net.__init__" (defArgs s_Net___init__) (defBody s_Net___init__) (defScope s_Net___init__) .none kV_NI dc_NI pm_NI an_NI cd_NI ct_NI), sl_NI⟩)
    (cNI : PySem.W.codeIn K cd_NI "Net.__init__" = true)
    (kNI : PySem.W.keepIn K (.ref fNI) = true)
    (wLtold : PySem.W.findIn K (.ref CL) "told" = some (some (.ref fLtold)))
    (qLtold : PySem.W.isFn K (.ref fLtold) = true)
    (lLtold : K.lookup fLtold = some ⟨oc_Ltold, od_Ltold, .func (PySem.W.fnOf "told" "Layer.told" (defArgs s_Layer_told) (defBody s_Layer_told) (defScope s_Layer_told) .none kV_Ltold dc_Ltold pm_Ltold an_Ltold cd_Ltold ct_Ltold), sl_Ltold⟩)
    (cLtold : PySem.W.codeIn K cd_Ltold "Layer.told" = true)
    (kLtold : PySem.W.keepIn K (.ref fLtold) = true)
    (wLsums : PySem.W.findIn K (.ref CL) "sums" = some (some (.ref fLsums)))
    (qLsums : PySem.W.isFn K (.ref fLsums) = true)
    (lLsums : K.lookup fLsums = some ⟨oc_Lsums, od_Lsums, .func (PySem.W.fnOf "sums" "Layer.sums" (defArgs s_Layer_sums) (defBody s_Layer_sums) (defScope s_Layer_sums) .none kV_Lsums dc_Lsums pm_Lsums an_Lsums cd_Lsums ct_Lsums), sl_Lsums⟩)
    (cLsums : PySem.W.codeIn K cd_Lsums "Layer.sums" = true)
    (kLsums : PySem.W.keepIn K (.ref fLsums) = true)
    (wCtold : PySem.W.findIn K (.ref CC) "told" = some (some (.ref fCtold)))
    (qCtold : PySem.W.isFn K (.ref fCtold) = true)
    (lCtold : K.lookup fCtold = some ⟨oc_Ctold, od_Ctold, .func (PySem.W.fnOf "told" "CutLayer.told" (defArgs s_CutLayer_told) (defBody s_CutLayer_told) (defScope s_CutLayer_told) .none kV_Ctold dc_Ctold pm_Ctold an_Ctold cd_Ctold ct_Ctold), sl_Ctold⟩)
    (cCtold : PySem.W.codeIn K cd_Ctold "CutLayer.told" = true)
    (kCtold : PySem.W.keepIn K (.ref fCtold) = true)
    (wCsums : PySem.W.findIn K (.ref CC) "sums" = some (some (.ref fCsums)))
    (qCsums : PySem.W.isFn K (.ref fCsums) = true)
    (lCsums : K.lookup fCsums = some ⟨oc_Csums, od_Csums, .func (PySem.W.fnOf "sums" "CutLayer.sums" (defArgs s_CutLayer_sums) (defBody s_CutLayer_sums) (defScope s_CutLayer_sums) .none kV_Csums dc_Csums pm_Csums an_Csums cd_Csums ct_Csums), sl_Csums⟩)
    (cCsums : PySem.W.codeIn K cd_Csums "CutLayer.sums" = true)
    (kCsums : PySem.W.keepIn K (.ref fCsums) = true)
    (wNins : PySem.W.findIn K (.ref CN) "ins" = some (some (.ref fNins)))
    (qNins : PySem.W.isFn K (.ref fNins) = true)
    (lNins : K.lookup fNins = some ⟨oc_Nins, od_Nins, .func (PySem.W.fnOf "ins" "Net.ins" (defArgs s_Net_ins) (defBody s_Net_ins) (defScope s_Net_ins) .none kV_Nins dc_Nins pm_Nins an_Nins cd_Nins ct_Nins), sl_Nins⟩)
    (cNins : PySem.W.codeIn K cd_Nins "Net.ins" = true)
    (kNins : PySem.W.keepIn K (.ref fNins) = true)
    (wNlayers_told : PySem.W.findIn K (.ref CN) "layers_told" = some (some (.ref fNlayers_told)))
    (qNlayers_told : PySem.W.isFn K (.ref fNlayers_told) = true)
    (lNlayers_told : K.lookup fNlayers_told = some ⟨oc_Nlayers_told, od_Nlayers_told, .func (PySem.W.fnOf "layers_told" "Net.layers_told" (defArgs s_Net_layers_told) (defBody s_Net_layers_told) (defScope s_Net_layers_told) .none kV_Nlayers_told dc_Nlayers_told pm_Nlayers_told an_Nlayers_told cd_Nlayers_told ct_Nlayers_told), sl_Nlayers_told⟩)
    (cNlayers_told : PySem.W.codeIn K cd_Nlayers_told "Net.layers_told" = true)
    (kNlayers_told : PySem.W.keepIn K (.ref fNlayers_told) = true)
    (iMI : PySem.W.nsIn K mainGlobals "MOST_INS" = some (some (.int 3 t_MI)))
    (iML : PySem.W.nsIn K mainGlobals "MOST_LAYERS" = some (some (.int 4 t_ML)))
    (iMN : PySem.W.nsIn K mainGlobals "MOST_NODES" = some (some (.int 4 t_MN)))
    (iMP : PySem.W.nsIn K mainGlobals "MOST_PLACES" = some (some (.int 3 t_MP)))
    (aCE : PySem.W.nsIn K mainGlobals "CutError" = some (some (.ref CE)))
    (xCE : K.lookup CE = some (excClassObj nm_CE q_CE CE N_CE bs_CE [.type "ValueError", .type "Exception", .type "BaseException", .type "object"] true sn_CE sub_CE ab_CE col_CE dd_CE k0_CE k1_CE k2_CE k3_CE k5_CE "ValueError.__new__"))
    (saCE : PySem.W.findIn K (.ref CE) "__setattr__" = some (some (.builtin "object.__setattr__")))
    (tyCE : PySem.W.typeIn K (.ref CE) = some (.type "type"))
    (kcCE : PySem.W.keepIn K (.ref CE) = true)
    (hdCE : PySem.W.hasDictIn K CE = true)
    (gaCE : PySem.W.findIn K (.ref CE) "__getattribute__" = some (some (.builtin "BaseException.__getattribute__")))
    (gtCE : PySem.W.findIn K (.ref CE) "__getattr__" = some none)
    (caCE : PySem.W.findIn K (.ref CE) "__class__" = some (some (.builtin "object.__class__")))
    (iiCE : PySem.W.findIn K (.ref CE) "__init__" = some (some (.ref fCE)))
    (tiCE : PySem.W.typeIn K (.ref fCE) = some (.type "function"))
    (lCE : K.lookup fCE = some ⟨oc_CE, od_CE, .func (PySem.W.fnOf "__init__" "CutError.__init__" (defArgs s_CutError___init__) (defBody s_CutError___init__) (defScope s_CutError___init__) .none kV_CE dc_CE pm_CE an_CE cd_CE ct_CE), sl_CE⟩)
    (cCE : PySem.W.codeIn K cd_CE "CutError.__init__" = true)
    (kCE : PySem.W.keepIn K (.ref fCE) = true)
    (aCB : PySem.W.nsIn K mainGlobals "NoBox" = some (some (.ref CB)))
    (xCB : K.lookup CB = some (excClassObj nm_CB q_CB CB N_CB bs_CB (.ref CE :: [.type "ValueError", .type "Exception", .type "BaseException", .type "object"]) true sn_CB sub_CB ab_CB col_CB dd_CB k0_CB k1_CB k2_CB k3_CB k5_CB "ValueError.__new__"))
    (saCB : PySem.W.findIn K (.ref CB) "__setattr__" = some (some (.builtin "object.__setattr__")))
    (tyCB : PySem.W.typeIn K (.ref CB) = some (.type "type"))
    (kcCB : PySem.W.keepIn K (.ref CB) = true)
    (hdCB : PySem.W.hasDictIn K CB = true)
    (gaCB : PySem.W.findIn K (.ref CB) "__getattribute__" = some (some (.builtin "BaseException.__getattribute__")))
    (gtCB : PySem.W.findIn K (.ref CB) "__getattr__" = some none)
    (caCB : PySem.W.findIn K (.ref CB) "__class__" = some (some (.builtin "object.__class__")))
    (iiCB : PySem.W.findIn K (.ref CB) "__init__" = some (some (.ref fCB)))
    (tiCB : PySem.W.typeIn K (.ref fCB) = some (.type "function"))
    (noCB : PySem.W.findIn K (.ref CB) "found" = some none)
    (lCB : K.lookup fCB = some ⟨oc_CB, od_CB, .func (PySem.W.fnOf "__init__" "NoBox.__init__" (defArgs s_NoBox___init__) (defBody s_NoBox___init__) (defScope s_NoBox___init__) .none kV_CB dc_CB pm_CB an_CB cd_CB ct_CB), sl_CB⟩)
    (cCB : PySem.W.codeIn K cd_CB "NoBox.__init__" = true)
    (kCB : PySem.W.keepIn K (.ref fCB) = true)
    (cgO : PySem.W.specialIn K (.builtin "object.__class__") "__get__" = some (some (.builtin "getset_descriptor.__get__")))
    (ctO : PySem.W.takesIn K (.builtin "object.__class__") = some true)
    (rdO : PySem.W.readsIn K CE (.type "type") = true)
    (gaO : PySem.W.specialIn K (.ref CE) "__getattribute__" = some (some (.builtin "type.__getattribute__")))
    (atO : PySem.W.findCls K (.ref CE) (.type "type") "__init__" = some (.val (.ref fCE)))
    (vVO : PySem.W.findCls K (.type "ValueError") (.type "type") "__init__" = some (.val (.builtin "ValueError.__init__")))
    (xe1 : PySem.W.exmOne K (.ref CB) (.ref CB) = some true)
    : ∃ fd : FuncData, (∀ (s : Shared) (v : Value), BindsTo s fd ⟨[v], []⟩ [("_law_script", v)]) ∧ ∀ base : Heap, K.In base → base.Ns mainGlobals mg → FnOk l.prog w K mg base CX0 12 fa fd ["_law_script"] (spLaw K) := by
  have e := hfa.symm.trans (PySem.W.mg_of X G a59)
  cases e
  have D_is_whole : Df K mg "is_whole" s_is_whole ["thing"] := Df.of X G a0 l0 c0 k0 fun _ _ _ _ _ _ us hl => match us, hl with | [_], _ => rfl
  have D_is_fraction : Df K mg "is_fraction" s_is_fraction ["thing"] := Df.of X G a1 l1 c1 k1 fun _ _ _ _ _ _ us hl => match us, hl with | [_], _ => rfl
  have D_is_row : Df K mg "is_row" s_is_row ["thing", "many"] := Df.of X G a2 l2 c2 k2 fun _ _ _ _ _ _ us hl => match us, hl with | [_, _], _ => rfl
  have D_fraction_of : Df K mg "fraction_of" s_fraction_of ["top", "bottom"] := Df.of X G a3 l3 c3 k3 fun _ _ _ _ _ _ us hl => match us, hl with | [_, _], _ => rfl
  have D_plus : Df K mg "plus" s_plus ["one", "other"] := Df.of X G a4 l4 c4 k4 fun _ _ _ _ _ _ us hl => match us, hl with | [_, _], _ => rfl
  have D_minus : Df K mg "minus" s_minus ["one", "other"] := Df.of X G a5 l5 c5 k5 fun _ _ _ _ _ _ us hl => match us, hl with | [_, _], _ => rfl
  have D_times : Df K mg "times" s_times ["one", "other"] := Df.of X G a6 l6 c6 k6 fun _ _ _ _ _ _ us hl => match us, hl with | [_, _], _ => rfl
  have D_ratio : Df K mg "ratio" s_ratio ["one", "other"] := Df.of X G a7 l7 c7 k7 fun _ _ _ _ _ _ us hl => match us, hl with | [_, _], _ => rfl
  have D_is_less : Df K mg "is_less" s_is_less ["one", "other"] := Df.of X G a8 l8 c8 k8 fun _ _ _ _ _ _ us hl => match us, hl with | [_, _], _ => rfl
  have D_cut_at_nought : Df K mg "cut_at_nought" s_cut_at_nought ["one"] := Df.of X G a9 l9 c9 k9 fun _ _ _ _ _ _ us hl => match us, hl with | [_], _ => rfl
  have D_weigh : Df K mg "weigh" s_weigh ["row", "other"] := Df.of X G a10 l10 c10 k10 fun _ _ _ _ _ _ us hl => match us, hl with | [_, _], _ => rfl
  have D_is_sum : Df K mg "is_sum" s_is_sum ["thing", "many"] := Df.of X G a11 l11 c11 k11 fun _ _ _ _ _ _ us hl => match us, hl with | [_, _], _ => rfl
  have D_sum_at : Df K mg "sum_at" s_sum_at ["one", "row"] := Df.of X G a12 l12 c12 k12 fun _ _ _ _ _ _ us hl => match us, hl with | [_, _], _ => rfl
  have D_sum_plus : Df K mg "sum_plus" s_sum_plus ["one", "other"] := Df.of X G a13 l13 c13 k13 fun _ _ _ _ _ _ us hl => match us, hl with | [_, _], _ => rfl
  have D_sum_times : Df K mg "sum_times" s_sum_times ["by", "one"] := Df.of X G a14 l14 c14 k14 fun _ _ _ _ _ _ us hl => match us, hl with | [_, _], _ => rfl
  have D_flat_sum : Df K mg "flat_sum" s_flat_sum ["many", "number"] := Df.of X G a15 l15 c15 k15 fun _ _ _ _ _ _ us hl => match us, hl with | [_, _], _ => rfl
  have D_place_sum : Df K mg "place_sum" s_place_sum ["many", "place"] := Df.of X G a16 l16 c16 k16 fun _ _ _ _ _ _ us hl => match us, hl with | [_, _], _ => rfl
  have D_is_box : Df K mg "is_box" s_is_box ["thing"] := Df.of X G a17 l17 c17 k17 fun _ _ _ _ _ _ us hl => match us, hl with | [_], _ => rfl
  have D_least_of : Df K mg "least_of" s_least_of ["box", "one"] := Df.of X G a18 l18 c18 k18 fun _ _ _ _ _ _ us hl => match us, hl with | [_, _], _ => rfl
  have D_greatest_of : Df K mg "greatest_of" s_greatest_of ["box", "one"] := Df.of X G a19 l19 c19 k19 fun _ _ _ _ _ _ us hl => match us, hl with | [_, _], _ => rfl
  have D_low_corner : Df K mg "low_corner" s_low_corner ["one"] := Df.of X G a20 l20 c20 k20 fun _ _ _ _ _ _ us hl => match us, hl with | [_], _ => rfl
  have D_high_corner : Df K mg "high_corner" s_high_corner ["one"] := Df.of X G a21 l21 c21 k21 fun _ _ _ _ _ _ us hl => match us, hl with | [_], _ => rfl
  have D_spot_at : Df K mg "spot_at" s_spot_at ["spans", "corner"] := Df.of X G a22 l22 c22 k22 fun _ _ _ _ _ _ us hl => match us, hl with | [_, _], _ => rfl
  have D_check_box : Df K mg "check_box" s_check_box ["thing"] := Df.of X G a23 l23 c23 k23 fun _ _ _ _ _ _ us hl => match us, hl with | [_], _ => rfl
  have D_check_box_over : Df K mg "check_box_over" s_check_box_over ["thing", "many"] := Df.of X G a24 l24 c24 k24 fun _ _ _ _ _ _ us hl => match us, hl with | [_, _], _ => rfl
  have D__check_sum : Df K mg "_check_sum" s__check_sum ["box", "one"] := Df.of X G a25 l25 c25 k25 fun _ _ _ _ _ _ us hl => match us, hl with | [_, _], _ => rfl
  have D__is_span : Df K mg "_is_span" s__is_span ["thing"] := Df.of X G a26 l26 c26 k26 fun _ _ _ _ _ _ us hl => match us, hl with | [_], _ => rfl
  have D_handed_on : Df K mg "handed_on" s_handed_on ["net", "box"] := Df.of X G a27 l27 c27 k27 fun _ _ _ _ _ _ us hl => match us, hl with | [_, _], _ => rfl
  have D_states_of : Df K mg "states_of" s_states_of ["net", "box"] := Df.of X G a28 l28 c28 k28 fun _ _ _ _ _ _ us hl => match us, hl with | [_, _], _ => rfl
  have D__bounds : Df K mg "_bounds" s__bounds ["node", "spans"] := Df.of X G a29 l29 c29 k29 fun _ _ _ _ _ _ us hl => match us, hl with | [_, _], _ => rfl
  have D__state : Df K mg "_state" s__state ["low", "high"] := Df.of X G a30 l30 c30 k30 fun _ _ _ _ _ _ us hl => match us, hl with | [_, _], _ => rfl
  have D__reckoned : Df K mg "_reckoned" s__reckoned ["nodes", "ahead"] := Df.of X G a31 l31 c31 k31 fun _ _ _ _ _ _ us hl => match us, hl with | [_, _], _ => rfl
  have D__are_ins : Df K mg "_are_ins" s__are_ins ["thing"] := Df.of X G a32 l32 c32 k32 fun _ _ _ _ _ _ us hl => match us, hl with | [_], _ => rfl
  have D__are_layers : Df K mg "_are_layers" s__are_layers ["thing", "ins"] := Df.of X G a33 l33 c33 k33 fun _ _ _ _ _ _ us hl => match us, hl with | [_, _], _ => rfl
  have D_through : Df K mg "through" s_through ["node", "above", "below", "many"] := Df.of X G a34 l34 c34 k34 fun _ _ _ _ _ _ us hl => match us, hl with | [_, _, _, _], _ => rfl
  have D_tightened : Df K mg "tightened" s_tightened ["net", "box"] := Df.of X G a35 l35 c35 k35 fun _ _ _ _ _ _ us hl => match us, hl with | [_, _], _ => rfl
  have D__four : Df K mg "_four" s__four ["box", "under", "over", "bound"] := Df.of X G a36 l36 c36 k36 fun _ _ _ _ _ _ us hl => match us, hl with | [_, _, _, _], _ => rfl
  have D__under_passed : Df K mg "_under_passed" s__under_passed ["four", "many"] := Df.of X G a37 l37 c37 k37 fun _ _ _ _ _ _ us hl => match us, hl with | [_, _], _ => rfl
  have D__over_passed : Df K mg "_over_passed" s__over_passed ["four", "many"] := Df.of X G a38 l38 c38 k38 fun _ _ _ _ _ _ us hl => match us, hl with | [_, _], _ => rfl
  have D__law_cell : Df K mg "_law_cell" s__law_cell ["_law_script", "_law_k"] := Df.of X G a39 l39 c39 k39 fun _ _ _ _ _ _ us hl => match us, hl with | [_, _], _ => rfl
  have D__law_stream : Df K mg "_law_stream" s__law_stream ["_law_cell_here"] := Df.of X G a40 l40 c40 k40 fun _ _ _ _ _ _ us hl => match us, hl with | [_], _ => rfl
  have D__law_take : Df K mg "_law_take" s__law_take ["_law_stream_here", "_law_many"] := Df.of X G a41 l41 c41 k41 fun _ _ _ _ _ _ us hl => match us, hl with | [_, _], _ => rfl
  have D__law_made : Df K mg "_law_made" s__law_made ["_law_top", "_law_bottom"] := Df.of X G a42 l42 c42 k42 fun _ _ _ _ _ _ us hl => match us, hl with | [_, _], _ => rfl
  have D__law_plus : Df K mg "_law_plus" s__law_plus ["_law_one", "_law_other"] := Df.of X G a43 l43 c43 k43 fun _ _ _ _ _ _ us hl => match us, hl with | [_, _], _ => rfl
  have D__law_less : Df K mg "_law_less" s__law_less ["_law_one", "_law_other"] := Df.of X G a44 l44 c44 k44 fun _ _ _ _ _ _ us hl => match us, hl with | [_, _], _ => rfl
  have D__law_share : Df K mg "_law_share" s__law_share ["_law_stream_here"] := Df.of X G a45 l45 c45 k45 fun _ _ _ _ _ _ us hl => match us, hl with | [_], _ => rfl
  have D__law_node : Df K mg "_law_node" s__law_node ["_law_stream_here", "_law_many"] := Df.of X G a46 l46 c46 k46 fun _ _ _ _ _ _ us hl => match us, hl with | [_, _], _ => rfl
  have D__law_layers : Df K mg "_law_layers" s__law_layers ["_law_stream_here", "_law_ins", "_law_shape_here"] := Df.of X G a47 l47 c47 k47 fun _ _ _ _ _ _ us hl => match us, hl with | [_, _, _], _ => rfl
  have D__law_box : Df K mg "_law_box" s__law_box ["_law_stream_here", "_law_ins"] := Df.of X G a48 l48 c48 k48 fun _ _ _ _ _ _ us hl => match us, hl with | [_, _], _ => rfl
  have D__law_shape : Df K mg "_law_shape" s__law_shape ["_law_stream_here"] := Df.of X G a49 l49 c49 k49 fun _ _ _ _ _ _ us hl => match us, hl with | [_], _ => rfl
  have D__law_world : Df K mg "_law_world" s__law_world ["_law_stream_here"] := Df.of X G a50 l50 c50 k50 fun _ _ _ _ _ _ us hl => match us, hl with | [_], _ => rfl
  have D__law_net : Df K mg "_law_net" s__law_net ["_law_ins", "_law_layers_here"] := Df.of X G a51 l51 c51 k51 fun _ _ _ _ _ _ us hl => match us, hl with | [_, _], _ => rfl
  have D__law_whole : Df K mg "_law_whole" s__law_whole ["_law_thing_here"] := Df.of X G a52 l52 c52 k52 fun _ _ _ _ _ _ us hl => match us, hl with | [_], _ => rfl
  have D__law_is_fraction : Df K mg "_law_is_fraction" s__law_is_fraction ["_law_thing_here"] := Df.of X G a53 l53 c53 k53 fun _ _ _ _ _ _ us hl => match us, hl with | [_], _ => rfl
  have D__law_is_box : Df K mg "_law_is_box" s__law_is_box ["_law_thing_here", "_law_ins"] := Df.of X G a54 l54 c54 k54 fun _ _ _ _ _ _ us hl => match us, hl with | [_, _], _ => rfl
  have D__law_end : Df K mg "_law_end" s__law_end ["_law_stream_here", "_law_one"] := Df.of X G a55 l55 c55 k55 fun _ _ _ _ _ _ us hl => match us, hl with | [_, _], _ => rfl
  have D__law_pair : Df K mg "_law_pair" s__law_pair ["_law_stream_here", "_law_pair_here"] := Df.of X G a56 l56 c56 k56 fun _ _ _ _ _ _ us hl => match us, hl with | [_, _], _ => rfl
  have D__law_thing : Df K mg "_law_thing" s__law_thing ["_law_stream_here", "_law_box_here"] := Df.of X G a57 l57 c57 k57 fun _ _ _ _ _ _ us hl => match us, hl with | [_, _], _ => rfl
  have D__law_refused : Df K mg "_law_refused" s__law_refused ["_law_ask", "_law_net_here", "_law_thing_here"] := Df.of X G a58 l58 c58 k58 fun _ _ _ _ _ _ us hl => match us, hl with | [_, _, _], _ => rfl
  have mlen := PySem.W.mg_none_of X G z_len
  have mrange := PySem.W.mg_none_of X G z_range
  have mzip := PySem.W.mg_none_of X G z_zip
  have mtuple := PySem.W.mg_none_of X G z_tuple
  have mint := PySem.W.mg_none_of X G z_int
  have mabs := PySem.W.mg_none_of X G z_abs
  have misinstance := PySem.W.mg_none_of X G z_isinstance
  have mbool := PySem.W.mg_none_of X G z_bool
  have mlist := PySem.W.mg_none_of X G z_list
  have mmax := PySem.W.mg_none_of X G z_max
  have mmin := PySem.W.mg_none_of X G z_min
  have mall := PySem.W.mg_none_of X G z_all
  have mstr := PySem.W.mg_none_of X G z_str
  have mValueError := PySem.W.mg_none_of X G z_ValueError
  have mgcd := PySem.W.mg_of X G zgcd
  have C_NOUGHT : Cst K mg "NOUGHT" 0 := ⟨aCNOUGHT, PySem.W.mg_of X G nNOUGHT, fun H => ⟨aCNOUGHT, rfl, .inr ⟨_, _, _, vNOUGHT, rfl, rfl, (by show 2 ≤ sizeLine; decide), .cons ⟨_, rfl⟩ (.cons ⟨_, rfl⟩ .nil)⟩⟩⟩
  have C_ONE : Cst K mg "ONE" 1 := ⟨aCONE, PySem.W.mg_of X G nONE, fun H => ⟨aCONE, rfl, .inr ⟨_, _, _, vONE, rfl, rfl, (by show 2 ≤ sizeLine; decide), .cons ⟨_, rfl⟩ (.cons ⟨_, rfl⟩ .nil)⟩⟩⟩
  have FI := fun_mk (st := s_Layer___init__) lI cI kI
  have bI := FI.binds (ps := ["self", "nodes"]) fun _ _ _ _ _ _ us hl => match us, hl with | [_, _], _ => rfl
  have FNI := fun_mk (st := s_Net___init__) lNI cNI kNI
  have bNI := FNI.binds (ps := ["self", "ins", "layers"]) fun _ _ _ _ _ _ us hl => match us, hl with | [_, _, _], _ => rfl
  have FLtold := fun_mk (st := s_Layer_told) lLtold cLtold kLtold
  have bLtold := FLtold.binds (ps := ["self"]) fun _ _ _ _ _ _ us hl => match us, hl with | [_], _ => rfl
  have MLtold : Md K CL "told" "Layer.told" s_Layer_told ["self"] := ⟨_, _, ⟨wLtold, qLtold, kLtold⟩, FLtold, bLtold⟩
  have FLsums := fun_mk (st := s_Layer_sums) lLsums cLsums kLsums
  have bLsums := FLsums.binds (ps := ["self", "ahead"]) fun _ _ _ _ _ _ us hl => match us, hl with | [_, _], _ => rfl
  have MLsums : Md K CL "sums" "Layer.sums" s_Layer_sums ["self", "ahead"] := ⟨_, _, ⟨wLsums, qLsums, kLsums⟩, FLsums, bLsums⟩
  have FCtold := fun_mk (st := s_CutLayer_told) lCtold cCtold kCtold
  have bCtold := FCtold.binds (ps := ["self"]) fun _ _ _ _ _ _ us hl => match us, hl with | [_], _ => rfl
  have MCtold : Md K CC "told" "CutLayer.told" s_CutLayer_told ["self"] := ⟨_, _, ⟨wCtold, qCtold, kCtold⟩, FCtold, bCtold⟩
  have FCsums := fun_mk (st := s_CutLayer_sums) lCsums cCsums kCsums
  have bCsums := FCsums.binds (ps := ["self", "ahead"]) fun _ _ _ _ _ _ us hl => match us, hl with | [_, _], _ => rfl
  have MCsums : Md K CC "sums" "CutLayer.sums" s_CutLayer_sums ["self", "ahead"] := ⟨_, _, ⟨wCsums, qCsums, kCsums⟩, FCsums, bCsums⟩
  have FNins := fun_mk (st := s_Net_ins) lNins cNins kNins
  have bNins := FNins.binds (ps := ["self"]) fun _ _ _ _ _ _ us hl => match us, hl with | [_], _ => rfl
  have MNins : Md K CN "ins" "Net.ins" s_Net_ins ["self"] := ⟨_, _, ⟨wNins, qNins, kNins⟩, FNins, bNins⟩
  have FNlayers_told := fun_mk (st := s_Net_layers_told) lNlayers_told cNlayers_told kNlayers_told
  have bNlayers_told := FNlayers_told.binds (ps := ["self"]) fun _ _ _ _ _ _ us hl => match us, hl with | [_], _ => rfl
  have MNlayers_told : Md K CN "layers_told" "Net.layers_told" s_Net_layers_told ["self"] := ⟨_, _, ⟨wNlayers_told, qNlayers_told, kNlayers_told⟩, FNlayers_told, bNlayers_told⟩
  have TCL : Cls K CL := ⟨pgCL, hdCL, poCL, saCL⟩
  have gCL := PySem.W.mg_of X G aCL
  have TCC : Cls K CC := ⟨pgCC, hdCC, poCC, saCC⟩
  have gCC := PySem.W.mg_of X G aCC
  have TCN : Cls K CN := ⟨pgCN, hdCN, poCN, saCN⟩
  have gCN := PySem.W.mg_of X G aCN
  have ICN : C8.InsC K CN := ⟨TCN, haCN, hnO, htO, hmCN, meCN⟩
  have mMI := PySem.W.mg_of X G iMI
  have mML := PySem.W.mg_of X G iML
  have mMN := PySem.W.mg_of X G iMN
  have mMP := PySem.W.mg_of X G iMP
  have XCE : ErX K CE bmB := ⟨⟨_, _, _, _, _, _, _, _, _, _, _, _, _, _, xCE⟩, rfl, tyCE⟩
  have ECCE : ErC K CE := XCE.erc saCE kcCE gaCE gtCE caCE cgO ctO rfl rfl hdCE
  have FCE := fun_mk (st := s_CutError___init__) lCE cCE kCE
  have bCE := FCE.binds (ps := ["self", "text"]) fun _ _ _ _ _ _ us hl => match us, hl with | [_, _], _ => rfl
  have gCE := PySem.W.mg_of X G aCE
  have XCB : ErX K CB (bmE CE) := ⟨⟨_, _, _, _, _, _, _, _, _, _, _, _, _, _, xCB⟩, rfl, tyCB⟩
  have ECCB : ErC K CB := XCB.erc saCB kcCB gaCB gtCB caCB cgO ctO rfl rfl hdCB
  have FCB := fun_mk (st := s_NoBox___init__) lCB cCB kCB
  have bCB := FCB.binds (ps := ["self", "found"]) fun _ _ _ _ _ _ us hl => match us, hl with | [_, _], _ => rfl
  have gCB := PySem.W.mg_of X G aCB
  have F_law := fun_mk (st := s_law) l59 c59 k59
  refine ⟨PySem.W.fnOf "law" "law" (defArgs s_law) (defBody s_law) (defScope s_law) .none kV59 dc59 pm59 an59 cd59 ct59, fun s v => .of_eq rfl, fun base _ _ => ?_⟩
  have cE : CFn K mg "CutError" CE "__init__" fCE := ⟨gCE, ⟨rdO, gaO⟩, atO, kCE⟩
  have GE := ok_CutError_init (P := l.prog) (w := w) (base := base) (mg := mg) FCE mValueError vVO
  have ECB : Er l.prog w K mg base "NoBox" CB "found" ["self", "found"] := ⟨ECCB, noCB, gCB, _, _, iiCB, tiCB, ok_NoBox_init FCB cE GE bCE, bCB⟩
  have g1 := ok_fraction_of (P := l.prog) (w := w) (base := base) D_fraction_of mgcd
  have g2 := ok_plus D_plus g1
  have g3 := ok_times D_times g1
  have g4 := ok_weigh D_weigh C_NOUGHT mzip g2 g3
  have g5 := ok_sum_at D_sum_at g2 g4
  have g6 := ok_cut_at_nought (P := l.prog) (w := w) (base := base) D_cut_at_nought C_NOUGHT
  have g7 := ok__reckoned D__reckoned g5 mtuple
  have w1 := ok_is_whole (P := l.prog) (w := w) (base := base) D_is_whole misinstance mint mbool
  have w2 := ok_is_fraction D_is_fraction w1 misinstance mtuple mlen mgcd
  have w3 := ok_is_row D_is_row w2 misinstance mtuple mlen mall
  have w4 := ok_is_sum D_is_sum w3 w2 misinstance mtuple mlen
  have w5 := ok__are_ins D__are_ins w1 mMI
  have w6 := ok__are_layers D__are_layers w4 mML mMN misinstance mtuple mlist mlen mall
  have NN : NDefs l.prog w K mg base CN CL CC := ⟨TCN, niCN, nlCN, TCL, TCC, ok_Layer_told MLtold TCL naCL, ok_CutLayer_told MCtold TCC naCC, ok_Layer_sums MLsums TCL naCL g7, ok_CutLayer_sums MCsums TCC naCC g7⟩
  have KN : Mk K CN fNI := ⟨mkCN, iiCN, qNI, kcCN⟩
  have FN := fn_netinit FNI NN ⟨mkCL, iiCL, qI, kcCL⟩ ⟨mkCC, iiCC, qI, kcCC⟩ (fn_init FI TCL naCL mtuple) (fn_init FI TCC naCC mtuple) bI gCL gCC w5 w6 mtuple
  have w6T := okT__are_layers D__are_layers w4 mML mMN misinstance mtuple mlist mlen mall
  have FNT := fnT_netinit FNI NN ⟨mkCL, iiCL, qI, kcCL⟩ ⟨mkCC, iiCC, qI, kcCC⟩ (fn_init FI TCL naCL mtuple) (fn_init FI TCC naCC mtuple) bI gCL gCC w5 w6T mtuple
  have u1 := ok_Net_ins MNins NN
  have u2 := ok_Net_layers_told MNlayers_told NN mlist
  have a1 := ok_is_less (P := l.prog) (w := w) (base := base) D_is_less
  have a2 := ok_low_corner (P := l.prog) (w := w) (base := base) D_low_corner mtuple
  have a3 := ok_high_corner (P := l.prog) (w := w) (base := base) D_high_corner mtuple
  have a4 := ok_spot_at (P := l.prog) (w := w) (base := base) D_spot_at mzip mtuple
  have a5 := ok__is_span D__is_span w3 a1
  have a6 := ok_is_box D_is_box a5 mMP misinstance mtuple mlen mall
  have ta5 := okT__is_span D__is_span w3 a1
  have ta6 := okT_is_box D_is_box ta5 mMP misinstance mtuple mlen mall
  have a7 := ok_check_box_over D_check_box_over ECB ta6 mlen
  have a9 := ok__bounds D__bounds a2 a3 a4 g5
  have b1 := ok_handed_on D_handed_on NN u1 u2 a7 a9 g6
  have g4B := okB_weigh D_weigh C_NOUGHT mzip g2 g3
  have g5B := okB_sum_at D_sum_at g2 g4B
  have p1 := ok_minus D_minus g1
  have p2 := ok_ratio D_ratio g1
  have p3 := ok_sum_plus D_sum_plus g2 mzip mtuple
  have p4 := ok_sum_times D_sum_times g3 mtuple
  have p5 := ok_flat_sum (P := l.prog) (w := w) (base := base) D_flat_sum C_NOUGHT
  have p6 := ok_place_sum (P := l.prog) (w := w) (base := base) D_place_sum C_NOUGHT C_ONE mrange mtuple
  have q1 := ok_check_box D_check_box a6
  have q2 := ok__check_sum D__check_sum q1 w4 mlen
  have q3 := ok_least_of D_least_of q2 a2 a4 g5B
  have q4 := ok_greatest_of D_greatest_of q2 a3 a4 g5B
  have q5 := ok_through D_through p5 p3 p4 mzip
  have q6 := ok__four D__four q3 q4 a1
  have q7 := ok__under_passed D__under_passed g2 p5 C_NOUGHT
  have q8 := ok__over_passed D__over_passed p1 p2 p4 p5 C_NOUGHT
  have q9 := ok_tightened D_tightened NN u1 u2 b1 p6 q5 q6 q7 q8 mrange mzip
  have h1 := ok__law_cell (P := l.prog) (w := w) (base := base) D__law_cell mlen
  have h2 := ok__law_stream (P := l.prog) (w := w) (base := base) D__law_stream mmax
  have h3 := ok__law_take (P := l.prog) (w := w) (base := base) D__law_take
  have h4 := ok__law_made (P := l.prog) (w := w) (base := base) D__law_made mabs
  have h5 := ok__law_plus D__law_plus h4

  have h9 := ok__law_less (P := l.prog) (w := w) (base := base) D__law_less
  have i1 := ok__law_share D__law_share h3 h4
  have i2 := ok__law_node D__law_node i1 mtuple mrange
  have i3 := ok__law_shape D__law_shape h3 mint mrange
  have i4 := ok__law_layers D__law_layers h3 h4 i2 mrange mlen
  have i5 := ok__law_box D__law_box h3 h4 h5 mrange mtuple
  have i7 := ok__law_world D__law_world h3 i3 i4 i5 mint
  have i9 := ok__law_net D__law_net KN FN FNT bNI gCN mlen mtuple mlist
  have sT := ok__state (P := l.prog) (w := w) (base := base) D__state
  have b2 := ok_states_of D_states_of b1 sT
  have vw := ok__law_whole (P := l.prog) (w := w) (base := base) D__law_whole misinstance mint mbool
  have vf := ok__law_is_fraction D__law_is_fraction vw h4 misinstance mtuple mlen
  have vb := ok__law_is_box D__law_is_box vf h9 misinstance mtuple mlen
  have ve := ok__law_end D__law_end h3 mstr
  have vp := ok__law_pair D__law_pair h3 ve
  have vt := ok__law_thing D__law_thing h3 vp mlen mlist
  obtain ⟨fH, fdH, gH, _, _⟩ := D_handed_on.ex
  obtain ⟨fS, fdS, gS, _, _⟩ := D_states_of.ex
  obtain ⟨fT, fdT, gT, _, _⟩ := D_tightened.ex
  have vr := ok__law_refused D__law_refused ECB gCE xe1 b1 b2 q9 gH gS gT misinstance mlist mbool
  exact fn_law F_law ⟨h1, h2, i7, i9, vt, vb, vr⟩ gH gS gT mrange mmax mmin mlen
end K30
open PySem PySem.W PyProof.Rows
set_option maxRecDepth 100000 in
set_option maxHeartbeats 0 in
theorem PySem.Challenge.cw_noughtcut_k30_no_boxes_holds : PySem.Challenge.rw_noughtcut_k30_no_boxes.Holds := by
  w_on; o_law; k_head; (case hw => w_witness2)
  k_fill
  refine L2.walk_of (l := PySem.Challenge.rw_noughtcut_k30_no_boxes) (n := 63) (k := 12) (x := "_law_script") (CX := fun _ => L2.CX0) (sp := fun w => Nc.spLaw _) rfl (by decide) rfl ⟨rfl, by decide, by decide⟩ (fun w h Y => PySem.W.kIn_of Y) ?F (fun _ _ a ns hl _ hS => ⟨a, ns, rfl, hS, hl, fun _ => rfl⟩) (fun _ _ _ _ _ h => h)
  case F =>
    intro w mg fa h KX G hmg
    refine' K30.all_mk KX G hmg ?a0 ?l0 ?c0 ?k0 ?a1 ?l1 ?c1 ?k1 ?a2 ?l2 ?c2 ?k2 ?a3 ?l3 ?c3 ?k3 ?a4 ?l4 ?c4 ?k4 ?a5 ?l5 ?c5 ?k5 ?a6 ?l6 ?c6 ?k6 ?a7 ?l7 ?c7 ?k7 ?a8 ?l8 ?c8 ?k8 ?a9 ?l9 ?c9 ?k9 ?a10 ?l10 ?c10 ?k10 ?a11 ?l11 ?c11 ?k11 ?a12 ?l12 ?c12 ?k12 ?a13 ?l13 ?c13 ?k13 ?a14 ?l14 ?c14 ?k14 ?a15 ?l15 ?c15 ?k15 ?a16 ?l16 ?c16 ?k16 ?a17 ?l17 ?c17 ?k17 ?a18 ?l18 ?c18 ?k18 ?a19 ?l19 ?c19 ?k19 ?a20 ?l20 ?c20 ?k20 ?a21 ?l21 ?c21 ?k21 ?a22 ?l22 ?c22 ?k22 ?a23 ?l23 ?c23 ?k23 ?a24 ?l24 ?c24 ?k24 ?a25 ?l25 ?c25 ?k25 ?a26 ?l26 ?c26 ?k26 ?a27 ?l27 ?c27 ?k27 ?a28 ?l28 ?c28 ?k28 ?a29 ?l29 ?c29 ?k29 ?a30 ?l30 ?c30 ?k30 ?a31 ?l31 ?c31 ?k31 ?a32 ?l32 ?c32 ?k32 ?a33 ?l33 ?c33 ?k33 ?a34 ?l34 ?c34 ?k34 ?a35 ?l35 ?c35 ?k35 ?a36 ?l36 ?c36 ?k36 ?a37 ?l37 ?c37 ?k37 ?a38 ?l38 ?c38 ?k38 ?a39 ?l39 ?c39 ?k39 ?a40 ?l40 ?c40 ?k40 ?a41 ?l41 ?c41 ?k41 ?a42 ?l42 ?c42 ?k42 ?a43 ?l43 ?c43 ?k43 ?a44 ?l44 ?c44 ?k44 ?a45 ?l45 ?c45 ?k45 ?a46 ?l46 ?c46 ?k46 ?a47 ?l47 ?c47 ?k47 ?a48 ?l48 ?c48 ?k48 ?a49 ?l49 ?c49 ?k49 ?a50 ?l50 ?c50 ?k50 ?a51 ?l51 ?c51 ?k51 ?a52 ?l52 ?c52 ?k52 ?a53 ?l53 ?c53 ?k53 ?a54 ?l54 ?c54 ?k54 ?a55 ?l55 ?c55 ?k55 ?a56 ?l56 ?c56 ?k56 ?a57 ?l57 ?c57 ?k57 ?a58 ?l58 ?c58 ?k58 ?a59 ?l59 ?c59 ?k59 ?z_len ?z_range ?z_zip ?z_tuple ?z_int ?z_abs ?z_isinstance ?z_bool ?z_list ?z_max ?z_min ?z_all ?z_str ?z_ValueError ?zgcd ?nNOUGHT ?vNOUGHT ?nONE ?vONE ?aCL ?pgCL ?hdCL ?poCL ?saCL ?mkCL ?kcCL ?naCL ?iiCL ?aCC ?pgCC ?hdCC ?poCC ?saCC ?mkCC ?kcCC ?naCC ?iiCC ?aCN ?pgCN ?hdCN ?poCN ?saCN ?mkCN ?kcCN ?niCN ?nlCN ?iiCN ?haCN ?hmCN ?meCN ?hnO ?htO ?qI ?lI ?cI ?kI ?qNI ?lNI ?cNI ?kNI ?wLtold ?qLtold ?lLtold ?cLtold ?kLtold ?wLsums ?qLsums ?lLsums ?cLsums ?kLsums ?wCtold ?qCtold ?lCtold ?cCtold ?kCtold ?wCsums ?qCsums ?lCsums ?cCsums ?kCsums ?wNins ?qNins ?lNins ?cNins ?kNins ?wNlayers_told ?qNlayers_told ?lNlayers_told ?cNlayers_told ?kNlayers_told ?iMI ?iML ?iMN ?iMP ?aCE ?xCE ?saCE ?tyCE ?kcCE ?hdCE ?gaCE ?gtCE ?caCE ?iiCE ?tiCE ?lCE ?cCE ?kCE ?aCB ?xCB ?saCB ?tyCB ?kcCB ?hdCB ?gaCB ?gtCB ?caCB ?iiCB ?tiCB ?noCB ?lCB ?cCB ?kCB ?cgO ?ctO ?rdO ?gaO ?atO ?vVO ?xe1
    (case a0 => k_is)
    (case l0 => k_is)
    (case c0 => k_is)
    (case k0 => k_is)
    (case a1 => k_is)
    (case l1 => k_is)
    (case c1 => k_is)
    (case k1 => k_is)
    (case a2 => k_is)
    (case l2 => k_is)
    (case c2 => k_is)
    (case k2 => k_is)
    (case a3 => k_is)
    (case l3 => k_is)
    (case c3 => k_is)
    (case k3 => k_is)
    (case a4 => k_is)
    (case l4 => k_is)
    (case c4 => k_is)
    (case k4 => k_is)
    (case a5 => k_is)
    (case l5 => k_is)
    (case c5 => k_is)
    (case k5 => k_is)
    (case a6 => k_is)
    (case l6 => k_is)
    (case c6 => k_is)
    (case k6 => k_is)
    (case a7 => k_is)
    (case l7 => k_is)
    (case c7 => k_is)
    (case k7 => k_is)
    (case a8 => k_is)
    (case l8 => k_is)
    (case c8 => k_is)
    (case k8 => k_is)
    (case a9 => k_is)
    (case l9 => k_is)
    (case c9 => k_is)
    (case k9 => k_is)
    (case a10 => k_is)
    (case l10 => k_is)
    (case c10 => k_is)
    (case k10 => k_is)
    (case a11 => k_is)
    (case l11 => k_is)
    (case c11 => k_is)
    (case k11 => k_is)
    (case a12 => k_is)
    (case l12 => k_is)
    (case c12 => k_is)
    (case k12 => k_is)
    (case a13 => k_is)
    (case l13 => k_is)
    (case c13 => k_is)
    (case k13 => k_is)
    (case a14 => k_is)
    (case l14 => k_is)
    (case c14 => k_is)
    (case k14 => k_is)
    (case a15 => k_is)
    (case l15 => k_is)
    (case c15 => k_is)
    (case k15 => k_is)
    (case a16 => k_is)
    (case l16 => k_is)
    (case c16 => k_is)
    (case k16 => k_is)
    (case a17 => k_is)
    (case l17 => k_is)
    (case c17 => k_is)
    (case k17 => k_is)
    (case a18 => k_is)
    (case l18 => k_is)
    (case c18 => k_is)
    (case k18 => k_is)
    (case a19 => k_is)
    (case l19 => k_is)
    (case c19 => k_is)
    (case k19 => k_is)
    (case a20 => k_is)
    (case l20 => k_is)
    (case c20 => k_is)
    (case k20 => k_is)
    (case a21 => k_is)
    (case l21 => k_is)
    (case c21 => k_is)
    (case k21 => k_is)
    (case a22 => k_is)
    (case l22 => k_is)
    (case c22 => k_is)
    (case k22 => k_is)
    (case a23 => k_is)
    (case l23 => k_is)
    (case c23 => k_is)
    (case k23 => k_is)
    (case a24 => k_is)
    (case l24 => k_is)
    (case c24 => k_is)
    (case k24 => k_is)
    (case a25 => k_is)
    (case l25 => k_is)
    (case c25 => k_is)
    (case k25 => k_is)
    (case a26 => k_is)
    (case l26 => k_is)
    (case c26 => k_is)
    (case k26 => k_is)
    (case a27 => k_is)
    (case l27 => k_is)
    (case c27 => k_is)
    (case k27 => k_is)
    (case a28 => k_is)
    (case l28 => k_is)
    (case c28 => k_is)
    (case k28 => k_is)
    (case a29 => k_is)
    (case l29 => k_is)
    (case c29 => k_is)
    (case k29 => k_is)
    (case a30 => k_is)
    (case l30 => k_is)
    (case c30 => k_is)
    (case k30 => k_is)
    (case a31 => k_is)
    (case l31 => k_is)
    (case c31 => k_is)
    (case k31 => k_is)
    (case a32 => k_is)
    (case l32 => k_is)
    (case c32 => k_is)
    (case k32 => k_is)
    (case a33 => k_is)
    (case l33 => k_is)
    (case c33 => k_is)
    (case k33 => k_is)
    (case a34 => k_is)
    (case l34 => k_is)
    (case c34 => k_is)
    (case k34 => k_is)
    (case a35 => k_is)
    (case l35 => k_is)
    (case c35 => k_is)
    (case k35 => k_is)
    (case a36 => k_is)
    (case l36 => k_is)
    (case c36 => k_is)
    (case k36 => k_is)
    (case a37 => k_is)
    (case l37 => k_is)
    (case c37 => k_is)
    (case k37 => k_is)
    (case a38 => k_is)
    (case l38 => k_is)
    (case c38 => k_is)
    (case k38 => k_is)
    (case a39 => k_is)
    (case l39 => k_is)
    (case c39 => k_is)
    (case k39 => k_is)
    (case a40 => k_is)
    (case l40 => k_is)
    (case c40 => k_is)
    (case k40 => k_is)
    (case a41 => k_is)
    (case l41 => k_is)
    (case c41 => k_is)
    (case k41 => k_is)
    (case a42 => k_is)
    (case l42 => k_is)
    (case c42 => k_is)
    (case k42 => k_is)
    (case a43 => k_is)
    (case l43 => k_is)
    (case c43 => k_is)
    (case k43 => k_is)
    (case a44 => k_is)
    (case l44 => k_is)
    (case c44 => k_is)
    (case k44 => k_is)
    (case a45 => k_is)
    (case l45 => k_is)
    (case c45 => k_is)
    (case k45 => k_is)
    (case a46 => k_is)
    (case l46 => k_is)
    (case c46 => k_is)
    (case k46 => k_is)
    (case a47 => k_is)
    (case l47 => k_is)
    (case c47 => k_is)
    (case k47 => k_is)
    (case a48 => k_is)
    (case l48 => k_is)
    (case c48 => k_is)
    (case k48 => k_is)
    (case a49 => k_is)
    (case l49 => k_is)
    (case c49 => k_is)
    (case k49 => k_is)
    (case a50 => k_is)
    (case l50 => k_is)
    (case c50 => k_is)
    (case k50 => k_is)
    (case a51 => k_is)
    (case l51 => k_is)
    (case c51 => k_is)
    (case k51 => k_is)
    (case a52 => k_is)
    (case l52 => k_is)
    (case c52 => k_is)
    (case k52 => k_is)
    (case a53 => k_is)
    (case l53 => k_is)
    (case c53 => k_is)
    (case k53 => k_is)
    (case a54 => k_is)
    (case l54 => k_is)
    (case c54 => k_is)
    (case k54 => k_is)
    (case a55 => k_is)
    (case l55 => k_is)
    (case c55 => k_is)
    (case k55 => k_is)
    (case a56 => k_is)
    (case l56 => k_is)
    (case c56 => k_is)
    (case k56 => k_is)
    (case a57 => k_is)
    (case l57 => k_is)
    (case c57 => k_is)
    (case k57 => k_is)
    (case a58 => k_is)
    (case l58 => k_is)
    (case c58 => k_is)
    (case k58 => k_is)
    (case a59 => k_is)
    (case l59 => k_is)
    (case c59 => k_is)
    (case k59 => k_is)
    (case z_len => k_is)
    (case z_range => k_is)
    (case z_zip => k_is)
    (case z_tuple => k_is)
    (case z_int => k_is)
    (case z_abs => k_is)
    (case z_isinstance => k_is)
    (case z_bool => k_is)
    (case z_list => k_is)
    (case z_max => k_is)
    (case z_min => k_is)
    (case z_all => k_is)
    (case z_str => k_is)
    (case z_ValueError => k_is)
    (case zgcd => k_is)
    (case nNOUGHT => k_is)
    (case vNOUGHT => k_is)
    (case nONE => k_is)
    (case vONE => k_is)
    (case aCL => k_is)
    (case pgCL => k_is)
    (case hdCL => k_is)
    (case poCL => k_is)
    (case saCL => k_is)
    (case mkCL => k_is)
    (case kcCL => k_is)
    (case naCL => k_is)
    (case iiCL => k_is)
    (case aCC => k_is)
    (case pgCC => k_is)
    (case hdCC => k_is)
    (case poCC => k_is)
    (case saCC => k_is)
    (case mkCC => k_is)
    (case kcCC => k_is)
    (case naCC => k_is)
    (case iiCC => k_is)
    (case aCN => k_is)
    (case pgCN => k_is)
    (case hdCN => k_is)
    (case poCN => k_is)
    (case saCN => k_is)
    (case mkCN => k_is)
    (case kcCN => k_is)
    (case niCN => k_is)
    (case nlCN => k_is)
    (case iiCN => k_is)
    (case haCN => k_is)
    (case hmCN => k_is)
    (case meCN => first | k_is | rfl | (with_unfolding_all rfl))
    (case hnO => k_is)
    (case htO => k_is)
    (case qI => k_is)
    (case lI => k_is)
    (case cI => k_is)
    (case kI => k_is)
    (case qNI => k_is)
    (case lNI => k_is)
    (case cNI => k_is)
    (case kNI => k_is)
    (case wLtold => k_is)
    (case qLtold => k_is)
    (case lLtold => k_is)
    (case cLtold => k_is)
    (case kLtold => k_is)
    (case wLsums => k_is)
    (case qLsums => k_is)
    (case lLsums => k_is)
    (case cLsums => k_is)
    (case kLsums => k_is)
    (case wCtold => k_is)
    (case qCtold => k_is)
    (case lCtold => k_is)
    (case cCtold => k_is)
    (case kCtold => k_is)
    (case wCsums => k_is)
    (case qCsums => k_is)
    (case lCsums => k_is)
    (case cCsums => k_is)
    (case kCsums => k_is)
    (case wNins => k_is)
    (case qNins => k_is)
    (case lNins => k_is)
    (case cNins => k_is)
    (case kNins => k_is)
    (case wNlayers_told => k_is)
    (case qNlayers_told => k_is)
    (case lNlayers_told => k_is)
    (case cNlayers_told => k_is)
    (case kNlayers_told => k_is)
    (case iMI => k_is)
    (case iML => k_is)
    (case iMN => k_is)
    (case iMP => k_is)
    (case aCE => k_is)
    (case xCE => k_is)
    (case saCE => k_is)
    (case tyCE => k_is)
    (case kcCE => k_is)
    (case hdCE => k_is)
    (case gaCE => k_is)
    (case gtCE => k_is)
    (case caCE => k_is)
    (case iiCE => k_is)
    (case tiCE => k_is)
    (case lCE => k_is)
    (case cCE => k_is)
    (case kCE => k_is)
    (case aCB => k_is)
    (case xCB => k_is)
    (case saCB => k_is)
    (case tyCB => k_is)
    (case kcCB => k_is)
    (case hdCB => k_is)
    (case gaCB => k_is)
    (case gtCB => k_is)
    (case caCB => k_is)
    (case iiCB => k_is)
    (case tiCB => k_is)
    (case noCB => k_is)
    (case lCB => k_is)
    (case cCB => k_is)
    (case kCB => k_is)
    (case cgO => k_is)
    (case ctO => k_is)
    (case rdO => k_is)
    (case gaO => k_is)
    (case atO => k_is)
    (case vVO => k_is)
    (case xe1 => first | k_is | (exact exm_ref (by k_is) (by k_is) (by k_is) (by k_is)))
