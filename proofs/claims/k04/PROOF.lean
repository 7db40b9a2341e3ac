import PyProof.Rows.All
import Wide.All
import OpenK.AllK
import Wide.FinOn
import HandS.Base
import HandS.Call
import HandS.List
import HandS.Comp
import HandS.Iter
import HandS.Ends
import HandS.Words
import HandS.Evl
import HandS.WordsList
import HandS.Zip
import HandS.Wide
import HandS.Gcd
import HandS.IsInst
import HandS.TupMul
import HandS.Text
import HandS.ClsMeth
import HandS.RaiseMore
import HandS.ListEq
import HandS.TupLe
import HandS.Flow
import HandS.ExcInit
import KE.KExcIs
import HandS.ForMost
import PySem.Challenge.RW_noughtcut_k04_refusals_apart
set_option Elab.async false
set_option linter.all false
section
namespace Nc
/-! ### fractions: Rat's own top and bottom -/
def Sz (n d : Nat) (r : Rat) : Prop := r.num.natAbs < 2 ^ n ∧ r.den < 2 ^ d
theorem den_pos (r : Rat) : (0 : Int) < (r.den : Int) := by
  have := r.den_nz
  omega
theorem num_div {t b : Int} (hb : 0 < b) : t / ((Nat.gcd t.natAbs b.natAbs : Nat) : Int) = (Rat.divInt t b).num := by
  rw [Rat.num_divInt, Int.sign_eq_one_of_pos hb, Int.one_mul, Int.gcd_comm]
  rfl
theorem den_div {t b : Int} (hb : 0 < b) : b / ((Nat.gcd t.natAbs b.natAbs : Nat) : Int) = ((Rat.divInt t b).den : Int) := by
  rw [Rat.den_divInt, if_neg (by omega), Int.gcd_comm]
  have e : b = ((b.natAbs : Nat) : Int) := by omega
  conv => lhs; rw [e]
  rfl
theorem gcd_pos {t b : Int} (hb : 0 < b) : (0 : Int) < ((Nat.gcd t.natAbs b.natAbs : Nat) : Int) := by
  have := Nat.gcd_pos_of_pos_right t.natAbs (n := b.natAbs) (by omega)
  omega
theorem gcd_le {t b : Int} (hb : 0 < b) : ((Nat.gcd t.natAbs b.natAbs : Nat) : Int) ≤ b := by
  have := Nat.gcd_le_right t.natAbs (n := b.natAbs) (by omega)
  omega
theorem add_is (r s : Rat) : Rat.divInt (r.num * (s.den : Int) + s.num * (r.den : Int)) ((r.den : Int) * (s.den : Int)) = r + s := by
  have h1 := den_pos r
  have h2 := den_pos s
  rw [← Rat.divInt_add_divInt r.num s.num (by omega) (by omega), Rat.num_divInt_den, Rat.num_divInt_den]
theorem mul_is (r s : Rat) : Rat.divInt (r.num * s.num) ((r.den : Int) * (s.den : Int)) = r * s := by
  rw [← Rat.divInt_mul_divInt r.num s.num, Rat.num_divInt_den, Rat.num_divInt_den]
theorem natAbs_ediv_le (a b : Int) : (a / b).natAbs ≤ a.natAbs := Int.natAbs_ediv_le_natAbs a b
/-- the size of a quotient by the shared part -/
theorem sz_div {t b : Int} {n d : Nat} (hb : 0 < b) (ht : t.natAbs < 2 ^ n) (hz : b.natAbs < 2 ^ d) : Sz n d (Rat.divInt t b) := by
  constructor
  · rw [← num_div hb]
    exact Nat.lt_of_le_of_lt (natAbs_ediv_le _ _) ht
  · have h := den_div (t := t) hb
    have h2 := natAbs_ediv_le b ((Nat.gcd t.natAbs b.natAbs : Nat) : Int)
    rw [h] at h2
    have : ((Rat.divInt t b).den : Int).natAbs = (Rat.divInt t b).den := Int.natAbs_natCast _
    omega
theorem lt_mul {a b : Nat} {i j : Int} (ha : i.natAbs < 2 ^ a) (hb : j.natAbs < 2 ^ b) : (i * j).natAbs < 2 ^ (a + b) := by
  rw [Int.natAbs_mul, Nat.pow_add]
  exact Nat.mul_lt_mul'' ha hb
theorem lt_add {n : Nat} {i j : Int} (ha : i.natAbs < 2 ^ n) (hb : j.natAbs < 2 ^ n) : (i + j).natAbs < 2 ^ (n + 1) := by
  have := Int.natAbs_add_le i j
  rw [Nat.pow_succ]
  omega
theorem lt_mono {n m : Nat} {i : Nat} (h : i < 2 ^ n) (hm : n ≤ m) : i < 2 ^ m := Nat.lt_of_lt_of_le h (Nat.pow_le_pow_right (by decide) hm)
theorem Sz.mono {n m d e : Nat} {r : Rat} (h : Sz n d r) (hm : n ≤ m) (he : d ≤ e) : Sz m e r := ⟨lt_mono h.1 hm, lt_mono h.2 he⟩
theorem Sz.den {n d : Nat} {r : Rat} (h : Sz n d r) : ((r.den : Int)).natAbs < 2 ^ d := by
  rw [Int.natAbs_natCast]
  exact h.2
theorem sz_add {n d m e N : Nat} {r s : Rat} (hr : Sz n d r) (hs : Sz m e s) (h1 : n + e ≤ N := by omega) (h2 : m + d ≤ N := by omega) : Sz (N + 1) (d + e) (r + s) := by
  rw [← add_is]
  have k1 := lt_mono (lt_mul hr.1 hs.den) h1
  have k2 := lt_mono (lt_mul hs.1 hr.den) h2
  have k3 := lt_mul hr.den hs.den
  exact sz_div (Int.mul_pos (den_pos r) (den_pos s)) (lt_add k1 k2) k3
theorem sz_mul {n d m e : Nat} {r s : Rat} (hr : Sz n d r) (hs : Sz m e s) : Sz (n + m) (d + e) (r * s) := by
  rw [← mul_is]
  exact sz_div (Int.mul_pos (den_pos r) (den_pos s)) (lt_mul hr.1 hs.1) (lt_mul hr.den hs.den)
theorem sz_zero : Sz 1 1 (0 : Rat) := ⟨by decide, by decide⟩
theorem sz_one : Sz 1 1 (1 : Rat) := ⟨by decide, by decide⟩
/-! ### rows -/
/-- what a row weighs another one -/
def weighs (l : List (Rat × Rat)) : Rat := l.foldl (fun t p => t + p.1 * p.2) 0
theorem foldl_weigh : ∀ (l : List (Rat × Rat)) (t : Rat), l.foldl (fun t p => t + p.1 * p.2) t = t + weighs l
  | [], t => by simp [weighs, Rat.add_zero]
  | p :: r, t => by
    unfold weighs
    simp only [List.foldl_cons]
    rw [foldl_weigh r, foldl_weigh r (0 + p.1 * p.2)]
    grind
theorem weighs_cons (p : Rat × Rat) (r : List (Rat × Rat)) : weighs (p :: r) = p.1 * p.2 + weighs r := by
  unfold weighs
  simp only [List.foldl_cons]
  rw [foldl_weigh r]
  unfold weighs
  grind
theorem weighs_take {l : List (Rat × Rat)} {i : Nat} {p : Rat × Rat} (h : l[i]? = some p) : weighs (l.take (i + 1)) = weighs (l.take i) + p.1 * p.2 := by
  unfold weighs
  rw [List.take_add_one, h, List.foldl_append]
  rfl
theorem weighs_add : ∀ (a b c : List Rat), a.length = b.length → weighs (((a.zip b).map fun p => p.1 + p.2).zip c) = weighs (a.zip c) + weighs (b.zip c)
  | [], [], c, _ => by simp [weighs, Rat.add_zero]
  | x :: a, y :: b, [], _ => by simp [weighs, Rat.add_zero]
  | x :: a, y :: b, z :: c, h => by
    have ih := weighs_add a b c (by simpa using h)
    simp only [List.zip_cons_cons, List.map_cons, weighs_cons]
    rw [ih]
    grind
theorem weighs_mul (by_ : Rat) : ∀ (a c : List Rat), weighs ((a.map fun x => by_ * x).zip c) = by_ * weighs (a.zip c)
  | [], c => by simp [weighs, Rat.mul_zero]
  | x :: a, [] => by simp [weighs, Rat.mul_zero]
  | x :: a, z :: c => by
    have ih := weighs_mul by_ a c
    simp only [List.zip_cons_cons, List.map_cons, weighs_cons]
    rw [ih]
    grind
/-! ### sums: a row and a number -/
abbrev Sum2 := List Rat × Rat
def tells (s : Sum2) (row : List Rat) : Rat := weighs (s.1.zip row) + s.2
def splus (s t : Sum2) : Sum2 := ((s.1.zip t.1).map fun p => p.1 + p.2, s.2 + t.2)
def stimes (q : Rat) (s : Sum2) : Sum2 := (s.1.map fun x => q * x, q * s.2)
theorem tells_splus (s t : Sum2) (row : List Rat) (h : s.1.length = t.1.length) : tells (splus s t) row = tells s row + tells t row := by
  unfold tells splus
  simp only
  rw [weighs_add _ _ _ h]
  grind
theorem tells_stimes (q : Rat) (s : Sum2) (row : List Rat) : tells (stimes q s) row = q * tells s row := by
  unfold tells stimes
  simp only
  rw [weighs_mul]
  grind
theorem splus_comm (s t : Sum2) : splus s t = splus t s := by
  unfold splus
  have : (s.1.zip t.1).map (fun p => p.1 + p.2) = (t.1.zip s.1).map fun p => p.1 + p.2 := by
    apply List.ext_getElem
    · simp [Nat.min_comm]
    · intro i h1 h2
      simp only [List.getElem_map, List.getElem_zip]
      exact Rat.add_comm _ _
  rw [this, Rat.add_comm]
/-- all of a row below a size -/
def SzL (n d : Nat) (l : List Rat) : Prop := ∀ r ∈ l, Sz n d r
theorem sz_weighs {n d m e : Nat} (hn : d ≤ n) (hm : e ≤ m) : ∀ (i : Nat) (l : List (Rat × Rat)), i ≤ l.length → (∀ p ∈ l, Sz n d p.1 ∧ Sz m e p.2) → Sz (1 + i * (n + m + 1)) (1 + i * (d + e)) (weighs (l.take i))
  | 0, l, _, _ => by simpa [weighs] using sz_zero
  | i + 1, l, h, hl => by
    have ih := sz_weighs hn hm i l (by omega) hl
    have e1 : l[i]? = some l[i] := List.getElem?_eq_getElem (by omega)
    rw [weighs_take e1]
    have hp := hl l[i] (List.getElem_mem _)
    have le : i * (d + e) ≤ i * (n + m + 1) := Nat.mul_le_mul_left i (by omega)
    have := sz_add (N := i * (n + m + 1) + (n + m + 1)) ih (sz_mul hp.1 hp.2) (by omega) (by omega)
    exact this.mono (by rw [Nat.add_mul]; omega) (by rw [Nat.add_mul]; omega)
theorem sz_of_weighs {n d m e : Nat} {a b : List Rat} (hn : d ≤ n) (hm : e ≤ m) (ha : SzL n d a) (hb : SzL m e b) (hl : a.length = b.length) : Sz (1 + a.length * (n + m + 1)) (1 + a.length * (d + e)) (weighs (a.zip b)) := by
  have h := sz_weighs hn hm a.length (a.zip b) (by rw [List.length_zip]; omega) (fun p hp => ⟨ha _ (List.of_mem_zip hp).1, hb _ (List.of_mem_zip hp).2⟩)
  rwa [List.take_of_length_le (by rw [List.length_zip]; omega)] at h
/-! ### the greatest shared divisor, step by step -/
theorem gcd_step {a b : Int} (ha : 0 ≤ a) (hb : 0 < b) : Nat.gcd b.natAbs (a % b).natAbs = Nat.gcd a.natAbs b.natAbs := by
  have e : (a % b).natAbs = a.natAbs % b.natAbs := by
    rw [Int.natAbs_emod_of_nonneg ha]
  rw [e, Nat.gcd_comm a.natAbs, Nat.gcd_rec b.natAbs a.natAbs, Nat.gcd_comm]
end Nc
end
section
set_option maxRecDepth 100000
set_option maxHeartbeats 4000000
namespace Nc
open PySem L2 Evl PyProof.Rows
/-! ### what stands for a fraction, a row, a sum -/
def FrV (K : PySem.W.Frag) (H : Hp) (v : V) (r : Rat) : Prop := ∃ t, v = .ref t ∧ SqT K H t [.int r.num, .int (r.den : Int)]
abbrev FrL (K : PySem.W.Frag) (H : Hp) : List V → List Rat → Prop := Paired (FrV K H)
def RowV (K : PySem.W.Frag) (H : Hp) (v : V) (rs : List Rat) : Prop := ∃ t xs, v = .ref t ∧ SqT K H t xs ∧ FrL K H xs rs
def SumV (K : PySem.W.Frag) (H : Hp) (v : V) (s : Sum2) : Prop := ∃ t a b, v = .ref t ∧ SqT K H t [a, b] ∧ RowV K H a s.1 ∧ FrV K H b s.2
variable {K : PySem.W.Frag} {H H' : Hp}
theorem FrV.ex {v : V} {r : Rat} (e : Ex H H') (h : FrV K H v r) : FrV K H' v r := by
  obtain ⟨t, rfl, q⟩ := h
  exact ⟨t, rfl, ex_t e q⟩
theorem pmono {α β : Type} {F G : α → β → Prop} (h : ∀ a b, F a b → G a b) : ∀ {xs : List α} {ys : List β}, Paired F xs ys → Paired G xs ys
  | _, _, .nil => .nil
  | _, _, .cons a t => .cons (h _ _ a) (pmono h t)
theorem FrL.ex {xs : List V} {rs : List Rat} (e : Ex H H') (h : FrL K H xs rs) : FrL K H' xs rs := pmono (fun _ _ => FrV.ex e) h
theorem RowV.ex {v : V} {rs : List Rat} (e : Ex H H') (h : RowV K H v rs) : RowV K H' v rs := by
  obtain ⟨t, xs, rfl, q, l⟩ := h
  exact ⟨t, xs, rfl, ex_t e q, FrL.ex e l⟩
theorem SumV.ex {v : V} {s : Sum2} (e : Ex H H') (h : SumV K H v s) : SumV K H' v s := by
  obtain ⟨t, a, b, rfl, q, l, n⟩ := h
  exact ⟨t, a, b, rfl, ex_t e q, l.ex e, n.ex e⟩
theorem pget {α β : Type} {F : α → β → Prop} : ∀ {xs : List α} {ys : List β} {i : Nat} {x : α}, Paired F xs ys → xs[i]? = some x → ∃ y, ys[i]? = some y ∧ F x y
  | _, _, _, _, .nil, e => by simp at e
  | _, _, 0, _, .cons r _, e => by simp at e; subst e; exact ⟨_, rfl, r⟩
  | _, _, i + 1, x, .cons _ t, e => by
    obtain ⟨u, h1, h2⟩ := pget (i := i) (x := x) t (by simpa using e)
    exact ⟨u, by simpa using h1, h2⟩
theorem pget' {α β : Type} {F : α → β → Prop} : ∀ {xs : List α} {ys : List β} {i : Nat} {y : β}, Paired F xs ys → ys[i]? = some y → ∃ x, xs[i]? = some x ∧ F x y
  | _, _, _, _, .nil, e => by simp at e
  | _, _, 0, _, .cons r _, e => by simp at e; subst e; exact ⟨_, rfl, r⟩
  | _, _, i + 1, y, .cons _ t, e => by
    obtain ⟨u, h1, h2⟩ := pget' (i := i) (y := y) t (by simpa using e)
    exact ⟨u, by simpa using h1, h2⟩
/-! ### data -/
def fd (r : Rat) : PyData := .tuple [.int r.num, .int (r.den : Int)]
def sd (s : Sum2) : PyData := .tuple [.tuple (s.1.map fd), fd s.2]
theorem FrV.dp {v : V} {r : Rat} (h : FrV K H v r) : Dp K H v (fd r) := by
  obtain ⟨t, rfl, q⟩ := h
  exact .tup q (.cons (.int _) (.cons (.int _) .nil))
theorem FrL.dp : ∀ {xs : List V} {rs : List Rat}, FrL K H xs rs → DpAll K H xs (rs.map fd)
  | _, _, .nil => .nil
  | _, _, .cons a t => .cons a.dp (FrL.dp t)
theorem RowV.dp {v : V} {rs : List Rat} (h : RowV K H v rs) : Dp K H v (.tuple (rs.map fd)) := by
  obtain ⟨t, xs, rfl, q, l⟩ := h
  exact .tup q (FrL.dp l)
theorem SumV.dp {v : V} {s : Sum2} (h : SumV K H v s) : Dp K H v (sd s) := by
  obtain ⟨t, a, b, rfl, q, l, n⟩ := h
  exact .tup q (.cons l.dp (.cons n.dp .nil))
/-! ### shapes -/
theorem lay_fd (r : Rat) : (fd r).canLay0 = true := rfl
theorem layAll_fd : ∀ rs : List Rat, PyData.canLayAll0 (rs.map fd) = true
  | [] => rfl
  | r :: rs => by
    show ((fd r).canLay0 && PyData.canLayAll0 (rs.map fd)) = true
    rw [layAll_fd rs]
    rfl
end Nc
end
section
set_option maxRecDepth 100000
set_option maxHeartbeats 4000000
namespace Nc
open PySem L2 Evl PyProof.Rows
/-! ### a def of the top, with and without its promise -/
structure Df (K : PySem.W.Frag) (mg : Str → Option Value) (x : Str) (st : Stmt) (ps : List Str) : Prop where
  ex : ∃ f fd, mg x = some (.ref f) ∧ Fun K x x st f fd ∧ Binds K fd ps []
structure Ok (P : Program) (w : World) (K : PySem.W.Frag) (mg : Str → Option Value) (base : Heap) (k : Nat) (x : Str) (ps : List Str) (sp : Sp) : Prop where
  ex : ∃ f fd, mg x = some (.ref f) ∧ PySem.W.keepIn K (.ref f) = true ∧ FnOk P w K mg base CX0 k f fd ps sp ∧ Binds K fd ps []
theorem Df.ok {P : Program} {w : World} {K : PySem.W.Frag} {mg : Str → Option Value} {base : Heap} {k : Nat} {x : Str} {st : Stmt} {ps : List Str} {sp : Sp} (D : Df K mg x st ps)
    (h : ∀ f fd, Fun K x x st f fd → FnOk P w K mg base CX0 k f fd ps sp) : Ok P w K mg base k x ps sp := by
  obtain ⟨f, fd, g, F, b⟩ := D.ex
  exact ⟨f, fd, g, F.kp, h f fd F, b⟩
theorem Ok.mono {P : Program} {w : World} {K : PySem.W.Frag} {mg : Str → Option Value} {base : Heap} {j k : Nat} {x : Str} {ps : List Str} {sp : Sp} (D : Ok P w K mg base j x ps sp) (h : j ≤ k) : Ok P w K mg base k x ps sp := by
  obtain ⟨f, fd, g, kp, F, b⟩ := D.ex
  exact ⟨f, fd, g, kp, F.mono h, b⟩
theorem Df.of {K : PySem.W.Frag} {h : Heap} {mg : Str → Option Value} (X : K.In h) (G : h.Ns mainGlobals mg) {x : Str} {st : Stmt} {ps : List Str} {f : Addr} {oc : Value} {od an : Option Addr} {osl : Array (Option Value)} {kV doc pm cdv ct : Value}
    (a : PySem.W.nsIn K mainGlobals x = some (some (.ref f))) (l : K.lookup f = some ⟨oc, od, .func (PySem.W.fnOf x x (defArgs st) (defBody st) (defScope st) .none kV doc pm an cdv ct), osl⟩)
    (c : PySem.W.codeIn K cdv x = true) (k : PySem.W.keepIn K (.ref f) = true)
    (hb : ∀ (kV doc pm : Value) (an : Option Addr) (cdv ct : Value) (us : List Value), us.length = ps.length → bindArgs (PySem.W.fnOf x x (defArgs st) (defBody st) (defScope st) .none kV doc pm an cdv ct) ⟨us, []⟩ = pure (ps.zip us)) : Df K mg x st ps :=
  have F := fun_mk (st := st) l c k
  ⟨f, _, PySem.W.mg_of X G a, F, F.binds hb⟩
section
variable {X : Cx} {k : Nat} {x : Str} {ps : List Str} {sp : Sp} {e : Expr} {es : List Expr} {t : TA} {p pos : Pos}
/-- a call of such a def -/
theorem cl (D : Ok X.prog X.w X.K X.mg X.base k x ps sp) (hr : Room k X.A) (ha : PA X (e :: es) t) (hg : Gl X x := by rfl) (hdb : (x == ("__debug__" : Str)) = false := by decide)
    (he : starEach (e :: es) X.env = (false, eval e X.env) :: starEach es X.env := by rfl) (hpl : (backTo pos (starEach es X.env)).any (·.1) = false := by rfl) : PE X (.Call (.Name x p) (e :: es) [] pos) (tCall sp [] E0 t) := by
  obtain ⟨f, fd, g, kp, F, b⟩ := D.ex
  exact pe_call F hr hg g kp b .nil pass0 ha hdb he hpl
end
/-! ### small facts -/
theorem at0 {a : V} {l : List V} : atI (a :: l) 0 = some a := atI_nat (j := 0) rfl
theorem at1 {a b : V} {l : List V} : atI (a :: b :: l) 1 = some b := atI_nat (j := 1) rfl
theorem at2 {a b c : V} {l : List V} : atI (a :: b :: c :: l) 2 = some c := atI_nat (j := 2) rfl
theorem at3 {a b c d : V} {l : List V} : atI (a :: b :: c :: d :: l) 3 = some d := atI_nat (j := 3) rfl
theorem at_mem {xs : List V} {d : Int} (h0 : 0 ≤ d) (h1 : d < xs.length) : ∃ v, atI xs d = some v ∧ v ∈ xs := by
  have h : d.toNat < xs.length := by omega
  refine ⟨xs[d.toNat], ?_, List.getElem_mem _⟩
  have e : d = (d.toNat : Int) := by omega
  have q : atI xs (d.toNat : Int) = some xs[d.toNat] := atI_nat (List.getElem?_eq_getElem h)
  rw [← e] at q
  exact q
theorem mulOk {i j : Int} {a b : Nat} (ha : i.natAbs < 2 ^ a) (hb : j.natAbs < 2 ^ b) (h0 : 0 < a := by omega) (h1 : 0 < b := by omega) (h : a + b ≤ 1000000 := by omega) : CMulW i j := wide_mul ha hb h0 h1 h
section
variable {K : PySem.W.Frag} {σ : L2.St} {H : Hp}
/-- an item of a tuple that stands in a slot -/
theorem ix0 {i : Nat} {t : Addr} {a : V} {l : List V} (hs : σ[i]? = some (some (.ref t))) (q : SqT K H t (a :: l)) : Ev (tOp (rIxT K) (tVar i) (tC (.int 0))) σ H a := ev_op (ev_var hs) ev_c (rv_ixT q at0)
theorem ix1 {i : Nat} {t : Addr} {a b : V} {l : List V} (hs : σ[i]? = some (some (.ref t))) (q : SqT K H t (a :: b :: l)) : Ev (tOp (rIxT K) (tVar i) (tC (.int 1))) σ H b := ev_op (ev_var hs) ev_c (rv_ixT q at1)
end
theorem ix_tK {X : Cx} (K : PySem.W.Frag) (h : X.K = K := by rfl) : IxR X (rIxT K) := by
  subst h
  exact ix_tup
theorem ix_lK {X : Cx} (K : PySem.W.Frag) (h : X.K = K := by rfl) : IxR X (rIxL K) := by
  subst h
  exact ix_list
/-! ### promises of the fractions' defs -/
/-- a fraction of two whole numbers, the bottom above nought -/
def spPart (K : PySem.W.Frag) : Sp := fun vs H Q _ => ∃ (t b : Int) (n : Nat), vs = [.int t, .int b] ∧ 0 < b ∧ b.natAbs < 2 ^ n ∧ 0 < n ∧ n ≤ 9000 ∧ ∀ v H', Ex H H' → FrV K H' v (Rat.divInt t b) → Q v H'
/-- two fractions, a third one of them -/
def sp2 (g : Rat → Rat → Rat) (K : PySem.W.Frag) : Sp := fun vs H Q _ => ∃ (x y : V) (r s : Rat) (n d m e : Nat), vs = [x, y] ∧ FrV K H x r ∧ FrV K H y s ∧ Sz n d r ∧ Sz m e s ∧ (0 < n ∧ 0 < d ∧ 0 < m ∧ 0 < e ∧ d + e ≤ 8900 ∧ n + m + d + e ≤ 900000) ∧ ∀ v H', Ex H H' → FrV K H' v (g r s) → Q v H'
abbrev spPlus := sp2 (· + ·)
abbrev spTimes := sp2 (· * ·)
/-- a made pair is a fraction -/
theorem made {K : PySem.W.Frag} {H : Hp} {p : Addr} {a b : Int} {r : Rat} (e1 : a = r.num) (e2 : b = (r.den : Int)) : FrV K (upd H p (.tup [.int a, .int b])) (.ref p) r := ⟨p, rfl, by rw [e1, e2]; exact st_of upd_same⟩
/-- what one row weighs another -/
def spWeigh (K : PySem.W.Frag) : Sp := fun vs H Q _ => ∃ (x y : V) (rs ss : List Rat) (n d m e : Nat), vs = [x, y] ∧ RowV K H x rs ∧ RowV K H y ss ∧ rs.length = ss.length ∧ SzL n d rs ∧ SzL m e ss ∧
  (0 < d ∧ 0 < e ∧ d ≤ n ∧ e ≤ m ∧ 1 + rs.length * (d + e) ≤ 8900 ∧ 1 + rs.length * (n + m + 1) ≤ 400000) ∧ ∀ v H', Ex H H' → FrV K H' v (weighs (rs.zip ss)) → Q v H'
/-- what a sum tells at a row -/
def spTells (K : PySem.W.Frag) : Sp := fun vs H Q _ => ∃ (x y : V) (s : Sum2) (ss : List Rat) (n d m e : Nat), vs = [x, y] ∧ SumV K H x s ∧ RowV K H y ss ∧ s.1.length = ss.length ∧ SzL n d s.1 ∧ Sz n d s.2 ∧ SzL m e ss ∧
  (0 < d ∧ 0 < e ∧ d ≤ n ∧ e ≤ m ∧ 1 + s.1.length * (d + e) + d ≤ 8900 ∧ 1 + s.1.length * (n + m + 1) ≤ 400000 ∧ n ≤ 400000) ∧ ∀ v H', Ex H H' → FrV K H' v (tells s ss) → Q v H'
/-- a module's constant that is a fraction -/
structure Cst (K : PySem.W.Frag) (mg : Str → Option Value) (x : Str) (r : Rat) : Prop where
  ex : ∃ a, mg x = some (.ref a) ∧ ∀ H, FrV K H (.ref a) r
end Nc
end
section
set_option maxRecDepth 100000
set_option maxHeartbeats 4000000
namespace Nc
open PySem PySem.Spec PyProof.Rows L2
theorem tuple_mul1 (l : Addr) (items : Array Value) (n : Nat) (dd : Option Addr) (sl : Array (Option Value)) (u : Tok) :
    Meets (Builtin.«tuple.__mul__» ⟨[.ref l, .int 1 u], []⟩) (fun _ R s => s.heap.get? l = some { cls := .type "tuple", dict := dd, data := .seq items n, slots := sl } ∧
      R (.ok (.ret (Value.ref l))) s) :=
  .of_wp fun prog w A R s h => by
    obtain ⟨hp, g, d, tk, os⟩ := s
    obtain ⟨hl, h⟩ := h
    have f1 := AutoSeq1.idx_int
    wp_walk using wpAny_loadPart' hl
    repeat (first
      | (refine wpAny_ite_true (by simp) ?_; wp_walk using wpAny_loadPart' hl)
      | (refine wpAny_ite_false (by simp) ?_; wp_walk using wpAny_loadPart' hl))
    exact ⟨_, rfl, h⟩
theorem tuple_mul0 (l : Addr) (items : Array Value) (n : Nat) (dd : Option Addr) (sl : Array (Option Value)) (u : Tok) (c1 : items.isEmpty = false) :
    Meets (Builtin.«tuple.__mul__» ⟨[.ref l, .int 0 u], []⟩) (fun _ R s => s.heap.get? l = some { cls := .type "tuple", dict := dd, data := .seq items n, slots := sl } ∧
      R (.ok (.ret (Value.ref s.heap.objs.size))) { s with heap := s.heap.push { cls := Value.type "tuple", data := Data.seq #[] }, toks := s.toks }) :=
  .of_wp fun prog w A R s h => by
    obtain ⟨hp, g, d, tk, os⟩ := s
    obtain ⟨hl, h⟩ := h
    have f1 := AutoSeq1.idx_int
    wp_walk using wpAny_loadPart' hl
    repeat (first
      | (refine wpAny_ite_true (by simp) ?_; wp_walk using wpAny_loadPart' hl)
      | (refine wpAny_ite_false (by simp [c1]) ?_; wp_walk using wpAny_loadPart' hl))
    exact ⟨_, rfl, h⟩
def rRepA (K : PySem.W.Frag) : R2 := fun x y H Q => ∃ l k xs, x = .ref l ∧ y = .int k ∧ SqT K H l xs ∧ xs ≠ [] ∧ 0 ≤ k ∧ k ≤ 1000 ∧ xs.length ≤ 1000 ∧ ∀ p H', Evl.Ex H H' → SqT K H' p (List.replicate k.toNat xs).flatten → Q (.ref p) H'
theorem op_repA {X : Cx} : OpR X (binaryOp .Mult) (rRepA X.K) := by
  intro pins s σ H x y v u Q I rx ry h
  obtain ⟨l, k, xs, rfl, rfl, hT, hne, h1, h2, hz, q⟩ := h
  by_cases h3 : 2 ≤ k
  · exact op_repT pins s σ H _ _ v u Q I rx ry ⟨l, k, xs, rfl, rfl, hT, hne, h3, h2, hz, fun p hp => q p _ (Evl.Ex.new hp) (Evl.st_of upd_same)⟩
  cases rx
  obtain ⟨t, rfl⟩ := ry
  obtain ⟨its, r, ⟨⟨cls, dd, data, sl⟩, ho, hc, n, hd⟩, hs⟩ := I.tuple hT
  simp only at hc hd
  subst hc hd
  have hle : its.length = xs.length := r.length.symm
  have hn : its ≠ [] := fun e => hne (by
    rw [e] at hle
    exact List.eq_nil_of_length_eq_zero hle.symm)
  have hi : its.toArray.isEmpty = false := by
    cases its with
    | nil => exact absurd rfl hn
    | cons a b => rfl
  by_cases h4 : k = 1
  · subst h4
    refine wpAny_binaryOp_repeat_ref (T := "tuple") (U := "int") (by decide) ⟨_, ho, rfl⟩ (fun s' => typeIs_int s' 1 t) noFill_tuple_mul F.fills_int_mul F.slot_int_rmul repeat_tuple F.slot_int_index.lookup
      (call_meets F.slot_int_rmul (typeIs_int s 1 t) F.entry_int_rmul (F.args_int_rmul_2 _ _) (int_rmul_tuple 1 t l its.toArray n dd sl)
        ⟨ho, rfl, ⟨_, ho, rfl⟩, call_meets F.slot_tuple_mul ⟨_, ho, rfl⟩ F.entry_tuple_mul (F.args_tuple_mul_2 _ _) (tuple_mul1 l its.toArray n dd sl t) ⟨ho, ?_⟩⟩)
    refine ⟨.ref l, H, I, rfl, q l H (Evl.Ex.refl H) ?_⟩
    have e : (List.replicate (1 : Int).toNat xs).flatten = xs := by simp
    rw [e]
    exact hT
  · have h5 : k = 0 := by omega
    subst h5
    refine wpAny_binaryOp_repeat_ref (T := "tuple") (U := "int") (by decide) ⟨_, ho, rfl⟩ (fun s' => typeIs_int s' 0 t) noFill_tuple_mul F.fills_int_mul F.slot_int_rmul repeat_tuple F.slot_int_index.lookup
      (call_meets F.slot_int_rmul (typeIs_int s 0 t) F.entry_int_rmul (F.args_int_rmul_2 _ _) (int_rmul_tuple 0 t l its.toArray n dd sl)
        ⟨ho, rfl, ⟨_, ho, rfl⟩, call_meets F.slot_tuple_mul ⟨_, ho, rfl⟩ F.entry_tuple_mul (F.args_tuple_mul_2 _ _) (tuple_mul0 l its.toArray n dd sl t hi) ⟨ho, ?_⟩⟩)
    refine ⟨.ref s.heap.objs.size, _, I.laid (t' := s.toks) (o := .tup []) (fun b ob q => Heap.get?_push_of_some _ q) (Nat.le_refl _) ?_, rfl, q _ _ (Evl.Ex.new (I.hok.fresh (Nat.le_refl _))) (Evl.st_of upd_same)⟩
    exact ⟨Nat.zero_le _, [], .nil, IsTup.new _ _⟩
end Nc
end
section
set_option maxRecDepth 100000
set_option maxHeartbeats 4000000
namespace Nc
open PySem PySem.Spec PyProof.Rows L2 Evl
/-- a comprehension over zip of two tuples of one length -/
theorem lc_zipT {K : PySem.W.Frag} {a b : Addr} {xs ys : List V} {g : TG} {tt : TT} {te : TE} {vs : List Nat} {σ : L2.St} {H1 : Hp} {D : Addr} {Qd : Hp → Prop} (hl : xs.length = ys.length) (Pv : Nat → Hp → Prop) (h0 : Pv 0 (upd H1 D (.lst []))) (hq : ∀ i H, Pv i H → SqT K H a xs ∧ SqT K H b ys)
    (hs : ∀ (i : Nat) (x y : V) (T : Addr) (H : Hp), xs[i]? = some x → ys[i]? = some y → Pv i H → H T = none → g (.ref T) (wipe σ vs) (upd H T (.tup [x, y])) fun σ2 H2 => wipe σ2 vs = wipe σ vs ∧ tt σ2 H2 fun b H3 =>
      if b = true then te σ2 H3 fun y H4 => ∃ acc, H4 D = some (.lst acc) ∧ acc.length < sizeLine ∧ Pv (i + 1) (upd H4 D (.lst (acc ++ [y]))) else Pv (i + 1) H3) (hd : ∀ H, Pv xs.length H → Qd H) :
    ∃ W : Nat → Nat → Hp → Prop, (∃ m, W 0 m (upd H1 D (.lst []))) ∧ ∀ i m H, W i m H →
      ((RZ.ItzT K a b).stop i H ∧ Qd H) ∨ ((RZ.ItzT K a b).go i H ∧ ∃ Nx : Hp → Prop, (∀ H', Nx H' → ∃ m', m' < m ∧ W (i + 1) m' H') ∧ ∀ x H', (RZ.ItzT K a b).yld i H x H' → g x (wipe σ vs) H' fun σ2 H2 => wipe σ2 vs = wipe σ vs ∧ tt σ2 H2 fun b H3 =>
        if b = true then te σ2 H3 fun y H4 => ∃ acc, H4 D = some (.lst acc) ∧ acc.length < sizeLine ∧ Nx (upd H4 D (.lst (acc ++ [y]))) else Nx H3) := by
  refine ⟨fun i m H => m = xs.length - i ∧ i ≤ xs.length ∧ Pv i H, ⟨xs.length, rfl, Nat.zero_le _, h0⟩, ?_⟩
  rintro i m H ⟨rfl, hi, p⟩
  obtain ⟨qx, qy⟩ := hq i H p
  by_cases hlt : i < xs.length
  · have hx : xs[i]? = some xs[i] := List.getElem?_eq_getElem hlt
    have hlt2 : i < ys.length := by omega
    have hy : ys[i]? = some ys[i] := List.getElem?_eq_getElem hlt2
    refine .inr ⟨⟨xs, ys, _, _, qx, qy, hx, hy⟩, Pv (i + 1), fun H' p' => ⟨xs.length - (i + 1), by omega, rfl, hlt, p'⟩, fun v H' y => ?_⟩
    obtain ⟨T, x', y', rfl, hT, rfl, f1, f2⟩ := y
    exact hs i x' y' T H (f1 xs qx) (f2 ys qy) p hT
  · have e : i = xs.length := by omega
    subst e
    exact .inl ⟨⟨xs, ys, qx, qy, Or.inl (Nat.le_refl _)⟩, hd H p⟩
section
variable {K : PySem.W.Frag} {H H' H1 H4 : Hp} {D : Addr}
/-- a tuple stands as it stood where a list changes -/
theorem sqt_mut {t : Addr} {xs ys : List V} {o : HO} (hD : H D = some (.lst xs)) (h : SqT K H t ys) : SqT K (upd H D o) t ys := by
  rcases h with (h | ⟨ob, h⟩) | h
  · exact .inl (.inl (by rw [upd_ne (ne_of h hD (by intro z; cases z))]; exact h))
  · exact .inl (.inr ⟨ob, by rw [upd_ne (ne_of h hD (by intro z; cases z))]; exact h⟩)
  · exact .inr h
theorem FrV.mut {xs : List V} {o : HO} {v : V} {r : Rat} (hD : H D = some (.lst xs)) (h : FrV K H v r) : FrV K (upd H D o) v r := by
  obtain ⟨t, rfl, q⟩ := h
  exact ⟨t, rfl, sqt_mut hD q⟩
theorem RowV.mut {xs : List V} {o : HO} {v : V} {r : List Rat} (hD : H D = some (.lst xs)) (h : RowV K H v r) : RowV K (upd H D o) v r := by
  obtain ⟨t, ys, rfl, q, l⟩ := h
  exact ⟨t, ys, rfl, sqt_mut hD q, pmono (fun _ _ => FrV.mut hD) l⟩
theorem SumV.mut {xs : List V} {o : HO} {v : V} {s : Sum2} (hD : H D = some (.lst xs)) (h : SumV K H v s) : SumV K (upd H D o) v s := by
  obtain ⟨t, a, b, rfl, q, l, n⟩ := h
  exact ⟨t, a, b, rfl, sqt_mut hD q, l.mut hD, n.mut hD⟩
/-- what a comprehension has built of things of a kind R behind i turns -/
def Bld {α : Type} (R : Hp → V → α → Prop) (H1 : Hp) (D : Addr) (L : List α) (i : Nat) (H' : Hp) : Prop := Ex H1 H' ∧ ∃ xs, H' D = some (.lst xs) ∧ xs.length = i ∧ Paired (R H') xs (L.take i)
/-- a kind of things that stay as they are where the heap grows, where a list changes -/
structure Stays {α : Type} (R : Hp → V → α → Prop) : Prop where
  ex : ∀ {H H' v a}, Ex H H' → R H v a → R H' v a
  mt : ∀ {H D xs o v a}, H D = some (.lst xs) → R H v a → R (upd H D o) v a
theorem stF : Stays (FrV K) := ⟨FrV.ex, FrV.mut⟩
theorem stR : Stays (RowV K) := ⟨RowV.ex, RowV.mut⟩
theorem stS : Stays (SumV K) := ⟨SumV.ex, SumV.mut⟩
theorem bld0 {α : Type} {R : Hp → V → α → Prop} {L : List α} (hD : H1 D = none) : Bld R H1 D L 0 (upd H1 D (.lst [])) := ⟨Ex.new hD, [], upd_same, rfl, .nil⟩
theorem bld_step {α : Type} {R : Hp → V → α → Prop} (S : Stays R) {L : List α} {i : Nat} {v : V} {a : α} (hD : H1 D = none) (b : Bld R H1 D L i H') (e : Ex H' H4) (hi : L[i]? = some a) (hz : i < 100000) (hv : R H4 v a) :
    ∃ acc, H4 D = some (.lst acc) ∧ acc.length < sizeLine ∧ Bld R H1 D L (i + 1) (upd H4 D (.lst (acc ++ [v]))) := by
  obtain ⟨e1, xs, hx, hl, p⟩ := b
  have h4 := e D _ hx
  refine ⟨xs, h4, sz_lt (by omega), Ex.mut (e1.trans e) hD, xs ++ [v], upd_same, by simp [hl], ?_⟩
  rw [List.take_add_one, hi]
  exact Paired.snoc (pmono (fun _ _ q => S.mt h4 (S.ex e q)) p) (S.mt h4 hv)
theorem bld_end {α : Type} {R : Hp → V → α → Prop} {L : List α} {n : Nat} (hn : n = L.length) (b : Bld R H1 D L n H') : Ex H1 H' ∧ ∃ xs, H' D = some (.lst xs) ∧ Paired (R H') xs L := by
  obtain ⟨e1, xs, hx, hl, p⟩ := b
  refine ⟨e1, xs, hx, ?_⟩
  rwa [hn, List.take_length] at p
/-- the tuple made of what was built -/
theorem bld_row {L : List Rat} {n : Nat} {l : Addr} {xs : List V} (hx : H' D = some (.lst xs)) (p : FrL K H' xs L) (hl : H' l = none) : RowV K (upd H' l (.tup xs)) (.ref l) L :=
  ⟨l, xs, rfl, st_of upd_same, FrL.ex (Ex.new hl) p⟩
end
/-! ### promises of the sums' defs -/
def spSumP (K : PySem.W.Frag) : Sp := fun vs H Q _ => ∃ (x y : V) (s t : Sum2) (n d m e : Nat), vs = [x, y] ∧ SumV K H x s ∧ SumV K H y t ∧ s.1.length = t.1.length ∧ s.1.length ≤ 100 ∧ SzL n d s.1 ∧ Sz n d s.2 ∧ SzL m e t.1 ∧ Sz m e t.2 ∧
  (0 < n ∧ 0 < d ∧ 0 < m ∧ 0 < e ∧ d + e ≤ 8900 ∧ n + m + d + e ≤ 900000) ∧ ∀ v H', Ex H H' → SumV K H' v (splus s t) → Q v H'
def spSumT (K : PySem.W.Frag) : Sp := fun vs H Q _ => ∃ (x y : V) (r : Rat) (t : Sum2) (n d m e : Nat), vs = [x, y] ∧ FrV K H x r ∧ SumV K H y t ∧ t.1.length ≤ 100 ∧ Sz n d r ∧ SzL m e t.1 ∧ Sz m e t.2 ∧
  (0 < n ∧ 0 < d ∧ 0 < m ∧ 0 < e ∧ d + e ≤ 8900 ∧ n + m + d + e ≤ 900000) ∧ ∀ v H', Ex H H' → SumV K H' v (stimes r t) → Q v H'
def spFlat (K : PySem.W.Frag) : Sp := fun vs H Q _ => ∃ (k : Nat) (y : V) (r : Rat), vs = [.int (k : Int), y] ∧ FrV K H y r ∧ k ≤ 100 ∧ ∀ v H', Ex H H' → SumV K H' v (List.replicate k 0, r) → Q v H'
/-- the row with 1 at a place -/
def unit (k p : Nat) : List Rat := (List.range k).map fun i => if i = p then 1 else 0
def spPlace (K : PySem.W.Frag) : Sp := fun vs H Q _ => ∃ (k p : Nat), vs = [.int (k : Int), .int (p : Int)] ∧ k ≤ 100 ∧ ∀ v H', Ex H H' → SumV K H' v (unit k p, 0) → Q v H'
end Nc
end
section
set_option maxRecDepth 100000
set_option maxHeartbeats 4000000
namespace Nc
open PySem PySem.Spec PyProof.Rows L2 Evl
/-! ### the stream: a list of three whole numbers at s, that alone changes -/
def Stm (s : Addr) (H : Hp) : Prop := ∃ a b c : Int, H s = some (.lst [.int a, .int b, .int c])
structure Dr (s : Addr) (H H' : Hp) : Prop where
  keep : ∀ a o, a ≠ s → H a = some o → H' a = some o
  st : Stm s H'
section
variable {K : PySem.W.Frag} {s p : Addr} {H H' H2 : Hp}
theorem Dr.refl (h : Stm s H) : Dr s H H := ⟨fun _ _ _ q => q, h⟩
theorem Dr.trans (a : Dr s H H') (b : Dr s H' H2) : Dr s H H2 := ⟨fun x o hx q => b.keep x o hx (a.keep x o hx q), b.st⟩
theorem Stm.ne (h : Stm s H) (hp : H p = none) : s ≠ p := by
  obtain ⟨a, b, c, e⟩ := h
  exact ne_of_none e hp
theorem Dr.new {o : HO} (h : Stm s H) (hp : H p = none) : Dr s H (upd H p o) := ⟨fun a u ha q => by rw [upd_ne (ne_of_none q hp)]; exact q, by
  obtain ⟨a, b, c, e⟩ := id h
  exact ⟨a, b, c, by rw [upd_ne (h.ne hp)]; exact e⟩⟩
/-- another list changes -/
theorem Dr.mut {o : HO} (d : Dr s H H') (hp : H p = none) (hs : s ≠ p) : Dr s H (upd H' p o) := ⟨fun a u ha q => by rw [upd_ne (ne_of_none q hp)]; exact d.keep a u ha q, by
  obtain ⟨a, b, c, e⟩ := d.st
  exact ⟨a, b, c, by rw [upd_ne hs]; exact e⟩⟩
theorem Dr.ex (h : Stm s H) (e : Ex H H') : Dr s H H' := ⟨fun a o _ q => e a o q, by
  obtain ⟨a, b, c, q⟩ := h
  exact ⟨a, b, c, e _ _ q⟩⟩
theorem sqt_dr {t : Addr} {xs : List V} (h : Stm s H) (d : Dr s H H') (q : SqT K H t xs) : SqT K H' t xs := by
  obtain ⟨a, b, c, e⟩ := h
  rcases q with (q | ⟨o, q⟩) | q
  · exact .inl (.inl (d.keep _ _ (ne_of q e (by intro z; cases z)) q))
  · exact .inl (.inr ⟨o, d.keep _ _ (ne_of q e (by intro z; cases z)) q⟩)
  · exact .inr q
theorem FrV.dr {v : V} {r : Rat} (h : Stm s H) (d : Dr s H H') (q : FrV K H v r) : FrV K H' v r := by
  obtain ⟨t, rfl, q⟩ := q
  exact ⟨t, rfl, sqt_dr h d q⟩
theorem FrL.dr {xs : List V} {rs : List Rat} (h : Stm s H) (d : Dr s H H') (q : FrL K H xs rs) : FrL K H' xs rs := pmono (fun _ _ => FrV.dr h d) q
theorem RowV.dr {v : V} {rs : List Rat} (h : Stm s H) (d : Dr s H H') (q : RowV K H v rs) : RowV K H' v rs := by
  obtain ⟨t, xs, rfl, q, l⟩ := q
  exact ⟨t, xs, rfl, sqt_dr h d q, FrL.dr h d l⟩
theorem SumV.dr {v : V} {z : Sum2} (h : Stm s H) (d : Dr s H H') (q : SumV K H v z) : SumV K H' v z := by
  obtain ⟨t, a, b, rfl, q, l, n⟩ := q
  exact ⟨t, a, b, rfl, sqt_dr h d q, l.dr h d, n.dr h d⟩
/-- the stream's list changes -/
theorem Dr.put {xs : List V} {a b c : Int} (h : H s = some (.lst xs)) : Dr s H (upd H s (.lst [.int a, .int b, .int c])) := ⟨fun x o hx q => by rw [upd_ne hx]; exact q, ⟨a, b, c, upd_same⟩⟩
end
theorem b01 (k : Bool) : -(2 ^ 64) < (if k = true then (1 : Int) else 0) ∧ (if k = true then (1 : Int) else 0) < 2 ^ 64 := by
  cases k <;> decide
theorem modb (x : Int) {m : Int} (h : 0 < m) (hm : m ≤ 2 ^ 64) : -(2 ^ 64) < x % m ∧ x % m < 2 ^ 64 := by
  have h1 := Int.emod_nonneg x (b := m) (by omega)
  have h2 := Int.emod_lt_of_pos x h
  omega
theorem cdivT {i m : Int} (h : 0 < m) (hm : m < 2 ^ 200) : CDivW i m := wide_div (b := 200) h (by omega) (by decide) (by decide)
/-! ### promises of what is drawn -/
def spCell (K : PySem.W.Frag) : Sp := fun vs H Q _ => ∃ (a : Addr) (ns : List Int) (k : Nat), vs = [.ref a, .int (k : Int)] ∧ SqL K H a (ns.map V.int) ∧ k ≤ 100 ∧ ∀ c : Int, Q (.int c) H
def spStream : Sp := fun vs H Q _ => ∃ c : Int, vs = [.int c] ∧ ∀ s a b d, H s = none → Q (.ref s) (upd H s (.lst [.int a, .int b, .int d]))
def spTake : Sp := fun vs H Q _ => ∃ (s : Addr) (m : Int), vs = [.ref s, .int m] ∧ Stm s H ∧ 0 < m ∧ m < 2 ^ 200 ∧ ∀ d H', 0 ≤ d → d < m → Dr s H H' → Q (.int d) H'
/-- a whole number above nought, below a bound -/
def spDraw (n : Nat) : Sp := fun vs H Q _ => ∃ s : Addr, vs = [.ref s] ∧ Stm s H ∧ ∀ d H', 0 < d → d.natAbs < 2 ^ n → Dr s H H' → Q (.int d) H'
/-- a fraction of that size -/
def spNum (K : PySem.W.Frag) (n d : Nat) : Sp := fun vs H Q _ => ∃ s : Addr, vs = [.ref s] ∧ Stm s H ∧ ∀ v r H', Dr s H H' → FrV K H' v r → Sz n d r → Q v H'
/-- a row of so many -/
def spRow (K : PySem.W.Frag) (n d : Nat) : Sp := fun vs H Q _ => ∃ (s : Addr) (k : Nat), vs = [.ref s, .int (k : Int)] ∧ Stm s H ∧ k ≤ 100 ∧ ∀ v L H', Dr s H H' → RowV K H' v L → L.length = k → SzL n d L → Q v H'
end Nc
end
section
set_option maxRecDepth 100000
set_option maxHeartbeats 4000000
namespace Nc
open PySem PySem.Spec PyProof.Rows L2 Evl
theorem depthAll_fd : ∀ rs : List Rat, PyData.depthAll (rs.map fd) ≤ 1
  | [] => Nat.zero_le _
  | r :: rs => by
    have ih := depthAll_fd rs
    show max (PyData.depth (fd r)) (PyData.depthAll (rs.map fd)) ≤ 1
    have : PyData.depth (fd r) = 1 := rfl
    omega
theorem lay_row (rs : List Rat) : (PyData.tuple (rs.map fd)).canLay0 = true := layAll_fd rs
theorem shaped_row (rs : List Rat) : SeqAt.shaped (.tuple (rs.map fd)) = true := by
  unfold SeqAt.shaped
  rw [lay_row, Bool.true_and]
  refine decide_eq_true ?_
  have := depthAll_fd rs
  show PyData.depthAll (rs.map fd) + 1 ≤ 64
  omega
theorem shaped_list (rs : List Rat) : SeqAt.shaped (.list (rs.map fd)) = true := by
  unfold SeqAt.shaped
  have h : (PyData.list (rs.map fd)).canLay0 = true := layAll_fd rs
  rw [h, Bool.true_and]
  refine decide_eq_true ?_
  have := depthAll_fd rs
  show PyData.depthAll (rs.map fd) + 1 ≤ 64
  omega
theorem shaped_fd (r : Rat) : SeqAt.shaped (fd r) = true := rfl
theorem lay_sd (s : Sum2) : (sd s).canLay0 = true := by
  show ((PyData.tuple (s.1.map fd)).canLay0 && ((fd s.2).canLay0 && true)) = true
  rw [lay_row]
  rfl
theorem shaped_sd (s : Sum2) : SeqAt.shaped (sd s) = true := by
  unfold SeqAt.shaped
  rw [lay_sd, Bool.true_and]
  refine decide_eq_true ?_
  have h1 := depthAll_fd s.1
  have h2 : PyData.depth (fd s.2) = 1 := rfl
  show max (PyData.depthAll (s.1.map fd) + 1) (max (PyData.depth (fd s.2)) 0) + 1 ≤ 64
  omega
theorem eqv_sd (s : Sum2) : PyData.eqv (sd s) (sd s) = true := SeqAt.eqv_refl _ (lay_sd s)
theorem eqv_fd (r : Rat) : PyData.eqv (fd r) (fd r) = true := SeqAt.eqv_refl _ rfl
theorem eqv_row (rs : List Rat) : PyData.eqv (.tuple (rs.map fd)) (.tuple (rs.map fd)) = true := SeqAt.eqv_refl _ (lay_row rs)
theorem eqv_list (rs : List Rat) : PyData.eqv (.list (rs.map fd)) (.list (rs.map fd)) = true := SeqAt.eqv_refl _ (layAll_fd rs)
/-- a tuple's type -/
theorem tyT {K : PySem.W.Frag} {H : Hp} {t : Addr} {xs : List V} (q : SqT K H t xs) : TyX K H (.ref t) (.type "tuple") := by
  rcases q with (q | ⟨o, q⟩) | ⟨o, its, n, h, hc, _⟩
  · exact .base (.tup q)
  · exact .fTuple q
  · exact .kTuple h hc
theorem tyI {K : PySem.W.Frag} {H : Hp} (i : Int) : TyX K H (.int i) (.type "int") := .base (.int i)
theorem sz_tells {n d m e : Nat} {s : Sum2} {row : List Rat} (hn : d ≤ n) (hm : e ≤ m) (ha : SzL n d s.1) (hb : SzL m e row) (hc : Sz n d s.2) (hl : s.1.length = row.length) : Sz (1 + s.1.length * (n + m + 1) + n + 1) (1 + s.1.length * (d + e) + d) (tells s row) := by
  have h := sz_of_weighs hn hm ha hb hl
  have le : s.1.length * (d + e) ≤ s.1.length * (n + m + 1) := Nat.mul_le_mul_left _ (by omega)
  exact sz_add (N := 1 + s.1.length * (n + m + 1) + n) h hc (by omega) (by omega)
theorem len_splus (s t : Sum2) (h : s.1.length = t.1.length) : (splus s t).1.length = s.1.length := by
  unfold splus
  simp
  omega
theorem len_stimes (q : Rat) (s : Sum2) : (stimes q s).1.length = s.1.length := by
  unfold stimes
  simp
theorem szl_splus {n d m e N : Nat} {s t : Sum2} (h1 : SzL n d s.1) (h2 : SzL m e t.1) (k1 : n + e ≤ N := by omega) (k2 : m + d ≤ N := by omega) : SzL (N + 1) (d + e) (splus s t).1 := by
  intro r hr
  unfold splus at hr
  obtain ⟨p, hp, rfl⟩ := List.mem_map.mp hr
  have := List.of_mem_zip hp
  exact sz_add (h1 _ this.1) (h2 _ this.2)
theorem szl_stimes {n d m e : Nat} {q : Rat} {s : Sum2} (h1 : Sz n d q) (h2 : SzL m e s.1) : SzL (n + m) (d + e) (stimes q s).1 := by
  intro r hr
  unfold stimes at hr
  obtain ⟨p, hp, rfl⟩ := List.mem_map.mp hr
  exact sz_mul h1 (h2 _ hp)
/-- the found sum is the due one, by its own kinds -/
def spWhole (K : PySem.W.Frag) : Sp := fun vs H Q _ => ∃ (x y : V) (s : Sum2), vs = [x, y] ∧ SumV K H x s ∧ SumV K H y s ∧ s.1.length ≤ 100 ∧ ∀ H', Ex H H' → Q (.bl true) H'
def spPlaces : Sp := fun vs H Q _ => ∃ k : Nat, vs = [.int (k : Int)] ∧ k ≤ 100 ∧ ∀ H', Ex H H' → Q (.bl true) H'
/-- all goes well, the stream alone changes -/
def spRight : Sp := fun vs H Q _ => ∃ s : Addr, vs = [.ref s] ∧ Stm s H ∧ ∀ H', (∀ a o, a ≠ s → H a = some o → H' a = some o) → Q (.bl true) H'
def spLaw (K : PySem.W.Frag) : Sp := fun vs H Q _ => ∃ (a : Addr) (ns : List Int), vs = [.ref a] ∧ SqL K H a (ns.map V.int) ∧ ns.length ≤ 63 ∧ ∀ H', Q (.bl true) H'
end Nc
end
section
set_option maxRecDepth 100000
set_option maxHeartbeats 4000000
namespace Nc
open PySem PySem.Spec PyProof.Rows L2 Evl
/-! ### bottoms of either sign -/
theorem gcdI_dvd_left (t b : Int) : ((Nat.gcd t.natAbs b.natAbs : Nat) : Int) ∣ t := Int.ofNat_dvd_left.mpr (Nat.gcd_dvd_left _ _)
theorem gcdI_dvd_right (t b : Int) : ((Nat.gcd t.natAbs b.natAbs : Nat) : Int) ∣ b := Int.ofNat_dvd_left.mpr (Nat.gcd_dvd_right _ _)
theorem gcd_posZ {t b : Int} (hb : b ≠ 0) : (0 : Int) < ((Nat.gcd t.natAbs b.natAbs : Nat) : Int) := by
  have := Nat.gcd_pos_of_pos_right t.natAbs (n := b.natAbs) (by omega)
  omega
theorem gcd_leZ {t b : Int} (hb : b ≠ 0) : ((Nat.gcd t.natAbs b.natAbs : Nat) : Int).natAbs ≤ b.natAbs := by
  rw [Int.natAbs_natCast]
  exact Nat.gcd_le_right t.natAbs (n := b.natAbs) (by omega)
theorem num_neg {t b : Int} (hb : b < 0) : t.fdiv (-((Nat.gcd t.natAbs b.natAbs : Nat) : Int)) = (Rat.divInt t b).num := by
  rw [Int.fdiv_eq_ediv_of_dvd (Int.neg_dvd.mpr (gcdI_dvd_left t b)), Int.ediv_neg, Rat.num_divInt, Int.sign_eq_neg_one_of_neg hb, Int.gcd_comm]
  have : -1 * t = -t := by omega
  rw [this]
  exact (Int.neg_ediv_of_dvd (gcdI_dvd_left t b)).symm
theorem den_neg {t b : Int} (hb : b < 0) : b.fdiv (-((Nat.gcd t.natAbs b.natAbs : Nat) : Int)) = ((Rat.divInt t b).den : Int) := by
  rw [Int.fdiv_eq_ediv_of_dvd (Int.neg_dvd.mpr (gcdI_dvd_right t b)), Int.ediv_neg, Rat.den_divInt, if_neg (by omega), Int.gcd_comm]
  have e : ((b.natAbs : Nat) : Int) = -b := by omega
  rw [Int.natCast_ediv, e]
  exact (Int.neg_ediv_of_dvd (gcdI_dvd_right t b)).symm
theorem num_pos {t b : Int} (hb : 0 < b) : t.fdiv ((Nat.gcd t.natAbs b.natAbs : Nat) : Int) = (Rat.divInt t b).num := by
  rw [Int.fdiv_eq_ediv_of_dvd (gcdI_dvd_left t b)]
  exact num_div hb
theorem den_posI {t b : Int} (hb : 0 < b) : b.fdiv ((Nat.gcd t.natAbs b.natAbs : Nat) : Int) = ((Rat.divInt t b).den : Int) := by
  rw [Int.fdiv_eq_ediv_of_dvd (gcdI_dvd_right t b)]
  exact den_div hb
theorem sz_divZ {t b : Int} {n d : Nat} (hb : b ≠ 0) (ht : t.natAbs < 2 ^ n) (hz : b.natAbs < 2 ^ d) : Sz n d (Rat.divInt t b) := by
  by_cases h : 0 < b
  · exact sz_div h ht hz
  · have h2 : (0 : Int) < -b := by omega
    have e : Rat.divInt t b = Rat.divInt (-t) (-b) := by
      rw [Rat.divInt_eq_divInt_iff hb (by omega)]
      rw [Int.mul_neg, Int.neg_mul]
    rw [e]
    exact sz_div h2 (by omega) (by omega)
theorem cross {t b : Int} (hb : b ≠ 0) : (Rat.divInt t b).num * b = t * ((Rat.divInt t b).den : Int) := by
  have h := Rat.num_divInt_den (Rat.divInt t b)
  have hd := den_pos (Rat.divInt t b)
  rwa [Rat.divInt_eq_divInt_iff (by omega) hb] at h
theorem sub_is (r s : Rat) : Rat.divInt (r.num * (s.den : Int) - s.num * (r.den : Int)) ((r.den : Int) * (s.den : Int)) = r - s := by
  have h1 := den_pos r
  have h2 := den_pos s
  rw [← Rat.divInt_sub_divInt r.num s.num (by omega) (by omega), Rat.num_divInt_den, Rat.num_divInt_den]
theorem lt_sub {n : Nat} {i j : Int} (ha : i.natAbs < 2 ^ n) (hb : j.natAbs < 2 ^ n) : (i - j).natAbs < 2 ^ (n + 1) := by
  rw [Nat.pow_succ]
  omega
theorem weighs_comm : ∀ (a b : List Rat), weighs (a.zip b) = weighs (b.zip a)
  | [], b => by cases b <;> rfl
  | x :: a, [] => rfl
  | x :: a, y :: b => by
    simp only [List.zip_cons_cons, weighs_cons]
    rw [weighs_comm a b, Rat.mul_comm]
/-! ### // by any divisor below 2 ^ 9000; a text so many times -/
def CDivZ (_ j : Int) : Prop := j ≠ 0 ∧ j.natAbs.log2 < 9000
theorem op_fdivZ {X : Cx} : OpR X (binaryOp .FloorDiv) (rI CDivZ fun i j => .int (i.fdiv j)) := opI fun i j _ _ _ _ _ hc q => floordiv_int hc.1 q (.inl (PyProof.noPylong_of_log2 hc.2))
theorem cdivZ {i j : Int} {b : Nat} (h : j ≠ 0) (hb : j.natAbs < 2 ^ b) (h0 : 0 < b) (h9 : b ≤ 9000) : CDivZ i j := ⟨h, Nat.lt_of_lt_of_le (PySem.Flt.log2_lt_of h0 hb) h9⟩
theorem op_mulStr {X : Cx} {x : Str} {n : Int} (hr : (decide (n < -(2 ^ 63 : Int)) || decide (n ≥ 2 ^ 63)) = false) (h1 : ¬ n < 1) (h2 : (n == 1 || x.length == 0) = false)
    (hb : ¬ ((x.length : Int) > (2 ^ 63 - 1) / n)) (hl : Builtin.Str.tooLong (x.length * n.toNat) = false) :
    OpR X (binaryOp .Mult) (fun a b H Q => a = .str x ∧ b = .int n ∧ (⟨(List.replicate n.toNat x.cps).foldl (· ++ ·) #[]⟩ : Str).length ≤ sizeLine ∧ Q (.str ⟨(List.replicate n.toNat x.cps).foldl (· ++ ·) #[]⟩) H) := by
  intro pins s σ H a b v u Q I ra rb h
  obtain ⟨rfl, rfl, hz, q⟩ := h
  obtain ⟨t, rfl⟩ := ra
  obtain ⟨t2, rfl⟩ := rb
  refine PySem.P.mul_str hr (fun _ _ => hb) (fun _ _ => hl) ?_
  rw [if_neg h1, if_neg (by rw [h2]; decide)]
  exact ⟨hz, ⟨.str _, H, I.tok _, ⟨_, rfl⟩, q⟩⟩
end Nc
end
section
set_option maxRecDepth 100000
set_option maxHeartbeats 4000000
namespace Nc
open PySem PySem.Spec PyProof.Rows L2 Evl
/-! ### promises of k02's defs -/
def spPartZ (K : PySem.W.Frag) : Sp := fun vs H Q _ => ∃ (t b : Int) (n : Nat), vs = [.int t, .int b] ∧ b ≠ 0 ∧ b.natAbs < 2 ^ n ∧ 0 < n ∧ n ≤ 9000 ∧ ∀ v H', Ex H H' → FrV K H' v (Rat.divInt t b) → Q v H'
theorem Ok.imp {P : Program} {w : World} {K : PySem.W.Frag} {mg : Str → Option Value} {base : Heap} {k : Nat} {x : Str} {ps : List Str} {sp sp' : Sp} (D : Ok P w K mg base k x ps sp) (h : ∀ vs H Q E, sp' vs H Q E → sp vs H Q E) : Ok P w K mg base k x ps sp' := by
  obtain ⟨f, fd, g, kp, F, b⟩ := D.ex
  exact ⟨f, fd, g, kp, F.imp h, b⟩
theorem part_imp {K : PySem.W.Frag} : ∀ vs H Q E, spPart K vs H Q E → spPartZ K vs H Q E := by
  rintro vs H Q E ⟨t, b, n, h1, h2, h3, h4, h5, q⟩
  exact ⟨t, b, n, h1, by omega, h3, h4, h5, q⟩
abbrev spMinus := sp2 (· - ·)
def spRatio (K : PySem.W.Frag) : Sp := fun vs H Q _ => ∃ (x y : V) (r s : Rat) (n d m e : Nat), vs = [x, y] ∧ FrV K H x r ∧ FrV K H y s ∧ Sz n d r ∧ Sz m e s ∧ s.num ≠ 0 ∧ (0 < n ∧ 0 < d ∧ 0 < m ∧ 0 < e ∧ d + m ≤ 8900 ∧ n + m + d + e ≤ 900000) ∧
  ∀ v H', Ex H H' → FrV K H' v (Rat.divInt (r.num * (s.den : Int)) ((r.den : Int) * s.num)) → Q v H'
def spLess (K : PySem.W.Frag) : Sp := fun vs H Q _ => ∃ (x y : V) (r s : Rat) (n d m e : Nat), vs = [x, y] ∧ FrV K H x r ∧ FrV K H y s ∧ Sz n d r ∧ Sz m e s ∧ (0 < n ∧ 0 < d ∧ 0 < m ∧ 0 < e ∧ n + m + d + e ≤ 900000) ∧ Q (.bl (decide (r.num * (s.den : Int) < s.num * (r.den : Int)))) H
/-- the greatest shared divisor -/
def spCommon : Sp := fun vs H Q _ => ∃ a b : Int, vs = [.int a, .int b] ∧ 0 ≤ a ∧ 0 < b ∧ Q (.int ((Nat.gcd a.natAbs b.natAbs : Nat) : Int)) H
/-- a whole number of so many bits at most -/
def spInt (n : Nat) : Sp := fun vs H Q _ => ∃ s : Addr, vs = [.ref s] ∧ Stm s H ∧ ∀ d H', d.natAbs < 2 ^ n → Dr s H H' → Q (.int d) H'
/-- the found fraction is that of a top and a bottom -/
def spIs (K : PySem.W.Frag) : Sp := fun vs H Q _ => ∃ (x : V) (t b : Int) (n : Nat), vs = [x, .int t, .int b] ∧ b ≠ 0 ∧ FrV K H x (Rat.divInt t b) ∧ t.natAbs < 2 ^ n ∧ b.natAbs < 2 ^ n ∧ 0 < n ∧ n ≤ 400000 ∧ ∀ H', Ex H H' → Q (.bl true) H'
def spPair (K : PySem.W.Frag) : Sp := fun vs H Q _ => ∃ (x y : V) (r s : Rat), vs = [x, y] ∧ FrV K H x r ∧ FrV K H y s ∧ Sz 2700 200 r ∧ Sz 2700 200 s ∧ ∀ H', Ex H H' → Q (.bl true) H'
/-- a row of at most six long ones, or of at most thirty-one short ones -/
def SzR (L : List Rat) : Prop := (L.length ≤ 6 ∧ SzL 1330 100 L) ∨ (L.length ≤ 31 ∧ SzL 4 4 L)
def spRow2 (K : PySem.W.Frag) : Sp := fun vs H Q _ => ∃ (s : Addr) (k : Nat), vs = [.ref s, .int (k : Int)] ∧ Stm s H ∧ k ≤ 31 ∧ ∀ v L H', Dr s H H' → RowV K H' v L → L.length = k → SzR L → (6 < k → SzL 4 4 L) → Q v H'
/-- what two rows come to, not divided -/
def spDue (K : PySem.W.Frag) : Sp := fun vs H Q _ => ∃ (x y : V) (a b : List Rat), vs = [x, y] ∧ RowV K H x a ∧ RowV K H y b ∧ a.length = b.length ∧ SzR a ∧ SzR b ∧ a.length ≤ 31 ∧
  ∀ (p : Addr) (t u : Int) H', Ex H H' → SqT K H' p [.int t, .int u] → 0 < u → weighs (a.zip b) = Rat.divInt t u → t.natAbs < 2 ^ 90000 → u.natAbs < 2 ^ 90000 → Q (.ref p) H'
end Nc
end
section
set_option maxRecDepth 100000
set_option maxHeartbeats 4000000
namespace Nc
open PySem PySem.Spec PyProof.Rows L2 Evl
/-! ### a def's promise where no repr is under way around it -/
structure GOk (P : Program) (w : World) (K : PySem.W.Frag) (mg : Str → Option Value) (base : Heap) (k : Nat) (f : Addr) (fd : FuncData) (ps : List Str) (sp : Sp) : Prop where
  many : ∀ vs H Q E, sp vs H Q E → vs.length = ps.length
  go : ∀ (A : Around) (stack : List Env) (s : Shared) (H : Hp) (us : List Value) (vs : List V) (Q : VK), A.guards = some [] → Room k A → Env0 P w K mg base A stack s H →
    BindsTo s fd ⟨us, []⟩ (ps.zip us) → Vals vs us → sp vs H Q E0 → codeAny (model P w) A (.call (.ref f) ⟨us, []⟩) (CR CX0 stack P w H s Q E0) s
section
variable {P : Program} {w : World} {K : PySem.W.Frag} {mg : Str → Option Value} {base : Heap} {k : Nat} {f : Addr} {fd : FuncData} {x qual : Str} {st : Stmt} {N ps : List Str} {sp : Sp}
/-- by its body's term, which may say repr -/
theorem gok (F : Fun K x qual st f fd) (S : FnScope N ps (defScope st)) (many : ∀ vs H Q E, sp vs H Q E → vs.length = ps.length)
    (body : ∀ (cdv : Value) (A : Around) (stack : List Env) (s : Shared) (H : Hp) (vs : List V) (Q : VK) (_ : A.guards = some []) (_ : Room k (A.deeper (envOfC qual (defScope st) s.heap.objs.size f cdv))), sp vs H Q E0 →
      ∃ t, PSs (cxOf CX0 P w K mg base N qual (defScope st) f cdv A stack s H E0).nox (defBody st) t ∧ t ⟨fun _ H' => Q .non H', Q, fun _ _ => False, fun _ _ => False⟩ (start N vs) H) : GOk P w K mg base (k + 1) f fd ps sp := by
  obtain ⟨oc, od, kV, doc, pm, an, cdv, ct, osl, rfl, lk, hcd⟩ := F.ex
  constructor
  · exact many
  intro A stack s H us vs Q hG hR e0 hb rv hsp
  have sz := many _ _ _ _ hsp
  have inK : K.In s.heap := e0.mod.kin.keeps fun b o e => And.left (e0.bs b o e)
  have kinds : ∀ y ∈ ps.zip us, (defScope st).names.lookup y.1 = some .local ∨ ((defScope st).names.lookup y.1 = some .cell ∧ ((cellsFrom (s.heap.objs.size + 1) (defScope st).names []).lookup y.1).isSome = true) := by
    rintro ⟨n, v⟩ hy
    have hn := S.par n (List.of_mem_zip hy).1
    exact hn.imp id fun c => ⟨c, PySem.W.cellsFrom_some _ _ _ (.inl c)⟩
  obtain ⟨t, ht, hq⟩ := body cdv A stack s H vs Q hG (hR.deeper _) hsp
  apply codeAny_call_function (ho := inK _ _ lk) (hd' := rfl) (hco := S.co) (hgen := S.gen) (hbody := rfl) (hcd := PySem.W.codeRec_of inK hcd) hR.depth
  apply hb
  apply wpAny_newFunctionEnv_cells S.kind kinds
  rintro env rfl s1 x1
  constructor
  · exact (e0.mod.nolimit.keeps fun b o e => And.left (e0.bs b o e)).keeps x1.toInCall.keep
  apply codeAny_func
  have I := inv_start (CX := CX0) (E := E0) S hR.hd e0 sz rv x1
  refine wpAny_mono (ht.nox.run [] s1 _ H _ I hq) ?_ fun _ _ z => z
  have leave : ∀ {σ' : L2.St} {H' : Hp} {v : V} {u : Value} {s'' : Shared}, Inv (cxOf CX0 P w K mg base N qual (defScope st) f cdv A stack s H E0) [] σ' H' s'' → RelV v u → Q v H' → CE stack P w H s Q u s'' := fun J r z => ⟨_, _, J.os, J.bare, J.base, J.hok, r, z⟩
  rintro (_ | _ | _ | u) s2 hs
  all_goals first
    | (obtain ⟨_, _, J, z⟩ := hs; exact leave (v := .non) (u := .none) J rfl z)
    | (obtain ⟨_, _, _, J, r, z⟩ := hs; exact leave J r z)
    | (obtain ⟨_, _, _, z⟩ := hs; exact z.elim)
end
section
variable {X : Cx} {k : Nat} {f : Addr} {fd : FuncData} {ps : List Str} {sp : Sp} {x : Str} {e : Expr} {es : List Expr} {ta : TA} {p pos : Pos}
/-- a call of such a def, from where no repr is under way -/
theorem clG (F : GOk X.prog X.w X.K X.mg X.base k f fd ps sp) (hG : X.A.guards = some []) (hR : Room k X.A) (hm : X.mg x = some (.ref f)) (hk : PySem.W.keepIn X.K (.ref f) = true) (hb : Binds X.K fd ps []) (ha : PA X (e :: es) ta)
    (hg : Gl X x := by rfl) (hdb : (x == ("__debug__" : Str)) = false := by decide) (he : starEach (e :: es) X.env = (false, eval e X.env) :: starEach es X.env := by rfl) (hpl : (backTo pos (starEach es X.env)).any (·.1) = false := by rfl) :
    PE X (.Call (.Name x p) (e :: es) [] pos) (tCall sp [] E0 ta) := by
  constructor
  intro pins s σ H Q I h
  apply wpAny_Call_Name_kw
  apply ld_glob I hg hm (hd := hdb)
  apply PySem.W.callWith_K (h₀ := X.base) I.ok.mod.kin hk (he := he) (hplain := hpl)
  refine thn (ha.run pos pins s σ H _ I h) ?_
  rintro us s1 ⟨vs, H1, J, rv, z⟩
  refine ⟨J.kIn, ?_⟩
  have z' : sp vs H1 Q E0 := by simpa using z
  have sz : us.length = ps.length := by rw [← rv.length]; exact F.many _ _ _ _ z'
  have hb' := hb s1 us J.kIn (by simpa using sz)
  simp only [List.append_nil] at hb'
  apply wpAny_call
  refine codeAny_mono (F.go X.A X.stack s1 H1 us vs Q hG hR J.env0 hb' rv z') ?_
  rintro (_ | (_ | _ | _ | u)) s2 hr
  all_goals first
    | exact J.after hr
    | exact hr.elim
/-- repr of data -/
def rRepr (K : PySem.W.Frag) : List V → Hp → VK → Prop := fun vs H Q => ∃ v d, vs = [v] ∧ Dp K H v d ∧ (∃ a, v = .ref a) ∧ d.showable = true ∧ d.hasDict = false ∧ d.depth ≤ 60 ∧ d.shown.length ≤ sizeLine ∧ Q (.str d.shown) H
theorem call_reprD (hG : X.A.guards = some []) (hu : X.A.units + 64 < cLine) : CallR X (.builtin "repr") (rRepr X.K) := by
  intro pins s σ H vs us Q I rv h
  obtain ⟨v, d, rfl, hd, ⟨a, rfl⟩, h1, h2, h3, h4, q⟩ := h
  cases rv with
  | cons r rr =>
    cases rr
    cases r
    obtain ⟨as, R⟩ := Dp.reads I d _ _ hd rfl
    exact repr_of_reads' R h1 (fun z => by rw [h2] at z; cases z) hG (by omega) (fun _ _ z => z) (fun h' u tk kp => ⟨.str d.shown, H, I.kept (t' := tk) kp, ⟨u, rfl⟩, q⟩) h4
end
/-! ### the law's own call -/
/-- the script alone is tracked, and it only where the module doesn't write it -/
noncomputable def onlyA (K : PySem.W.Frag) (a : Addr) (ob : Obj) (xs : List V) : Hp := open Classical in fun b => if b = a ∧ K.lookup a = none then some (.frz ob (.lst xs)) else none
theorem onlyA_some {K : PySem.W.Frag} {a b : Addr} {ob : Obj} {xs : List V} {u : HO} (h : onlyA K a ob xs b = some u) : b = a ∧ K.lookup a = none ∧ u = .frz ob (.lst xs) := by
  unfold onlyA at h
  split at h
  · rename_i c
    exact ⟨c.1, c.2, (Option.some.inj h).symm⟩
  · cases h
theorem gcall {P : Program} {w : World} {K : PySem.W.Frag} {mg mb : Str → Option Value} {k : Nat} {fa a : Addr} {fd : FuncData} {x : Str} {sp : Sp} {s1 : Shared} {us : List Value} {ns : List Int} (inK : K.In s1.heap) (gl : s1.heap.Ns mainGlobals mg) (bl : s1.heap.Ns builtinsNs mb)
    (bb : ∀ y : Str, y ≠ "__name__" → mb y = bootBuiltins y) (nl : s1.heap.NoLimit) (ng : s1.gens = #[]) (at_ : s1.heap.get? a = some { cls := .type "list", data := .seq us.toArray }) (hints : IntsAre us ns) (sz : ns.length ≤ sizeLine) (hR : Room k callerA)
    (F : ∀ base : Heap, K.In base → base.Ns mainGlobals mg → GOk P w K mg base k fa fd [x] sp) (binds : ∀ (s : Shared) (u : Value), BindsTo s fd ⟨[u], []⟩ [(x, u)]) (hsp : ∀ H : Hp, SqL K H a (ns.map V.int) → sp [.ref a] H (fun v _ => v = .bl true) E0) :
    codeAny (model P w) callerA (.call (.ref fa) ⟨[.ref a], []⟩) (fun r s' => r = .ok (.ret (.bool true)) ∧ OldK s1.heap s'.heap ∧ s'.os = s1.os ∧ AllBare s'.gens) s1 := by
  have rv := vals_ints hints
  have ln := hints.length
  have okA : ObjOk P w (onlyA K a { cls := .type "list", data := .seq us.toArray } (ns.map V.int)) s1.heap a (.frz { cls := .type "list", data := .seq us.toArray } (.lst (ns.map V.int))) := ⟨at_, by simpa using sz, us, _, rv, at_⟩
  generalize hobj : ({ cls := .type "list", data := .seq us.toArray } : Obj) = ob at at_ okA
  generalize hH : onlyA K a ob (ns.map V.int) = H0 at okA
  have only : ∀ {b u}, H0 b = some u → b = a ∧ K.lookup a = none ∧ u = .frz ob (.lst (ns.map V.int)) := by
    subst hH
    exact onlyA_some
  have seq : SqL K H0 a (ns.map V.int) := by
    cases hk : K.lookup a with
    | none =>
      refine .inl (.inr ⟨ob, ?_⟩)
      rw [← hH]
      unfold onlyA
      rw [if_pos ⟨rfl, hk⟩]
    | some o =>
      have e := inK a o hk
      rw [at_] at e
      cases e
      subst hobj
      exact .inr ⟨_, us.toArray, _, hk, rfl, rfl, rfl, by rw [List.size_toArray, ln]; exact sz, by simpa using rv⟩
  have unseen : ∀ {b : Addr} {o : Obj}, s1.heap.get? b = some o → (b = a → False) → H0 b = none := by
    intro b o hb hn
    cases q : H0 b with
    | none => rfl
    | some u => exact (hn (only q).1).elim
  have kept : ∀ {b : Addr} {m : Str → Option Value}, s1.heap.Ns b m → (hidT s1.heap H0).Ns b m := by
    rintro b m ⟨o, es, ep, hb, hd, r⟩
    refine ⟨o, es, ep, hidT_get hb (unseen hb fun z => ?_), hd, r⟩
    rw [z, at_] at hb
    cases hb
    rw [← hobj] at hd
    cases hd
  have kIn : K.In (hidT s1.heap H0) := fun b o hb => hidT_get (inK b o hb) (by
    cases q : H0 b with
    | none => rfl
    | some u =>
      obtain ⟨rfl, n, _⟩ := only q
      rw [n] at hb
      cases hb)
  have limit : (hidT s1.heap H0).NoLimit := by
    obtain ⟨mc, h1, h2⟩ := nl
    exact ⟨mc, kept h1, h2⟩
  have hok : HOk P w H0 s1.heap := by
    intro b u hb
    obtain ⟨rfl, _, rfl⟩ := only hb
    exact okA
  have e0 : Env0 P w K mg (hidT s1.heap H0) callerA [] s1 H0 := by
    refine ⟨rfl, ⟨kIn, kept gl, ⟨mb, kept bl, bb⟩, limit⟩, fun b o e => of_hidT e, Nat.le_of_eq (hidT_size _ _), trivial, fun b hb => ?_, hok, .of_eq ng⟩
    cases hb
  refine codeAny_mono ((F _ kIn (kept gl)).go callerA [] s1 H0 [.ref a] [.ref a] _ rfl hR e0 (binds s1 (.ref a)) (.cons rfl .nil) (hsp H0 seq)) ?_
  rintro (_ | (_ | _ | _ | u)) s2 hr
  all_goals first
    | (obtain ⟨v, H2, os, bare, un, ok2, r2, rfl⟩ := hr
       obtain rfl : u = Value.bool true := r2
       refine ⟨rfl, OldK.of_keep fun b o hb => ?_, os, bare⟩
       cases q : H0 b with
       | none => exact un.keep b o hb q (fun z => by cases z) (by simp)
       | some y =>
         obtain ⟨rfl, _, rfl⟩ := only q
         have h3 := ok2 b _ (un.frzs b _ _ q)
         rw [at_] at hb
         cases hb
         exact h3.1)
    | exact hr.elim
theorem gwalk {l : PySem.W.OpenLaw} {n k : Nat} {q : Program} {loose : List Str} {XP : (Str → Option Value) → Heap → Prop} {YP : World → Heap → Prop} {d : DefRec} {K : Params → PySem.W.Frag} {sp : PySem.W.Frag → Sp} {x : Str} (most : l.most = some n) (sz : n ≤ sizeLine) (nodef : d.params.defaults = []) (hR : Room k callerA)
    (inK : ∀ (w : World) (h : Heap), YP w h → (K w.params).In h)
    (F : ∀ (w : World) (mg : Str → Option Value) (fa : Addr) (h : Heap), (K w.params).In h → h.Ns mainGlobals mg → mg d.name = some (.ref fa) →
      ∃ fd : FuncData, (∀ (s : Shared) (u : Value), BindsTo s fd ⟨[u], []⟩ [(x, u)]) ∧ ∀ base : Heap, (K w.params).In base → base.Ns mainGlobals mg → GOk l.prog w (K w.params) mg base k fa fd [x] (sp (K w.params)))
    (hsp : ∀ (K : PySem.W.Frag) (H : Hp) (a : Addr) (ns : List Int), ns.length ≤ n → SqL K H a (ns.map V.int) → sp K [.ref a] H (fun v _ => v = .bl true) E0) : PySem.W.WalkO q loose XP YP l.row.toRowW d [] (fun f vs => PySem.call f vs) := by
  apply Att.attach_call most nodef
  intro w s0 s1 mg mb fa o pm cd doc a us ns G Y ho hd hcd hmg hobj hints hl hg
  obtain ⟨fd, hb, hF⟩ := F w mg fa _ (inK w _ Y) G.T.g hmg
  exact gcall (inK w _ Y) G.T.g G.T.b G.T.builtins G.T.nolimit hg hobj hints (Nat.le_trans hl sz) hR hF hb fun H hS => hsp _ H a ns hl hS
end Nc
end
section
set_option maxRecDepth 100000
set_option maxHeartbeats 4000000
namespace Nc
open PySem PySem.Spec PyProof.Rows L2 Evl
/-! ### coarser rules: a new object by what it holds -/
def tTupE (t : TA) : TE := fun σ H Q => t σ H fun xs H1 => xs.length ≤ sizeLine ∧ ∀ p H2, H1 p = none → Ex H1 H2 → H2 p = some (.tup xs) → Q (.ref p) H2
def tLstE (t : TA) : TE := fun σ H Q => t σ H fun xs H1 => xs.length ≤ sizeLine ∧ ∀ p H2, H1 p = none → Ex H1 H2 → H2 p = some (.lst xs) → Q (.ref p) H2
def tDicE : TE := fun _ H Q => ∀ p H2, H p = none → Ex H H2 → H2 p = some (.dK []) → Q (.ref p) H2
section
variable {X : Cx} {es : List Expr} {t : TA} {pos : Pos}
theorem pe_tupE {x1} (h : PA X es t) : PE X (.Tuple es x1 pos) (tTupE t) := by
  constructor
  intro pins s σ H Q I hq
  refine wpAny_Tuple_spliced (thn (h.run _ pins s σ H _ I hq) ?_)
  rintro us s2 ⟨vs, H2, J, rv, sz, k⟩
  have fr := J.fresh
  refine ⟨rv.length ▸ sz, .ref _, _, J.laid (o := .tup vs) (t' := s2.toks) (fun _ _ => Heap.get?_push_of_some _) (Nat.le_refl _) ⟨sz, us, rv, _, Heap.get?_push_size _ rfl, rfl, _, rfl⟩, rfl, k _ _ fr (Ex.new fr) upd_same⟩
theorem pe_lstE (h : PA X es t) : PE X (.List es pos) (tLstE t) := by
  constructor
  intro pins s σ H Q I hq
  refine wpAny_List_spliced (thn (h.run _ pins s σ H _ I hq) ?_)
  rintro us s2 ⟨vs, H2, J, rv, sz, k⟩
  have fr := J.fresh
  refine ⟨rv.length ▸ sz, .ref _, _, J.laid (o := .lst vs) (t' := s2.toks) (fun _ _ => Heap.get?_push_of_some _) (Nat.le_refl _) ⟨sz, us, 0, rv, Heap.get?_push_size _ rfl⟩, rfl, k _ _ fr (Ex.new fr) upd_same⟩
theorem pe_dicE : PE X (.Dict [] [] pos) tDicE := ⟨fun pins s σ H Q I h => pe_dnewK.run pins s σ H Q I fun p hp => h p _ hp (Ex.new hp) upd_same⟩
def rCatE : R2 := fun x y H Q => ∃ l b xs zs, x = .ref l ∧ y = .ref b ∧ H l = some (.lst xs) ∧ H b = some (.lst zs) ∧ xs.length + zs.length ≤ sizeLine ∧ ∀ p H2, H p = none → Ex H H2 → H2 p = some (.lst (xs ++ zs)) → Q (.ref p) H2
theorem op_catE : OpR X (binaryOp .Add) rCatE := by
  intro pins s σ H x y v u Q I rx ry h
  obtain ⟨l, b, xs, zs, e1, e2, hH, hB, hz, q⟩ := h
  exact op_cat pins s σ H x y v u Q I rx ry ⟨l, b, xs, zs, e1, e2, hH, hB, hz, fun p hp => q p _ hp (Ex.new hp) upd_same⟩
def rSlE (K : PySem.W.Frag) : V → Option Int → Option Int → Hp → VK → Prop := fun x lo hi H Q => ∃ a xs, x = .ref a ∧ SqL K H a xs ∧ ∀ p H2, H p = none → Ex H H2 → H2 p = some (.lst (cutV xs lo hi)) → Q (.ref p) H2
theorem sl_listE : SlR X (rSlE X.K) := by
  intro pins s σ H x v vl vu lo hi sl Q I rx hs pl pu h
  obtain ⟨a, xs, e, hx, q⟩ := h
  exact sl_list pins s σ H x v vl vu lo hi sl Q I rx hs pl pu ⟨a, xs, e, hx, fun p hp => q p _ hp (Ex.new hp) upd_same⟩
def rTupE (K : PySem.W.Frag) : List V → Hp → VK → Prop := fun vs H Q => ∃ p ys, vs = [.ref p] ∧ SqL K H p ys ∧ ∀ l H2, H l = none → Ex H H2 → H2 l = some (.tup ys) → Q (.ref l) H2
theorem call_tupE : CallR X (.type "tuple") (rTupE X.K) := by
  intro pins s σ H vs us Q I r h
  obtain ⟨p, ys, e, hq, q⟩ := h
  exact call_tuple_of pins s σ H vs us Q I r ⟨p, ys, e, .inl ⟨hq, fun p hp => q p _ hp (Ex.new hp) upd_same⟩⟩
def rLstE (K : PySem.W.Frag) : List V → Hp → VK → Prop := fun vs H Q => ∃ p ys, vs = [.ref p] ∧ SqL K H p ys ∧ ∀ l H2, H l = none → Ex H H2 → H2 l = some (.lst ys) → Q (.ref l) H2
theorem call_lstE : CallR X (.type "list") (rLstE X.K) := by
  intro pins s σ H vs us Q I r h
  obtain ⟨p, ys, e, hq, q⟩ := h
  exact call_list_of pins s σ H vs us Q I r ⟨p, ys, e, .inl hq, fun p hp => q p _ hp (Ex.new hp) upd_same⟩
/-! ### a list == [] -/
def rEqNil (K : PySem.W.Frag) : R2 := fun x y H Q => ∃ a b xs, x = .ref a ∧ y = .ref b ∧ SqL K H a xs ∧ SqL K H b [] ∧ Q (.bl xs.isEmpty) H
theorem op_eqNil (hu : X.A.units + 64 < cLine) : OpR X (compareOp .Eq) (rEqNil X.K) := by
  intro pins s σ H x y v u Q I rx ry h
  obtain ⟨a, b, xs, rfl, rfl, ha, hb, q⟩ := h
  cases rx
  cases ry
  obtain ⟨its, r1, p1, _⟩ := I.list ha
  obtain ⟨its2, r2, p2, _⟩ := I.list hb
  cases r2
  cases r1 with
  | nil =>
    refine SeqAt.eq_listAt (e := fun _ => true) p1.isList p2.isList rfl (by omega) (fun j h1 _ => absurd h1 (Nat.not_lt_zero j)) ?_
    exact ⟨.bl true, H, I, rfl, q⟩
  | cons h1 h2 =>
    refine SeqAt.eq_list_lengthsAt p1.isList p2.isList (by simp) (by omega) ?_
    exact ⟨.bl false, H, I, rfl, q⟩
end
/-! ### a def of the top whose promise holds where no repr is under way -/
structure GO (P : Program) (w : World) (K : PySem.W.Frag) (mg : Str → Option Value) (base : Heap) (k : Nat) (x : Str) (ps : List Str) (sp : Sp) : Prop where
  ex : ∃ f fd, mg x = some (.ref f) ∧ PySem.W.keepIn K (.ref f) = true ∧ GOk P w K mg base k f fd ps sp ∧ Binds K fd ps []
theorem Df.go {P : Program} {w : World} {K : PySem.W.Frag} {mg : Str → Option Value} {base : Heap} {k : Nat} {x : Str} {st : Stmt} {ps : List Str} {sp : Sp} (D : Df K mg x st ps)
    (h : ∀ f fd, Fun K x x st f fd → GOk P w K mg base k f fd ps sp) : GO P w K mg base k x ps sp := by
  obtain ⟨f, fd, g, F, b⟩ := D.ex
  exact ⟨f, fd, g, F.kp, h f fd F, b⟩
section
variable {X : Cx} {k : Nat} {x : Str} {ps : List Str} {sp : Sp} {e : Expr} {es : List Expr} {t : TA} {p pos : Pos}
theorem clg (D : GO X.prog X.w X.K X.mg X.base k x ps sp) (hG : X.A.guards = some []) (hr : Room k X.A) (ha : PA X (e :: es) t) (hg : Gl X x := by rfl) (hdb : (x == ("__debug__" : Str)) = false := by decide)
    (he : starEach (e :: es) X.env = (false, eval e X.env) :: starEach es X.env := by rfl) (hpl : (backTo pos (starEach es X.env)).any (·.1) = false := by rfl) : PE X (.Call (.Name x p) (e :: es) [] pos) (tCall sp [] E0 t) := by
  obtain ⟨f, fd, g, kp, F, b⟩ := D.ex
  exact clG F hG hr g kp b ha hg hdb he hpl
end
/-! ### kinds -/
inductive Kn where
  | non | bl | int | str | tup | lst | dic
  deriving DecidableEq
def Kn.nm : Kn → String
  | .non => "NoneType" | .bl => "bool" | .int => "int" | .str => "str" | .tup => "tuple" | .lst => "list" | .dic => "dict"
def KdV (K : PySem.W.Frag) (H : Hp) (v : V) (k : Kn) : Prop := TyX K H v (.type k.nm) ∧ (k = .int → ∃ i, v = .int i)
theorem kd_int (k : Kn) : kitB k.nm "int" = some (decide (k = .int) || decide (k = .bl)) := by cases k <;> decide +kernel
theorem kd_bool (k : Kn) : kitB k.nm "bool" = some (decide (k = .bl)) := by cases k <;> decide +kernel
theorem kd_tup (k : Kn) : kitB k.nm "tuple" = some (decide (k = .tup)) := by cases k <;> decide +kernel
section
variable {K : PySem.W.Frag} {H H' : Hp} {s : Addr}
theorem tyL {t : Addr} {xs : List V} (q : SqL K H t xs) : TyX K H (.ref t) (.type "list") := by
  rcases q with (q | ⟨o, q⟩) | ⟨o, us, n, hk, hc, _⟩
  · exact .base (.lst q)
  · exact .base (.frz q)
  · exact .kList hk (by assumption)
/-- a small thing -/
inductive Lf : V → Prop
  | non : Lf .non
  | bl (b : Bool) : Lf (.bl b)
  | int (i : Int) (h : i.natAbs < 2 ^ 250) : Lf (.int i)
  | str (x : Str) (h : x ∈ [("1" : Str), "1/2", "", "a", "a b", "late", "b", "c"]) : Lf (.str x)
theorem Lf.kd {v : V} (h : Lf v) : ∃ k, KdV K H v k ∧ k ≠ .tup := by
  cases h with
  | non => exact ⟨.non, ⟨.base .non, fun z => by cases z⟩, by decide⟩
  | bl b => exact ⟨.bl, ⟨.base (.bl b), fun z => by cases z⟩, by decide⟩
  | int i h => exact ⟨.int, ⟨.base (.int i), fun _ => ⟨i, rfl⟩⟩, by decide⟩
  | str x h => exact ⟨.str, ⟨.base (.str x), fun z => by cases z⟩, by decide⟩
/-- a thing as the law draws it: s is the stream -/
inductive Bt (K : PySem.W.Frag) (s : Addr) (H : Hp) : V → Prop
  | leaf {v} (h : Lf v) : Bt K s H v
  | tup {t xs} (q : SqT K H t xs) (h : ∀ x ∈ xs, Lf x) (n : xs.length ≤ 3) : Bt K s H (.ref t)
  | lst {a xs} (q : H a = some (.lst xs)) (e : a ≠ s) (h : ∀ x ∈ xs, Lf x) (n : xs.length ≤ 3) : Bt K s H (.ref a)
  | dic {a} (q : H a = some (.dK [])) : Bt K s H (.ref a)
  | two {t u xs} (q : SqT K H t [.ref u, .ref u]) (p : SqT K H u xs) (h : ∀ x ∈ xs, Lf x) (n : xs.length ≤ 3) : Bt K s H (.ref t)
theorem Bt.ex {v : V} (e : Ex H H') (h : Bt K s H v) : Bt K s H' v := by
  cases h with
  | leaf h => exact .leaf h
  | tup q h n => exact .tup (ex_t e q) h n
  | lst q d h n => exact .lst (e _ _ q) d h n
  | dic q => exact .dic (e _ _ q)
  | two q p h n => exact .two (ex_t e q) (ex_t e p) h n
theorem Bt.dr {v : V} (hs : Stm s H) (d : Dr s H H') (h : Bt K s H v) : Bt K s H' v := by
  cases h with
  | leaf h => exact .leaf h
  | tup q h n => exact .tup (sqt_dr hs d q) h n
  | lst q e h n => exact .lst (d.keep _ _ e q) e h n
  | dic q =>
    obtain ⟨a, b, c, e⟩ := id hs
    exact .dic (d.keep _ _ (ne_of q e (by intro z; cases z)) q)
  | two q p h n => exact .two (sqt_dr hs d q) (sqt_dr hs d p) h n
theorem FrV.bt {v : V} {r : Rat} (h : FrV K H v r) (z : Sz 250 250 r) : Bt K s H v := by
  obtain ⟨t, rfl, q⟩ := h
  refine .tup q (fun x hx => ?_) (by show 2 ≤ 3; decide)
  simp only [List.mem_cons, List.not_mem_nil, or_false] at hx
  rcases hx with rfl | rfl
  · exact .int _ z.1
  · exact .int _ z.den
/-- whether a thing is a fraction -/
inductive Th (K : PySem.W.Frag) (H : Hp) : V → Bool → Prop
  | oth {v k} (h : KdV K H v k) (n : k ≠ .tup) : Th K H v false
  | tupN {t xs} (q : SqT K H t xs) (n : xs.length ≠ 2) : Th K H (.ref t) false
  | two {t x y kx ky} (q : SqT K H t [x, y]) (hx : KdV K H x kx) (hy : KdV K H y ky) (n : ¬ (kx = .int ∧ ky = .int)) : Th K H (.ref t) false
  | nums {t a b} (q : SqT K H t [.int a, .int b]) : Th K H (.ref t) (decide (0 < b) && decide (Nat.gcd a.natAbs b.natAbs = 1))
theorem th_tup {t : Addr} {xs : List V} (q : SqT K H t xs) (h : ∀ x ∈ xs, ∃ k, KdV K H x k) : ∃ b, Th K H (.ref t) b := by
  match xs, q, h with
  | [], q, _ => exact ⟨_, .tupN q (by simp)⟩
  | [_], q, _ => exact ⟨_, .tupN q (by simp)⟩
  | _ :: _ :: _ :: _, q, _ => exact ⟨_, .tupN q (by simp)⟩
  | [x, y], q, h =>
    obtain ⟨kx, hx⟩ := h x (by simp)
    obtain ⟨ky, hy⟩ := h y (by simp)
    by_cases e : kx = .int ∧ ky = .int
    · obtain ⟨a, rfl⟩ := hx.2 e.1
      obtain ⟨b, rfl⟩ := hy.2 e.2
      exact ⟨_, .nums q⟩
    · exact ⟨_, .two q hx hy e⟩
theorem Bt.th {v : V} (h : Bt K s H v) : ∃ b, Th K H v b := by
  cases h with
  | leaf h =>
    obtain ⟨k, hk, n⟩ := h.kd (K := K) (H := H)
    exact ⟨_, .oth hk n⟩
  | tup q h n => exact th_tup q fun x hx => (h x hx).kd.imp fun _ => And.left
  | lst q e h n => exact ⟨_, .oth (k := .lst) ⟨tyL (sq_of q), fun z => by cases z⟩ (by decide)⟩
  | dic q => exact ⟨_, .oth (k := .dic) ⟨.base (.dK q), fun z => by cases z⟩ (by decide)⟩
  | two q p h n =>
    refine th_tup q fun x hx => ?_
    simp only [List.mem_cons, List.not_mem_nil, or_false, or_self] at hx
    subst hx
    exact ⟨.tup, tyT p, fun z => by cases z⟩
theorem Bt.kd {v : V} (h : Bt K s H v) : ∃ k, KdV K H v k := by
  cases h with
  | leaf h => exact h.kd.imp fun _ => And.left
  | tup q h n => exact ⟨.tup, tyT q, fun z => by cases z⟩
  | lst q e h n => exact ⟨.lst, tyL (sq_of q), fun z => by cases z⟩
  | dic q => exact ⟨.dic, .base (.dK q), fun z => by cases z⟩
  | two q p h n => exact ⟨.tup, tyT q, fun z => by cases z⟩
end
/-! ### repr of such things -/
/-- what repr of v tells here -/
inductive Rp (K : PySem.W.Frag) (H : Hp) : V → Str → Prop
  | non : Rp K H .non "None"
  | bl (b : Bool) : Rp K H (.bl b) (if b then "True" else "False")
  | int (i : Int) (h : i.natAbs.log2 < 1920) : Rp K H (.int i) (toString i)
  | str (x : Str) (h : (reprText x).length ≤ sizeLine) : Rp K H (.str x) (reprText x)
  | dat {a d} (h : Dp K H (.ref a) d) (h1 : d.showable = true) (h2 : d.hasDict = false) (h3 : d.depth ≤ 60) (h4 : d.shown.length ≤ sizeLine) : Rp K H (.ref a) d.shown
  | dic {a} (q : H a = some (.dK [])) : Rp K H (.ref a) (PyData.dict []).shown
def rRp (K : PySem.W.Frag) : List V → Hp → VK → Prop := fun vs H Q => ∃ v x, vs = [v] ∧ Rp K H v x ∧ Q (.str x) H
theorem room {u : Nat} (hu : u + 64 < cLine) : u + ((PyData.dict []).depth + 1) < cLine := by
  have : (PyData.dict []).depth ≤ 2 := by decide
  omega
theorem call_rp {X : Cx} (hG : X.A.guards = some []) (hu : X.A.units + 64 < cLine) : CallR X (.builtin "repr") (rRp X.K) := by
  intro pins s σ H xs us Q I r h
  obtain ⟨v, x, rfl, h, q⟩ := h
  cases h with
  | non =>
    obtain ⟨u, rfl, rx⟩ := vals1 r
    cases (show u = Value.none from rx)
    exact PySem.P.repr_of_none ⟨.str _, H, I.tok _, ⟨_, rfl⟩, q⟩
  | bl b =>
    obtain ⟨u, rfl, rx⟩ := vals1 r
    cases (show u = Value.bool b from rx)
    exact PySem.P.repr_of_bool ⟨.str _, H, I.tok _, ⟨_, rfl⟩, q⟩
  | int i hz =>
    obtain ⟨u, rfl, t, rfl⟩ := vals1 r
    exact PySem.P.repr_of_int hz ⟨.str _, H, I.tok _, ⟨_, rfl⟩, q⟩
  | str x hz =>
    obtain ⟨u, rfl, t, rfl⟩ := vals1 r
    exact PySem.P.repr_of_str ⟨.str _, H, I.tok _, ⟨_, rfl⟩, q⟩ hz
  | dat h h1 h2 h3 h4 => exact call_reprD hG hu pins s σ H _ us Q I r ⟨_, _, rfl, h, ⟨_, rfl⟩, h1, h2, h3, h4, q⟩
  | @dic a hq =>
    obtain ⟨u, rfl, rx⟩ := vals1 r
    cases (show u = Value.ref a from rx)
    obtain ⟨_, ya, va, ra, o, es, ep, g1, g2, g3, g4⟩ := (show ObjOk X.prog X.w H s.heap a (.dK []) from I.hok a _ hq)
    cases ra
    have he : es.toList = [] := by
      have hp := g4.2.1
      generalize es.toList = l at hp
      cases hp
      rfl
    have R : Reads s.heap (.ref a) (.dict []) ([a] ++ [] ++ []) := by
      refine Reads.dict g1 g2.1 g3 ?_ ?_
      · rw [he]
        exact .nil
      · rw [he]
        exact .nil
    refine repr_of_reads' R rfl (fun _ hm => ?_) hG (room hu) (fun _ _ z => z) (fun h' u tk kp => ⟨.str _, H, I.kept (t' := tk) kp, ⟨u, rfl⟩, q⟩) (by decide)
    simp only [List.append_nil, List.mem_singleton] at hm
    subst hm
    simp at ya
/-! ### data of such things -/
def lfD : V → PyData
  | .bl b => .bool b
  | .int i => .int i
  | .str x => .str x
  | _ => .none
section
variable {K : PySem.W.Frag} {H : Hp} {s : Addr}
theorem Lf.dp {v : V} (h : Lf v) : Dp K H v (lfD v) := by
  cases h with
  | non => exact .non
  | bl b => exact .bl b
  | int i h => exact .int i
  | str x h => exact .str x
theorem lfs_dp : ∀ {xs : List V}, (∀ x ∈ xs, Lf x) → DpAll K H xs (xs.map lfD)
  | [], _ => .nil
  | x :: xs, h => .cons (h x (by simp)).dp (lfs_dp fun y hy => h y (by simp [hy]))
theorem log2_lt {i : Int} (h : i.natAbs < 2 ^ 250) : i.natAbs.log2 < 1920 := Nat.lt_of_lt_of_le (PySem.Flt.log2_lt_of (by decide) h) (by decide)
theorem Lf.sh {v : V} (h : Lf v) : (lfD v).showable = true ∧ (lfD v).hasDict = false ∧ (lfD v).depth = 0 ∧ (lfD v).leavesShort 92 = true ∧ (lfD v).bulk ≤ 4 := by
  cases h with
  | non => exact ⟨rfl, rfl, rfl, rfl, by decide⟩
  | bl b => exact ⟨rfl, rfl, rfl, rfl, by show 0 ≤ 4; decide⟩
  | int i h =>
    refine ⟨decide_eq_true (log2_lt h), rfl, rfl, decide_eq_true ?_, by show 0 ≤ 4; decide⟩
    have h10 : i.natAbs < 10 ^ 91 := Nat.lt_of_lt_of_le h (by decide +kernel)
    have := int_text_length_le10 (k := 91) (by decide) h10
    show (Str.ofString (toString i)).length ≤ 92
    rw [PySem.ofString_length]
    exact this
  | str x h =>
    simp only [List.mem_cons, List.not_mem_nil, or_false] at h
    rcases h with rfl | rfl | rfl | rfl | rfl | rfl | rfl | rfl <;> exact ⟨rfl, rfl, rfl, by decide, by decide⟩
theorem lfs_sh : ∀ {xs : List V}, (∀ x ∈ xs, Lf x) → PyData.showableAll (xs.map lfD) = true ∧ PyData.hasDictAll (xs.map lfD) = false ∧ PyData.depthAll (xs.map lfD) = 0 ∧ PyData.leavesShortAll 92 (xs.map lfD) = true ∧ PyData.bulkAll (xs.map lfD) ≤ 5 * xs.length
  | [], _ => ⟨rfl, rfl, rfl, rfl, Nat.le_refl _⟩
  | x :: xs, h => by
    obtain ⟨a1, a2, a3, a4, a5⟩ := (h x (by simp)).sh
    obtain ⟨b1, b2, b3, b4, b5⟩ := lfs_sh (xs := xs) fun y hy => h y (by simp [hy])
    simp only [List.map_cons, PyData.showableAll, PyData.hasDictAll, PyData.depthAll, PyData.leavesShortAll, PyData.bulkAll, a1, a2, a3, a4, b1, b2, b3, b4, Bool.and_self, Bool.or_self, List.length_cons, Nat.max_self, true_and]
    omega
theorem shown_fits {d : PyData} (h : d.leavesShort 92 = true) (hb : d.bulk ≤ 60) : d.shown.length ≤ sizeLine := by
  have h1 := PyData.shown_le_bulk 92 (by decide) d h
  have h2 : (92 + 2) * d.bulk + 92 ≤ 10000 := by omega
  have h3 : 10000 ≤ sizeLine := by decide
  omega
theorem Bt.rp {v : V} (h : Bt K s H v) : ∃ x, Rp K H v x := by
  cases h with
  | leaf h =>
    cases h with
    | non => exact ⟨_, .non⟩
    | bl b => exact ⟨_, .bl b⟩
    | int i h => exact ⟨_, .int i (log2_lt h)⟩
    | str x h =>
      refine ⟨_, .str x ?_⟩
      obtain ⟨_, _, _, a4, a5⟩ := (Lf.str x h).sh
      have z := shown_fits a4 (by omega)
      simpa only [lfD, PyData.shown] using z
  | tup q h n =>
    obtain ⟨b1, b2, b3, b4, b5⟩ := lfs_sh h
    refine ⟨_, .dat (.tup q (lfs_dp h)) b1 b2 ?_ (shown_fits b4 ?_)⟩
    · show PyData.depthAll _ + 1 ≤ 60
      omega
    · show PyData.bulkAll _ ≤ 60
      omega
  | lst q e h n =>
    obtain ⟨b1, b2, b3, b4, b5⟩ := lfs_sh h
    refine ⟨_, .dat (.lst (sq_of q) (lfs_dp h)) b1 b2 ?_ (shown_fits b4 ?_)⟩
    · show PyData.depthAll _ + 1 ≤ 60
      omega
    · show PyData.bulkAll _ ≤ 60
      omega
  | dic q => exact ⟨_, .dic q⟩
  | @two t u xs q p h n =>
    obtain ⟨b1, b2, b3, b4, b5⟩ := lfs_sh h
    have hd : Dp K H (.ref u) (.tuple (xs.map lfD)) := .tup p (lfs_dp h)
    refine ⟨_, .dat (d := .tuple [.tuple (xs.map lfD), .tuple (xs.map lfD)]) (.tup q (.cons hd (.cons hd .nil))) ?_ ?_ ?_ (shown_fits ?_ ?_)⟩
    · simp only [PyData.showable, PyData.showableAll, b1, Bool.and_self]
    · simp only [PyData.hasDict, PyData.hasDictAll, b2, Bool.or_self]
    · simp only [PyData.depth, PyData.depthAll, b3]
      decide
    · simp only [PyData.leavesShort, PyData.leavesShortAll, b4, Bool.and_self]
    · simp only [PyData.bulk, PyData.bulkAll]
      omega
end
end Nc
end
section
set_option maxRecDepth 100000
set_option maxHeartbeats 4000000
namespace Nc
open PySem PySem.Spec PyProof.Rows L2 Evl
/-! ### C.m(..), C an own class of the top, m a plain def of its body -/
/-- what the top has written of such a def -/
structure CFn (K : PySem.W.Frag) (mg : Str → Option Value) (x : Str) (C : Addr) (m : Str) (f : Addr) : Prop where
  gC : mg x = some (.ref C)
  rd : ClX.CRead K C (.type "type")
  at_ : PySem.W.findCls K (.ref C) (.type "type") m = some (.val (.ref f))
  kf : PySem.W.keepIn K (.ref f) = true
section
variable {X : Cx} {k : Nat} {C f : Addr} {fd : FuncData} {x m : Str} {ps : List Str} {sp : Sp} {e : Expr} {es : List Expr} {t : TA} {p1 p2 pos : Pos} {pl : Sem Bool}
theorem pe_cfn (c : CFn X.K X.mg x C m f) (F : FnOk X.prog X.w X.K X.mg X.base CX0 k f fd ps sp) (hr : Room k X.A) (hb : Binds X.K fd ps []) (ha : PA X (e :: es) t) (hgl : Gl X x := by rfl) (hdb : (x == ("__debug__" : Str)) = false := by decide)
    (ht : eval (.Call (.Attribute (.Name x p1) m p2) (e :: es) [] pos) X.env = (do
      let ov ← eval (.Name x p1) X.env
      standAt p2.atName
      let (f, first) ← holding [ov] (getMethod ov m pl)
      callWith pos f first (backTo pos (starEach (e :: es) X.env)) (backToKw pos (keywordEach [] X.env))) := by rfl)
    (hst : starEach (e :: es) X.env = (false, eval e X.env) :: starEach es X.env := by rfl) (hpl : (backTo pos (starEach es X.env)).any (·.1) = false := by rfl) :
    PE X (.Call (.Attribute (.Name x p1) m p2) (e :: es) [] pos) (tCall sp [] E0 t) := by
  constructor
  intro pins s σ H Q I h
  refine PySem.W.methodCall_KW (pl := pl) (ld_glob I hgl c.gC ?_ hdb) ht
  refine PySem.W.method_cls I.kIn c.rd.ga (ClX.getcval_ok (v := .ref f) I c.rd ⟨c.at_, rfl⟩ fun s2 J => ?_)
  refine PySem.W.callWith_K (h₀ := X.base) J.ok.mod.kin c.kf (thn (ha.run pos pins s2 σ H _ J h) ?_) hst hpl
  rintro us s3 ⟨vs, H2, J2, rv, z⟩
  exact ⟨J2.kIn, run_fn F hr hb .nil pass0 J2 rv z⟩
end
/-! ### the making of own errors -/
/-- the base's __init__(self, text) -/
def spVeI (K : PySem.W.Frag) : Sp := fun vs H Q _ => ∃ (a C : Addr) (x : Str), vs = [.ref a, .str x] ∧ OexC K C ∧ H a = some (exo a C none) ∧ Q .non H
/-- an own error's __init__(self, v): the field f is v -/
def spErI (K : PySem.W.Frag) (C : Addr) (f : Str) : Sp := fun vs H Q _ => ∃ (a : Addr) (v : V), vs = [.ref a, v] ∧ OexC K C ∧ PySem.W.findIn K (.ref C) f = some none ∧ H a = some (exo a C none) ∧
  ∀ dx, H dx = none → dx ≠ a → Q .non (upd (upd H dx (exd dx [(f, v)])) a (exo a C (some dx)))
/-! ### an own error as a value -/
/-- C(e, ..), the error stays: R is what is wanted of the arguments -/
def tErR (R : List V → Hp → VK → Prop) (ta : TA) : TE := fun σ H Q => ta σ H fun vs H1 => R vs H1 Q
section
variable {X : Cx} {k : Nat} {C fI : Addr} {fd : FuncData} {x : Str} {ps : List Str} {sp : Sp} {e : Expr} {es : List Expr} {ta : TA} {p pos : Pos} {R : List V → Hp → VK → Prop}
theorem pe_erv (T : OexC X.K C) (iC : PySem.W.findIn X.K (.ref C) "__init__" = some (some (.ref fI))) (tI : PySem.W.typeIn X.K (.ref fI) = some (.type "function")) (G : FnOk X.prog X.w X.K X.mg X.base CX0 k fI fd ps sp) (hr : Room (k + 1) X.A) (hb : Binds X.K fd ps [])
    (hm : X.mg x = some (.ref C)) (ha : PA X (e :: es) ta)
    (hR : ∀ vs H Q, R vs H Q → vs.length ≤ 1000 ∧ ∀ a, H a = none → sp (.ref a :: vs) (upd H a (exo a C none)) (fun v H2 => v = .non ∧ Q (.ref a) H2) E0) (hg : Gl X x := by rfl) (hdb : (x == ("__debug__" : Str)) = false := by decide) (he : starEach (e :: es) X.env = (false, eval e X.env) :: starEach es X.env := by rfl) (hpl : (backTo pos (starEach es X.env)).any (·.1) = false := by rfl) :
    PE X (.Call (.Name x p) (e :: es) [] pos) (tErR R ta) := by
  constructor
  intro pins s σ H Q I h
  obtain ⟨nm, q, N, bs, bm, sn, sub, ab, col, dd, k0, k1, k2, k3, k5, hC, hbm⟩ := T.cls
  refine wpAny_Call_Name_kw (ld_glob I hg hm ?_ hdb)
  refine PySem.W.callWith_K (h₀ := X.base) I.ok.mod.kin T.kC (thn (ha.run pos pins s σ H _ I h) ?_) he hpl
  rintro us s1 ⟨vs, H1, J, rv, z⟩
  obtain ⟨sz, k⟩ := hR _ _ _ z
  refine ⟨J.kIn, ?_⟩
  show wpAny _ _ (call (.ref C) us) _ _ _
  obtain ⟨hp, g, dr, tk, os⟩ := s1
  have hn : H1 (hp.objs.size + 1) = none := J.hok.fresh (Nat.le_succ _)
  have hq := k _ hn
  have hget : ((hp.push (PySem.W.kdv_tup us)).push (PySem.HandSPX.excO C hp.objs.size)).get? (hp.objs.size + 1) = some (PySem.HandSPX.excO C hp.objs.size) := by heap_get
  have J2 : Inv X pins σ (upd H1 (hp.objs.size + 1) (exo (hp.objs.size + 1) C none)) ⟨(hp.push (PySem.W.kdv_tup us)).push (PySem.HandSPX.excO C hp.objs.size), g, dr, tk, os⟩ :=
    J.laid (t' := tk) (fun b o z => Heap.get?_push_of_some _ (Heap.get?_push_of_some _ z)) (Nat.le_succ _) (exo_ok hget)
  have r2 : Vals (V.ref (hp.objs.size + 1) :: vs) (Value.ref (hp.objs.size + 1) :: us) := .cons rfl rv
  have hl : (Value.ref (hp.objs.size + 1) :: us).length = ps.length := by
    rw [← r2.length]
    exact G.len _ _ _ _ hq
  have hus : us.length ≤ sizeLine := by
    rw [← Paired.length rv, sizeLine_eq]
    omega
  have hb' := hb _ (Value.ref (hp.objs.size + 1) :: us) J2.kIn (by simpa using hl)
  simp only [List.append_nil] at hb'
  refine wpAny_call (PySem.HandSPX.call_own F.excBase_ValueError (fun Y => PySem.HandSPX.refsVE_contains Y bm hbm) (J.kIn _ _ hC) (PySem.W.looks_findIn J.kIn iC) (fun self => PySem.W.bind_fn J.kIn self tI) hus
    (codeAny_mono (G.run _ X.stack _ _ ⟨Value.ref (hp.objs.size + 1) :: us, []⟩ _ _ _ E0 (hr.make C us []) (J2.env0.make C us []) hb' r2 hq) ?_))
  rintro (_ | (_ | _ | _ | u)) s' hr'
  all_goals first
    | (obtain ⟨v, H2, J3, r3, ev, qq⟩ := J2.after hr'
       subst ev
       exact ⟨r3, .ref _, H2, J3, rfl, qq⟩)
    | exact hr'.elim
end
/-! ### isinstance of, a field of an own error -/
structure ErC (K : PySem.W.Frag) (C : Addr) : Prop where
  oex : OexC K C
  cl : (PySem.W.clsIn K C).isSome = true
  hd : PySem.W.hasDictIn K C = true
  ga : PySem.W.findIn K (.ref C) "__getattribute__" = some (some (.builtin "BaseException.__getattribute__"))
  gt : PySem.W.findIn K (.ref C) "__getattr__" = some none
  ca : PySem.W.findIn K (.ref C) "__class__" = some (some (.builtin "object.__class__"))
  cg : PySem.W.specialIn K (.builtin "object.__class__") "__get__" = some (some (.builtin "getset_descriptor.__get__"))
  ct : PySem.W.takesIn K (.builtin "object.__class__") = some true
  ob : PySem.W.mroIn K C (.type "object") = some true
/-- an own error of the class at C with the fields fs -/
def ErV (H : Hp) (a C : Addr) (fs : List (Str × V)) : Prop := ∃ d, H a = some (exo a C (some d)) ∧ H d = some (exd d fs)
def ErA (H : Hp) (a C : Addr) : Prop := H a = some (exo a C none) ∨ ∃ fs, ErV H a C fs
theorem ErV.ex {H H' : Hp} {a C : Addr} {fs : List (Str × V)} (e : Ex H H') (h : ErV H a C fs) : ErV H' a C fs := by
  obtain ⟨d, h1, h2⟩ := h
  exact ⟨d, e _ _ h1, e _ _ h2⟩
section
variable {X : Cx} {pins : List (Addr × Obj)} {σ : L2.St} {H : Hp} {s : Shared} {a C : Addr} {fs : List (Str × V)}
theorem ErV.look (I : Inv X pins σ H s) (h : ErV H a C fs) : ∃ (ox od : Obj) (mA : Str → Option Value), PySem.W.InstAt s.heap a ox C (some od) ∧ (∀ n, PySem.W.lookIn n od = some (mA n)) ∧ ∀ f, RelO (fs.lookup f) (mA f) := by
  obtain ⟨d, h1, h2⟩ := h
  obtain ⟨t1, ho⟩ := exo_at I.hok h1
  obtain ⟨mA, ns, rel⟩ := exd_at I.hok h2
  obtain ⟨od, hd, lk⟩ := lookIn_ns ns
  exact ⟨_, od, mA, ⟨ho, rfl, rfl, hd⟩, lk, rel⟩
theorem ErA.inst (I : Inv X pins σ H s) (h : ErA H a C) : ∃ ox od, PySem.W.InstAt s.heap a ox C od := by
  rcases h with h | ⟨fs, h⟩
  · obtain ⟨t1, ho⟩ := exo_at I.hok h
    exact ⟨_, none, ⟨ho, rfl, rfl, trivial⟩⟩
  · obtain ⟨ox, od, mA, J, _⟩ := h.look I
    exact ⟨ox, some od, J⟩
end
def rIsX (K : PySem.W.Frag) : List V → Hp → VK → Prop := fun xs H Q => ∃ (a C : Addr) (c : V) (u : Value) (b : Bool), xs = [.ref a, c] ∧ ClsV c u ∧ ErA H a C ∧ ErC K C ∧ PySem.W.kitOne K (.ref C) u = some b ∧ Q (.bl b) H
theorem call_isX {X : Cx} : CallR X (.builtin "isinstance") (rIsX X.K) := by
  intro pins s σ H xs us Q I r h
  obtain ⟨a, C, c, u, b, rfl, kc, ea, ec, e, q⟩ := h
  obtain ⟨u1, u2, rfl, r1, r2⟩ := vals2 r
  cases (show u1 = Value.ref a from r1)
  cases kc.eq r2
  obtain ⟨ox, od, J⟩ := ea.inst I
  exact PySem.W.kia_one (PySem.W.kitx_exc ec.cl ec.ga ec.gt ec.oex.exC ec.ca ec.cg ec.ct ec.ob) I.kIn J e (fun z => nomatch z) fun tk => ⟨.bl b, H, I.tok tk, rfl, q⟩
/-- e.f, e an own error -/
def tErF (K : PySem.W.Frag) (ta : TE) (f : Str) : TE := fun σ H Q => ta σ H fun x H1 => ∃ (a C : Addr) (fs : List (Str × V)) (v : V), x = .ref a ∧ ErV H1 a C fs ∧ ErC K C ∧ PySem.W.findIn K (.ref C) f = some none ∧ fs.lookup f = some v ∧ Q v H1
theorem pe_erf {X : Cx} {e : Expr} {f : Str} {pos : Pos} {ta : TE} (he : PE X e ta) (hb : attributeBase e f X.env (eval e X.env) = eval e X.env := by rfl) : PE X (.Attribute e f pos) (tErF X.K ta f) := by
  constructor
  intro pins s σ H Q I h
  refine attr_of hb (thn (he.run pins s σ H _ I h) ?_)
  rintro u s1 ⟨x, H1, J, rx, a, C, fs, v, ex, ev, ec, hf, lk, q⟩
  subst ex
  cases (show u = Value.ref a from rx)
  obtain ⟨ox, od, mA, K1, l1, rel⟩ := ev.look J
  have r2 := rel f
  rw [lk] at r2
  obtain ⟨y, hy, ry⟩ := r2.some_of
  refine PySem.HandSPX.exc_get J.kIn K1 ec.ga ec.gt ec.oex.exC (PySem.W.findObj_own ec.hd hf rfl (by rw [l1, hy])) (handed_of ry) ?_
  exact ⟨v, H1, J.tok _, ry, q⟩
/-- what is known of an own error's class: its name, its object, its one field, its __init__ -/
structure Er (P : Program) (w : World) (K : PySem.W.Frag) (mg : Str → Option Value) (base : Heap) (x : Str) (C : Addr) (f : Str) (ps : List Str) : Prop where
  ec : ErC K C
  no : PySem.W.findIn K (.ref C) f = some none
  gm : mg x = some (.ref C)
  ini : ∃ fI fd, PySem.W.findIn K (.ref C) "__init__" = some (some (.ref fI)) ∧ PySem.W.typeIn K (.ref fI) = some (.type "function") ∧ FnOk P w K mg base CX0 2 fI fd ps (spErI K C f) ∧ Binds K fd ps []
def rEr (C : Addr) (f : Str) : List V → Hp → VK → Prop := fun vs H Q => ∃ v, vs = [v] ∧ ∀ a H2, H a = none → Ex H H2 → ErV H2 a C [(f, v)] → Q (.ref a) H2
theorem pe_er {X : Cx} {x f : Str} {C : Addr} {ps : List Str} {e : Expr} {ta : TA} {p pos : Pos} (E : Er X.prog X.w X.K X.mg X.base x C f ps) (hr : Room 3 X.A) (ha : PA X [e] ta) (hg : Gl X x := by rfl) (hdb : (x == ("__debug__" : Str)) = false := by decide)
    (he : starEach [e] X.env = (false, eval e X.env) :: starEach [] X.env := by rfl) (hpl : (backTo pos (starEach [] X.env)).any (·.1) = false := by rfl) : PE X (.Call (.Name x p) [e] [] pos) (tErR (rEr C f) ta) := by
  obtain ⟨fI, fd, iC, tI, G, hb⟩ := E.ini
  refine pe_erv E.ec.oex iC tI G hr hb E.gm ha ?_ hg hdb he hpl
  rintro vs H Q ⟨v, rfl, q⟩
  refine ⟨by show 1 ≤ 1000; decide, fun a ha => ⟨a, v, rfl, E.ec.oex, E.no, upd_same, fun dx h1 h2 => ⟨rfl, ?_⟩⟩⟩
  have hd : H dx = none := by rwa [upd_ne h2] at h1
  refine q a _ ha (fun b o hb => ?_) ⟨dx, upd_same, by rw [upd_ne h2]; exact upd_same⟩
  rw [upd_ne (ne_of_none hb ha), upd_ne (ne_of_none hb hd), upd_ne (ne_of_none hb ha)]
  exact hb
end Nc
end
section
set_option maxRecDepth 100000
set_option maxHeartbeats 4000000
namespace Nc
open PySem PySem.Spec PyProof.Rows L2 Evl
theorem elemC (v a : Value) (l : List Value) : (a :: l).contains v = (v == a || l.contains v) := by
  show (match v == a with | true => true | false => List.elem v l) = _
  cases v == a <;> rfl
/-- an own error's class, as it stands written, bm its bases to the last -/
structure ErX (K : PySem.W.Frag) (C : Addr) (bm : List Value) : Prop where
  lk : ∃ nm q N bs sn sub ab col dd k0 k1 k2 k3 k5, K.lookup C = some (excClassObj nm q C N bs bm true sn sub ab col dd k0 k1 k2 k3 k5 "ValueError.__new__")
  ve : PySem.HandSPX.refsVE bm = true
  ty : PySem.W.typeIn K (.ref C) = some (.type "type")
section
variable {K : PySem.W.Frag} {C D : Addr} {bm bn : List Value}
theorem ErX.cls (h : ErX K C bm) : ∃ cd, PySem.W.clsIn K C = some cd ∧ cd.mro = .ref C :: bm ∧ cd.hasDict = true := by
  obtain ⟨nm, q, N, bs, sn, sub, ab, col, dd, k0, k1, k2, k3, k5, e⟩ := h.lk
  unfold PySem.W.clsIn
  rw [e]
  exact ⟨_, rfl, rfl, rfl⟩
theorem ErX.sub (h : ErX K C bm) (v : Value) : PySem.W.subIn K (.ref C) v = some ((Value.ref C :: bm).contains v) := by
  obtain ⟨cd, e, em, _⟩ := h.cls
  show PySem.W.mroIn K C v = _
  unfold PySem.W.mroIn
  rw [e, Option.bind_some, em]
  rfl
theorem ErX.kit (h : ErX K C bm) (g : ErX K D bn) : PySem.W.kitOne K (.ref C) (.ref D) = some (decide (C = D) || bm.contains (.ref D)) := by
  unfold PySem.W.kitOne
  by_cases e : C = D
  · subst e
    rw [if_pos (beq_self_eq_true _), decide_eq_true rfl, Bool.true_or]
  · have ne : (Value.ref C == Value.ref D) = false := beq_eq_false_iff_ne.mpr fun z => e (Value.ref.inj z)
    obtain ⟨cd, ec, _⟩ := g.cls
    rw [if_neg (by rw [ne]; decide)]
    show (if ((PySem.W.clsIn K D).isSome && PySem.W.typeIn K (.ref D) == some (.type "type")) = true then PySem.W.subIn K (.ref C) (.ref D) else none) = _
    rw [ec, g.ty, if_pos (by simp), h.sub, decide_eq_false e, Bool.false_or]
    have ne2 : (Value.ref D == Value.ref C) = false := beq_eq_false_iff_ne.mpr fun z => e (Value.ref.inj z).symm
    rw [elemC, ne2, Bool.false_or]
theorem ErX.kitT (h : ErX K C bm) {T : String} (m : PySem.W.kitMeta T = true) : PySem.W.kitOne K (.ref C) (.type T) = some (bm.contains (.type T)) := by
  unfold PySem.W.kitOne
  have ne : (Value.ref C == Value.type T) = false := beq_eq_false_iff_ne.mpr fun z => by cases z
  rw [if_neg (by rw [ne]; decide)]
  show (if PySem.W.kitMeta T = true then PySem.W.subIn K (.ref C) (.type T) else none) = _
  rw [if_pos m, h.sub]
  have ne2 : (Value.type T == Value.ref C) = false := beq_eq_false_iff_ne.mpr fun z => by cases z
  rw [elemC, ne2, Bool.false_or]
theorem ErX.erc (h : ErX K C bm) (sa : PySem.W.findIn K (.ref C) "__setattr__" = some (some (.builtin "object.__setattr__"))) (kc : PySem.W.keepIn K (.ref C) = true)
    (ga : PySem.W.findIn K (.ref C) "__getattribute__" = some (some (.builtin "BaseException.__getattribute__"))) (gt : PySem.W.findIn K (.ref C) "__getattr__" = some none) (ca : PySem.W.findIn K (.ref C) "__class__" = some (some (.builtin "object.__class__")))
    (cg : PySem.W.specialIn K (.builtin "object.__class__") "__get__" = some (some (.builtin "getset_descriptor.__get__"))) (ct : PySem.W.takesIn K (.builtin "object.__class__") = some true) (b1 : bm.contains (.type "BaseException") = true) (b2 : bm.contains (.type "object") = true)
    (hd : PySem.W.hasDictIn K C = true) : ErC K C := by
  have cons : ∀ v, bm.contains v = true → (Value.ref C :: bm).contains v = true := fun v hv => by
    rw [elemC, hv, Bool.or_true]
  refine ⟨⟨?_, sa, ?_, h.ty, kc⟩, ?_, hd, ga, gt, ca, cg, ct, ?_⟩
  · obtain ⟨nm, q, N, bs, sn, sub, ab, col, dd, k0, k1, k2, k3, k5, e⟩ := h.lk
    exact ⟨nm, q, N, bs, bm, sn, sub, ab, col, dd, k0, k1, k2, k3, k5, e, h.ve⟩
  · rw [h.sub, cons _ b1]
  · obtain ⟨cd, ec, _⟩ := h.cls
    rw [ec]
    rfl
  · have := h.sub (.type "object")
    rw [cons _ b2] at this
    exact this
end
/-- the bases of an error over CutError, of CutError -/
def bmB : List Value := [.type "ValueError", .type "Exception", .type "BaseException", .type "object"]
def bmE (CB : Addr) : List Value := .ref CB :: bmB
theorem bmB_ref (D : Addr) : bmB.contains (.ref D) = false := rfl
theorem bmE_ref (CB D : Addr) : (bmE CB).contains (.ref D) = decide (D = CB) := by
  show (Value.ref CB :: bmB).contains (Value.ref D) = _
  rw [elemC, bmB_ref, Bool.or_false]
  by_cases h : D = CB
  · subst h
    rw [decide_eq_true rfl]
    exact beq_self_eq_true _
  · rw [decide_eq_false h]
    exact beq_eq_false_iff_ne.mpr fun z => h (Value.ref.inj z)
theorem bmE_ty (CB : Addr) (T : String) : (bmE CB).contains (.type T) = bmB.contains (.type T) := by
  show (Value.ref CB :: bmB).contains (Value.type T) = _
  have ne2 : (Value.type T == Value.ref CB) = false := beq_eq_false_iff_ne.mpr fun z => by cases z
  rw [elemC, ne2, Bool.false_or]
end Nc
end
section
set_option maxRecDepth 100000
set_option maxHeartbeats 400000
namespace K04
open PySem L2 Evl Nc PyProof.Rows
/-! ### the text -/
def topS (i : Nat) : Stmt := PySem.Challenge.pw_noughtcut_k04_refusals_apart.main.body.getD i (.Pass ⟨0, 0, 0, 0⟩)
abbrev s__law_cell : Stmt := topS 19
theorem sc__law_cell : FnScope ["_law_script", "_law_k"] ["_law_script", "_law_k"] (defScope s__law_cell) := ⟨rfl, rfl, rfl, by decide +kernel, rfl, by decide +kernel, by decide +kernel⟩
abbrev s__law_stream : Stmt := topS 20
theorem sc__law_stream : FnScope ["_law_cell_here"] ["_law_cell_here"] (defScope s__law_stream) := ⟨rfl, rfl, rfl, by decide +kernel, rfl, by decide +kernel, by decide +kernel⟩
abbrev s__law_take : Stmt := topS 21
theorem sc__law_take : FnScope ["_law_stream_here", "_law_many", "_law_digit", "_law_number", "_law_high"] ["_law_stream_here", "_law_many"] (defScope s__law_take) := ⟨rfl, rfl, rfl, by decide +kernel, rfl, by decide +kernel, by decide +kernel⟩
abbrev s__law_common : Stmt := topS 22
theorem sc__law_common : FnScope ["_law_one", "_law_other"] ["_law_one", "_law_other"] (defScope s__law_common) := ⟨rfl, rfl, rfl, by decide +kernel, rfl, by decide +kernel, by decide +kernel⟩
abbrev s__law_fraction : Stmt := topS 23
theorem sc__law_fraction : FnScope ["_law_top", "_law_bottom", "_law_by"] ["_law_top", "_law_bottom"] (defScope s__law_fraction) := ⟨rfl, rfl, rfl, by decide +kernel, rfl, by decide +kernel, by decide +kernel⟩
abbrev s__law_thing : Stmt := topS 24
theorem sc__law_thing : FnScope ["_law_stream_here", "_law_number", "_law_some"] ["_law_stream_here"] (defScope s__law_thing) := ⟨rfl, rfl, rfl, by decide +kernel, rfl, by decide +kernel, by decide +kernel⟩
abbrev s__law_made : Stmt := topS 25
theorem sc__law_made : FnScope ["_law_k", "_law_thing_here", "_law_some"] ["_law_k", "_law_thing_here"] (defScope s__law_made) := ⟨rfl, rfl, rfl, by decide +kernel, rfl, by decide +kernel, by decide +kernel⟩
abbrev s__law_kinds : Stmt := topS 26
theorem sc__law_kinds : FnScope ["_law_error", "_law_found"] ["_law_error"] (defScope s__law_kinds) := ⟨rfl, rfl, rfl, by decide +kernel, rfl, by decide +kernel, by decide +kernel⟩
abbrev s__law_field : Stmt := topS 27
theorem sc__law_field : FnScope ["_law_error"] ["_law_error"] (defScope s__law_field) := ⟨rfl, rfl, rfl, by decide +kernel, rfl, by decide +kernel, by decide +kernel⟩
abbrev s__law_right : Stmt := topS 28
theorem sc__law_right : FnScope ["_law_k", "_law_thing_here", "_law_other", "_law_error", "_law_second", "_law_j"] ["_law_k", "_law_thing_here"] (defScope s__law_right) := ⟨rfl, rfl, rfl, by decide +kernel, rfl, by decide +kernel, by decide +kernel⟩
abbrev s_law : Stmt := topS 29
theorem sc_law : FnScope ["_law_script", "_law_k", "_law_stream_here", "_law_kind", "_law_plain"] ["_law_script"] (defScope s_law) := ⟨rfl, rfl, rfl, by decide +kernel, rfl, by decide +kernel, by decide +kernel⟩
abbrev s_CutError___init__ : Stmt := inClass (topS 1) 0
theorem sc_CutError___init__ : FnScope ["self", "text"] ["self", "text"] (defScope s_CutError___init__) := ⟨rfl, rfl, rfl, by decide +kernel, rfl, by decide +kernel, by decide +kernel⟩
abbrev s_NoNumber___init__ : Stmt := inClass (topS 2) 0
theorem sc_NoNumber___init__ : FnScope ["self", "found"] ["self", "found"] (defScope s_NoNumber___init__) := ⟨rfl, rfl, rfl, by decide +kernel, rfl, by decide +kernel, by decide +kernel⟩
abbrev s_NoNet___init__ : Stmt := inClass (topS 3) 0
theorem sc_NoNet___init__ : FnScope ["self", "found"] ["self", "found"] (defScope s_NoNet___init__) := ⟨rfl, rfl, rfl, by decide +kernel, rfl, by decide +kernel, by decide +kernel⟩
abbrev s_NoNode___init__ : Stmt := inClass (topS 4) 0
theorem sc_NoNode___init__ : FnScope ["self", "found"] ["self", "found"] (defScope s_NoNode___init__) := ⟨rfl, rfl, rfl, by decide +kernel, rfl, by decide +kernel, by decide +kernel⟩
abbrev s_NoWire___init__ : Stmt := inClass (topS 5) 0
theorem sc_NoWire___init__ : FnScope ["self", "found"] ["self", "found"] (defScope s_NoWire___init__) := ⟨rfl, rfl, rfl, by decide +kernel, rfl, by decide +kernel, by decide +kernel⟩
abbrev s_NoSpot___init__ : Stmt := inClass (topS 6) 0
theorem sc_NoSpot___init__ : FnScope ["self", "found"] ["self", "found"] (defScope s_NoSpot___init__) := ⟨rfl, rfl, rfl, by decide +kernel, rfl, by decide +kernel, by decide +kernel⟩
abbrev s_NoBox___init__ : Stmt := inClass (topS 7) 0
theorem sc_NoBox___init__ : FnScope ["self", "found"] ["self", "found"] (defScope s_NoBox___init__) := ⟨rfl, rfl, rfl, by decide +kernel, rfl, by decide +kernel, by decide +kernel⟩
abbrev s_NoWish___init__ : Stmt := inClass (topS 8) 0
theorem sc_NoWish___init__ : FnScope ["self", "found"] ["self", "found"] (defScope s_NoWish___init__) := ⟨rfl, rfl, rfl, by decide +kernel, rfl, by decide +kernel, by decide +kernel⟩
abbrev s_NoAim___init__ : Stmt := inClass (topS 9) 0
theorem sc_NoAim___init__ : FnScope ["self", "found"] ["self", "found"] (defScope s_NoAim___init__) := ⟨rfl, rfl, rfl, by decide +kernel, rfl, by decide +kernel, by decide +kernel⟩
abbrev s_NoOut___init__ : Stmt := inClass (topS 10) 0
theorem sc_NoOut___init__ : FnScope ["self", "found"] ["self", "found"] (defScope s_NoOut___init__) := ⟨rfl, rfl, rfl, by decide +kernel, rfl, by decide +kernel, by decide +kernel⟩
abbrev s_NoPattern___init__ : Stmt := inClass (topS 11) 0
theorem sc_NoPattern___init__ : FnScope ["self", "found"] ["self", "found"] (defScope s_NoPattern___init__) := ⟨rfl, rfl, rfl, by decide +kernel, rfl, by decide +kernel, by decide +kernel⟩
abbrev s_NoFit___init__ : Stmt := inClass (topS 12) 0
theorem sc_NoFit___init__ : FnScope ["self", "found"] ["self", "found"] (defScope s_NoFit___init__) := ⟨rfl, rfl, rfl, by decide +kernel, rfl, by decide +kernel, by decide +kernel⟩
abbrev s_NoTree___init__ : Stmt := inClass (topS 13) 0
theorem sc_NoTree___init__ : FnScope ["self", "found"] ["self", "found"] (defScope s_NoTree___init__) := ⟨rfl, rfl, rfl, by decide +kernel, rfl, by decide +kernel, by decide +kernel⟩
abbrev s_NoName___init__ : Stmt := inClass (topS 14) 0
theorem sc_NoName___init__ : FnScope ["self", "found"] ["self", "found"] (defScope s_NoName___init__) := ⟨rfl, rfl, rfl, by decide +kernel, rfl, by decide +kernel, by decide +kernel⟩
abbrev s_NoText___init__ : Stmt := inClass (topS 15) 0
theorem sc_NoText___init__ : FnScope ["self", "row"] ["self", "row"] (defScope s_NoText___init__) := ⟨rfl, rfl, rfl, by decide +kernel, rfl, by decide +kernel, by decide +kernel⟩
abbrev s_Large___init__ : Stmt := inClass (topS 16) 0
theorem sc_Large___init__ : FnScope ["self", "many"] ["self", "many"] (defScope s_Large___init__) := ⟨rfl, rfl, rfl, by decide +kernel, rfl, by decide +kernel, by decide +kernel⟩
abbrev s_NoLine___init__ : Stmt := inClass (topS 17) 0
theorem sc_NoLine___init__ : FnScope ["self", "line"] ["self", "line"] (defScope s_NoLine___init__) := ⟨rfl, rfl, rfl, by decide +kernel, rfl, by decide +kernel, by decide +kernel⟩

end K04
end
section
set_option maxRecDepth 100000
set_option maxHeartbeats 400000
namespace K04
open PySem L2 Evl Nc PyProof.Rows
section
variable {P : Program} {w : World} {K : PySem.W.Frag} {mg : Str → Option Value} {base : Heap}
theorem ok_CutError_init {f : Addr} {fd : FuncData} (F : Fun K "__init__" "CutError.__init__" s_CutError___init__ f fd) (mV : mg "ValueError" = none) (vV : PySem.W.findCls K (.type "ValueError") (.type "type") "__init__" = some (.val (.builtin "ValueError.__init__"))) : FnOk P w K mg base CX0 1 f fd ["self", "text"] (spVeI K) := by
  refine F.ok sc_CutError___init__ (fun vs H Q E h => ?_) (fun cdv A outer s H vs Q E hr h => ?_)
  · obtain ⟨a, C, x, rfl, _⟩ := h
    rfl
  · obtain ⟨a, C, x, rfl, hC, ha, q⟩ := h
    refine ⟨_, pss_one (ps_expr (pe_veinit (by rfl) mV vV (pa_cons (pv 0) (pa_cons (pv 1) pa_nil)))), ?_⟩
    exact ⟨_, rfl, _, rfl, a, C, [_], rfl, by show 1 ≤ 1000; decide, hC, ha, q⟩
theorem ok_NoNumber_init {C CB f fB : Addr} {fd fdB : FuncData} (F : Fun K "__init__" "NoNumber.__init__" s_NoNumber___init__ f fd) (c : CFn K mg "CutError" CB "__init__" fB) (G : FnOk P w K mg base CX0 1 fB fdB ["self", "text"] (spVeI K)) (hb : Binds K fdB ["self", "text"] []) : FnOk P w K mg base CX0 2 f fd ["self", "found"] (spErI K C "found") := by
  refine F.ok sc_NoNumber___init__ (fun vs H Q E h => ?_) (fun cdv A outer s H vs Q E hr h => ?_)
  · obtain ⟨a, v, rfl, _⟩ := h
    rfl
  · obtain ⟨a, v, rfl, hC, hf, ha, q⟩ := h
    refine ⟨_, pss_cons (ps_expr (pe_cfn c G hr hb (pa_cons (pv 0) (pa_cons pe_str pa_nil)))) (pss_one (ps_ost (pv 0) (pv 1))), ?_⟩
    exact ⟨_, rfl, a, C, _, rfl, hC, ha, _, rfl, _, rfl, a, C, rfl, hC, hf, .inl ⟨ha, fun dx h1 h2 => q dx h1 h2⟩⟩
theorem ok_NoNet_init {C CB f fB : Addr} {fd fdB : FuncData} (F : Fun K "__init__" "NoNet.__init__" s_NoNet___init__ f fd) (c : CFn K mg "CutError" CB "__init__" fB) (G : FnOk P w K mg base CX0 1 fB fdB ["self", "text"] (spVeI K)) (hb : Binds K fdB ["self", "text"] []) : FnOk P w K mg base CX0 2 f fd ["self", "found"] (spErI K C "found") := by
  refine F.ok sc_NoNet___init__ (fun vs H Q E h => ?_) (fun cdv A outer s H vs Q E hr h => ?_)
  · obtain ⟨a, v, rfl, _⟩ := h
    rfl
  · obtain ⟨a, v, rfl, hC, hf, ha, q⟩ := h
    refine ⟨_, pss_cons (ps_expr (pe_cfn c G hr hb (pa_cons (pv 0) (pa_cons pe_str pa_nil)))) (pss_one (ps_ost (pv 0) (pv 1))), ?_⟩
    exact ⟨_, rfl, a, C, _, rfl, hC, ha, _, rfl, _, rfl, a, C, rfl, hC, hf, .inl ⟨ha, fun dx h1 h2 => q dx h1 h2⟩⟩
theorem ok_NoNode_init {C CB f fB : Addr} {fd fdB : FuncData} (F : Fun K "__init__" "NoNode.__init__" s_NoNode___init__ f fd) (c : CFn K mg "CutError" CB "__init__" fB) (G : FnOk P w K mg base CX0 1 fB fdB ["self", "text"] (spVeI K)) (hb : Binds K fdB ["self", "text"] []) : FnOk P w K mg base CX0 2 f fd ["self", "found"] (spErI K C "found") := by
  refine F.ok sc_NoNode___init__ (fun vs H Q E h => ?_) (fun cdv A outer s H vs Q E hr h => ?_)
  · obtain ⟨a, v, rfl, _⟩ := h
    rfl
  · obtain ⟨a, v, rfl, hC, hf, ha, q⟩ := h
    refine ⟨_, pss_cons (ps_expr (pe_cfn c G hr hb (pa_cons (pv 0) (pa_cons pe_str pa_nil)))) (pss_one (ps_ost (pv 0) (pv 1))), ?_⟩
    exact ⟨_, rfl, a, C, _, rfl, hC, ha, _, rfl, _, rfl, a, C, rfl, hC, hf, .inl ⟨ha, fun dx h1 h2 => q dx h1 h2⟩⟩
theorem ok_NoWire_init {C CB f fB : Addr} {fd fdB : FuncData} (F : Fun K "__init__" "NoWire.__init__" s_NoWire___init__ f fd) (c : CFn K mg "CutError" CB "__init__" fB) (G : FnOk P w K mg base CX0 1 fB fdB ["self", "text"] (spVeI K)) (hb : Binds K fdB ["self", "text"] []) : FnOk P w K mg base CX0 2 f fd ["self", "found"] (spErI K C "found") := by
  refine F.ok sc_NoWire___init__ (fun vs H Q E h => ?_) (fun cdv A outer s H vs Q E hr h => ?_)
  · obtain ⟨a, v, rfl, _⟩ := h
    rfl
  · obtain ⟨a, v, rfl, hC, hf, ha, q⟩ := h
    refine ⟨_, pss_cons (ps_expr (pe_cfn c G hr hb (pa_cons (pv 0) (pa_cons pe_str pa_nil)))) (pss_one (ps_ost (pv 0) (pv 1))), ?_⟩
    exact ⟨_, rfl, a, C, _, rfl, hC, ha, _, rfl, _, rfl, a, C, rfl, hC, hf, .inl ⟨ha, fun dx h1 h2 => q dx h1 h2⟩⟩
theorem ok_NoSpot_init {C CB f fB : Addr} {fd fdB : FuncData} (F : Fun K "__init__" "NoSpot.__init__" s_NoSpot___init__ f fd) (c : CFn K mg "CutError" CB "__init__" fB) (G : FnOk P w K mg base CX0 1 fB fdB ["self", "text"] (spVeI K)) (hb : Binds K fdB ["self", "text"] []) : FnOk P w K mg base CX0 2 f fd ["self", "found"] (spErI K C "found") := by
  refine F.ok sc_NoSpot___init__ (fun vs H Q E h => ?_) (fun cdv A outer s H vs Q E hr h => ?_)
  · obtain ⟨a, v, rfl, _⟩ := h
    rfl
  · obtain ⟨a, v, rfl, hC, hf, ha, q⟩ := h
    refine ⟨_, pss_cons (ps_expr (pe_cfn c G hr hb (pa_cons (pv 0) (pa_cons pe_str pa_nil)))) (pss_one (ps_ost (pv 0) (pv 1))), ?_⟩
    exact ⟨_, rfl, a, C, _, rfl, hC, ha, _, rfl, _, rfl, a, C, rfl, hC, hf, .inl ⟨ha, fun dx h1 h2 => q dx h1 h2⟩⟩
theorem ok_NoBox_init {C CB f fB : Addr} {fd fdB : FuncData} (F : Fun K "__init__" "NoBox.__init__" s_NoBox___init__ f fd) (c : CFn K mg "CutError" CB "__init__" fB) (G : FnOk P w K mg base CX0 1 fB fdB ["self", "text"] (spVeI K)) (hb : Binds K fdB ["self", "text"] []) : FnOk P w K mg base CX0 2 f fd ["self", "found"] (spErI K C "found") := by
  refine F.ok sc_NoBox___init__ (fun vs H Q E h => ?_) (fun cdv A outer s H vs Q E hr h => ?_)
  · obtain ⟨a, v, rfl, _⟩ := h
    rfl
  · obtain ⟨a, v, rfl, hC, hf, ha, q⟩ := h
    refine ⟨_, pss_cons (ps_expr (pe_cfn c G hr hb (pa_cons (pv 0) (pa_cons pe_str pa_nil)))) (pss_one (ps_ost (pv 0) (pv 1))), ?_⟩
    exact ⟨_, rfl, a, C, _, rfl, hC, ha, _, rfl, _, rfl, a, C, rfl, hC, hf, .inl ⟨ha, fun dx h1 h2 => q dx h1 h2⟩⟩
theorem ok_NoWish_init {C CB f fB : Addr} {fd fdB : FuncData} (F : Fun K "__init__" "NoWish.__init__" s_NoWish___init__ f fd) (c : CFn K mg "CutError" CB "__init__" fB) (G : FnOk P w K mg base CX0 1 fB fdB ["self", "text"] (spVeI K)) (hb : Binds K fdB ["self", "text"] []) : FnOk P w K mg base CX0 2 f fd ["self", "found"] (spErI K C "found") := by
  refine F.ok sc_NoWish___init__ (fun vs H Q E h => ?_) (fun cdv A outer s H vs Q E hr h => ?_)
  · obtain ⟨a, v, rfl, _⟩ := h
    rfl
  · obtain ⟨a, v, rfl, hC, hf, ha, q⟩ := h
    refine ⟨_, pss_cons (ps_expr (pe_cfn c G hr hb (pa_cons (pv 0) (pa_cons pe_str pa_nil)))) (pss_one (ps_ost (pv 0) (pv 1))), ?_⟩
    exact ⟨_, rfl, a, C, _, rfl, hC, ha, _, rfl, _, rfl, a, C, rfl, hC, hf, .inl ⟨ha, fun dx h1 h2 => q dx h1 h2⟩⟩
theorem ok_NoAim_init {C CB f fB : Addr} {fd fdB : FuncData} (F : Fun K "__init__" "NoAim.__init__" s_NoAim___init__ f fd) (c : CFn K mg "CutError" CB "__init__" fB) (G : FnOk P w K mg base CX0 1 fB fdB ["self", "text"] (spVeI K)) (hb : Binds K fdB ["self", "text"] []) : FnOk P w K mg base CX0 2 f fd ["self", "found"] (spErI K C "found") := by
  refine F.ok sc_NoAim___init__ (fun vs H Q E h => ?_) (fun cdv A outer s H vs Q E hr h => ?_)
  · obtain ⟨a, v, rfl, _⟩ := h
    rfl
  · obtain ⟨a, v, rfl, hC, hf, ha, q⟩ := h
    refine ⟨_, pss_cons (ps_expr (pe_cfn c G hr hb (pa_cons (pv 0) (pa_cons pe_str pa_nil)))) (pss_one (ps_ost (pv 0) (pv 1))), ?_⟩
    exact ⟨_, rfl, a, C, _, rfl, hC, ha, _, rfl, _, rfl, a, C, rfl, hC, hf, .inl ⟨ha, fun dx h1 h2 => q dx h1 h2⟩⟩
theorem ok_NoOut_init {C CB f fB : Addr} {fd fdB : FuncData} (F : Fun K "__init__" "NoOut.__init__" s_NoOut___init__ f fd) (c : CFn K mg "CutError" CB "__init__" fB) (G : FnOk P w K mg base CX0 1 fB fdB ["self", "text"] (spVeI K)) (hb : Binds K fdB ["self", "text"] []) : FnOk P w K mg base CX0 2 f fd ["self", "found"] (spErI K C "found") := by
  refine F.ok sc_NoOut___init__ (fun vs H Q E h => ?_) (fun cdv A outer s H vs Q E hr h => ?_)
  · obtain ⟨a, v, rfl, _⟩ := h
    rfl
  · obtain ⟨a, v, rfl, hC, hf, ha, q⟩ := h
    refine ⟨_, pss_cons (ps_expr (pe_cfn c G hr hb (pa_cons (pv 0) (pa_cons pe_str pa_nil)))) (pss_one (ps_ost (pv 0) (pv 1))), ?_⟩
    exact ⟨_, rfl, a, C, _, rfl, hC, ha, _, rfl, _, rfl, a, C, rfl, hC, hf, .inl ⟨ha, fun dx h1 h2 => q dx h1 h2⟩⟩
theorem ok_NoPattern_init {C CB f fB : Addr} {fd fdB : FuncData} (F : Fun K "__init__" "NoPattern.__init__" s_NoPattern___init__ f fd) (c : CFn K mg "CutError" CB "__init__" fB) (G : FnOk P w K mg base CX0 1 fB fdB ["self", "text"] (spVeI K)) (hb : Binds K fdB ["self", "text"] []) : FnOk P w K mg base CX0 2 f fd ["self", "found"] (spErI K C "found") := by
  refine F.ok sc_NoPattern___init__ (fun vs H Q E h => ?_) (fun cdv A outer s H vs Q E hr h => ?_)
  · obtain ⟨a, v, rfl, _⟩ := h
    rfl
  · obtain ⟨a, v, rfl, hC, hf, ha, q⟩ := h
    refine ⟨_, pss_cons (ps_expr (pe_cfn c G hr hb (pa_cons (pv 0) (pa_cons pe_str pa_nil)))) (pss_one (ps_ost (pv 0) (pv 1))), ?_⟩
    exact ⟨_, rfl, a, C, _, rfl, hC, ha, _, rfl, _, rfl, a, C, rfl, hC, hf, .inl ⟨ha, fun dx h1 h2 => q dx h1 h2⟩⟩
theorem ok_NoFit_init {C CB f fB : Addr} {fd fdB : FuncData} (F : Fun K "__init__" "NoFit.__init__" s_NoFit___init__ f fd) (c : CFn K mg "CutError" CB "__init__" fB) (G : FnOk P w K mg base CX0 1 fB fdB ["self", "text"] (spVeI K)) (hb : Binds K fdB ["self", "text"] []) : FnOk P w K mg base CX0 2 f fd ["self", "found"] (spErI K C "found") := by
  refine F.ok sc_NoFit___init__ (fun vs H Q E h => ?_) (fun cdv A outer s H vs Q E hr h => ?_)
  · obtain ⟨a, v, rfl, _⟩ := h
    rfl
  · obtain ⟨a, v, rfl, hC, hf, ha, q⟩ := h
    refine ⟨_, pss_cons (ps_expr (pe_cfn c G hr hb (pa_cons (pv 0) (pa_cons pe_str pa_nil)))) (pss_one (ps_ost (pv 0) (pv 1))), ?_⟩
    exact ⟨_, rfl, a, C, _, rfl, hC, ha, _, rfl, _, rfl, a, C, rfl, hC, hf, .inl ⟨ha, fun dx h1 h2 => q dx h1 h2⟩⟩
theorem ok_NoTree_init {C CB f fB : Addr} {fd fdB : FuncData} (F : Fun K "__init__" "NoTree.__init__" s_NoTree___init__ f fd) (c : CFn K mg "CutError" CB "__init__" fB) (G : FnOk P w K mg base CX0 1 fB fdB ["self", "text"] (spVeI K)) (hb : Binds K fdB ["self", "text"] []) : FnOk P w K mg base CX0 2 f fd ["self", "found"] (spErI K C "found") := by
  refine F.ok sc_NoTree___init__ (fun vs H Q E h => ?_) (fun cdv A outer s H vs Q E hr h => ?_)
  · obtain ⟨a, v, rfl, _⟩ := h
    rfl
  · obtain ⟨a, v, rfl, hC, hf, ha, q⟩ := h
    refine ⟨_, pss_cons (ps_expr (pe_cfn c G hr hb (pa_cons (pv 0) (pa_cons pe_str pa_nil)))) (pss_one (ps_ost (pv 0) (pv 1))), ?_⟩
    exact ⟨_, rfl, a, C, _, rfl, hC, ha, _, rfl, _, rfl, a, C, rfl, hC, hf, .inl ⟨ha, fun dx h1 h2 => q dx h1 h2⟩⟩
theorem ok_NoName_init {C CB f fB : Addr} {fd fdB : FuncData} (F : Fun K "__init__" "NoName.__init__" s_NoName___init__ f fd) (c : CFn K mg "CutError" CB "__init__" fB) (G : FnOk P w K mg base CX0 1 fB fdB ["self", "text"] (spVeI K)) (hb : Binds K fdB ["self", "text"] []) : FnOk P w K mg base CX0 2 f fd ["self", "found"] (spErI K C "found") := by
  refine F.ok sc_NoName___init__ (fun vs H Q E h => ?_) (fun cdv A outer s H vs Q E hr h => ?_)
  · obtain ⟨a, v, rfl, _⟩ := h
    rfl
  · obtain ⟨a, v, rfl, hC, hf, ha, q⟩ := h
    refine ⟨_, pss_cons (ps_expr (pe_cfn c G hr hb (pa_cons (pv 0) (pa_cons pe_str pa_nil)))) (pss_one (ps_ost (pv 0) (pv 1))), ?_⟩
    exact ⟨_, rfl, a, C, _, rfl, hC, ha, _, rfl, _, rfl, a, C, rfl, hC, hf, .inl ⟨ha, fun dx h1 h2 => q dx h1 h2⟩⟩
theorem ok_NoText_init {C CB f fB : Addr} {fd fdB : FuncData} (F : Fun K "__init__" "NoText.__init__" s_NoText___init__ f fd) (c : CFn K mg "CutError" CB "__init__" fB) (G : FnOk P w K mg base CX0 1 fB fdB ["self", "text"] (spVeI K)) (hb : Binds K fdB ["self", "text"] []) : FnOk P w K mg base CX0 2 f fd ["self", "row"] (spErI K C "row") := by
  refine F.ok sc_NoText___init__ (fun vs H Q E h => ?_) (fun cdv A outer s H vs Q E hr h => ?_)
  · obtain ⟨a, v, rfl, _⟩ := h
    rfl
  · obtain ⟨a, v, rfl, hC, hf, ha, q⟩ := h
    refine ⟨_, pss_cons (ps_expr (pe_cfn c G hr hb (pa_cons (pv 0) (pa_cons pe_str pa_nil)))) (pss_one (ps_ost (pv 0) (pv 1))), ?_⟩
    exact ⟨_, rfl, a, C, _, rfl, hC, ha, _, rfl, _, rfl, a, C, rfl, hC, hf, .inl ⟨ha, fun dx h1 h2 => q dx h1 h2⟩⟩
theorem ok_Large_init {C CB f fB : Addr} {fd fdB : FuncData} (F : Fun K "__init__" "Large.__init__" s_Large___init__ f fd) (c : CFn K mg "CutError" CB "__init__" fB) (G : FnOk P w K mg base CX0 1 fB fdB ["self", "text"] (spVeI K)) (hb : Binds K fdB ["self", "text"] []) : FnOk P w K mg base CX0 2 f fd ["self", "many"] (spErI K C "many") := by
  refine F.ok sc_Large___init__ (fun vs H Q E h => ?_) (fun cdv A outer s H vs Q E hr h => ?_)
  · obtain ⟨a, v, rfl, _⟩ := h
    rfl
  · obtain ⟨a, v, rfl, hC, hf, ha, q⟩ := h
    refine ⟨_, pss_cons (ps_expr (pe_cfn c G hr hb (pa_cons (pv 0) (pa_cons pe_str pa_nil)))) (pss_one (ps_ost (pv 0) (pv 1))), ?_⟩
    exact ⟨_, rfl, a, C, _, rfl, hC, ha, _, rfl, _, rfl, a, C, rfl, hC, hf, .inl ⟨ha, fun dx h1 h2 => q dx h1 h2⟩⟩
theorem ok_NoLine_init {C CB f fB : Addr} {fd fdB : FuncData} (F : Fun K "__init__" "NoLine.__init__" s_NoLine___init__ f fd) (c : CFn K mg "CutError" CB "__init__" fB) (G : FnOk P w K mg base CX0 1 fB fdB ["self", "text"] (spVeI K)) (hb : Binds K fdB ["self", "text"] []) : FnOk P w K mg base CX0 2 f fd ["self", "line"] (spErI K C "line") := by
  refine F.ok sc_NoLine___init__ (fun vs H Q E h => ?_) (fun cdv A outer s H vs Q E hr h => ?_)
  · obtain ⟨a, v, rfl, _⟩ := h
    rfl
  · obtain ⟨a, v, rfl, hC, hf, ha, q⟩ := h
    refine ⟨_, pss_cons (ps_expr (pe_cfn c G hr hb (pa_cons (pv 0) (pa_cons pe_str pa_nil)))) (pss_one (ps_ost (pv 0) (pv 1))), ?_⟩
    exact ⟨_, rfl, a, C, _, rfl, hC, ha, _, rfl, _, rfl, a, C, rfl, hC, hf, .inl ⟨ha, fun dx h1 h2 => q dx h1 h2⟩⟩
end

end K04
end
section
set_option maxRecDepth 100000
set_option maxHeartbeats 400000
namespace K04
open PySem Evl Nc PyProof.Rows
open L2 hiding spCell
def fn (k : Nat) : Str := if k = 13 then "row" else if k = 14 then "many" else if k = 15 then "line" else "found"
theorem look1 (f : Str) (v : V) : [(f, v)].lookup f = some v := by simp [List.lookup]
theorem ifB {b : Bool} {A B : Prop} (h1 : b = true → A) (h2 : b = false → B) : if b = true then A else B := by
  cases b
  · exact iteF (h2 rfl)
  · exact iteT (h1 rfl)
theorem q_bl {a b : Bool} {Q : VK} {H : Hp} (q : Q (.bl b) H) (e : a = b) : Q (.bl a) H := by
  rw [e]
  exact q
theorem era_ex {H H' : Hp} {a C : Addr} (e : Ex H H') (h : ErA H a C) : ErA H' a C := by
  rcases h with h | ⟨fs, h⟩
  · exact .inl (e _ _ h)
  · exact .inr ⟨fs, h.ex e⟩
/-- the classes of the errors -/
structure Errs (P : Program) (w : World) (K : PySem.W.Frag) (mg : Str → Option Value) (base : Heap) (Cn : Nat → Addr) (CB : Addr) : Prop where
  e0 : Er P w K mg base "NoNumber" (Cn 0) "found" ["self", "found"]
  e1 : Er P w K mg base "NoNet" (Cn 1) "found" ["self", "found"]
  e2 : Er P w K mg base "NoNode" (Cn 2) "found" ["self", "found"]
  e3 : Er P w K mg base "NoWire" (Cn 3) "found" ["self", "found"]
  e4 : Er P w K mg base "NoSpot" (Cn 4) "found" ["self", "found"]
  e5 : Er P w K mg base "NoBox" (Cn 5) "found" ["self", "found"]
  e6 : Er P w K mg base "NoWish" (Cn 6) "found" ["self", "found"]
  e7 : Er P w K mg base "NoAim" (Cn 7) "found" ["self", "found"]
  e8 : Er P w K mg base "NoOut" (Cn 8) "found" ["self", "found"]
  e9 : Er P w K mg base "NoPattern" (Cn 9) "found" ["self", "found"]
  e10 : Er P w K mg base "NoFit" (Cn 10) "found" ["self", "found"]
  e11 : Er P w K mg base "NoTree" (Cn 11) "found" ["self", "found"]
  e12 : Er P w K mg base "NoName" (Cn 12) "found" ["self", "found"]
  e13 : Er P w K mg base "NoText" (Cn 13) "row" ["self", "row"]
  e14 : Er P w K mg base "Large" (Cn 14) "many" ["self", "many"]
  e15 : Er P w K mg base "NoLine" (Cn 15) "line" ["self", "line"]
  kit : ∀ i j, i < 16 → j < 16 → PySem.W.kitOne K (.ref (Cn i)) (.ref (Cn j)) = some (decide (i = j))
  kb : ∀ i, i < 16 → PySem.W.kitOne K (.ref (Cn i)) (.ref CB) = some true
  kv : ∀ i, i < 16 → PySem.W.kitOne K (.ref (Cn i)) (.type "ValueError") = some true
  bk : ∀ j, j < 16 → PySem.W.kitOne K (.ref CB) (.ref (Cn j)) = some false
  bv : PySem.W.kitOne K (.ref CB) (.type "ValueError") = some true
  eb : ErC K CB
  gb : mg "CutError" = some (.ref CB)
  ib : ∃ fI fd, PySem.W.findIn K (.ref CB) "__init__" = some (some (.ref fI)) ∧ PySem.W.typeIn K (.ref fI) = some (.type "function") ∧ FnOk P w K mg base CX0 1 fI fd ["self", "text"] (spVeI K) ∧ Binds K fd ["self", "text"] []
theorem lt16 {k : Nat} (h : k < 16) : k = 0 ∨ k = 1 ∨ k = 2 ∨ k = 3 ∨ k = 4 ∨ k = 5 ∨ k = 6 ∨ k = 7 ∨ k = 8 ∨ k = 9 ∨ k = 10 ∨ k = 11 ∨ k = 12 ∨ k = 13 ∨ k = 14 ∨ k = 15 := by omega
section
variable {P : Program} {w : World} {K : PySem.W.Frag} {mg : Str → Option Value} {base : Heap} {Cn : Nat → Addr} {CB : Addr}
theorem Errs.ec (G : Errs P w K mg base Cn CB) {k : Nat} (h : k < 16) : ErC K (Cn k) := by
  rcases lt16 h with rfl | rfl | rfl | rfl | rfl | rfl | rfl | rfl | rfl | rfl | rfl | rfl | rfl | rfl | rfl | rfl
  · exact G.e0.ec
  · exact G.e1.ec
  · exact G.e2.ec
  · exact G.e3.ec
  · exact G.e4.ec
  · exact G.e5.ec
  · exact G.e6.ec
  · exact G.e7.ec
  · exact G.e8.ec
  · exact G.e9.ec
  · exact G.e10.ec
  · exact G.e11.ec
  · exact G.e12.ec
  · exact G.e13.ec
  · exact G.e14.ec
  · exact G.e15.ec
theorem Errs.no (G : Errs P w K mg base Cn CB) {k : Nat} (h : k < 16) : PySem.W.findIn K (.ref (Cn k)) (fn k) = some none := by
  rcases lt16 h with rfl | rfl | rfl | rfl | rfl | rfl | rfl | rfl | rfl | rfl | rfl | rfl | rfl | rfl | rfl | rfl
  · exact G.e0.no
  · exact G.e1.no
  · exact G.e2.no
  · exact G.e3.no
  · exact G.e4.no
  · exact G.e5.no
  · exact G.e6.no
  · exact G.e7.no
  · exact G.e8.no
  · exact G.e9.no
  · exact G.e10.no
  · exact G.e11.no
  · exact G.e12.no
  · exact G.e13.no
  · exact G.e14.no
  · exact G.e15.no
end
def spMade (Cn : Nat → Addr) : Sp := fun vs H Q _ => ∃ (k : Nat) (v : V), vs = [.int (k : Int), v] ∧ k < 16 ∧ ∀ a H', Ex H H' → ErV H' a (Cn k) [(fn k, v)] → Q (.ref a) H'
def spKinds (K : PySem.W.Frag) (Cn : Nat → Addr) : Sp := fun vs H Q _ => ∃ (a C : Addr) (b : Nat → Bool), vs = [.ref a] ∧ ErA H a C ∧ ErC K C ∧ (∀ j, j < 16 → PySem.W.kitOne K (.ref C) (.ref (Cn j)) = some (b j)) ∧
  ∀ l H', Ex H H' → H' l = some (.lst [.bl (b 0), .bl (b 1), .bl (b 2), .bl (b 3), .bl (b 4), .bl (b 5), .bl (b 6), .bl (b 7), .bl (b 8), .bl (b 9), .bl (b 10), .bl (b 11), .bl (b 12), .bl (b 13), .bl (b 14), .bl (b 15)]) → Q (.ref l) H'
def spField (Cn : Nat → Addr) : Sp := fun vs H Q _ => ∃ (a : Addr) (k : Nat) (v : V), vs = [.ref a] ∧ k < 16 ∧ ErV H a (Cn k) [(fn k, v)] ∧ Q v H
section
variable {P : Program} {w : World} {K : PySem.W.Frag} {mg : Str → Option Value} {base : Heap} {Cn : Nat → Addr} {CB : Addr}
theorem ok__law_cell (D : Df K mg "_law_cell" s__law_cell ["_law_script", "_law_k"]) (mlen : mg "len" = none) : Ok P w K mg base 1 "_law_cell" ["_law_script", "_law_k"] (spCell K) := by
  refine D.ok fun f fd F => F.ok sc__law_cell (fun vs H Q E h => ?_) (fun cdv A outer s H vs Q E hr h => ?_)
  · obtain ⟨a, ns, k, rfl, _⟩ := h
    rfl
  · obtain ⟨a, ns, k, rfl, hS, hk, q⟩ := h
    refine ⟨_, pss_cons (ps_if (pt_cmpR op_lt (pv 1) (pe_callB call_len_seq (by rfl) mlen PySem.boot_len (pa_cons (pv 0) pa_nil)) (nomark _)) (pss_one (ps_ret (pe_ix ix_list (pv 0) (pv 1) (fun _ _ => rfl)))) pss_nil)
      (pss_one (ps_ret (pe_op op_add (pe_op op_mul pe_int (pv 1)) pe_int))), ?_⟩
    refine ⟨_, rfl, _, rfl, a, _, rfl, .inl hS, _, _, rfl, rfl, _, rfl, ite2 (fun hd => ?_) (fun hd => ?_)⟩
    · have hlt := of_decide_eq_true hd
      rw [List.length_map] at hlt
      have hn : k < ns.length := by omega
      refine ⟨_, rfl, _, rfl, a, _, _, .int ns[k], rfl, rfl, hS, atI_nat ?_, q _⟩
      rw [List.getElem?_map, List.getElem?_eq_getElem hn]
      rfl
    · exact ⟨_, rfl, _, _, rfl, rfl, .inl ⟨by decide, by decide⟩, _, _, rfl, rfl, q _⟩
theorem ok__law_stream (D : Df K mg "_law_stream" s__law_stream ["_law_cell_here"]) (mint : mg "int" = none) : Ok P w K mg base 1 "_law_stream" ["_law_cell_here"] spStream := by
  refine D.ok fun f fd F => F.ok sc__law_stream (fun vs H Q E h => ?_) (fun cdv A outer s H vs Q E hr h => ?_)
  · obtain ⟨c, rfl, _⟩ := h
    rfl
  · obtain ⟨c, rfl, q⟩ := h
    refine ⟨_, pss_one (ps_ret (pe_lst (pa_cons (pe_op op_mul (pv 0) (pe_callTy call_int1 (by rfl) mint (by decide +kernel) (pa_cons (pe_cmpR op_ge (pv 0) (pe_op op_pow pe_int pe_int) (nomark _)) pa_nil))) (pa_cons (pe_op op_mod (pv 0) pe_int) (pa_cons pe_int pa_nil))))), ?_⟩
    refine ⟨_, rfl, _, rfl, _, _, rfl, rfl, ⟨by decide, by decide, by decide⟩, _, _, rfl, rfl, .inr ⟨_, rfl, _, _, rfl, rfl, .inr (b01 _), _, rfl, _, _, rfl, rfl, (by show (0 : Int) < _; decide), (by show 3 ≤ sizeLine; decide), fun p hp => ?_⟩⟩
    exact q _ _ _ _ hp
theorem ok__law_take (D : Df K mg "_law_take" s__law_take ["_law_stream_here", "_law_many"]) : Ok P w K mg base 1 "_law_take" ["_law_stream_here", "_law_many"] spTake := by
  refine D.ok fun f fd F => F.ok sc__law_take (fun vs H Q E h => ?_) (fun cdv A outer s H vs Q E hr h => ?_)
  · obtain ⟨s, m, rfl, _⟩ := h
    rfl
  · obtain ⟨s, m, rfl, ⟨a, b, c, hS⟩, m0, m1, q⟩ := h
    refine ⟨_, pss_cons (ps_if (pt_cmpR op_gt (pe_ix ix_list (pv 0) pe_int (fun _ _ => rfl)) pe_int (nomark _)) (pss_cons (ps_set (i := 2) sc__law_take.nd rfl (.inl rfl) (pe_op op_mod (pe_ix ix_list (pv 0) pe_int (fun _ _ => rfl)) (pv 1))) (pss_cons (ps_asg (pe_op op_fdivW (pe_ix ix_list (pv 0) pe_int (fun _ _ => rfl)) (pv 1)) (pg_sub (pv 0) pe_int set_list)) (pss_one (ps_ret (pv 2))))) pss_nil)
      (pss_cons (ps_asg (pe_op op_add (pe_ix ix_list (pv 0) pe_int (fun _ _ => rfl)) pe_int) (pg_sub (pv 0) pe_int set_list))
      (pss_cons (ps_set (i := 3) sc__law_take.nd rfl (.inl rfl) (pe_op op_mod (pe_op op_add (pe_op op_add (pe_op op_mul (pe_ix ix_list (pv 0) pe_int (fun _ _ => rfl)) pe_int) (pe_op op_mul pe_int (pe_ix ix_list (pv 0) pe_int (fun _ _ => rfl)))) pe_int) pe_int))
      (pss_cons (ps_set (i := 3) sc__law_take.nd rfl (.inl rfl) (pe_op op_mod (pe_op op_mul (pv 3) (pv 3)) pe_int))
      (pss_cons (ps_set (i := 4) sc__law_take.nd rfl (.inl rfl) (pe_op op_mod (pe_op op_add (pe_op op_mul (pv 3) pe_int) (pe_op op_mul pe_int (pe_ix ix_list (pv 0) pe_int (fun _ _ => rfl)))) pe_int))
      (pss_one (ps_ret (pe_op op_mod (pe_op op_fdiv (pe_op op_mod (pe_op op_mul (pv 4) (pv 3)) pe_int) pe_int) (pv 1)))))))), ?_⟩
    have hL : SqL K H s [.int a, .int b, .int c] := sq_of hS
    refine ⟨_, rfl, _, _, _, _, rfl, rfl, hL, at0, _, _, rfl, rfl, _, rfl, ite2 (fun hd => ?_) (fun hd => ?_)⟩
    · refine ⟨_, rfl, _, _, _, _, rfl, rfl, hL, at0, _, rfl, _, _, rfl, rfl, m0, _, rfl, _, _, _, _, rfl, rfl, hL, at0, _, rfl, _, _, rfl, rfl, cdivT m0 m1, _, rfl, s, _, _, 0, rfl, rfl, hS, rfl, _, rfl, ?_⟩
      exact q _ _ (Int.emod_nonneg _ (by omega)) (Int.emod_lt_of_pos _ m0) (Dr.put hS)
    · refine ⟨_, rfl, _, _, _, _, rfl, rfl, hL, at2, _, _, rfl, rfl, _, rfl, s, _, _, 2, rfl, rfl, hS, rfl, ?_⟩
      have d1 : Dr s H (upd H s (.lst [.int a, .int b, .int (c + 1)])) := Dr.put hS
      have hL2 : SqL K (upd H s (.lst [.int a, .int b, .int (c + 1)])) s [.int a, .int b, .int (c + 1)] := sq_of upd_same
      refine ⟨_, rfl, _, _, _, _, rfl, rfl, hL2, at1, _, _, rfl, rfl, .inr ⟨by decide, by decide⟩, _, rfl, _, _, _, _, rfl, rfl, hL2, at2, _, _, rfl, rfl, .inl ⟨by decide, by decide⟩, _, _, rfl, rfl, _, _, rfl, rfl, _, _, rfl, rfl, (by show (0 : Int) < _; decide), ?_⟩
      refine ⟨_, rfl, _, rfl, _, _, rfl, rfl, .inl (modb _ (by decide) (by decide)), _, _, rfl, rfl, (by show (0 : Int) < _; decide), ?_⟩
      refine ⟨_, rfl, _, _, rfl, rfl, .inr ⟨by decide, by decide⟩, _, rfl, _, _, _, _, rfl, rfl, hL2, at2, _, _, rfl, rfl, .inl ⟨by decide, by decide⟩, _, _, rfl, rfl, _, _, rfl, rfl, (by show (0 : Int) < _; decide), ?_⟩
      refine ⟨_, rfl, _, rfl, _, _, rfl, rfl, .inl (modb _ (by decide) (by decide)), _, _, rfl, rfl, (by show (0 : Int) < _; decide), _, _, rfl, rfl, ⟨by decide, by decide⟩, _, rfl, _, _, rfl, rfl, m0, ?_⟩
      exact q _ _ (Int.emod_nonneg _ (by omega)) (Int.emod_lt_of_pos _ m0) d1
theorem ok__law_field (D : Df K mg "_law_field" s__law_field ["_law_error"]) (G : Errs P w K mg base Cn CB) (misi : mg "isinstance" = none) : Ok P w K mg base 1 "_law_field" ["_law_error"] (spField Cn) := by
  refine D.ok fun f fd F => F.ok sc__law_field (fun vs H Q E h => ?_) (fun cdv A outer s H vs Q E hr h => ?_)
  · obtain ⟨a, k, v, rfl, _⟩ := h
    rfl
  · obtain ⟨a, k, v, rfl, hk, ev, q⟩ := h
    refine ⟨_, (pss_cons (ps_if (pt_val (pe_callB call_isX (by rfl) misi (by decide +kernel) (pa_cons (pv 0) (pa_cons (pe_glob (v := .ref (Cn 13)) (by rfl) G.e13.gm rfl) pa_nil)))) (pss_one (ps_ret (pe_erf (pv 0)))) pss_nil)
      (pss_cons (ps_if (pt_val (pe_callB call_isX (by rfl) misi (by decide +kernel) (pa_cons (pv 0) (pa_cons (pe_glob (v := .ref (Cn 14)) (by rfl) G.e14.gm rfl) pa_nil)))) (pss_one (ps_ret (pe_erf (pv 0)))) pss_nil)
      (pss_cons (ps_if (pt_val (pe_callB call_isX (by rfl) misi (by decide +kernel) (pa_cons (pv 0) (pa_cons (pe_glob (v := .ref (Cn 15)) (by rfl) G.e15.gm rfl) pa_nil)))) (pss_one (ps_ret (pe_erf (pv 0)))) pss_nil)
      (pss_one (ps_ret (pe_erf (pv 0))))))), ?_⟩
    have ea : ErA H a (Cn k) := .inr ⟨_, ev⟩
    have fin : PySem.W.findIn K (.ref (Cn k)) (fn k) = some none := G.no hk
    refine ⟨_, rfl, a, Cn k, _, _, _, rfl, .own _, ea, G.ec hk, G.kit k 13 hk (by decide), _, rfl, ifB (fun e => ?_) (fun e => ?_)⟩
    · have e1 := of_decide_eq_true e
      subst e1
      exact ⟨_, rfl, a, _, _, v, rfl, ev, G.ec hk, fin, look1 _ _, q⟩
    refine ⟨_, rfl, a, Cn k, _, _, _, rfl, .own _, ea, G.ec hk, G.kit k 14 hk (by decide), _, rfl, ifB (fun e2 => ?_) (fun e2 => ?_)⟩
    · have e1 := of_decide_eq_true e2
      subst e1
      exact ⟨_, rfl, a, _, _, v, rfl, ev, G.ec hk, fin, look1 _ _, q⟩
    refine ⟨_, rfl, a, Cn k, _, _, _, rfl, .own _, ea, G.ec hk, G.kit k 15 hk (by decide), _, rfl, ifB (fun e3 => ?_) (fun e3 => ?_)⟩
    · have e1 := of_decide_eq_true e3
      subst e1
      exact ⟨_, rfl, a, _, _, v, rfl, ev, G.ec hk, fin, look1 _ _, q⟩
    have ef : fn k = "found" := by
      unfold fn
      rw [if_neg (of_decide_eq_false e), if_neg (of_decide_eq_false e2), if_neg (of_decide_eq_false e3)]
    rw [ef] at ev fin
    exact ⟨_, rfl, a, _, _, v, rfl, ev, G.ec hk, fin, look1 _ _, q⟩
end

end K04
end
section
set_option maxRecDepth 100000
set_option maxHeartbeats 400000
namespace K04
open PySem Evl Nc PyProof.Rows
open L2 hiding spCell
section
variable {P : Program} {w : World} {K : PySem.W.Frag} {mg : Str → Option Value} {base : Heap} {Cn : Nat → Addr} {CB : Addr}
theorem ok__law_made (D : Df K mg "_law_made" s__law_made ["_law_k", "_law_thing_here"]) (G : Errs P w K mg base Cn CB) : Ok P w K mg base 4 "_law_made" ["_law_k", "_law_thing_here"] (spMade Cn) := by
  refine D.ok fun f fd F => F.ok sc__law_made (fun vs H Q E h => ?_) (fun cdv A outer s H vs Q E hr h => ?_)
  · obtain ⟨k, v, rfl, _⟩ := h
    rfl
  · obtain ⟨k, v, rfl, hk, q⟩ := h
    have hr3 : Room 3 _ := hr.mono (by decide)
    refine ⟨_, (pss_cons (ps_set (i := 2) sc__law_made.nd rfl (.inl rfl) (pe_lstE (pa_cons (pe_er G.e0 hr3 (pa_cons (pv 1) pa_nil)) (pa_cons (pe_er G.e1 hr3 (pa_cons (pv 1) pa_nil)) (pa_cons (pe_er G.e2 hr3 (pa_cons (pv 1) pa_nil)) (pa_cons (pe_er G.e3 hr3 (pa_cons (pv 1) pa_nil)) (pa_cons (pe_er G.e4 hr3 (pa_cons (pv 1) pa_nil)) (pa_cons (pe_er G.e5 hr3 (pa_cons (pv 1) pa_nil)) (pa_cons (pe_er G.e6 hr3 (pa_cons (pv 1) pa_nil)) pa_nil)))))))))
      (pss_cons (ps_set (i := 2) sc__law_made.nd rfl (.inl rfl) (pe_op op_catE (pv 2) (pe_lstE (pa_cons (pe_er G.e7 hr3 (pa_cons (pv 1) pa_nil)) (pa_cons (pe_er G.e8 hr3 (pa_cons (pv 1) pa_nil)) (pa_cons (pe_er G.e9 hr3 (pa_cons (pv 1) pa_nil)) (pa_cons (pe_er G.e10 hr3 (pa_cons (pv 1) pa_nil)) (pa_cons (pe_er G.e11 hr3 (pa_cons (pv 1) pa_nil)) (pa_cons (pe_er G.e12 hr3 (pa_cons (pv 1) pa_nil)) pa_nil)))))))))
      (pss_one (ps_ret (pe_ix ix_list (pe_op op_catE (pv 2) (pe_lstE (pa_cons (pe_er G.e13 hr3 (pa_cons (pv 1) pa_nil)) (pa_cons (pe_er G.e14 hr3 (pa_cons (pv 1) pa_nil)) (pa_cons (pe_er G.e15 hr3 (pa_cons (pv 1) pa_nil)) pa_nil))))) (pv 0) (fun _ _ => rfl)))))), ?_⟩
    refine ⟨_, rfl, v, rfl, fun a0 H1 n1 e1 h0 => ?_⟩
    refine ⟨_, rfl, v, rfl, fun a1 H2 n2 e2 h1 => ?_⟩
    refine ⟨_, rfl, v, rfl, fun a2 H3 n3 e3 h2 => ?_⟩
    refine ⟨_, rfl, v, rfl, fun a3 H4 n4 e4 h3 => ?_⟩
    refine ⟨_, rfl, v, rfl, fun a4 H5 n5 e5 h4 => ?_⟩
    refine ⟨_, rfl, v, rfl, fun a5 H6 n6 e6 h5 => ?_⟩
    refine ⟨_, rfl, v, rfl, fun a6 H7 n7 e7 h6 => ?_⟩
    refine ⟨(by show 7 ≤ sizeLine; decide), fun p8 H8 n8 e8 g8 => ?_⟩
    refine ⟨_, rfl, _, rfl, v, rfl, fun a7 H9 n9 e9 h7 => ?_⟩
    refine ⟨_, rfl, v, rfl, fun a8 H10 n10 e10 h8 => ?_⟩
    refine ⟨_, rfl, v, rfl, fun a9 H11 n11 e11 h9 => ?_⟩
    refine ⟨_, rfl, v, rfl, fun a10 H12 n12 e12 h10 => ?_⟩
    refine ⟨_, rfl, v, rfl, fun a11 H13 n13 e13 h11 => ?_⟩
    refine ⟨_, rfl, v, rfl, fun a12 H14 n14 e14 h12 => ?_⟩
    refine ⟨(by show 6 ≤ sizeLine; decide), fun p15 H15 n15 e15 g15 => ?_⟩
    refine ⟨p8, p15, [.ref a0, .ref a1, .ref a2, .ref a3, .ref a4, .ref a5, .ref a6], [.ref a7, .ref a8, .ref a9, .ref a10, .ref a11, .ref a12], rfl, rfl, ((((((e9.trans e10).trans e11).trans e12).trans e13).trans e14).trans e15) _ _ g8, g15, (by show 7 + 6 ≤ sizeLine; decide), fun p16 H16 n16 e16 g16 => ?_⟩
    refine ⟨_, rfl, _, rfl, v, rfl, fun a13 H17 n17 e17 h13 => ?_⟩
    refine ⟨_, rfl, v, rfl, fun a14 H18 n18 e18 h14 => ?_⟩
    refine ⟨_, rfl, v, rfl, fun a15 H19 n19 e19 h15 => ?_⟩
    refine ⟨(by show 3 ≤ sizeLine; decide), fun p20 H20 n20 e20 g20 => ?_⟩
    refine ⟨p16, p20, _, [.ref a13, .ref a14, .ref a15], rfl, rfl, (((e17.trans e18).trans e19).trans e20) _ _ g16, g20, (by show 7 + 6 + 3 ≤ sizeLine; decide), fun p21 H21 n21 e21 g21 => ?_⟩
    have F21 := Ex.refl H21
    have F20 := e21.trans F21
    have F19 := e20.trans F20
    have F18 := e19.trans F19
    have F17 := e18.trans F18
    have F16 := e17.trans F17
    have F15 := e16.trans F16
    have F14 := e15.trans F15
    have F13 := e14.trans F14
    have F12 := e13.trans F13
    have F11 := e12.trans F12
    have F10 := e11.trans F11
    have F9 := e10.trans F10
    have F8 := e9.trans F9
    have F7 := e8.trans F8
    have F6 := e7.trans F7
    have F5 := e6.trans F6
    have F4 := e5.trans F5
    have F3 := e4.trans F4
    have F2 := e3.trans F3
    have F1 := e2.trans F2
    have F0 := e1.trans F1
    rcases lt16 hk with rfl | rfl | rfl | rfl | rfl | rfl | rfl | rfl | rfl | rfl | rfl | rfl | rfl | rfl | rfl | rfl
    · exact ⟨_, rfl, p21, _, _, _, rfl, rfl, sq_of g21, atI_nat (j := 0) rfl, q a0 _ F0 (h0.ex F1)⟩
    · exact ⟨_, rfl, p21, _, _, _, rfl, rfl, sq_of g21, atI_nat (j := 1) rfl, q a1 _ F0 (h1.ex F2)⟩
    · exact ⟨_, rfl, p21, _, _, _, rfl, rfl, sq_of g21, atI_nat (j := 2) rfl, q a2 _ F0 (h2.ex F3)⟩
    · exact ⟨_, rfl, p21, _, _, _, rfl, rfl, sq_of g21, atI_nat (j := 3) rfl, q a3 _ F0 (h3.ex F4)⟩
    · exact ⟨_, rfl, p21, _, _, _, rfl, rfl, sq_of g21, atI_nat (j := 4) rfl, q a4 _ F0 (h4.ex F5)⟩
    · exact ⟨_, rfl, p21, _, _, _, rfl, rfl, sq_of g21, atI_nat (j := 5) rfl, q a5 _ F0 (h5.ex F6)⟩
    · exact ⟨_, rfl, p21, _, _, _, rfl, rfl, sq_of g21, atI_nat (j := 6) rfl, q a6 _ F0 (h6.ex F7)⟩
    · exact ⟨_, rfl, p21, _, _, _, rfl, rfl, sq_of g21, atI_nat (j := 7) rfl, q a7 _ F0 (h7.ex F9)⟩
    · exact ⟨_, rfl, p21, _, _, _, rfl, rfl, sq_of g21, atI_nat (j := 8) rfl, q a8 _ F0 (h8.ex F10)⟩
    · exact ⟨_, rfl, p21, _, _, _, rfl, rfl, sq_of g21, atI_nat (j := 9) rfl, q a9 _ F0 (h9.ex F11)⟩
    · exact ⟨_, rfl, p21, _, _, _, rfl, rfl, sq_of g21, atI_nat (j := 10) rfl, q a10 _ F0 (h10.ex F12)⟩
    · exact ⟨_, rfl, p21, _, _, _, rfl, rfl, sq_of g21, atI_nat (j := 11) rfl, q a11 _ F0 (h11.ex F13)⟩
    · exact ⟨_, rfl, p21, _, _, _, rfl, rfl, sq_of g21, atI_nat (j := 12) rfl, q a12 _ F0 (h12.ex F14)⟩
    · exact ⟨_, rfl, p21, _, _, _, rfl, rfl, sq_of g21, atI_nat (j := 13) rfl, q a13 _ F0 (h13.ex F17)⟩
    · exact ⟨_, rfl, p21, _, _, _, rfl, rfl, sq_of g21, atI_nat (j := 14) rfl, q a14 _ F0 (h14.ex F18)⟩
    · exact ⟨_, rfl, p21, _, _, _, rfl, rfl, sq_of g21, atI_nat (j := 15) rfl, q a15 _ F0 (h15.ex F19)⟩
theorem ok__law_kinds (D : Df K mg "_law_kinds" s__law_kinds ["_law_error"]) (G : Errs P w K mg base Cn CB) (misi : mg "isinstance" = none) : Ok P w K mg base 1 "_law_kinds" ["_law_error"] (spKinds K Cn) := by
  refine D.ok fun f fd F => F.ok sc__law_kinds (fun vs H Q E h => ?_) (fun cdv A outer s H vs Q E hr h => ?_)
  · obtain ⟨a, C, b, rfl, _⟩ := h
    rfl
  · obtain ⟨a, C, b, rfl, ea, ec, hk, q⟩ := h
    refine ⟨_, (pss_cons (ps_set (i := 1) sc__law_kinds.nd rfl (.inl rfl) (pe_lstE (pa_cons (pe_callB call_isX (by rfl) misi (by decide +kernel) (pa_cons (pv 0) (pa_cons (pe_glob (v := .ref (Cn 0)) (by rfl) G.e0.gm rfl) pa_nil))) (pa_cons (pe_callB call_isX (by rfl) misi (by decide +kernel) (pa_cons (pv 0) (pa_cons (pe_glob (v := .ref (Cn 1)) (by rfl) G.e1.gm rfl) pa_nil))) (pa_cons (pe_callB call_isX (by rfl) misi (by decide +kernel) (pa_cons (pv 0) (pa_cons (pe_glob (v := .ref (Cn 2)) (by rfl) G.e2.gm rfl) pa_nil))) pa_nil)))))
      (pss_cons (ps_set (i := 1) sc__law_kinds.nd rfl (.inl rfl) (pe_op op_catE (pv 1) (pe_lstE (pa_cons (pe_callB call_isX (by rfl) misi (by decide +kernel) (pa_cons (pv 0) (pa_cons (pe_glob (v := .ref (Cn 3)) (by rfl) G.e3.gm rfl) pa_nil))) (pa_cons (pe_callB call_isX (by rfl) misi (by decide +kernel) (pa_cons (pv 0) (pa_cons (pe_glob (v := .ref (Cn 4)) (by rfl) G.e4.gm rfl) pa_nil))) (pa_cons (pe_callB call_isX (by rfl) misi (by decide +kernel) (pa_cons (pv 0) (pa_cons (pe_glob (v := .ref (Cn 5)) (by rfl) G.e5.gm rfl) pa_nil))) pa_nil))))))
      (pss_cons (ps_set (i := 1) sc__law_kinds.nd rfl (.inl rfl) (pe_op op_catE (pv 1) (pe_lstE (pa_cons (pe_callB call_isX (by rfl) misi (by decide +kernel) (pa_cons (pv 0) (pa_cons (pe_glob (v := .ref (Cn 6)) (by rfl) G.e6.gm rfl) pa_nil))) (pa_cons (pe_callB call_isX (by rfl) misi (by decide +kernel) (pa_cons (pv 0) (pa_cons (pe_glob (v := .ref (Cn 7)) (by rfl) G.e7.gm rfl) pa_nil))) (pa_cons (pe_callB call_isX (by rfl) misi (by decide +kernel) (pa_cons (pv 0) (pa_cons (pe_glob (v := .ref (Cn 8)) (by rfl) G.e8.gm rfl) pa_nil))) pa_nil))))))
      (pss_cons (ps_set (i := 1) sc__law_kinds.nd rfl (.inl rfl) (pe_op op_catE (pv 1) (pe_lstE (pa_cons (pe_callB call_isX (by rfl) misi (by decide +kernel) (pa_cons (pv 0) (pa_cons (pe_glob (v := .ref (Cn 9)) (by rfl) G.e9.gm rfl) pa_nil))) (pa_cons (pe_callB call_isX (by rfl) misi (by decide +kernel) (pa_cons (pv 0) (pa_cons (pe_glob (v := .ref (Cn 10)) (by rfl) G.e10.gm rfl) pa_nil))) (pa_cons (pe_callB call_isX (by rfl) misi (by decide +kernel) (pa_cons (pv 0) (pa_cons (pe_glob (v := .ref (Cn 11)) (by rfl) G.e11.gm rfl) pa_nil))) pa_nil))))))
      (pss_cons (ps_set (i := 1) sc__law_kinds.nd rfl (.inl rfl) (pe_op op_catE (pv 1) (pe_lstE (pa_cons (pe_callB call_isX (by rfl) misi (by decide +kernel) (pa_cons (pv 0) (pa_cons (pe_glob (v := .ref (Cn 12)) (by rfl) G.e12.gm rfl) pa_nil))) (pa_cons (pe_callB call_isX (by rfl) misi (by decide +kernel) (pa_cons (pv 0) (pa_cons (pe_glob (v := .ref (Cn 13)) (by rfl) G.e13.gm rfl) pa_nil))) (pa_cons (pe_callB call_isX (by rfl) misi (by decide +kernel) (pa_cons (pv 0) (pa_cons (pe_glob (v := .ref (Cn 14)) (by rfl) G.e14.gm rfl) pa_nil))) pa_nil))))))
      (pss_one (ps_ret (pe_op op_catE (pv 1) (pe_lstE (pa_cons (pe_callB call_isX (by rfl) misi (by decide +kernel) (pa_cons (pv 0) (pa_cons (pe_glob (v := .ref (Cn 15)) (by rfl) G.e15.gm rfl) pa_nil))) pa_nil)))))))))), ?_⟩
    refine ⟨_, rfl, a, C, _, _, b 0, rfl, .own _, era_ex (Ex.refl H) ea, ec, hk 0 (by decide), _, rfl, a, C, _, _, b 1, rfl, .own _, era_ex (Ex.refl H) ea, ec, hk 1 (by decide), _, rfl, a, C, _, _, b 2, rfl, .own _, era_ex (Ex.refl H) ea, ec, hk 2 (by decide), (by show 3 ≤ sizeLine; decide), fun p1 H1 n1 e1 g1 => ?_⟩
    refine ⟨_, rfl, _, rfl, a, C, _, _, b 3, rfl, .own _, era_ex e1 ea, ec, hk 3 (by decide), _, rfl, a, C, _, _, b 4, rfl, .own _, era_ex e1 ea, ec, hk 4 (by decide), _, rfl, a, C, _, _, b 5, rfl, .own _, era_ex e1 ea, ec, hk 5 (by decide), (by show 3 ≤ sizeLine; decide), fun p2 H2 n2 e2 g2 => ?_⟩
    refine ⟨p1, p2, _, [.bl (b 3), .bl (b 4), .bl (b 5)], rfl, rfl, e2 _ _ g1, g2, (by show 3 + 3 ≤ sizeLine; decide), fun p3 H3 n3 e3 g3 => ?_⟩
    refine ⟨_, rfl, _, rfl, a, C, _, _, b 6, rfl, .own _, era_ex ((e1.trans e2).trans e3) ea, ec, hk 6 (by decide), _, rfl, a, C, _, _, b 7, rfl, .own _, era_ex ((e1.trans e2).trans e3) ea, ec, hk 7 (by decide), _, rfl, a, C, _, _, b 8, rfl, .own _, era_ex ((e1.trans e2).trans e3) ea, ec, hk 8 (by decide), (by show 3 ≤ sizeLine; decide), fun p4 H4 n4 e4 g4 => ?_⟩
    refine ⟨p3, p4, _, [.bl (b 6), .bl (b 7), .bl (b 8)], rfl, rfl, e4 _ _ g3, g4, (by show 6 + 3 ≤ sizeLine; decide), fun p5 H5 n5 e5 g5 => ?_⟩
    refine ⟨_, rfl, _, rfl, a, C, _, _, b 9, rfl, .own _, era_ex ((((e1.trans e2).trans e3).trans e4).trans e5) ea, ec, hk 9 (by decide), _, rfl, a, C, _, _, b 10, rfl, .own _, era_ex ((((e1.trans e2).trans e3).trans e4).trans e5) ea, ec, hk 10 (by decide), _, rfl, a, C, _, _, b 11, rfl, .own _, era_ex ((((e1.trans e2).trans e3).trans e4).trans e5) ea, ec, hk 11 (by decide), (by show 3 ≤ sizeLine; decide), fun p6 H6 n6 e6 g6 => ?_⟩
    refine ⟨p5, p6, _, [.bl (b 9), .bl (b 10), .bl (b 11)], rfl, rfl, e6 _ _ g5, g6, (by show 9 + 3 ≤ sizeLine; decide), fun p7 H7 n7 e7 g7 => ?_⟩
    refine ⟨_, rfl, _, rfl, a, C, _, _, b 12, rfl, .own _, era_ex ((((((e1.trans e2).trans e3).trans e4).trans e5).trans e6).trans e7) ea, ec, hk 12 (by decide), _, rfl, a, C, _, _, b 13, rfl, .own _, era_ex ((((((e1.trans e2).trans e3).trans e4).trans e5).trans e6).trans e7) ea, ec, hk 13 (by decide), _, rfl, a, C, _, _, b 14, rfl, .own _, era_ex ((((((e1.trans e2).trans e3).trans e4).trans e5).trans e6).trans e7) ea, ec, hk 14 (by decide), (by show 3 ≤ sizeLine; decide), fun p8 H8 n8 e8 g8 => ?_⟩
    refine ⟨p7, p8, _, [.bl (b 12), .bl (b 13), .bl (b 14)], rfl, rfl, e8 _ _ g7, g8, (by show 12 + 3 ≤ sizeLine; decide), fun p9 H9 n9 e9 g9 => ?_⟩
    refine ⟨_, rfl, _, rfl, a, C, _, _, b 15, rfl, .own _, era_ex ((((((((e1.trans e2).trans e3).trans e4).trans e5).trans e6).trans e7).trans e8).trans e9) ea, ec, hk 15 (by decide), (by show 1 ≤ sizeLine; decide), fun p10 H10 n10 e10 g10 => ?_⟩
    refine ⟨p9, p10, _, [.bl (b 15)], rfl, rfl, e10 _ _ g9, g10, (by show 15 + 1 ≤ sizeLine; decide), fun p11 H11 n11 e11 g11 => ?_⟩
    exact q p11 _ ((((((((((e1.trans e2).trans e3).trans e4).trans e5).trans e6).trans e7).trans e8).trans e9).trans e10).trans e11) g11
end

end K04
end
section
set_option maxRecDepth 100000
set_option maxHeartbeats 400000
namespace K04
open PySem Evl Nc PyProof.Rows
open L2 hiding spCell
/-- a thing as the law draws it; N: the lists' addresses -/
inductive Tg (K : PySem.W.Frag) (N : Addr → Prop) (m : Nat) (H : Hp) : V → Prop
  | leaf {v} (h : Lf v) : Tg K N m H v
  | tup {t xs} (q : SqT K H t xs) (h : ∀ x ∈ xs, Lf x) (n : xs.length ≤ 3) : Tg K N m H (.ref t)
  | lst {a xs} (q : H a = some (.lst xs)) (e : N a) (h : ∀ x ∈ xs, Lf x) (n : xs.length ≤ m) : Tg K N m H (.ref a)
  | dic {a} (q : H a = some (.dK [])) : Tg K N m H (.ref a)
  | two {a u xs ys} (q : H a = some (.lst (.ref u :: xs))) (p : H u = some (.lst ys)) (e : N a) (e2 : N u) (d : u ≠ a) (h : ∀ x ∈ xs, Lf x) (g : ∀ x ∈ ys, Lf x) (n : xs.length + 1 ≤ m) (l : ys.length ≤ 3) : Tg K N m H (.ref a)
  | tul {t u x ys} (q : SqT K H t [x, .ref u]) (p : H u = some (.lst ys)) (e2 : N u) (h : Lf x) (g : ∀ x ∈ ys, Lf x) (l : ys.length ≤ 3) : Tg K N m H (.ref t)
section
variable {K : PySem.W.Frag} {N N' : Addr → Prop} {H H' : Hp} {v : V} {m : Nat}
theorem Tg.ex (e : Ex H H') (h : Tg K N m H v) : Tg K N m H' v := by
  cases h with
  | leaf h => exact .leaf h
  | tup q h n => exact .tup (ex_t e q) h n
  | lst q d h n => exact .lst (e _ _ q) d h n
  | dic q => exact .dic (e _ _ q)
  | two q p d d2 dd h g n l => exact .two (e _ _ q) (e _ _ p) d d2 dd h g n l
  | tul q p d2 h g l => exact .tul (ex_t e q) (e _ _ p) d2 h g l
theorem Tg.imp (w : ∀ a xs, H a = some (.lst xs) → N a → N' a) (h : Tg K N m H v) : Tg K N' m H v := by
  cases h with
  | leaf h => exact .leaf h
  | tup q h n => exact .tup q h n
  | lst q d h n => exact .lst q (w _ _ q d) h n
  | dic q => exact .dic q
  | two q p d d2 dd h g n l => exact .two q p (w _ _ q d) (w _ _ p d2) dd h g n l
  | tul q p d2 h g l => exact .tul q p (w _ _ p d2) h g l
theorem Tg.mut {D : Addr} {xs : List V} {o : HO} (hD : H D = some (.lst xs)) (nD : ¬ N D) (h : Tg K N m H v) : Tg K N m (upd H D o) v := by
  have ne : ∀ {a}, N a → a ≠ D := fun na z => nD (z ▸ na)
  cases h with
  | leaf h => exact .leaf h
  | tup q h n => exact .tup (sqt_mut hD q) h n
  | lst q d h n => exact .lst (by rw [upd_ne (ne d)]; exact q) d h n
  | dic q => exact .dic (by rw [upd_ne (ne_of q hD (by intro z; cases z))]; exact q)
  | two q p d d2 dd h g n l => exact .two (by rw [upd_ne (ne d)]; exact q) (by rw [upd_ne (ne d2)]; exact p) d d2 dd h g n l
  | tul q p d2 h g l => exact .tul (sqt_mut hD q) (by rw [upd_ne (ne d2)]; exact p) d2 h g l
theorem Tg.dr {s : Addr} (hs : Stm s H) (ns : ¬ N s) (d : Dr s H H') (h : Tg K N m H v) : Tg K N m H' v := by
  have ne : ∀ {a}, N a → a ≠ s := fun na z => ns (z ▸ na)
  cases h with
  | leaf h => exact .leaf h
  | tup q h n => exact .tup (sqt_dr hs d q) h n
  | lst q e h n => exact .lst (d.keep _ _ (ne e) q) e h n
  | dic q =>
    obtain ⟨a, b, c, e⟩ := id hs
    exact .dic (d.keep _ _ (ne_of q e (by intro z; cases z)) q)
  | two q p e e2 dd h g n l => exact .two (d.keep _ _ (ne e) q) (d.keep _ _ (ne e2) p) e e2 dd h g n l
  | tul q p e2 h g l => exact .tul (sqt_dr hs d q) (d.keep _ _ (ne e2) p) e2 h g l
theorem Tg.rp (hm : m ≤ 3) (h : Tg K N m H v) : ∃ x, Rp K H v x := by
  cases h with
  | leaf h => exact (Bt.leaf (s := 0) h).rp
  | tup q h n => exact (Bt.tup (s := 0) q h n).rp
  | @lst a xs q d h n => exact (Bt.lst (s := a + 1) q (Nat.ne_of_lt (Nat.lt_succ_self a)) h (by omega)).rp
  | dic q => exact (Bt.dic (s := 0) q).rp
  | two q p d d2 dd h g n l =>
    obtain ⟨b1, b2, b3, b4, b5⟩ := lfs_sh h
    obtain ⟨c1, c2, c3, c4, c5⟩ := lfs_sh g
    refine ⟨_, .dat (.lst (sq_of q) (.cons (.lst (sq_of p) (lfs_dp g)) (lfs_dp h))) ?_ ?_ ?_ (shown_fits ?_ ?_)⟩
    · simp only [PyData.showable, PyData.showableAll, b1, c1, Bool.and_self]
    · simp only [PyData.hasDict, PyData.hasDictAll, b2, c2, Bool.or_self]
    · simp only [PyData.depth, PyData.depthAll, b3, c3]
      decide
    · simp only [PyData.leavesShort, PyData.leavesShortAll, b4, c4, Bool.and_self]
    · simp only [PyData.bulk, PyData.bulkAll]
      omega
  | tul q p d2 h g l =>
    obtain ⟨a1, a2, a3, a4, a5⟩ := h.sh
    obtain ⟨c1, c2, c3, c4, c5⟩ := lfs_sh g
    refine ⟨_, .dat (.tup q (.cons h.dp (.cons (.lst (sq_of p) (lfs_dp g)) .nil))) ?_ ?_ ?_ (shown_fits ?_ ?_)⟩
    · simp only [PyData.showable, PyData.showableAll, a1, c1, Bool.and_self]
    · simp only [PyData.hasDict, PyData.hasDictAll, a2, c2, Bool.or_self]
    · simp only [PyData.depth, PyData.depthAll, a3, c3]
      decide
    · simp only [PyData.leavesShort, PyData.leavesShortAll, a4, c4, Bool.and_self]
    · simp only [PyData.bulk, PyData.bulkAll]
      omega
theorem Tg.more (h : Tg K N m H v) : Tg K N (m + 1) H v := by
  cases h with
  | leaf h => exact .leaf h
  | tup q h n => exact .tup q h n
  | lst q d h n => exact .lst q d h (by omega)
  | dic q => exact .dic q
  | two q p d d2 dd h g n l => exact .two q p d d2 dd h g (by omega) l
  | tul q p d2 h g l => exact .tul q p d2 h g l
theorem leafs_more {xs : List V} (h : ∀ x ∈ xs, Lf x) : ∀ x ∈ xs ++ [.str "late"], Lf x := fun x hx => by
  rcases List.mem_append.mp hx with hx | hx
  · exact h x hx
  · simp only [List.mem_cons, List.not_mem_nil, or_false] at hx
    subst hx
    exact .str _ (by simp)
/-- a list, with one thing more; or of another kind -/
theorem Tg.kd (h : Tg K N m H v) : (∃ k, KdV K H v k ∧ k ≠ .lst) ∨ ∃ a xs, v = .ref a ∧ N a ∧ H a = some (.lst xs) ∧ xs.length ≤ m ∧ Tg K N (m + 1) (upd H a (.lst (xs ++ [.str "late"]))) (.ref a) := by
  cases h with
  | leaf h =>
    cases h with
    | non => exact .inl ⟨.non, ⟨.base .non, fun z => by cases z⟩, by decide⟩
    | bl b => exact .inl ⟨.bl, ⟨.base (.bl b), fun z => by cases z⟩, by decide⟩
    | int i h => exact .inl ⟨.int, ⟨.base (.int i), fun _ => ⟨i, rfl⟩⟩, by decide⟩
    | str x h => exact .inl ⟨.str, ⟨.base (.str x), fun z => by cases z⟩, by decide⟩
  | tup q h n => exact .inl ⟨.tup, ⟨tyT q, fun z => by cases z⟩, by decide⟩
  | @lst a xs q d h n => exact .inr ⟨a, xs, rfl, d, q, n, .lst upd_same d (leafs_more h) (by rw [List.length_append]; show _ + 1 ≤ _; omega)⟩
  | dic q => exact .inl ⟨.dic, ⟨.base (.dK q), fun z => by cases z⟩, by decide⟩
  | @two a u xs ys q p d d2 dd h g n l =>
    exact .inr ⟨a, _, rfl, d, q, n, .two (xs := xs ++ [.str "late"]) upd_same (by rw [upd_ne dd]; exact p) d d2 dd (leafs_more h) g (by rw [List.length_append]; show _ + 1 + 1 ≤ _; omega) l⟩
  | tul q p d2 h g l => exact .inl ⟨.tup, ⟨tyT q, fun z => by cases z⟩, by decide⟩
theorem erv_mut {D a C : Addr} {xs : List V} {o : HO} {fs : List (Str × V)} (hD : H D = some (.lst xs)) (h : ErV H a C fs) : ErV (upd H D o) a C fs := by
  obtain ⟨d, h1, h2⟩ := h
  refine ⟨d, ?_, ?_⟩
  · rw [upd_ne (ne_of h1 hD (by intro z; have z2 : HO.ext _ = HO.lst xs := z; cases z2))]
    exact h1
  · rw [upd_ne (ne_of h2 hD (by intro z; have z2 : HO.ext _ = HO.lst xs := z; cases z2))]
    exact h2
end
def spThing4 (K : PySem.W.Frag) : Sp := fun vs H Q _ => ∃ s, vs = [.ref s] ∧ Stm s H ∧ ∀ v H', Dr s H H' → Tg K (fun a => a ≠ s ∧ H a = none) 2 H' v → Q v H'

end K04
end
section
set_option maxRecDepth 100000
set_option maxHeartbeats 400000
namespace K04
open PySem Evl Nc PyProof.Rows
open L2 hiding spCell
section
variable {P : Program} {w : World} {K : PySem.W.Frag} {mg : Str → Option Value} {base : Heap} {Cn : Nat → Addr} {CB : Addr}
theorem leaf1 {x : V} (h : Lf x) : ∀ y ∈ [x], Lf y := fun y hy => by
  simp only [List.mem_cons, List.not_mem_nil, or_false] at hy
  subst hy
  exact h
theorem ok__law_thing (D : Df K mg "_law_thing" s__law_thing ["_law_stream_here"]) (GT : Ok P w K mg base 1 "_law_take" ["_law_stream_here", "_law_many"] spTake) : Ok P w K mg base 2 "_law_thing" ["_law_stream_here"] (spThing4 K) := by
  refine D.ok fun f fd F => F.ok sc__law_thing (fun vs H Q E h => ?_) (fun cdv A outer s H vs Q E hr h => ?_)
  · obtain ⟨s, rfl, _⟩ := h
    rfl
  · obtain ⟨s, rfl, hS, q⟩ := h
    have hr1 : Room 1 _ := hr.mono (by decide)
    refine ⟨_, (pss_cons (ps_set (i := 1) sc__law_thing.nd rfl (.inl rfl) (pe_op op_add (pe_op op_sub (cl GT hr1 (pa_cons (pv 0) (pa_cons (pe_op op_sub (pe_op op_mul pe_int (pe_op op_pow pe_int pe_int)) pe_int) pa_nil))) (pe_op op_pow pe_int pe_int)) pe_int))
      (pss_cons (ps_set (i := 2) sc__law_thing.nd rfl (.inl rfl) (pe_lstE (pa_cons (pv 1) (pa_cons pe_int (pa_cons pe_str (pa_cons pe_str (pa_cons pe_non (pa_cons pe_bl (pa_cons pe_bl (pa_cons (pe_lstE (pa_cons (pv 1) pa_nil)) (pa_cons (pe_lstE (pa_cons (pe_lstE (pa_cons (pv 1) pa_nil)) (pa_cons pe_int pa_nil))) (pa_cons (pe_tupE (pa_cons (pv 1) pa_nil)) (pa_cons pe_dicE (pa_cons (pe_tupE pa_nil) (pa_cons (pe_tupE (pa_cons pe_str (pa_cons (pe_lstE (pa_cons pe_int pa_nil)) pa_nil))) pa_nil)))))))))))))))
      (pss_one (ps_ret (pe_ix ix_list (pv 2) (cl GT hr1 (pa_cons (pv 0) (pa_cons pe_int pa_nil))) (fun _ _ => rfl)))))), ?_⟩
    have e30 : ((10 : Int) ^ (30 : Int).toNat) = 1000000000000000000000000000000 := by decide
    refine ⟨_, rfl, _, _, rfl, rfl, ⟨by decide, by decide, by decide⟩, _, _, rfl, rfl, .inl ⟨by decide, by decide⟩, _, _, rfl, rfl, s, _, rfl, hS, by decide, by decide, fun d H0 a0 a1 r0 => ?_⟩
    refine ⟨_, _, rfl, rfl, ⟨by decide, by decide, by decide⟩, _, _, rfl, rfl, _, _, rfl, rfl, ?_⟩
    have a1' : d < 2 * (10 : Int) ^ (30 : Int).toNat - 1 := a1
    have lN : Lf (.int (d - (10 : Int) ^ (30 : Int).toNat + 1)) := .int _ (lt_mono (n := 120) (by rw [e30] at a1' ⊢; omega) (by decide))
    refine ⟨_, rfl, _, rfl, (by show 1 ≤ sizeLine; decide), fun p1 H1 n1 e1 h1 => ?_⟩
    refine ⟨_, rfl, (by show 1 ≤ sizeLine; decide), fun p2 H2 n2 e2 h2 => ⟨(by show 2 ≤ sizeLine; decide), fun p3 H3 n3 e3 h3 => ?_⟩⟩
    refine ⟨_, rfl, (by show 1 ≤ sizeLine; decide), fun p4 H4 n4 e4 h4 => ?_⟩
    refine fun p5 H5 n5 e5 h5 => ?_
    refine ⟨(by show 0 ≤ sizeLine; decide), fun p6 H6 n6 e6 h6 => ?_⟩
    refine ⟨(by show 1 ≤ sizeLine; decide), fun p7 H7 n7 e7 h7 => ⟨(by show 2 ≤ sizeLine; decide), fun p8 H8 n8 e8 h8 => ?_⟩⟩
    refine ⟨(by show 13 ≤ sizeLine; decide), fun p9 H9 n9 e9 h9 => ?_⟩
    have F9 := Ex.refl H9
    have F8 := e9.trans F9
    have F7 := e8.trans F8
    have F6 := e7.trans F7
    have F5 := e6.trans F6
    have F4 := e5.trans F5
    have F3 := e4.trans F4
    have F2 := e3.trans F3
    have F1 := e2.trans F2
    have F0 := e1.trans F1
    have R9 := r0.trans (Dr.ex r0.st F0)
    refine ⟨_, rfl, _, rfl, s, _, rfl, R9.st, by decide, by decide, fun k HT k0 k1 rT => ?_⟩
    obtain ⟨v, hv, hm⟩ := at_mem (xs := [.int (d - (10 : Int) ^ (30 : Int).toNat + 1), .int 0, .str "", .str "a b", .non, .bl true, .bl false, .ref p1, .ref p3, .ref p4, .ref p5, .ref p6, .ref p8]) k0 (by simpa using k1)
    have fr : ∀ {p Hp}, Dr s H Hp → Hp p = none → p ≠ s ∧ H p = none := fun {p Hp} r hp => ⟨Ne.symm (r.st.ne hp), by
      cases e : H p with
      | none => rfl
      | some o =>
        by_cases hps : p = s
        · exact absurd hp (by rw [hps]; obtain ⟨a, b, c, z⟩ := r.st; rw [z]; intro y; cases y)
        · have := r.keep p o hps e
          rw [hp] at this
          cases this⟩
    have N1 := fr r0 n1
    have N2 := fr (r0.trans (Dr.ex r0.st e1)) n2
    have N3 := fr (r0.trans (Dr.ex r0.st (e1.trans e2))) n3
    have N7 := fr (r0.trans (Dr.ex r0.st (((((e1.trans e2).trans e3).trans e4).trans e5).trans e6))) n7
    have n23 : p2 ≠ p3 := fun z => by
      rw [z, n3] at h2
      cases h2
    have hp9 := rT.keep p9 _ (fr (r0.trans (Dr.ex r0.st (((((((e1.trans e2).trans e3).trans e4).trans e5).trans e6).trans e7).trans e8))) n9).1 h9
    refine ⟨p9, _, k, _, rfl, rfl, sq_of hp9, hv, ?_⟩
    have nS : ¬ (s ≠ s ∧ H s = none) := fun z => z.1 rfl
    have hB : Tg K (fun a => a ≠ s ∧ H a = none) 2 H9 v := by
      simp only [List.mem_cons, List.not_mem_nil, or_false] at hm
      rcases hm with rfl | rfl | rfl | rfl | rfl | rfl | rfl | rfl | rfl | rfl | rfl | rfl | rfl
      · exact .leaf lN
      · exact .leaf (.int 0 (by decide))
      · exact .leaf (.str _ (by simp))
      · exact .leaf (.str _ (by simp))
      · exact .leaf .non
      · exact .leaf (.bl _)
      · exact .leaf (.bl _)
      · exact .lst (F1 _ _ h1) N1 (leaf1 lN) (by show 1 ≤ 2; decide)
      · exact .two (F3 _ _ h3) (F2 _ _ h2) N3 N2 n23 (leaf1 (.int 1 (by decide))) (leaf1 lN) (by show 1 + 1 ≤ 2; decide) (by show 1 ≤ 3; decide)
      · exact .tup (st_of (F4 _ _ h4)) (leaf1 lN) (by show 1 ≤ 3; decide)
      · exact .dic (F5 _ _ h5)
      · exact .tup (st_of (F6 _ _ h6)) (fun x hx => by cases hx) (by show 0 ≤ 3; decide)
      · exact .tul (st_of (F8 _ _ h8)) (F7 _ _ h7) N7 (.str _ (by simp)) (leaf1 (.int 1 (by decide))) (by show 1 ≤ 3; decide)
    exact q v HT (R9.trans rT) (hB.dr R9.st nS rT)
end

end K04
end
section
set_option maxRecDepth 100000
set_option maxHeartbeats 400000
namespace K04
open PySem Evl Nc PyProof.Rows
open L2 hiding spCell
section
variable {P : Program} {w : World} {K : PySem.W.Frag} {mg : Str → Option Value} {base : Heap} {Cn : Nat → Addr} {CB : Addr}
theorem kd_lst (k : Kn) : kitB k.nm "list" = some (decide (k = .lst)) := by cases k <;> decide +kernel
theorem iteD {c A B : Prop} [Decidable c] (hc : c) (h : A) : if decide c = true then A else B := by
  rw [decide_eq_true hc]
  exact iteT h
theorem bools_dp {K : PySem.W.Frag} {H : Hp} : ∀ bs : List Bool, DpAll K H (bs.map V.bl) (bs.map PyData.bool)
  | [] => .nil
  | b :: bs => .cons (.bl b) (bools_dp bs)
def bd (k : Nat) : PyData := .list (((List.range 16).map fun j => decide (k = j)).map PyData.bool)
theorem bd_shaped (k : Nat) : SeqAt.shaped (bd k) = true := rfl
theorem bd_eqv (k : Nat) : PyData.eqv (bd k) (bd k) = true := SeqAt.eqv_refl _ rfl
def spRight4 (K : PySem.W.Frag) : Sp := fun vs H Q _ => ∃ (k : Nat) (v : V) (N : Addr → Prop), vs = [.int (k : Int), v] ∧ k < 16 ∧ Tg K N 2 H v ∧ ∀ H', (∀ b o, ¬ N b → H b = some o → H' b = some o) → Q (.bl true) H'
theorem go__law_right (D : Df K mg "_law_right" s__law_right ["_law_k", "_law_thing_here"]) (G : Errs P w K mg base Cn CB) (GM : Ok P w K mg base 4 "_law_made" ["_law_k", "_law_thing_here"] (spMade Cn)) (GK : Ok P w K mg base 1 "_law_kinds" ["_law_error"] (spKinds K Cn)) (GF : Ok P w K mg base 1 "_law_field" ["_law_error"] (spField Cn))
    (misi : mg "isinstance" = none) (mV : mg "ValueError" = none) (mlist : mg "list" = none) (mrepr : mg "repr" = none) (mrange : mg "range" = none) : GO P w K mg base 5 "_law_right" ["_law_k", "_law_thing_here"] (spRight4 K) := by
  refine D.go fun f fd F => gok F sc__law_right (fun vs H Q E h => ?_) (fun cdv A outer s H vs Q hG hr h => ?_)
  · obtain ⟨k, v, N, rfl, _⟩ := h
    rfl
  · obtain ⟨k, v, N, rfl, hk, hv, q⟩ := h
    have hr1 : Room 1 _ := hr.mono (by decide)
    have hr4 : Room 4 _ := hr.mono (by decide)
    have hG2 : (A.deeper (envOfC "_law_right" (defScope s__law_right) s.heap.objs.size f cdv)).guards = some [] := hG
    refine ⟨_, (pss_cons (ps_set (i := 2) sc__law_right.nd rfl (.inl rfl) (pe_lstE (pa_cons pe_str pa_nil)))
      (pss_cons (ps_set (i := 3) sc__law_right.nd rfl (.inl rfl) (cl GM hr4 (pa_cons (pv 0) (pa_cons (pv 1) pa_nil))))
      (pss_cons (ps_set (i := 4) sc__law_right.nd rfl (.inl rfl) (cl GM hr4 (pa_cons (pv 0) (pa_cons (pv 2) pa_nil))))
      (pss_cons (ps_if (PW.pt (pw_or (pt_not (pt_val (pe_callB call_isX (by rfl) misi (by decide +kernel) (pa_cons (pv 3) (pa_cons (pe_glob (v := .ref CB) (by rfl) G.gb rfl) pa_nil))))) (pw_or1 (pt_not (pt_val (pe_callB call_isX (by rfl) misi (by decide +kernel) (pa_cons (pv 3) (pa_cons (pe_bltn (v := .ty "ValueError") (by rfl) mV (by decide +kernel) rfl) pa_nil)))))))) (pss_one (ps_ret pe_bl)) pss_nil)
      (pss_cons (ps_if (PW.pt (pw_or (pt_cmpR (op_neD hr.units) (cl GK hr1 (pa_cons (pv 3) pa_nil)) (pe_lc (own := [("_law_j", 5)]) (g := gName 5) (tt := tYes) rfl sc__law_right.nd (pi_range1 (by rfl) mrange (pa_cons pe_int pa_nil)) (blkOk_by (N := ["_law_k", "_law_thing_here", "_law_other", "_law_error", "_law_second", "_law_j"]) (sc := defScope s__law_right) (by decide +kernel)) (fun _ _ _ _ _ => (pg_name (i := 5) sc__law_right.nd rfl (.inl rfl))) (fun _ _ _ _ _ => pts_nil) (fun _ _ _ _ _ => (pe_cmpR op_eq (pv 5) (pv 0) (nomark _)))) (nomark _)) (pw_or1 (pt_cmpR op_ne (pe_callB (call_rp hG2 hr.units) (by rfl) mrepr (by decide +kernel) (pa_cons (cl GF hr1 (pa_cons (pv 3) pa_nil)) pa_nil)) (pe_callB (call_rp hG2 hr.units) (by rfl) mrepr (by decide +kernel) (pa_cons (pv 1) pa_nil)) (nomark _))))) (pss_one (ps_ret pe_bl)) pss_nil)
      (pss_cut (ps_if (pt_val (pe_callB call_isi (by rfl) misi (by decide +kernel) (pa_cons (pv 1) (pa_cons (pe_bltn (v := .ty "list") (by rfl) mlist (by decide +kernel) rfl) pa_nil)))) (pss_one (ps_expr (pe_bm PySem.F.plainAttrs_list PySem.F.slot_list_append PySem.F.type_list_append mt_append (pv 1) (pa_cons pe_str pa_nil)))) pss_nil)
      (pss_cons (ps_expr (pe_bm PySem.F.plainAttrs_list PySem.F.slot_list_append PySem.F.type_list_append mt_append (pv 2) (pa_cons pe_str pa_nil)))
      (pss_one (ps_ret (pe_and (pe_cmpR op_eq (pe_callB (call_rp hG2 hr.units) (by rfl) mrepr (by decide +kernel) (pa_cons (cl GF hr1 (pa_cons (pv 3) pa_nil)) pa_nil)) (pe_callB (call_rp hG2 hr.units) (by rfl) mrepr (by decide +kernel) (pa_cons (pv 1) pa_nil)) (nomark _)) (pe_one (pe_cmpR (op_eqD hr.units) (cl GF hr1 (pa_cons (pv 4) pa_nil)) (pe_lstE (pa_cons pe_str (pa_cons pe_str pa_nil))) (nomark _))))))))))))), ?_⟩
    refine ⟨(by show 1 ≤ sizeLine; decide), fun p1 H1 n1 e1 h1 => ?_⟩
    refine ⟨_, rfl, _, rfl, k, v, rfl, hk, fun a H2 e2 ea => ?_⟩
    refine ⟨_, rfl, _, rfl, k, .ref p1, rfl, hk, fun b H3 e3 eb => ?_⟩
    have ea3 := ea.ex e3
    have ec := G.ec hk
    refine ⟨_, rfl, a, Cn k, _, _, _, rfl, .own _, .inr ⟨_, ea3⟩, ec, G.kb k hk, _, rfl, iteF ?_⟩
    refine ⟨_, rfl, a, Cn k, _, _, _, rfl, .ty _, .inr ⟨_, ea3⟩, ec, G.kv k hk, _, rfl, iteF ?_⟩
    refine ⟨_, rfl, a, Cn k, (fun j => decide (k = j)), rfl, .inr ⟨_, ea3⟩, ec, (fun j hj => G.kit k j hk hj), fun l H4 e4 h4 => ?_⟩
    refine ⟨(16 : Int), rfl, by decide, by decide, fun D hD => ?_⟩
    refine lc_range (lo := 0) (n := (16 : Int).toNat) (fun i H' => Ex H4 H' ∧ H' D = some (.lst (((List.range i).map fun j => decide (k = j)).map V.bl))) ⟨Ex.new hD, upd_same⟩ ?_ ?_
    · rintro i H5 hi ⟨e5, k5⟩
      have hi2 : i < 16 := hi
      refine ⟨rfl, ?_⟩
      refine ⟨_, rfl, _, rfl, rfl, _, k5, sz_lt (by rw [List.length_map, List.length_map, List.length_range]; omega), Ex.mut e5 hD, ?_⟩
      have ed : decide (V.int ((0 : Int) + (i : Int)) = V.int (k : Int)) = decide (k = i) := by
        by_cases z : k = i
        · rw [decide_eq_true z, z, Int.zero_add]
          exact decide_eq_true rfl
        · rw [decide_eq_false z]
          refine decide_eq_false fun y => z ?_
          have := V.int.inj y
          omega
      rw [List.range_succ, List.map_append, List.map_append]
      show upd H5 D (.lst (_ ++ [.bl (decide (V.int ((0 : Int) + (i : Int)) = V.int (k : Int)))])) D = _
      rw [ed]
      exact upd_same
    · rintro H5 ⟨e5, k5⟩
      have b4 := e5 _ _ h4
      refine ⟨bd k, bd k, .lst (sq_of (show H5 l = some (.lst (((List.range 16).map fun j => decide (k = j)).map V.bl)) from b4)) (bools_dp _), .lst (sq_of (show H5 D = some (.lst (((List.range 16).map fun j => decide (k = j)).map V.bl)) from k5)) (bools_dp _), bd_shaped k, bd_shaped k, _, rfl, ?_⟩
      rw [bd_eqv]
      refine iteF ?_
      have E5 := (((e1.trans e2).trans e3).trans e4).trans e5
      have ea5 := ea3.ex (e4.trans e5)
      have eb5 := eb.ex (e4.trans e5)
      have hp5 := (((e2.trans e3).trans e4).trans e5) _ _ h1
      have hv5 : Tg K (fun a => N a ∧ a ≠ p1) 2 H5 v := (hv.imp (N' := fun a => N a ∧ a ≠ p1) (fun a xs ha na => ⟨na, fun z => by
        rw [z, n1] at ha
        cases ha⟩)).ex E5
      obtain ⟨x, hx⟩ := hv5.rp (by decide)
      refine ⟨_, rfl, a, k, v, rfl, hk, ea5, v, x, rfl, hx, _, rfl, v, x, rfl, hx, rfl, _, rfl, iteNS rfl ?_⟩
      refine ⟨fun σ H' => σ = [some (.int (k : Int)), some v, some (.ref p1), some (.ref a), some (.ref b), none] ∧ Tg K (fun a => N a ∧ a ≠ p1) 3 H' v ∧ ErV H' a (Cn k) [(fn k, v)] ∧ ErV H' b (Cn k) [(fn k, .ref p1)] ∧ H' p1 = some (.lst [.str "b"]) ∧ (∀ b o, ¬ N b → H b = some o → H' b = some o), ?_, ?_⟩
      · rcases hv5.kd with ⟨kd, hkd, nl⟩ | ⟨t, xs, rfl, nt, ht, hz, hmore⟩
        · refine ⟨_, rfl, v, _, _, _, _, rfl, .ty _, hkd.1, kit_ty (kd_lst kd), _, rfl, ?_⟩
          rw [decide_eq_false nl]
          exact iteF ⟨rfl, hv5.more, ea5, eb5, hp5, fun b o _ hb => E5 b o hb⟩
        · refine ⟨_, rfl, _, _, _, _, _, rfl, .ty _, .base (.lst ht), kit_ty (r := true) (by decide +kernel), _, rfl, iteT ?_⟩
          refine ⟨_, rfl, .inl ⟨rfl, _, sq_of ht⟩, t, xs, _, rfl, rfl, ht, sz_lt (by omega), ?_⟩
          exact ⟨rfl, hmore, erv_mut ht ea5, erv_mut ht eb5, by rw [upd_ne (Ne.symm nt.2)]; exact hp5, fun b o nb hb => by
            have hbt : b ≠ t := fun z => nb (by rw [z]; exact nt.1)
            rw [upd_ne hbt]
            exact E5 b o hb⟩
      · rintro σ H6 ⟨rfl, hv6, ea6, eb6, hp6, keep6⟩
        refine ⟨_, rfl, .inl ⟨rfl, _, sq_of hp6⟩, p1, _, _, rfl, rfl, hp6, (by show 1 < sizeLine; decide), ?_⟩
        have hv7 := hv6.mut (o := .lst ([.str "b"] ++ [.str "c"])) hp6 (fun z => z.2 rfl)
        obtain ⟨y, hy⟩ := hv7.rp (by decide)
        refine ⟨_, rfl, a, k, v, rfl, hk, erv_mut hp6 ea6, v, y, rfl, hy, _, rfl, v, y, rfl, hy, rfl, _, rfl, iteD rfl ?_⟩
        refine ⟨_, rfl, b, k, .ref p1, rfl, hk, erv_mut hp6 eb6, (by show 2 ≤ sizeLine; decide), fun p8 H8 n8 e8 h8 => ?_⟩
        refine ⟨.list [.str "b", .str "c"], .list [.str "b", .str "c"], .lst (sq_of (e8 _ _ upd_same)) (.cons (.str _) (.cons (.str _) .nil)), .lst (sq_of h8) (.cons (.str _) (.cons (.str _) .nil)), by decide +kernel, by decide +kernel, ?_⟩
        refine q_bl (q H8 (fun b o nb hb => e8 _ _ ?_)) (by decide +kernel)
        rw [upd_ne (ne_of_none hb n1)]
        exact keep6 b o nb hb
end

end K04
end
section
set_option maxRecDepth 100000
set_option maxHeartbeats 400000
namespace K04
open PySem Evl Nc PyProof.Rows
open L2 hiding spCell
section
variable {P : Program} {w : World} {K : PySem.W.Frag} {mg : Str → Option Value} {base : Heap} {Cn : Nat → Addr} {CB : Addr}
def rPlain (C : Addr) : List V → Hp → VK → Prop := fun vs H Q => ∃ x, vs = [.str x] ∧ ∀ a H2, H a = none → Ex H H2 → H2 a = some (exo a C none) → Q (.ref a) H2
theorem rPlain_ok {K : PySem.W.Frag} {C : Addr} (hC : OexC K C) : ∀ vs H Q, rPlain C vs H Q → vs.length ≤ 1000 ∧ ∀ a, H a = none → spVeI K (.ref a :: vs) (upd H a (exo a C none)) (fun v H2 => v = .non ∧ Q (.ref a) H2) E0 := by
  rintro vs H Q ⟨x, rfl, q⟩
  exact ⟨by show 1 ≤ 1000; decide, fun a ha => ⟨a, C, x, rfl, hC, upd_same, rfl, q a _ ha (Ex.new ha) upd_same⟩⟩
theorem fn_law {f : Addr} {fd : FuncData} (F : Fun K "law" "law" s_law f fd) (G : Errs P w K mg base Cn CB) (GS : Ok P w K mg base 1 "_law_stream" ["_law_cell_here"] spStream) (GC : Ok P w K mg base 1 "_law_cell" ["_law_script", "_law_k"] (spCell K)) (GT : Ok P w K mg base 2 "_law_thing" ["_law_stream_here"] (spThing4 K))
    (GR : GO P w K mg base 5 "_law_right" ["_law_k", "_law_thing_here"] (spRight4 K)) (GK : Ok P w K mg base 1 "_law_kinds" ["_law_error"] (spKinds K Cn)) (misi : mg "isinstance" = none) (mV : mg "ValueError" = none) (mrange : mg "range" = none) (mmax : mg "max" = none) (mmin : mg "min" = none) (mlen : mg "len" = none) : GOk P w K mg base 6 f fd ["_law_script"] (spLaw K) := by
  obtain ⟨fI, fdI, iC, tI, GI, hbI⟩ := G.ib
  refine gok F sc_law (fun vs H Q E h => ?_) (fun cdv A outer s H vs Q hG hr h => ?_)
  · obtain ⟨a, ns, rfl, _⟩ := h
    rfl
  · obtain ⟨a, ns, rfl, hS, hn, q⟩ := h
    have hr1 : Room 1 _ := hr.mono (by decide)
    have hr2 : Room 2 _ := hr.mono (by decide)
    have hr5 : Room 5 _ := hr.mono (by decide)
    have hG2 : (A.deeper (envOfC "law" (defScope s_law) s.heap.objs.size f cdv)).guards = some [] := hG
    refine ⟨_, (pss_cons (ps_for PassesOwn.never rfl (pi_range1 (by rfl) mrange (pa_cons (pe_callB (call_max2 rfl) (by rfl) mmax (by decide +kernel) (pa_cons pe_int (pa_cons (pe_callB (call_min2 rfl) (by rfl) mmin (by decide +kernel) (pa_cons (pe_callB call_len_seq (by rfl) mlen PySem.boot_len (pa_cons (pv 0) pa_nil)) (pa_cons pe_int pa_nil))) pa_nil))) pa_nil)) (pg_name (i := 1) sc_law.nd rfl (.inl rfl)) (pss_cons (ps_set (i := 2) sc_law.nd rfl (.inl rfl) (cl GS hr1 (pa_cons (cl GC hr1 (pa_cons (pv 0) (pa_cons (pv 1) pa_nil))) pa_nil)))
      (pss_one (ps_for PassesOwn.never rfl (pi_range1 (by rfl) mrange (pa_cons pe_int pa_nil)) (pg_name (i := 3) sc_law.nd rfl (.inl rfl)) (pss_one (ps_if (pt_not (pt_val (clg GR hG2 hr5 (pa_cons (pv 3) (pa_cons (cl GT hr2 (pa_cons (pv 2) pa_nil)) pa_nil))))) (pss_one (ps_ret pe_bl)) pss_nil))))))
      (pss_cons (ps_set (i := 4) sc_law.nd rfl (.inl rfl) (pe_erv (R := rPlain CB) G.eb.oex iC tI GI (hr.mono (by decide)) hbI G.gb (pa_cons pe_str pa_nil) (rPlain_ok G.eb.oex)))
      (pss_one (ps_ret (pe_and (pe_callB call_isX (by rfl) misi (by decide +kernel) (pa_cons (pv 4) (pa_cons (pe_bltn (v := .ty "ValueError") (by rfl) mV (by decide +kernel) rfl) pa_nil))) (pe_one (pe_cmpR op_notIn_seq pe_bl (cl GK hr1 (pa_cons (pv 4) pa_nil)) (by rfl)))))))), ?_⟩
    refine ⟨_, rfl, a, _, rfl, .inl hS, _, _, rfl, _, _, rfl, ?_⟩
    rw [List.length_map]
    generalize hm : (if (if (10 : Int) < ((ns.length : Nat) : Int) then (10 : Int) else ((ns.length : Nat) : Int)) > 2 then (if (10 : Int) < ((ns.length : Nat) : Int) then (10 : Int) else ((ns.length : Nat) : Int)) else 2) = m
    have hm1 : 2 ≤ m ∧ m ≤ 10 := by
      rw [← hm]
      split <;> split <;> omega
    refine ⟨m, rfl, by omega, by omega, for_range (lo := 0) (n := m.toNat) (fun i σ H' => ∃ o1 o2 o3 o4, σ = [some (.ref a), o1, o2, o3, o4] ∧ Ex H H') ⟨none, none, none, none, rfl, Ex.refl H⟩ ?_ ?_⟩
    · rintro i σ H1 hi ⟨o1, o2, o3, o4, rfl, e1⟩
      rw [show (0 : Int) + (i : Int) = (i : Int) by omega]
      refine ⟨_, rfl, _, rfl, a, ns, i, rfl, ex_l e1 hS, by omega, fun c => ?_⟩
      refine ⟨c, rfl, fun s0 x y z hs => ?_⟩
      have es : Ex H1 (upd H1 s0 (.lst [.int x, .int y, .int z])) := Ex.new hs
      have st : Stm s0 (upd H1 s0 (.lst [.int x, .int y, .int z])) := ⟨x, y, z, upd_same⟩
      generalize upd H1 s0 (.lst [.int x, .int y, .int z]) = H2 at es st ⊢
      refine ⟨(16 : Int), rfl, by decide, by decide, for_range (lo := 0) (n := (16 : Int).toNat) (fun j σ H' => ∃ o3, σ = [some (.ref a), some (.int (i : Int)), some (.ref s0), o3, o4] ∧ Dr s0 H2 H') ⟨o3, rfl, Dr.refl st⟩ ?_ ?_⟩
      · rintro j σ H3 hj ⟨o3, rfl, r3⟩
        have hj2 : j < 16 := hj
        rw [show (0 : Int) + (j : Int) = (j : Int) by omega]
        refine ⟨_, rfl, _, rfl, s0, rfl, r3.st, fun v H4 r4 hv => ?_⟩
        refine ⟨j, v, _, rfl, hj2, hv, fun H5 kp => ⟨_, rfl, iteF ?_⟩⟩
        refine ⟨_, rfl, fun b o hb ho => kp b o (fun z => ?_) (r4.keep b o hb (r3.keep b o hb ho)), ?_⟩
        · have := r3.keep b o hb ho
          rw [z.2] at this
          cases this
        · obtain ⟨x1, y1, z1, h⟩ := r4.st
          exact ⟨x1, y1, z1, kp s0 _ (fun z => z.1 rfl) h⟩
      · rintro σ H3 ⟨o3, rfl, r3⟩
        refine ⟨_, _, _, _, rfl, e1.trans fun b o hb => r3.keep b o (fun z => ?_) (es b o hb)⟩
        rw [z, hs] at hb
        cases hb
    · rintro σ H1 ⟨o1, o2, o3, o4, rfl, e1⟩
      refine ⟨_, rfl, fun e H2 ne e2 he => ?_⟩
      refine ⟨_, rfl, e, CB, _, _, _, rfl, .ty _, .inl he, G.eb, G.bv, _, rfl, iteT ?_⟩
      refine ⟨_, rfl, e, CB, (fun _ => false), rfl, .inl he, G.eb, (fun j hj => G.bk j hj), fun l H3 e3 h3 => ?_⟩
      exact ⟨l, _, rfl, .inl (sq_of h3), rfl, rfl, q_bl (q H3) rfl⟩
end

end K04
end
set_option maxRecDepth 100000
set_option maxHeartbeats 4000000
namespace K04
open PySem Evl Nc PyProof.Rows
open L2 hiding spCell
theorem errs_kit {K : PySem.W.Frag} {CB : Addr} {Cn : Nat → Addr} (hX : ∀ i, i < 16 → ErX K (Cn i) (bmE CB)) (inj : ∀ i, i < 16 → ∀ j, j < 16 → Cn i = Cn j → i = j) (nb : ∀ i, i < 16 → Cn i ≠ CB) : ∀ i j, i < 16 → j < 16 → PySem.W.kitOne K (.ref (Cn i)) (.ref (Cn j)) = some (decide (i = j)) := by
  intro i j hi hj
  rw [(hX i hi).kit (hX j hj), bmE_ref, decide_eq_false (nb j hj), Bool.or_false]
  congr 1
  by_cases h : i = j
  · subst h
    rw [decide_eq_true rfl, decide_eq_true rfl]
  · rw [decide_eq_false h]
    exact decide_eq_false fun z => h (inj i hi j hj z)
/-! ### what the top has written; the law's own head -/
theorem all_mk {l : PySem.W.OpenLaw} {w : World} {K : PySem.W.Frag} {h : Heap} {mg : Str → Option Value} {fa : Addr} (X : K.In h) (G : h.Ns mainGlobals mg) (hfa : mg "law" = some (.ref fa))
    {od0 an0 : Option Addr} {sl0 : Array (Option Value)} {oc0 kV0 dc0 pm0 cd0 ct0 : Value} {f0 : Addr}
    {od1 an1 : Option Addr} {sl1 : Array (Option Value)} {oc1 kV1 dc1 pm1 cd1 ct1 : Value} {f1 : Addr}
    {od2 an2 : Option Addr} {sl2 : Array (Option Value)} {oc2 kV2 dc2 pm2 cd2 ct2 : Value} {f2 : Addr}
    {od3 an3 : Option Addr} {sl3 : Array (Option Value)} {oc3 kV3 dc3 pm3 cd3 ct3 : Value} {f3 : Addr}
    {od4 an4 : Option Addr} {sl4 : Array (Option Value)} {oc4 kV4 dc4 pm4 cd4 ct4 : Value} {f4 : Addr}
    {od5 an5 : Option Addr} {sl5 : Array (Option Value)} {oc5 kV5 dc5 pm5 cd5 ct5 : Value} {f5 : Addr}
    {od6 an6 : Option Addr} {sl6 : Array (Option Value)} {oc6 kV6 dc6 pm6 cd6 ct6 : Value} {f6 : Addr}
    {od7 an7 : Option Addr} {sl7 : Array (Option Value)} {oc7 kV7 dc7 pm7 cd7 ct7 : Value} {f7 : Addr}
    {od8 an8 : Option Addr} {sl8 : Array (Option Value)} {oc8 kV8 dc8 pm8 cd8 ct8 : Value} {f8 : Addr}
    {CB fCB : Addr} {nm_CB q_CB : Str} {N_CB : Addr} {bs_CB : List Value} {sn_CB : List Str} {sub_CB : List Value} {ab_CB : Bool} {col_CB : Option Bool} {dd_CB : Option Addr} {k0_CB k1_CB k2_CB k3_CB k5_CB : Option Value} {od_CB an_CB : Option Addr} {sl_CB : Array (Option Value)} {oc_CB kV_CB dc_CB pm_CB cd_CB ct_CB : Value}
    {C0 fC0 : Addr} {nm_C0 q_C0 : Str} {N_C0 : Addr} {bs_C0 : List Value} {sn_C0 : List Str} {sub_C0 : List Value} {ab_C0 : Bool} {col_C0 : Option Bool} {dd_C0 : Option Addr} {k0_C0 k1_C0 k2_C0 k3_C0 k5_C0 : Option Value} {od_C0 an_C0 : Option Addr} {sl_C0 : Array (Option Value)} {oc_C0 kV_C0 dc_C0 pm_C0 cd_C0 ct_C0 : Value}
    {C1 fC1 : Addr} {nm_C1 q_C1 : Str} {N_C1 : Addr} {bs_C1 : List Value} {sn_C1 : List Str} {sub_C1 : List Value} {ab_C1 : Bool} {col_C1 : Option Bool} {dd_C1 : Option Addr} {k0_C1 k1_C1 k2_C1 k3_C1 k5_C1 : Option Value} {od_C1 an_C1 : Option Addr} {sl_C1 : Array (Option Value)} {oc_C1 kV_C1 dc_C1 pm_C1 cd_C1 ct_C1 : Value}
    {C2 fC2 : Addr} {nm_C2 q_C2 : Str} {N_C2 : Addr} {bs_C2 : List Value} {sn_C2 : List Str} {sub_C2 : List Value} {ab_C2 : Bool} {col_C2 : Option Bool} {dd_C2 : Option Addr} {k0_C2 k1_C2 k2_C2 k3_C2 k5_C2 : Option Value} {od_C2 an_C2 : Option Addr} {sl_C2 : Array (Option Value)} {oc_C2 kV_C2 dc_C2 pm_C2 cd_C2 ct_C2 : Value}
    {C3 fC3 : Addr} {nm_C3 q_C3 : Str} {N_C3 : Addr} {bs_C3 : List Value} {sn_C3 : List Str} {sub_C3 : List Value} {ab_C3 : Bool} {col_C3 : Option Bool} {dd_C3 : Option Addr} {k0_C3 k1_C3 k2_C3 k3_C3 k5_C3 : Option Value} {od_C3 an_C3 : Option Addr} {sl_C3 : Array (Option Value)} {oc_C3 kV_C3 dc_C3 pm_C3 cd_C3 ct_C3 : Value}
    {C4 fC4 : Addr} {nm_C4 q_C4 : Str} {N_C4 : Addr} {bs_C4 : List Value} {sn_C4 : List Str} {sub_C4 : List Value} {ab_C4 : Bool} {col_C4 : Option Bool} {dd_C4 : Option Addr} {k0_C4 k1_C4 k2_C4 k3_C4 k5_C4 : Option Value} {od_C4 an_C4 : Option Addr} {sl_C4 : Array (Option Value)} {oc_C4 kV_C4 dc_C4 pm_C4 cd_C4 ct_C4 : Value}
    {C5 fC5 : Addr} {nm_C5 q_C5 : Str} {N_C5 : Addr} {bs_C5 : List Value} {sn_C5 : List Str} {sub_C5 : List Value} {ab_C5 : Bool} {col_C5 : Option Bool} {dd_C5 : Option Addr} {k0_C5 k1_C5 k2_C5 k3_C5 k5_C5 : Option Value} {od_C5 an_C5 : Option Addr} {sl_C5 : Array (Option Value)} {oc_C5 kV_C5 dc_C5 pm_C5 cd_C5 ct_C5 : Value}
    {C6 fC6 : Addr} {nm_C6 q_C6 : Str} {N_C6 : Addr} {bs_C6 : List Value} {sn_C6 : List Str} {sub_C6 : List Value} {ab_C6 : Bool} {col_C6 : Option Bool} {dd_C6 : Option Addr} {k0_C6 k1_C6 k2_C6 k3_C6 k5_C6 : Option Value} {od_C6 an_C6 : Option Addr} {sl_C6 : Array (Option Value)} {oc_C6 kV_C6 dc_C6 pm_C6 cd_C6 ct_C6 : Value}
    {C7 fC7 : Addr} {nm_C7 q_C7 : Str} {N_C7 : Addr} {bs_C7 : List Value} {sn_C7 : List Str} {sub_C7 : List Value} {ab_C7 : Bool} {col_C7 : Option Bool} {dd_C7 : Option Addr} {k0_C7 k1_C7 k2_C7 k3_C7 k5_C7 : Option Value} {od_C7 an_C7 : Option Addr} {sl_C7 : Array (Option Value)} {oc_C7 kV_C7 dc_C7 pm_C7 cd_C7 ct_C7 : Value}
    {C8 fC8 : Addr} {nm_C8 q_C8 : Str} {N_C8 : Addr} {bs_C8 : List Value} {sn_C8 : List Str} {sub_C8 : List Value} {ab_C8 : Bool} {col_C8 : Option Bool} {dd_C8 : Option Addr} {k0_C8 k1_C8 k2_C8 k3_C8 k5_C8 : Option Value} {od_C8 an_C8 : Option Addr} {sl_C8 : Array (Option Value)} {oc_C8 kV_C8 dc_C8 pm_C8 cd_C8 ct_C8 : Value}
    {C9 fC9 : Addr} {nm_C9 q_C9 : Str} {N_C9 : Addr} {bs_C9 : List Value} {sn_C9 : List Str} {sub_C9 : List Value} {ab_C9 : Bool} {col_C9 : Option Bool} {dd_C9 : Option Addr} {k0_C9 k1_C9 k2_C9 k3_C9 k5_C9 : Option Value} {od_C9 an_C9 : Option Addr} {sl_C9 : Array (Option Value)} {oc_C9 kV_C9 dc_C9 pm_C9 cd_C9 ct_C9 : Value}
    {C10 fC10 : Addr} {nm_C10 q_C10 : Str} {N_C10 : Addr} {bs_C10 : List Value} {sn_C10 : List Str} {sub_C10 : List Value} {ab_C10 : Bool} {col_C10 : Option Bool} {dd_C10 : Option Addr} {k0_C10 k1_C10 k2_C10 k3_C10 k5_C10 : Option Value} {od_C10 an_C10 : Option Addr} {sl_C10 : Array (Option Value)} {oc_C10 kV_C10 dc_C10 pm_C10 cd_C10 ct_C10 : Value}
    {C11 fC11 : Addr} {nm_C11 q_C11 : Str} {N_C11 : Addr} {bs_C11 : List Value} {sn_C11 : List Str} {sub_C11 : List Value} {ab_C11 : Bool} {col_C11 : Option Bool} {dd_C11 : Option Addr} {k0_C11 k1_C11 k2_C11 k3_C11 k5_C11 : Option Value} {od_C11 an_C11 : Option Addr} {sl_C11 : Array (Option Value)} {oc_C11 kV_C11 dc_C11 pm_C11 cd_C11 ct_C11 : Value}
    {C12 fC12 : Addr} {nm_C12 q_C12 : Str} {N_C12 : Addr} {bs_C12 : List Value} {sn_C12 : List Str} {sub_C12 : List Value} {ab_C12 : Bool} {col_C12 : Option Bool} {dd_C12 : Option Addr} {k0_C12 k1_C12 k2_C12 k3_C12 k5_C12 : Option Value} {od_C12 an_C12 : Option Addr} {sl_C12 : Array (Option Value)} {oc_C12 kV_C12 dc_C12 pm_C12 cd_C12 ct_C12 : Value}
    {C13 fC13 : Addr} {nm_C13 q_C13 : Str} {N_C13 : Addr} {bs_C13 : List Value} {sn_C13 : List Str} {sub_C13 : List Value} {ab_C13 : Bool} {col_C13 : Option Bool} {dd_C13 : Option Addr} {k0_C13 k1_C13 k2_C13 k3_C13 k5_C13 : Option Value} {od_C13 an_C13 : Option Addr} {sl_C13 : Array (Option Value)} {oc_C13 kV_C13 dc_C13 pm_C13 cd_C13 ct_C13 : Value}
    {C14 fC14 : Addr} {nm_C14 q_C14 : Str} {N_C14 : Addr} {bs_C14 : List Value} {sn_C14 : List Str} {sub_C14 : List Value} {ab_C14 : Bool} {col_C14 : Option Bool} {dd_C14 : Option Addr} {k0_C14 k1_C14 k2_C14 k3_C14 k5_C14 : Option Value} {od_C14 an_C14 : Option Addr} {sl_C14 : Array (Option Value)} {oc_C14 kV_C14 dc_C14 pm_C14 cd_C14 ct_C14 : Value}
    {C15 fC15 : Addr} {nm_C15 q_C15 : Str} {N_C15 : Addr} {bs_C15 : List Value} {sn_C15 : List Str} {sub_C15 : List Value} {ab_C15 : Bool} {col_C15 : Option Bool} {dd_C15 : Option Addr} {k0_C15 k1_C15 k2_C15 k3_C15 k5_C15 : Option Value} {od_C15 an_C15 : Option Addr} {sl_C15 : Array (Option Value)} {oc_C15 kV_C15 dc_C15 pm_C15 cd_C15 ct_C15 : Value}
    (a0 : PySem.W.nsIn K mainGlobals "_law_cell" = some (some (.ref f0)))
    (l0 : K.lookup f0 = some ⟨oc0, od0, .func (PySem.W.fnOf "_law_cell" "_law_cell" (defArgs s__law_cell) (defBody s__law_cell) (defScope s__law_cell) .none kV0 dc0 pm0 an0 cd0 ct0), sl0⟩)
    (c0 : PySem.W.codeIn K cd0 "_law_cell" = true)
    (k0 : PySem.W.keepIn K (.ref f0) = true)
    (a1 : PySem.W.nsIn K mainGlobals "_law_stream" = some (some (.ref f1)))
    (l1 : K.lookup f1 = some ⟨oc1, od1, .func (PySem.W.fnOf "_law_stream" "_law_stream" (defArgs s__law_stream) (defBody s__law_stream) (defScope s__law_stream) .none kV1 dc1 pm1 an1 cd1 ct1), sl1⟩)
    (c1 : PySem.W.codeIn K cd1 "_law_stream" = true)
    (k1 : PySem.W.keepIn K (.ref f1) = true)
    (a2 : PySem.W.nsIn K mainGlobals "_law_take" = some (some (.ref f2)))
    (l2 : K.lookup f2 = some ⟨oc2, od2, .func (PySem.W.fnOf "_law_take" "_law_take" (defArgs s__law_take) (defBody s__law_take) (defScope s__law_take) .none kV2 dc2 pm2 an2 cd2 ct2), sl2⟩)
    (c2 : PySem.W.codeIn K cd2 "_law_take" = true)
    (k2 : PySem.W.keepIn K (.ref f2) = true)
    (a3 : PySem.W.nsIn K mainGlobals "_law_thing" = some (some (.ref f3)))
    (l3 : K.lookup f3 = some ⟨oc3, od3, .func (PySem.W.fnOf "_law_thing" "_law_thing" (defArgs s__law_thing) (defBody s__law_thing) (defScope s__law_thing) .none kV3 dc3 pm3 an3 cd3 ct3), sl3⟩)
    (c3 : PySem.W.codeIn K cd3 "_law_thing" = true)
    (k3 : PySem.W.keepIn K (.ref f3) = true)
    (a4 : PySem.W.nsIn K mainGlobals "_law_made" = some (some (.ref f4)))
    (l4 : K.lookup f4 = some ⟨oc4, od4, .func (PySem.W.fnOf "_law_made" "_law_made" (defArgs s__law_made) (defBody s__law_made) (defScope s__law_made) .none kV4 dc4 pm4 an4 cd4 ct4), sl4⟩)
    (c4 : PySem.W.codeIn K cd4 "_law_made" = true)
    (k4 : PySem.W.keepIn K (.ref f4) = true)
    (a5 : PySem.W.nsIn K mainGlobals "_law_kinds" = some (some (.ref f5)))
    (l5 : K.lookup f5 = some ⟨oc5, od5, .func (PySem.W.fnOf "_law_kinds" "_law_kinds" (defArgs s__law_kinds) (defBody s__law_kinds) (defScope s__law_kinds) .none kV5 dc5 pm5 an5 cd5 ct5), sl5⟩)
    (c5 : PySem.W.codeIn K cd5 "_law_kinds" = true)
    (k5 : PySem.W.keepIn K (.ref f5) = true)
    (a6 : PySem.W.nsIn K mainGlobals "_law_field" = some (some (.ref f6)))
    (l6 : K.lookup f6 = some ⟨oc6, od6, .func (PySem.W.fnOf "_law_field" "_law_field" (defArgs s__law_field) (defBody s__law_field) (defScope s__law_field) .none kV6 dc6 pm6 an6 cd6 ct6), sl6⟩)
    (c6 : PySem.W.codeIn K cd6 "_law_field" = true)
    (k6 : PySem.W.keepIn K (.ref f6) = true)
    (a7 : PySem.W.nsIn K mainGlobals "_law_right" = some (some (.ref f7)))
    (l7 : K.lookup f7 = some ⟨oc7, od7, .func (PySem.W.fnOf "_law_right" "_law_right" (defArgs s__law_right) (defBody s__law_right) (defScope s__law_right) .none kV7 dc7 pm7 an7 cd7 ct7), sl7⟩)
    (c7 : PySem.W.codeIn K cd7 "_law_right" = true)
    (k7 : PySem.W.keepIn K (.ref f7) = true)
    (a8 : PySem.W.nsIn K mainGlobals "law" = some (some (.ref f8)))
    (l8 : K.lookup f8 = some ⟨oc8, od8, .func (PySem.W.fnOf "law" "law" (defArgs s_law) (defBody s_law) (defScope s_law) .none kV8 dc8 pm8 an8 cd8 ct8), sl8⟩)
    (c8 : PySem.W.codeIn K cd8 "law" = true)
    (k8 : PySem.W.keepIn K (.ref f8) = true)
    (z_len : PySem.W.nsIn K mainGlobals "len" = some none)
    (z_range : PySem.W.nsIn K mainGlobals "range" = some none)
    (z_int : PySem.W.nsIn K mainGlobals "int" = some none)
    (z_max : PySem.W.nsIn K mainGlobals "max" = some none)
    (z_min : PySem.W.nsIn K mainGlobals "min" = some none)
    (z_isinstance : PySem.W.nsIn K mainGlobals "isinstance" = some none)
    (z_repr : PySem.W.nsIn K mainGlobals "repr" = some none)
    (z_list : PySem.W.nsIn K mainGlobals "list" = some none)
    (z_ValueError : PySem.W.nsIn K mainGlobals "ValueError" = some none)
    (aCB : PySem.W.nsIn K mainGlobals "CutError" = some (some (.ref CB)))
    (xCB : K.lookup CB = some (excClassObj nm_CB q_CB CB N_CB bs_CB [.type "ValueError", .type "Exception", .type "BaseException", .type "object"] true sn_CB sub_CB ab_CB col_CB dd_CB k0_CB k1_CB k2_CB k3_CB k5_CB "ValueError.__new__"))
    (saCB : PySem.W.findIn K (.ref CB) "__setattr__" = some (some (.builtin "object.__setattr__")))
    (tyCB : PySem.W.typeIn K (.ref CB) = some (.type "type"))
    (kcCB : PySem.W.keepIn K (.ref CB) = true)
    (hdCB : PySem.W.hasDictIn K CB = true)
    (gaCB : PySem.W.findIn K (.ref CB) "__getattribute__" = some (some (.builtin "BaseException.__getattribute__")))
    (gtCB : PySem.W.findIn K (.ref CB) "__getattr__" = some none)
    (caCB : PySem.W.findIn K (.ref CB) "__class__" = some (some (.builtin "object.__class__")))
    (iiCB : PySem.W.findIn K (.ref CB) "__init__" = some (some (.ref fCB)))
    (tiCB : PySem.W.typeIn K (.ref fCB) = some (.type "function"))
    (lCB : K.lookup fCB = some ⟨oc_CB, od_CB, .func (PySem.W.fnOf "__init__" "CutError.__init__" (defArgs s_CutError___init__) (defBody s_CutError___init__) (defScope s_CutError___init__) .none kV_CB dc_CB pm_CB an_CB cd_CB ct_CB), sl_CB⟩)
    (cCB : PySem.W.codeIn K cd_CB "CutError.__init__" = true)
    (kCB : PySem.W.keepIn K (.ref fCB) = true)
    (aC0 : PySem.W.nsIn K mainGlobals "NoNumber" = some (some (.ref C0)))
    (xC0 : K.lookup C0 = some (excClassObj nm_C0 q_C0 C0 N_C0 bs_C0 (.ref CB :: [.type "ValueError", .type "Exception", .type "BaseException", .type "object"]) true sn_C0 sub_C0 ab_C0 col_C0 dd_C0 k0_C0 k1_C0 k2_C0 k3_C0 k5_C0 "ValueError.__new__"))
    (saC0 : PySem.W.findIn K (.ref C0) "__setattr__" = some (some (.builtin "object.__setattr__")))
    (tyC0 : PySem.W.typeIn K (.ref C0) = some (.type "type"))
    (kcC0 : PySem.W.keepIn K (.ref C0) = true)
    (hdC0 : PySem.W.hasDictIn K C0 = true)
    (gaC0 : PySem.W.findIn K (.ref C0) "__getattribute__" = some (some (.builtin "BaseException.__getattribute__")))
    (gtC0 : PySem.W.findIn K (.ref C0) "__getattr__" = some none)
    (caC0 : PySem.W.findIn K (.ref C0) "__class__" = some (some (.builtin "object.__class__")))
    (iiC0 : PySem.W.findIn K (.ref C0) "__init__" = some (some (.ref fC0)))
    (tiC0 : PySem.W.typeIn K (.ref fC0) = some (.type "function"))
    (noC0 : PySem.W.findIn K (.ref C0) "found" = some none)
    (lC0 : K.lookup fC0 = some ⟨oc_C0, od_C0, .func (PySem.W.fnOf "__init__" "NoNumber.__init__" (defArgs s_NoNumber___init__) (defBody s_NoNumber___init__) (defScope s_NoNumber___init__) .none kV_C0 dc_C0 pm_C0 an_C0 cd_C0 ct_C0), sl_C0⟩)
    (cC0 : PySem.W.codeIn K cd_C0 "NoNumber.__init__" = true)
    (kC0 : PySem.W.keepIn K (.ref fC0) = true)
    (aC1 : PySem.W.nsIn K mainGlobals "NoNet" = some (some (.ref C1)))
    (xC1 : K.lookup C1 = some (excClassObj nm_C1 q_C1 C1 N_C1 bs_C1 (.ref CB :: [.type "ValueError", .type "Exception", .type "BaseException", .type "object"]) true sn_C1 sub_C1 ab_C1 col_C1 dd_C1 k0_C1 k1_C1 k2_C1 k3_C1 k5_C1 "ValueError.__new__"))
    (saC1 : PySem.W.findIn K (.ref C1) "__setattr__" = some (some (.builtin "object.__setattr__")))
    (tyC1 : PySem.W.typeIn K (.ref C1) = some (.type "type"))
    (kcC1 : PySem.W.keepIn K (.ref C1) = true)
    (hdC1 : PySem.W.hasDictIn K C1 = true)
    (gaC1 : PySem.W.findIn K (.ref C1) "__getattribute__" = some (some (.builtin "BaseException.__getattribute__")))
    (gtC1 : PySem.W.findIn K (.ref C1) "__getattr__" = some none)
    (caC1 : PySem.W.findIn K (.ref C1) "__class__" = some (some (.builtin "object.__class__")))
    (iiC1 : PySem.W.findIn K (.ref C1) "__init__" = some (some (.ref fC1)))
    (tiC1 : PySem.W.typeIn K (.ref fC1) = some (.type "function"))
    (noC1 : PySem.W.findIn K (.ref C1) "found" = some none)
    (lC1 : K.lookup fC1 = some ⟨oc_C1, od_C1, .func (PySem.W.fnOf "__init__" "NoNet.__init__" (defArgs s_NoNet___init__) (defBody s_NoNet___init__) (defScope s_NoNet___init__) .none kV_C1 dc_C1 pm_C1 an_C1 cd_C1 ct_C1), sl_C1⟩)
    (cC1 : PySem.W.codeIn K cd_C1 "NoNet.__init__" = true)
    (kC1 : PySem.W.keepIn K (.ref fC1) = true)
    (aC2 : PySem.W.nsIn K mainGlobals "NoNode" = some (some (.ref C2)))
    (xC2 : K.lookup C2 = some (excClassObj nm_C2 q_C2 C2 N_C2 bs_C2 (.ref CB :: [.type "ValueError", .type "Exception", .type "BaseException", .type "object"]) true sn_C2 sub_C2 ab_C2 col_C2 dd_C2 k0_C2 k1_C2 k2_C2 k3_C2 k5_C2 "ValueError.__new__"))
    (saC2 : PySem.W.findIn K (.ref C2) "__setattr__" = some (some (.builtin "object.__setattr__")))
    (tyC2 : PySem.W.typeIn K (.ref C2) = some (.type "type"))
    (kcC2 : PySem.W.keepIn K (.ref C2) = true)
    (hdC2 : PySem.W.hasDictIn K C2 = true)
    (gaC2 : PySem.W.findIn K (.ref C2) "__getattribute__" = some (some (.builtin "BaseException.__getattribute__")))
    (gtC2 : PySem.W.findIn K (.ref C2) "__getattr__" = some none)
    (caC2 : PySem.W.findIn K (.ref C2) "__class__" = some (some (.builtin "object.__class__")))
    (iiC2 : PySem.W.findIn K (.ref C2) "__init__" = some (some (.ref fC2)))
    (tiC2 : PySem.W.typeIn K (.ref fC2) = some (.type "function"))
    (noC2 : PySem.W.findIn K (.ref C2) "found" = some none)
    (lC2 : K.lookup fC2 = some ⟨oc_C2, od_C2, .func (PySem.W.fnOf "__init__" "NoNode.__init__" (defArgs s_NoNode___init__) (defBody s_NoNode___init__) (defScope s_NoNode___init__) .none kV_C2 dc_C2 pm_C2 an_C2 cd_C2 ct_C2), sl_C2⟩)
    (cC2 : PySem.W.codeIn K cd_C2 "NoNode.__init__" = true)
    (kC2 : PySem.W.keepIn K (.ref fC2) = true)
    (aC3 : PySem.W.nsIn K mainGlobals "NoWire" = some (some (.ref C3)))
    (xC3 : K.lookup C3 = some (excClassObj nm_C3 q_C3 C3 N_C3 bs_C3 (.ref CB :: [.type "ValueError", .type "Exception", .type "BaseException", .type "object"]) true sn_C3 sub_C3 ab_C3 col_C3 dd_C3 k0_C3 k1_C3 k2_C3 k3_C3 k5_C3 "ValueError.__new__"))
    (saC3 : PySem.W.findIn K (.ref C3) "__setattr__" = some (some (.builtin "object.__setattr__")))
    (tyC3 : PySem.W.typeIn K (.ref C3) = some (.type "type"))
    (kcC3 : PySem.W.keepIn K (.ref C3) = true)
    (hdC3 : PySem.W.hasDictIn K C3 = true)
    (gaC3 : PySem.W.findIn K (.ref C3) "__getattribute__" = some (some (.builtin "BaseException.__getattribute__")))
    (gtC3 : PySem.W.findIn K (.ref C3) "__getattr__" = some none)
    (caC3 : PySem.W.findIn K (.ref C3) "__class__" = some (some (.builtin "object.__class__")))
    (iiC3 : PySem.W.findIn K (.ref C3) "__init__" = some (some (.ref fC3)))
    (tiC3 : PySem.W.typeIn K (.ref fC3) = some (.type "function"))
    (noC3 : PySem.W.findIn K (.ref C3) "found" = some none)
    (lC3 : K.lookup fC3 = some ⟨oc_C3, od_C3, .func (PySem.W.fnOf "__init__" "NoWire.__init__" (defArgs s_NoWire___init__) (defBody s_NoWire___init__) (defScope s_NoWire___init__) .none kV_C3 dc_C3 pm_C3 an_C3 cd_C3 ct_C3), sl_C3⟩)
    (cC3 : PySem.W.codeIn K cd_C3 "NoWire.__init__" = true)
    (kC3 : PySem.W.keepIn K (.ref fC3) = true)
    (aC4 : PySem.W.nsIn K mainGlobals "NoSpot" = some (some (.ref C4)))
    (xC4 : K.lookup C4 = some (excClassObj nm_C4 q_C4 C4 N_C4 bs_C4 (.ref CB :: [.type "ValueError", .type "Exception", .type "BaseException", .type "object"]) true sn_C4 sub_C4 ab_C4 col_C4 dd_C4 k0_C4 k1_C4 k2_C4 k3_C4 k5_C4 "ValueError.__new__"))
    (saC4 : PySem.W.findIn K (.ref C4) "__setattr__" = some (some (.builtin "object.__setattr__")))
    (tyC4 : PySem.W.typeIn K (.ref C4) = some (.type "type"))
    (kcC4 : PySem.W.keepIn K (.ref C4) = true)
    (hdC4 : PySem.W.hasDictIn K C4 = true)
    (gaC4 : PySem.W.findIn K (.ref C4) "__getattribute__" = some (some (.builtin "BaseException.__getattribute__")))
    (gtC4 : PySem.W.findIn K (.ref C4) "__getattr__" = some none)
    (caC4 : PySem.W.findIn K (.ref C4) "__class__" = some (some (.builtin "object.__class__")))
    (iiC4 : PySem.W.findIn K (.ref C4) "__init__" = some (some (.ref fC4)))
    (tiC4 : PySem.W.typeIn K (.ref fC4) = some (.type "function"))
    (noC4 : PySem.W.findIn K (.ref C4) "found" = some none)
    (lC4 : K.lookup fC4 = some ⟨oc_C4, od_C4, .func (PySem.W.fnOf "__init__" "NoSpot.__init__" (defArgs s_NoSpot___init__) (defBody s_NoSpot___init__) (defScope s_NoSpot___init__) .none kV_C4 dc_C4 pm_C4 an_C4 cd_C4 ct_C4), sl_C4⟩)
    (cC4 : PySem.W.codeIn K cd_C4 "NoSpot.__init__" = true)
    (kC4 : PySem.W.keepIn K (.ref fC4) = true)
    (aC5 : PySem.W.nsIn K mainGlobals "NoBox" = some (some (.ref C5)))
    (xC5 : K.lookup C5 = some (excClassObj nm_C5 q_C5 C5 N_C5 bs_C5 (.ref CB :: [.type "ValueError", .type "Exception", .type "BaseException", .type "object"]) true sn_C5 sub_C5 ab_C5 col_C5 dd_C5 k0_C5 k1_C5 k2_C5 k3_C5 k5_C5 "ValueError.__new__"))
    (saC5 : PySem.W.findIn K (.ref C5) "__setattr__" = some (some (.builtin "object.__setattr__")))
    (tyC5 : PySem.W.typeIn K (.ref C5) = some (.type "type"))
    (kcC5 : PySem.W.keepIn K (.ref C5) = true)
    (hdC5 : PySem.W.hasDictIn K C5 = true)
    (gaC5 : PySem.W.findIn K (.ref C5) "__getattribute__" = some (some (.builtin "BaseException.__getattribute__")))
    (gtC5 : PySem.W.findIn K (.ref C5) "__getattr__" = some none)
    (caC5 : PySem.W.findIn K (.ref C5) "__class__" = some (some (.builtin "object.__class__")))
    (iiC5 : PySem.W.findIn K (.ref C5) "__init__" = some (some (.ref fC5)))
    (tiC5 : PySem.W.typeIn K (.ref fC5) = some (.type "function"))
    (noC5 : PySem.W.findIn K (.ref C5) "found" = some none)
    (lC5 : K.lookup fC5 = some ⟨oc_C5, od_C5, .func (PySem.W.fnOf "__init__" "NoBox.__init__" (defArgs s_NoBox___init__) (defBody s_NoBox___init__) (defScope s_NoBox___init__) .none kV_C5 dc_C5 pm_C5 an_C5 cd_C5 ct_C5), sl_C5⟩)
    (cC5 : PySem.W.codeIn K cd_C5 "NoBox.__init__" = true)
    (kC5 : PySem.W.keepIn K (.ref fC5) = true)
    (aC6 : PySem.W.nsIn K mainGlobals "NoWish" = some (some (.ref C6)))
    (xC6 : K.lookup C6 = some (excClassObj nm_C6 q_C6 C6 N_C6 bs_C6 (.ref CB :: [.type "ValueError", .type "Exception", .type "BaseException", .type "object"]) true sn_C6 sub_C6 ab_C6 col_C6 dd_C6 k0_C6 k1_C6 k2_C6 k3_C6 k5_C6 "ValueError.__new__"))
    (saC6 : PySem.W.findIn K (.ref C6) "__setattr__" = some (some (.builtin "object.__setattr__")))
    (tyC6 : PySem.W.typeIn K (.ref C6) = some (.type "type"))
    (kcC6 : PySem.W.keepIn K (.ref C6) = true)
    (hdC6 : PySem.W.hasDictIn K C6 = true)
    (gaC6 : PySem.W.findIn K (.ref C6) "__getattribute__" = some (some (.builtin "BaseException.__getattribute__")))
    (gtC6 : PySem.W.findIn K (.ref C6) "__getattr__" = some none)
    (caC6 : PySem.W.findIn K (.ref C6) "__class__" = some (some (.builtin "object.__class__")))
    (iiC6 : PySem.W.findIn K (.ref C6) "__init__" = some (some (.ref fC6)))
    (tiC6 : PySem.W.typeIn K (.ref fC6) = some (.type "function"))
    (noC6 : PySem.W.findIn K (.ref C6) "found" = some none)
    (lC6 : K.lookup fC6 = some ⟨oc_C6, od_C6, .func (PySem.W.fnOf "__init__" "NoWish.__init__" (defArgs s_NoWish___init__) (defBody s_NoWish___init__) (defScope s_NoWish___init__) .none kV_C6 dc_C6 pm_C6 an_C6 cd_C6 ct_C6), sl_C6⟩)
    (cC6 : PySem.W.codeIn K cd_C6 "NoWish.__init__" = true)
    (kC6 : PySem.W.keepIn K (.ref fC6) = true)
    (aC7 : PySem.W.nsIn K mainGlobals "NoAim" = some (some (.ref C7)))
    (xC7 : K.lookup C7 = some (excClassObj nm_C7 q_C7 C7 N_C7 bs_C7 (.ref CB :: [.type "ValueError", .type "Exception", .type "BaseException", .type "object"]) true sn_C7 sub_C7 ab_C7 col_C7 dd_C7 k0_C7 k1_C7 k2_C7 k3_C7 k5_C7 "ValueError.__new__"))
    (saC7 : PySem.W.findIn K (.ref C7) "__setattr__" = some (some (.builtin "object.__setattr__")))
    (tyC7 : PySem.W.typeIn K (.ref C7) = some (.type "type"))
    (kcC7 : PySem.W.keepIn K (.ref C7) = true)
    (hdC7 : PySem.W.hasDictIn K C7 = true)
    (gaC7 : PySem.W.findIn K (.ref C7) "__getattribute__" = some (some (.builtin "BaseException.__getattribute__")))
    (gtC7 : PySem.W.findIn K (.ref C7) "__getattr__" = some none)
    (caC7 : PySem.W.findIn K (.ref C7) "__class__" = some (some (.builtin "object.__class__")))
    (iiC7 : PySem.W.findIn K (.ref C7) "__init__" = some (some (.ref fC7)))
    (tiC7 : PySem.W.typeIn K (.ref fC7) = some (.type "function"))
    (noC7 : PySem.W.findIn K (.ref C7) "found" = some none)
    (lC7 : K.lookup fC7 = some ⟨oc_C7, od_C7, .func (PySem.W.fnOf "__init__" "NoAim.__init__" (defArgs s_NoAim___init__) (defBody s_NoAim___init__) (defScope s_NoAim___init__) .none kV_C7 dc_C7 pm_C7 an_C7 cd_C7 ct_C7), sl_C7⟩)
    (cC7 : PySem.W.codeIn K cd_C7 "NoAim.__init__" = true)
    (kC7 : PySem.W.keepIn K (.ref fC7) = true)
    (aC8 : PySem.W.nsIn K mainGlobals "NoOut" = some (some (.ref C8)))
    (xC8 : K.lookup C8 = some (excClassObj nm_C8 q_C8 C8 N_C8 bs_C8 (.ref CB :: [.type "ValueError", .type "Exception", .type "BaseException", .type "object"]) true sn_C8 sub_C8 ab_C8 col_C8 dd_C8 k0_C8 k1_C8 k2_C8 k3_C8 k5_C8 "ValueError.__new__"))
    (saC8 : PySem.W.findIn K (.ref C8) "__setattr__" = some (some (.builtin "object.__setattr__")))
    (tyC8 : PySem.W.typeIn K (.ref C8) = some (.type "type"))
    (kcC8 : PySem.W.keepIn K (.ref C8) = true)
    (hdC8 : PySem.W.hasDictIn K C8 = true)
    (gaC8 : PySem.W.findIn K (.ref C8) "__getattribute__" = some (some (.builtin "BaseException.__getattribute__")))
    (gtC8 : PySem.W.findIn K (.ref C8) "__getattr__" = some none)
    (caC8 : PySem.W.findIn K (.ref C8) "__class__" = some (some (.builtin "object.__class__")))
    (iiC8 : PySem.W.findIn K (.ref C8) "__init__" = some (some (.ref fC8)))
    (tiC8 : PySem.W.typeIn K (.ref fC8) = some (.type "function"))
    (noC8 : PySem.W.findIn K (.ref C8) "found" = some none)
    (lC8 : K.lookup fC8 = some ⟨oc_C8, od_C8, .func (PySem.W.fnOf "__init__" "NoOut.__init__" (defArgs s_NoOut___init__) (defBody s_NoOut___init__) (defScope s_NoOut___init__) .none kV_C8 dc_C8 pm_C8 an_C8 cd_C8 ct_C8), sl_C8⟩)
    (cC8 : PySem.W.codeIn K cd_C8 "NoOut.__init__" = true)
    (kC8 : PySem.W.keepIn K (.ref fC8) = true)
    (aC9 : PySem.W.nsIn K mainGlobals "NoPattern" = some (some (.ref C9)))
    (xC9 : K.lookup C9 = some (excClassObj nm_C9 q_C9 C9 N_C9 bs_C9 (.ref CB :: [.type "ValueError", .type "Exception", .type "BaseException", .type "object"]) true sn_C9 sub_C9 ab_C9 col_C9 dd_C9 k0_C9 k1_C9 k2_C9 k3_C9 k5_C9 "ValueError.__new__"))
    (saC9 : PySem.W.findIn K (.ref C9) "__setattr__" = some (some (.builtin "object.__setattr__")))
    (tyC9 : PySem.W.typeIn K (.ref C9) = some (.type "type"))
    (kcC9 : PySem.W.keepIn K (.ref C9) = true)
    (hdC9 : PySem.W.hasDictIn K C9 = true)
    (gaC9 : PySem.W.findIn K (.ref C9) "__getattribute__" = some (some (.builtin "BaseException.__getattribute__")))
    (gtC9 : PySem.W.findIn K (.ref C9) "__getattr__" = some none)
    (caC9 : PySem.W.findIn K (.ref C9) "__class__" = some (some (.builtin "object.__class__")))
    (iiC9 : PySem.W.findIn K (.ref C9) "__init__" = some (some (.ref fC9)))
    (tiC9 : PySem.W.typeIn K (.ref fC9) = some (.type "function"))
    (noC9 : PySem.W.findIn K (.ref C9) "found" = some none)
    (lC9 : K.lookup fC9 = some ⟨oc_C9, od_C9, .func (PySem.W.fnOf "__init__" "NoPattern.__init__" (defArgs s_NoPattern___init__) (defBody s_NoPattern___init__) (defScope s_NoPattern___init__) .none kV_C9 dc_C9 pm_C9 an_C9 cd_C9 ct_C9), sl_C9⟩)
    (cC9 : PySem.W.codeIn K cd_C9 "NoPattern.__init__" = true)
    (kC9 : PySem.W.keepIn K (.ref fC9) = true)
    (aC10 : PySem.W.nsIn K mainGlobals "NoFit" = some (some (.ref C10)))
    (xC10 : K.lookup C10 = some (excClassObj nm_C10 q_C10 C10 N_C10 bs_C10 (.ref CB :: [.type "ValueError", .type "Exception", .type "BaseException", .type "object"]) true sn_C10 sub_C10 ab_C10 col_C10 dd_C10 k0_C10 k1_C10 k2_C10 k3_C10 k5_C10 "ValueError.__new__"))
    (saC10 : PySem.W.findIn K (.ref C10) "__setattr__" = some (some (.builtin "object.__setattr__")))
    (tyC10 : PySem.W.typeIn K (.ref C10) = some (.type "type"))
    (kcC10 : PySem.W.keepIn K (.ref C10) = true)
    (hdC10 : PySem.W.hasDictIn K C10 = true)
    (gaC10 : PySem.W.findIn K (.ref C10) "__getattribute__" = some (some (.builtin "BaseException.__getattribute__")))
    (gtC10 : PySem.W.findIn K (.ref C10) "__getattr__" = some none)
    (caC10 : PySem.W.findIn K (.ref C10) "__class__" = some (some (.builtin "object.__class__")))
    (iiC10 : PySem.W.findIn K (.ref C10) "__init__" = some (some (.ref fC10)))
    (tiC10 : PySem.W.typeIn K (.ref fC10) = some (.type "function"))
    (noC10 : PySem.W.findIn K (.ref C10) "found" = some none)
    (lC10 : K.lookup fC10 = some ⟨oc_C10, od_C10, .func (PySem.W.fnOf "__init__" "NoFit.__init__" (defArgs s_NoFit___init__) (defBody s_NoFit___init__) (defScope s_NoFit___init__) .none kV_C10 dc_C10 pm_C10 an_C10 cd_C10 ct_C10), sl_C10⟩)
    (cC10 : PySem.W.codeIn K cd_C10 "NoFit.__init__" = true)
    (kC10 : PySem.W.keepIn K (.ref fC10) = true)
    (aC11 : PySem.W.nsIn K mainGlobals "NoTree" = some (some (.ref C11)))
    (xC11 : K.lookup C11 = some (excClassObj nm_C11 q_C11 C11 N_C11 bs_C11 (.ref CB :: [.type "ValueError", .type "Exception", .type "BaseException", .type "object"]) true sn_C11 sub_C11 ab_C11 col_C11 dd_C11 k0_C11 k1_C11 k2_C11 k3_C11 k5_C11 "ValueError.__new__"))
    (saC11 : PySem.W.findIn K (.ref C11) "__setattr__" = some (some (.builtin "object.__setattr__")))
    (tyC11 : PySem.W.typeIn K (.ref C11) = some (.type "type"))
    (kcC11 : PySem.W.keepIn K (.ref C11) = true)
    (hdC11 : PySem.W.hasDictIn K C11 = true)
    (gaC11 : PySem.W.findIn K (.ref C11) "__getattribute__" = some (some (.builtin "BaseException.__getattribute__")))
    (gtC11 : PySem.W.findIn K (.ref C11) "__getattr__" = some none)
    (caC11 : PySem.W.findIn K (.ref C11) "__class__" = some (some (.builtin "object.__class__")))
    (iiC11 : PySem.W.findIn K (.ref C11) "__init__" = some (some (.ref fC11)))
    (tiC11 : PySem.W.typeIn K (.ref fC11) = some (.type "function"))
    (noC11 : PySem.W.findIn K (.ref C11) "found" = some none)
    (lC11 : K.lookup fC11 = some ⟨oc_C11, od_C11, .func (PySem.W.fnOf "__init__" "NoTree.__init__" (defArgs s_NoTree___init__) (defBody s_NoTree___init__) (defScope s_NoTree___init__) .none kV_C11 dc_C11 pm_C11 an_C11 cd_C11 ct_C11), sl_C11⟩)
    (cC11 : PySem.W.codeIn K cd_C11 "NoTree.__init__" = true)
    (kC11 : PySem.W.keepIn K (.ref fC11) = true)
    (aC12 : PySem.W.nsIn K mainGlobals "NoName" = some (some (.ref C12)))
    (xC12 : K.lookup C12 = some (excClassObj nm_C12 q_C12 C12 N_C12 bs_C12 (.ref CB :: [.type "ValueError", .type "Exception", .type "BaseException", .type "object"]) true sn_C12 sub_C12 ab_C12 col_C12 dd_C12 k0_C12 k1_C12 k2_C12 k3_C12 k5_C12 "ValueError.__new__"))
    (saC12 : PySem.W.findIn K (.ref C12) "__setattr__" = some (some (.builtin "object.__setattr__")))
    (tyC12 : PySem.W.typeIn K (.ref C12) = some (.type "type"))
    (kcC12 : PySem.W.keepIn K (.ref C12) = true)
    (hdC12 : PySem.W.hasDictIn K C12 = true)
    (gaC12 : PySem.W.findIn K (.ref C12) "__getattribute__" = some (some (.builtin "BaseException.__getattribute__")))
    (gtC12 : PySem.W.findIn K (.ref C12) "__getattr__" = some none)
    (caC12 : PySem.W.findIn K (.ref C12) "__class__" = some (some (.builtin "object.__class__")))
    (iiC12 : PySem.W.findIn K (.ref C12) "__init__" = some (some (.ref fC12)))
    (tiC12 : PySem.W.typeIn K (.ref fC12) = some (.type "function"))
    (noC12 : PySem.W.findIn K (.ref C12) "found" = some none)
    (lC12 : K.lookup fC12 = some ⟨oc_C12, od_C12, .func (PySem.W.fnOf "__init__" "NoName.__init__" (defArgs s_NoName___init__) (defBody s_NoName___init__) (defScope s_NoName___init__) .none kV_C12 dc_C12 pm_C12 an_C12 cd_C12 ct_C12), sl_C12⟩)
    (cC12 : PySem.W.codeIn K cd_C12 "NoName.__init__" = true)
    (kC12 : PySem.W.keepIn K (.ref fC12) = true)
    (aC13 : PySem.W.nsIn K mainGlobals "NoText" = some (some (.ref C13)))
    (xC13 : K.lookup C13 = some (excClassObj nm_C13 q_C13 C13 N_C13 bs_C13 (.ref CB :: [.type "ValueError", .type "Exception", .type "BaseException", .type "object"]) true sn_C13 sub_C13 ab_C13 col_C13 dd_C13 k0_C13 k1_C13 k2_C13 k3_C13 k5_C13 "ValueError.__new__"))
    (saC13 : PySem.W.findIn K (.ref C13) "__setattr__" = some (some (.builtin "object.__setattr__")))
    (tyC13 : PySem.W.typeIn K (.ref C13) = some (.type "type"))
    (kcC13 : PySem.W.keepIn K (.ref C13) = true)
    (hdC13 : PySem.W.hasDictIn K C13 = true)
    (gaC13 : PySem.W.findIn K (.ref C13) "__getattribute__" = some (some (.builtin "BaseException.__getattribute__")))
    (gtC13 : PySem.W.findIn K (.ref C13) "__getattr__" = some none)
    (caC13 : PySem.W.findIn K (.ref C13) "__class__" = some (some (.builtin "object.__class__")))
    (iiC13 : PySem.W.findIn K (.ref C13) "__init__" = some (some (.ref fC13)))
    (tiC13 : PySem.W.typeIn K (.ref fC13) = some (.type "function"))
    (noC13 : PySem.W.findIn K (.ref C13) "row" = some none)
    (lC13 : K.lookup fC13 = some ⟨oc_C13, od_C13, .func (PySem.W.fnOf "__init__" "NoText.__init__" (defArgs s_NoText___init__) (defBody s_NoText___init__) (defScope s_NoText___init__) .none kV_C13 dc_C13 pm_C13 an_C13 cd_C13 ct_C13), sl_C13⟩)
    (cC13 : PySem.W.codeIn K cd_C13 "NoText.__init__" = true)
    (kC13 : PySem.W.keepIn K (.ref fC13) = true)
    (aC14 : PySem.W.nsIn K mainGlobals "Large" = some (some (.ref C14)))
    (xC14 : K.lookup C14 = some (excClassObj nm_C14 q_C14 C14 N_C14 bs_C14 (.ref CB :: [.type "ValueError", .type "Exception", .type "BaseException", .type "object"]) true sn_C14 sub_C14 ab_C14 col_C14 dd_C14 k0_C14 k1_C14 k2_C14 k3_C14 k5_C14 "ValueError.__new__"))
    (saC14 : PySem.W.findIn K (.ref C14) "__setattr__" = some (some (.builtin "object.__setattr__")))
    (tyC14 : PySem.W.typeIn K (.ref C14) = some (.type "type"))
    (kcC14 : PySem.W.keepIn K (.ref C14) = true)
    (hdC14 : PySem.W.hasDictIn K C14 = true)
    (gaC14 : PySem.W.findIn K (.ref C14) "__getattribute__" = some (some (.builtin "BaseException.__getattribute__")))
    (gtC14 : PySem.W.findIn K (.ref C14) "__getattr__" = some none)
    (caC14 : PySem.W.findIn K (.ref C14) "__class__" = some (some (.builtin "object.__class__")))
    (iiC14 : PySem.W.findIn K (.ref C14) "__init__" = some (some (.ref fC14)))
    (tiC14 : PySem.W.typeIn K (.ref fC14) = some (.type "function"))
    (noC14 : PySem.W.findIn K (.ref C14) "many" = some none)
    (lC14 : K.lookup fC14 = some ⟨oc_C14, od_C14, .func (PySem.W.fnOf "__init__" "Large.__init__" (defArgs s_Large___init__) (defBody s_Large___init__) (defScope s_Large___init__) .none kV_C14 dc_C14 pm_C14 an_C14 cd_C14 ct_C14), sl_C14⟩)
    (cC14 : PySem.W.codeIn K cd_C14 "Large.__init__" = true)
    (kC14 : PySem.W.keepIn K (.ref fC14) = true)
    (aC15 : PySem.W.nsIn K mainGlobals "NoLine" = some (some (.ref C15)))
    (xC15 : K.lookup C15 = some (excClassObj nm_C15 q_C15 C15 N_C15 bs_C15 (.ref CB :: [.type "ValueError", .type "Exception", .type "BaseException", .type "object"]) true sn_C15 sub_C15 ab_C15 col_C15 dd_C15 k0_C15 k1_C15 k2_C15 k3_C15 k5_C15 "ValueError.__new__"))
    (saC15 : PySem.W.findIn K (.ref C15) "__setattr__" = some (some (.builtin "object.__setattr__")))
    (tyC15 : PySem.W.typeIn K (.ref C15) = some (.type "type"))
    (kcC15 : PySem.W.keepIn K (.ref C15) = true)
    (hdC15 : PySem.W.hasDictIn K C15 = true)
    (gaC15 : PySem.W.findIn K (.ref C15) "__getattribute__" = some (some (.builtin "BaseException.__getattribute__")))
    (gtC15 : PySem.W.findIn K (.ref C15) "__getattr__" = some none)
    (caC15 : PySem.W.findIn K (.ref C15) "__class__" = some (some (.builtin "object.__class__")))
    (iiC15 : PySem.W.findIn K (.ref C15) "__init__" = some (some (.ref fC15)))
    (tiC15 : PySem.W.typeIn K (.ref fC15) = some (.type "function"))
    (noC15 : PySem.W.findIn K (.ref C15) "line" = some none)
    (lC15 : K.lookup fC15 = some ⟨oc_C15, od_C15, .func (PySem.W.fnOf "__init__" "NoLine.__init__" (defArgs s_NoLine___init__) (defBody s_NoLine___init__) (defScope s_NoLine___init__) .none kV_C15 dc_C15 pm_C15 an_C15 cd_C15 ct_C15), sl_C15⟩)
    (cC15 : PySem.W.codeIn K cd_C15 "NoLine.__init__" = true)
    (kC15 : PySem.W.keepIn K (.ref fC15) = true)
    (cgO : PySem.W.specialIn K (.builtin "object.__class__") "__get__" = some (some (.builtin "getset_descriptor.__get__")))
    (ctO : PySem.W.takesIn K (.builtin "object.__class__") = some true)
    (rdO : PySem.W.readsIn K CB (.type "type") = true)
    (gaO : PySem.W.specialIn K (.ref CB) "__getattribute__" = some (some (.builtin "type.__getattribute__")))
    (atO : PySem.W.findCls K (.ref CB) (.type "type") "__init__" = some (.val (.ref fCB)))
    (vVO : PySem.W.findCls K (.type "ValueError") (.type "type") "__init__" = some (.val (.builtin "ValueError.__init__")))
    (inj : ∀ i, i < 16 → ∀ j, j < 16 → [C0, C1, C2, C3, C4, C5, C6, C7, C8, C9, C10, C11, C12, C13, C14, C15].getD i 0 = [C0, C1, C2, C3, C4, C5, C6, C7, C8, C9, C10, C11, C12, C13, C14, C15].getD j 0 → i = j)
    (nb : ∀ i, i < 16 → [C0, C1, C2, C3, C4, C5, C6, C7, C8, C9, C10, C11, C12, C13, C14, C15].getD i 0 ≠ CB)
    : ∃ fd : FuncData, (∀ (s : Shared) (v : Value), BindsTo s fd ⟨[v], []⟩ [("_law_script", v)]) ∧ ∀ base : Heap, K.In base → base.Ns mainGlobals mg → GOk l.prog w K mg base 6 fa fd ["_law_script"] (spLaw K) := by
  have e := hfa.symm.trans (PySem.W.mg_of X G a8)
  cases e
  have D__law_cell : Df K mg "_law_cell" s__law_cell ["_law_script", "_law_k"] := Df.of X G a0 l0 c0 k0 fun _ _ _ _ _ _ us hl => match us, hl with | [_, _], _ => rfl
  have D__law_stream : Df K mg "_law_stream" s__law_stream ["_law_cell_here"] := Df.of X G a1 l1 c1 k1 fun _ _ _ _ _ _ us hl => match us, hl with | [_], _ => rfl
  have D__law_take : Df K mg "_law_take" s__law_take ["_law_stream_here", "_law_many"] := Df.of X G a2 l2 c2 k2 fun _ _ _ _ _ _ us hl => match us, hl with | [_, _], _ => rfl
  have D__law_thing : Df K mg "_law_thing" s__law_thing ["_law_stream_here"] := Df.of X G a3 l3 c3 k3 fun _ _ _ _ _ _ us hl => match us, hl with | [_], _ => rfl
  have D__law_made : Df K mg "_law_made" s__law_made ["_law_k", "_law_thing_here"] := Df.of X G a4 l4 c4 k4 fun _ _ _ _ _ _ us hl => match us, hl with | [_, _], _ => rfl
  have D__law_kinds : Df K mg "_law_kinds" s__law_kinds ["_law_error"] := Df.of X G a5 l5 c5 k5 fun _ _ _ _ _ _ us hl => match us, hl with | [_], _ => rfl
  have D__law_field : Df K mg "_law_field" s__law_field ["_law_error"] := Df.of X G a6 l6 c6 k6 fun _ _ _ _ _ _ us hl => match us, hl with | [_], _ => rfl
  have D__law_right : Df K mg "_law_right" s__law_right ["_law_k", "_law_thing_here"] := Df.of X G a7 l7 c7 k7 fun _ _ _ _ _ _ us hl => match us, hl with | [_, _], _ => rfl
  have mlen := PySem.W.mg_none_of X G z_len
  have mrange := PySem.W.mg_none_of X G z_range
  have mint := PySem.W.mg_none_of X G z_int
  have mmax := PySem.W.mg_none_of X G z_max
  have mmin := PySem.W.mg_none_of X G z_min
  have misinstance := PySem.W.mg_none_of X G z_isinstance
  have mrepr := PySem.W.mg_none_of X G z_repr
  have mlist := PySem.W.mg_none_of X G z_list
  have mValueError := PySem.W.mg_none_of X G z_ValueError
  have XCB : ErX K CB bmB := ⟨⟨_, _, _, _, _, _, _, _, _, _, _, _, _, _, xCB⟩, rfl, tyCB⟩
  have ECCB : ErC K CB := XCB.erc saCB kcCB gaCB gtCB caCB cgO ctO rfl rfl hdCB
  have FCB := fun_mk (st := s_CutError___init__) lCB cCB kCB
  have bCB := FCB.binds (ps := ["self", "text"]) fun _ _ _ _ _ _ us hl => match us, hl with | [_, _], _ => rfl
  have gCB := PySem.W.mg_of X G aCB
  have XC0 : ErX K C0 (bmE CB) := ⟨⟨_, _, _, _, _, _, _, _, _, _, _, _, _, _, xC0⟩, rfl, tyC0⟩
  have ECC0 : ErC K C0 := XC0.erc saC0 kcC0 gaC0 gtC0 caC0 cgO ctO rfl rfl hdC0
  have FC0 := fun_mk (st := s_NoNumber___init__) lC0 cC0 kC0
  have bC0 := FC0.binds (ps := ["self", "found"]) fun _ _ _ _ _ _ us hl => match us, hl with | [_, _], _ => rfl
  have gC0 := PySem.W.mg_of X G aC0
  have XC1 : ErX K C1 (bmE CB) := ⟨⟨_, _, _, _, _, _, _, _, _, _, _, _, _, _, xC1⟩, rfl, tyC1⟩
  have ECC1 : ErC K C1 := XC1.erc saC1 kcC1 gaC1 gtC1 caC1 cgO ctO rfl rfl hdC1
  have FC1 := fun_mk (st := s_NoNet___init__) lC1 cC1 kC1
  have bC1 := FC1.binds (ps := ["self", "found"]) fun _ _ _ _ _ _ us hl => match us, hl with | [_, _], _ => rfl
  have gC1 := PySem.W.mg_of X G aC1
  have XC2 : ErX K C2 (bmE CB) := ⟨⟨_, _, _, _, _, _, _, _, _, _, _, _, _, _, xC2⟩, rfl, tyC2⟩
  have ECC2 : ErC K C2 := XC2.erc saC2 kcC2 gaC2 gtC2 caC2 cgO ctO rfl rfl hdC2
  have FC2 := fun_mk (st := s_NoNode___init__) lC2 cC2 kC2
  have bC2 := FC2.binds (ps := ["self", "found"]) fun _ _ _ _ _ _ us hl => match us, hl with | [_, _], _ => rfl
  have gC2 := PySem.W.mg_of X G aC2
  have XC3 : ErX K C3 (bmE CB) := ⟨⟨_, _, _, _, _, _, _, _, _, _, _, _, _, _, xC3⟩, rfl, tyC3⟩
  have ECC3 : ErC K C3 := XC3.erc saC3 kcC3 gaC3 gtC3 caC3 cgO ctO rfl rfl hdC3
  have FC3 := fun_mk (st := s_NoWire___init__) lC3 cC3 kC3
  have bC3 := FC3.binds (ps := ["self", "found"]) fun _ _ _ _ _ _ us hl => match us, hl with | [_, _], _ => rfl
  have gC3 := PySem.W.mg_of X G aC3
  have XC4 : ErX K C4 (bmE CB) := ⟨⟨_, _, _, _, _, _, _, _, _, _, _, _, _, _, xC4⟩, rfl, tyC4⟩
  have ECC4 : ErC K C4 := XC4.erc saC4 kcC4 gaC4 gtC4 caC4 cgO ctO rfl rfl hdC4
  have FC4 := fun_mk (st := s_NoSpot___init__) lC4 cC4 kC4
  have bC4 := FC4.binds (ps := ["self", "found"]) fun _ _ _ _ _ _ us hl => match us, hl with | [_, _], _ => rfl
  have gC4 := PySem.W.mg_of X G aC4
  have XC5 : ErX K C5 (bmE CB) := ⟨⟨_, _, _, _, _, _, _, _, _, _, _, _, _, _, xC5⟩, rfl, tyC5⟩
  have ECC5 : ErC K C5 := XC5.erc saC5 kcC5 gaC5 gtC5 caC5 cgO ctO rfl rfl hdC5
  have FC5 := fun_mk (st := s_NoBox___init__) lC5 cC5 kC5
  have bC5 := FC5.binds (ps := ["self", "found"]) fun _ _ _ _ _ _ us hl => match us, hl with | [_, _], _ => rfl
  have gC5 := PySem.W.mg_of X G aC5
  have XC6 : ErX K C6 (bmE CB) := ⟨⟨_, _, _, _, _, _, _, _, _, _, _, _, _, _, xC6⟩, rfl, tyC6⟩
  have ECC6 : ErC K C6 := XC6.erc saC6 kcC6 gaC6 gtC6 caC6 cgO ctO rfl rfl hdC6
  have FC6 := fun_mk (st := s_NoWish___init__) lC6 cC6 kC6
  have bC6 := FC6.binds (ps := ["self", "found"]) fun _ _ _ _ _ _ us hl => match us, hl with | [_, _], _ => rfl
  have gC6 := PySem.W.mg_of X G aC6
  have XC7 : ErX K C7 (bmE CB) := ⟨⟨_, _, _, _, _, _, _, _, _, _, _, _, _, _, xC7⟩, rfl, tyC7⟩
  have ECC7 : ErC K C7 := XC7.erc saC7 kcC7 gaC7 gtC7 caC7 cgO ctO rfl rfl hdC7
  have FC7 := fun_mk (st := s_NoAim___init__) lC7 cC7 kC7
  have bC7 := FC7.binds (ps := ["self", "found"]) fun _ _ _ _ _ _ us hl => match us, hl with | [_, _], _ => rfl
  have gC7 := PySem.W.mg_of X G aC7
  have XC8 : ErX K C8 (bmE CB) := ⟨⟨_, _, _, _, _, _, _, _, _, _, _, _, _, _, xC8⟩, rfl, tyC8⟩
  have ECC8 : ErC K C8 := XC8.erc saC8 kcC8 gaC8 gtC8 caC8 cgO ctO rfl rfl hdC8
  have FC8 := fun_mk (st := s_NoOut___init__) lC8 cC8 kC8
  have bC8 := FC8.binds (ps := ["self", "found"]) fun _ _ _ _ _ _ us hl => match us, hl with | [_, _], _ => rfl
  have gC8 := PySem.W.mg_of X G aC8
  have XC9 : ErX K C9 (bmE CB) := ⟨⟨_, _, _, _, _, _, _, _, _, _, _, _, _, _, xC9⟩, rfl, tyC9⟩
  have ECC9 : ErC K C9 := XC9.erc saC9 kcC9 gaC9 gtC9 caC9 cgO ctO rfl rfl hdC9
  have FC9 := fun_mk (st := s_NoPattern___init__) lC9 cC9 kC9
  have bC9 := FC9.binds (ps := ["self", "found"]) fun _ _ _ _ _ _ us hl => match us, hl with | [_, _], _ => rfl
  have gC9 := PySem.W.mg_of X G aC9
  have XC10 : ErX K C10 (bmE CB) := ⟨⟨_, _, _, _, _, _, _, _, _, _, _, _, _, _, xC10⟩, rfl, tyC10⟩
  have ECC10 : ErC K C10 := XC10.erc saC10 kcC10 gaC10 gtC10 caC10 cgO ctO rfl rfl hdC10
  have FC10 := fun_mk (st := s_NoFit___init__) lC10 cC10 kC10
  have bC10 := FC10.binds (ps := ["self", "found"]) fun _ _ _ _ _ _ us hl => match us, hl with | [_, _], _ => rfl
  have gC10 := PySem.W.mg_of X G aC10
  have XC11 : ErX K C11 (bmE CB) := ⟨⟨_, _, _, _, _, _, _, _, _, _, _, _, _, _, xC11⟩, rfl, tyC11⟩
  have ECC11 : ErC K C11 := XC11.erc saC11 kcC11 gaC11 gtC11 caC11 cgO ctO rfl rfl hdC11
  have FC11 := fun_mk (st := s_NoTree___init__) lC11 cC11 kC11
  have bC11 := FC11.binds (ps := ["self", "found"]) fun _ _ _ _ _ _ us hl => match us, hl with | [_, _], _ => rfl
  have gC11 := PySem.W.mg_of X G aC11
  have XC12 : ErX K C12 (bmE CB) := ⟨⟨_, _, _, _, _, _, _, _, _, _, _, _, _, _, xC12⟩, rfl, tyC12⟩
  have ECC12 : ErC K C12 := XC12.erc saC12 kcC12 gaC12 gtC12 caC12 cgO ctO rfl rfl hdC12
  have FC12 := fun_mk (st := s_NoName___init__) lC12 cC12 kC12
  have bC12 := FC12.binds (ps := ["self", "found"]) fun _ _ _ _ _ _ us hl => match us, hl with | [_, _], _ => rfl
  have gC12 := PySem.W.mg_of X G aC12
  have XC13 : ErX K C13 (bmE CB) := ⟨⟨_, _, _, _, _, _, _, _, _, _, _, _, _, _, xC13⟩, rfl, tyC13⟩
  have ECC13 : ErC K C13 := XC13.erc saC13 kcC13 gaC13 gtC13 caC13 cgO ctO rfl rfl hdC13
  have FC13 := fun_mk (st := s_NoText___init__) lC13 cC13 kC13
  have bC13 := FC13.binds (ps := ["self", "row"]) fun _ _ _ _ _ _ us hl => match us, hl with | [_, _], _ => rfl
  have gC13 := PySem.W.mg_of X G aC13
  have XC14 : ErX K C14 (bmE CB) := ⟨⟨_, _, _, _, _, _, _, _, _, _, _, _, _, _, xC14⟩, rfl, tyC14⟩
  have ECC14 : ErC K C14 := XC14.erc saC14 kcC14 gaC14 gtC14 caC14 cgO ctO rfl rfl hdC14
  have FC14 := fun_mk (st := s_Large___init__) lC14 cC14 kC14
  have bC14 := FC14.binds (ps := ["self", "many"]) fun _ _ _ _ _ _ us hl => match us, hl with | [_, _], _ => rfl
  have gC14 := PySem.W.mg_of X G aC14
  have XC15 : ErX K C15 (bmE CB) := ⟨⟨_, _, _, _, _, _, _, _, _, _, _, _, _, _, xC15⟩, rfl, tyC15⟩
  have ECC15 : ErC K C15 := XC15.erc saC15 kcC15 gaC15 gtC15 caC15 cgO ctO rfl rfl hdC15
  have FC15 := fun_mk (st := s_NoLine___init__) lC15 cC15 kC15
  have bC15 := FC15.binds (ps := ["self", "line"]) fun _ _ _ _ _ _ us hl => match us, hl with | [_, _], _ => rfl
  have gC15 := PySem.W.mg_of X G aC15
  have F_law := fun_mk (st := s_law) l8 c8 k8
  refine ⟨PySem.W.fnOf "law" "law" (defArgs s_law) (defBody s_law) (defScope s_law) .none kV8 dc8 pm8 an8 cd8 ct8, fun s v => .of_eq rfl, fun base _ _ => ?_⟩
  have cB : CFn K mg "CutError" CB "__init__" fCB := ⟨gCB, ⟨rdO, gaO⟩, atO, kCB⟩
  have GB := ok_CutError_init (P := l.prog) (w := w) (base := base) (mg := mg) FCB mValueError vVO
  have E0 : Er l.prog w K mg base "NoNumber" C0 "found" ["self", "found"] := ⟨ECC0, noC0, gC0, _, _, iiC0, tiC0, ok_NoNumber_init FC0 cB GB bCB, bC0⟩
  have E1 : Er l.prog w K mg base "NoNet" C1 "found" ["self", "found"] := ⟨ECC1, noC1, gC1, _, _, iiC1, tiC1, ok_NoNet_init FC1 cB GB bCB, bC1⟩
  have E2 : Er l.prog w K mg base "NoNode" C2 "found" ["self", "found"] := ⟨ECC2, noC2, gC2, _, _, iiC2, tiC2, ok_NoNode_init FC2 cB GB bCB, bC2⟩
  have E3 : Er l.prog w K mg base "NoWire" C3 "found" ["self", "found"] := ⟨ECC3, noC3, gC3, _, _, iiC3, tiC3, ok_NoWire_init FC3 cB GB bCB, bC3⟩
  have E4 : Er l.prog w K mg base "NoSpot" C4 "found" ["self", "found"] := ⟨ECC4, noC4, gC4, _, _, iiC4, tiC4, ok_NoSpot_init FC4 cB GB bCB, bC4⟩
  have E5 : Er l.prog w K mg base "NoBox" C5 "found" ["self", "found"] := ⟨ECC5, noC5, gC5, _, _, iiC5, tiC5, ok_NoBox_init FC5 cB GB bCB, bC5⟩
  have E6 : Er l.prog w K mg base "NoWish" C6 "found" ["self", "found"] := ⟨ECC6, noC6, gC6, _, _, iiC6, tiC6, ok_NoWish_init FC6 cB GB bCB, bC6⟩
  have E7 : Er l.prog w K mg base "NoAim" C7 "found" ["self", "found"] := ⟨ECC7, noC7, gC7, _, _, iiC7, tiC7, ok_NoAim_init FC7 cB GB bCB, bC7⟩
  have E8 : Er l.prog w K mg base "NoOut" C8 "found" ["self", "found"] := ⟨ECC8, noC8, gC8, _, _, iiC8, tiC8, ok_NoOut_init FC8 cB GB bCB, bC8⟩
  have E9 : Er l.prog w K mg base "NoPattern" C9 "found" ["self", "found"] := ⟨ECC9, noC9, gC9, _, _, iiC9, tiC9, ok_NoPattern_init FC9 cB GB bCB, bC9⟩
  have E10 : Er l.prog w K mg base "NoFit" C10 "found" ["self", "found"] := ⟨ECC10, noC10, gC10, _, _, iiC10, tiC10, ok_NoFit_init FC10 cB GB bCB, bC10⟩
  have E11 : Er l.prog w K mg base "NoTree" C11 "found" ["self", "found"] := ⟨ECC11, noC11, gC11, _, _, iiC11, tiC11, ok_NoTree_init FC11 cB GB bCB, bC11⟩
  have E12 : Er l.prog w K mg base "NoName" C12 "found" ["self", "found"] := ⟨ECC12, noC12, gC12, _, _, iiC12, tiC12, ok_NoName_init FC12 cB GB bCB, bC12⟩
  have E13 : Er l.prog w K mg base "NoText" C13 "row" ["self", "row"] := ⟨ECC13, noC13, gC13, _, _, iiC13, tiC13, ok_NoText_init FC13 cB GB bCB, bC13⟩
  have E14 : Er l.prog w K mg base "Large" C14 "many" ["self", "many"] := ⟨ECC14, noC14, gC14, _, _, iiC14, tiC14, ok_Large_init FC14 cB GB bCB, bC14⟩
  have E15 : Er l.prog w K mg base "NoLine" C15 "line" ["self", "line"] := ⟨ECC15, noC15, gC15, _, _, iiC15, tiC15, ok_NoLine_init FC15 cB GB bCB, bC15⟩
  have hX : ∀ i, i < 16 → ErX K ([C0, C1, C2, C3, C4, C5, C6, C7, C8, C9, C10, C11, C12, C13, C14, C15].getD i 0) (bmE CB) := fun i hi => by
    rcases lt16 hi with rfl | rfl | rfl | rfl | rfl | rfl | rfl | rfl | rfl | rfl | rfl | rfl | rfl | rfl | rfl | rfl
    · exact XC0
    · exact XC1
    · exact XC2
    · exact XC3
    · exact XC4
    · exact XC5
    · exact XC6
    · exact XC7
    · exact XC8
    · exact XC9
    · exact XC10
    · exact XC11
    · exact XC12
    · exact XC13
    · exact XC14
    · exact XC15
  have GG : Errs l.prog w K mg base (fun i => [C0, C1, C2, C3, C4, C5, C6, C7, C8, C9, C10, C11, C12, C13, C14, C15].getD i 0) CB := ⟨E0, E1, E2, E3, E4, E5, E6, E7, E8, E9, E10, E11, E12, E13, E14, E15,
    errs_kit hX inj nb, fun i hi => by rw [(hX i hi).kit XCB, bmE_ref, decide_eq_true (rfl : CB = CB), Bool.or_true], fun i hi => by rw [(hX i hi).kitT (by decide +kernel), bmE_ty]; rfl,
    fun j hj => by rw [XCB.kit (hX j hj), bmB_ref, decide_eq_false (Ne.symm (nb j hj))]; rfl, by rw [XCB.kitT (by decide +kernel)]; rfl, ECCB, gCB, _, _, iiCB, tiCB, GB, bCB⟩
  have h1 := ok__law_cell (P := l.prog) (w := w) (base := base) D__law_cell mlen
  have h2 := ok__law_stream (P := l.prog) (w := w) (base := base) D__law_stream mint
  have h3 := ok__law_take (P := l.prog) (w := w) (base := base) D__law_take
  have i1 := ok__law_thing D__law_thing h3
  have i2 := ok__law_made D__law_made GG
  have i3 := ok__law_kinds D__law_kinds GG misinstance
  have i4 := ok__law_field D__law_field GG misinstance
  have i5 := go__law_right D__law_right GG i2 i3 i4 misinstance mValueError mlist mrepr mrange
  exact fn_law F_law GG h2 h1 i1 i5 i3 misinstance mValueError mrange mmax mmin mlen
end K04
open PySem PySem.W PyProof.Rows
set_option maxRecDepth 100000 in
set_option maxHeartbeats 0 in
theorem PySem.Challenge.cw_noughtcut_k04_refusals_apart_holds : PySem.Challenge.rw_noughtcut_k04_refusals_apart.Holds := by
  w_on; o_law; k_head; (case hw => w_witness2)
  k_fill
  refine Nc.gwalk (l := PySem.Challenge.rw_noughtcut_k04_refusals_apart) (n := 63) (k := 6) (x := "_law_script") (sp := fun K => Nc.spLaw K) rfl (by decide) rfl ⟨rfl, by decide, by decide⟩ (fun w h Y => PySem.W.kIn_of Y) ?F (fun K H a ns hl hS => ⟨a, ns, rfl, hS, hl, fun _ => rfl⟩)
  case F =>
    intro w mg fa h KX G hmg
    refine' K04.all_mk KX G hmg ?a0 ?l0 ?c0 ?k0 ?a1 ?l1 ?c1 ?k1 ?a2 ?l2 ?c2 ?k2 ?a3 ?l3 ?c3 ?k3 ?a4 ?l4 ?c4 ?k4 ?a5 ?l5 ?c5 ?k5 ?a6 ?l6 ?c6 ?k6 ?a7 ?l7 ?c7 ?k7 ?a8 ?l8 ?c8 ?k8 ?z_len ?z_range ?z_int ?z_max ?z_min ?z_isinstance ?z_repr ?z_list ?z_ValueError ?aCB ?xCB ?saCB ?tyCB ?kcCB ?hdCB ?gaCB ?gtCB ?caCB ?iiCB ?tiCB ?lCB ?cCB ?kCB ?aC0 ?xC0 ?saC0 ?tyC0 ?kcC0 ?hdC0 ?gaC0 ?gtC0 ?caC0 ?iiC0 ?tiC0 ?noC0 ?lC0 ?cC0 ?kC0 ?aC1 ?xC1 ?saC1 ?tyC1 ?kcC1 ?hdC1 ?gaC1 ?gtC1 ?caC1 ?iiC1 ?tiC1 ?noC1 ?lC1 ?cC1 ?kC1 ?aC2 ?xC2 ?saC2 ?tyC2 ?kcC2 ?hdC2 ?gaC2 ?gtC2 ?caC2 ?iiC2 ?tiC2 ?noC2 ?lC2 ?cC2 ?kC2 ?aC3 ?xC3 ?saC3 ?tyC3 ?kcC3 ?hdC3 ?gaC3 ?gtC3 ?caC3 ?iiC3 ?tiC3 ?noC3 ?lC3 ?cC3 ?kC3 ?aC4 ?xC4 ?saC4 ?tyC4 ?kcC4 ?hdC4 ?gaC4 ?gtC4 ?caC4 ?iiC4 ?tiC4 ?noC4 ?lC4 ?cC4 ?kC4 ?aC5 ?xC5 ?saC5 ?tyC5 ?kcC5 ?hdC5 ?gaC5 ?gtC5 ?caC5 ?iiC5 ?tiC5 ?noC5 ?lC5 ?cC5 ?kC5 ?aC6 ?xC6 ?saC6 ?tyC6 ?kcC6 ?hdC6 ?gaC6 ?gtC6 ?caC6 ?iiC6 ?tiC6 ?noC6 ?lC6 ?cC6 ?kC6 ?aC7 ?xC7 ?saC7 ?tyC7 ?kcC7 ?hdC7 ?gaC7 ?gtC7 ?caC7 ?iiC7 ?tiC7 ?noC7 ?lC7 ?cC7 ?kC7 ?aC8 ?xC8 ?saC8 ?tyC8 ?kcC8 ?hdC8 ?gaC8 ?gtC8 ?caC8 ?iiC8 ?tiC8 ?noC8 ?lC8 ?cC8 ?kC8 ?aC9 ?xC9 ?saC9 ?tyC9 ?kcC9 ?hdC9 ?gaC9 ?gtC9 ?caC9 ?iiC9 ?tiC9 ?noC9 ?lC9 ?cC9 ?kC9 ?aC10 ?xC10 ?saC10 ?tyC10 ?kcC10 ?hdC10 ?gaC10 ?gtC10 ?caC10 ?iiC10 ?tiC10 ?noC10 ?lC10 ?cC10 ?kC10 ?aC11 ?xC11 ?saC11 ?tyC11 ?kcC11 ?hdC11 ?gaC11 ?gtC11 ?caC11 ?iiC11 ?tiC11 ?noC11 ?lC11 ?cC11 ?kC11 ?aC12 ?xC12 ?saC12 ?tyC12 ?kcC12 ?hdC12 ?gaC12 ?gtC12 ?caC12 ?iiC12 ?tiC12 ?noC12 ?lC12 ?cC12 ?kC12 ?aC13 ?xC13 ?saC13 ?tyC13 ?kcC13 ?hdC13 ?gaC13 ?gtC13 ?caC13 ?iiC13 ?tiC13 ?noC13 ?lC13 ?cC13 ?kC13 ?aC14 ?xC14 ?saC14 ?tyC14 ?kcC14 ?hdC14 ?gaC14 ?gtC14 ?caC14 ?iiC14 ?tiC14 ?noC14 ?lC14 ?cC14 ?kC14 ?aC15 ?xC15 ?saC15 ?tyC15 ?kcC15 ?hdC15 ?gaC15 ?gtC15 ?caC15 ?iiC15 ?tiC15 ?noC15 ?lC15 ?cC15 ?kC15 ?cgO ?ctO ?rdO ?gaO ?atO ?vVO ?inj ?nb
    (case a0 => k_is)
    (case l0 => k_is)
    (case c0 => k_is)
    (case k0 => k_is)
    (case a1 => k_is)
    (case l1 => k_is)
    (case c1 => k_is)
    (case k1 => k_is)
    (case a2 => k_is)
    (case l2 => k_is)
    (case c2 => k_is)
    (case k2 => k_is)
    (case a3 => k_is)
    (case l3 => k_is)
    (case c3 => k_is)
    (case k3 => k_is)
    (case a4 => k_is)
    (case l4 => k_is)
    (case c4 => k_is)
    (case k4 => k_is)
    (case a5 => k_is)
    (case l5 => k_is)
    (case c5 => k_is)
    (case k5 => k_is)
    (case a6 => k_is)
    (case l6 => k_is)
    (case c6 => k_is)
    (case k6 => k_is)
    (case a7 => k_is)
    (case l7 => k_is)
    (case c7 => k_is)
    (case k7 => k_is)
    (case a8 => k_is)
    (case l8 => k_is)
    (case c8 => k_is)
    (case k8 => k_is)
    (case z_len => k_is)
    (case z_range => k_is)
    (case z_int => k_is)
    (case z_max => k_is)
    (case z_min => k_is)
    (case z_isinstance => k_is)
    (case z_repr => k_is)
    (case z_list => k_is)
    (case z_ValueError => k_is)
    (case aCB => k_is)
    (case xCB => k_is)
    (case saCB => k_is)
    (case tyCB => k_is)
    (case kcCB => k_is)
    (case hdCB => k_is)
    (case gaCB => k_is)
    (case gtCB => k_is)
    (case caCB => k_is)
    (case iiCB => k_is)
    (case tiCB => k_is)
    (case lCB => k_is)
    (case cCB => k_is)
    (case kCB => k_is)
    (case aC0 => k_is)
    (case xC0 => k_is)
    (case saC0 => k_is)
    (case tyC0 => k_is)
    (case kcC0 => k_is)
    (case hdC0 => k_is)
    (case gaC0 => k_is)
    (case gtC0 => k_is)
    (case caC0 => k_is)
    (case iiC0 => k_is)
    (case tiC0 => k_is)
    (case noC0 => k_is)
    (case lC0 => k_is)
    (case cC0 => k_is)
    (case kC0 => k_is)
    (case aC1 => k_is)
    (case xC1 => k_is)
    (case saC1 => k_is)
    (case tyC1 => k_is)
    (case kcC1 => k_is)
    (case hdC1 => k_is)
    (case gaC1 => k_is)
    (case gtC1 => k_is)
    (case caC1 => k_is)
    (case iiC1 => k_is)
    (case tiC1 => k_is)
    (case noC1 => k_is)
    (case lC1 => k_is)
    (case cC1 => k_is)
    (case kC1 => k_is)
    (case aC2 => k_is)
    (case xC2 => k_is)
    (case saC2 => k_is)
    (case tyC2 => k_is)
    (case kcC2 => k_is)
    (case hdC2 => k_is)
    (case gaC2 => k_is)
    (case gtC2 => k_is)
    (case caC2 => k_is)
    (case iiC2 => k_is)
    (case tiC2 => k_is)
    (case noC2 => k_is)
    (case lC2 => k_is)
    (case cC2 => k_is)
    (case kC2 => k_is)
    (case aC3 => k_is)
    (case xC3 => k_is)
    (case saC3 => k_is)
    (case tyC3 => k_is)
    (case kcC3 => k_is)
    (case hdC3 => k_is)
    (case gaC3 => k_is)
    (case gtC3 => k_is)
    (case caC3 => k_is)
    (case iiC3 => k_is)
    (case tiC3 => k_is)
    (case noC3 => k_is)
    (case lC3 => k_is)
    (case cC3 => k_is)
    (case kC3 => k_is)
    (case aC4 => k_is)
    (case xC4 => k_is)
    (case saC4 => k_is)
    (case tyC4 => k_is)
    (case kcC4 => k_is)
    (case hdC4 => k_is)
    (case gaC4 => k_is)
    (case gtC4 => k_is)
    (case caC4 => k_is)
    (case iiC4 => k_is)
    (case tiC4 => k_is)
    (case noC4 => k_is)
    (case lC4 => k_is)
    (case cC4 => k_is)
    (case kC4 => k_is)
    (case aC5 => k_is)
    (case xC5 => k_is)
    (case saC5 => k_is)
    (case tyC5 => k_is)
    (case kcC5 => k_is)
    (case hdC5 => k_is)
    (case gaC5 => k_is)
    (case gtC5 => k_is)
    (case caC5 => k_is)
    (case iiC5 => k_is)
    (case tiC5 => k_is)
    (case noC5 => k_is)
    (case lC5 => k_is)
    (case cC5 => k_is)
    (case kC5 => k_is)
    (case aC6 => k_is)
    (case xC6 => k_is)
    (case saC6 => k_is)
    (case tyC6 => k_is)
    (case kcC6 => k_is)
    (case hdC6 => k_is)
    (case gaC6 => k_is)
    (case gtC6 => k_is)
    (case caC6 => k_is)
    (case iiC6 => k_is)
    (case tiC6 => k_is)
    (case noC6 => k_is)
    (case lC6 => k_is)
    (case cC6 => k_is)
    (case kC6 => k_is)
    (case aC7 => k_is)
    (case xC7 => k_is)
    (case saC7 => k_is)
    (case tyC7 => k_is)
    (case kcC7 => k_is)
    (case hdC7 => k_is)
    (case gaC7 => k_is)
    (case gtC7 => k_is)
    (case caC7 => k_is)
    (case iiC7 => k_is)
    (case tiC7 => k_is)
    (case noC7 => k_is)
    (case lC7 => k_is)
    (case cC7 => k_is)
    (case kC7 => k_is)
    (case aC8 => k_is)
    (case xC8 => k_is)
    (case saC8 => k_is)
    (case tyC8 => k_is)
    (case kcC8 => k_is)
    (case hdC8 => k_is)
    (case gaC8 => k_is)
    (case gtC8 => k_is)
    (case caC8 => k_is)
    (case iiC8 => k_is)
    (case tiC8 => k_is)
    (case noC8 => k_is)
    (case lC8 => k_is)
    (case cC8 => k_is)
    (case kC8 => k_is)
    (case aC9 => k_is)
    (case xC9 => k_is)
    (case saC9 => k_is)
    (case tyC9 => k_is)
    (case kcC9 => k_is)
    (case hdC9 => k_is)
    (case gaC9 => k_is)
    (case gtC9 => k_is)
    (case caC9 => k_is)
    (case iiC9 => k_is)
    (case tiC9 => k_is)
    (case noC9 => k_is)
    (case lC9 => k_is)
    (case cC9 => k_is)
    (case kC9 => k_is)
    (case aC10 => k_is)
    (case xC10 => k_is)
    (case saC10 => k_is)
    (case tyC10 => k_is)
    (case kcC10 => k_is)
    (case hdC10 => k_is)
    (case gaC10 => k_is)
    (case gtC10 => k_is)
    (case caC10 => k_is)
    (case iiC10 => k_is)
    (case tiC10 => k_is)
    (case noC10 => k_is)
    (case lC10 => k_is)
    (case cC10 => k_is)
    (case kC10 => k_is)
    (case aC11 => k_is)
    (case xC11 => k_is)
    (case saC11 => k_is)
    (case tyC11 => k_is)
    (case kcC11 => k_is)
    (case hdC11 => k_is)
    (case gaC11 => k_is)
    (case gtC11 => k_is)
    (case caC11 => k_is)
    (case iiC11 => k_is)
    (case tiC11 => k_is)
    (case noC11 => k_is)
    (case lC11 => k_is)
    (case cC11 => k_is)
    (case kC11 => k_is)
    (case aC12 => k_is)
    (case xC12 => k_is)
    (case saC12 => k_is)
    (case tyC12 => k_is)
    (case kcC12 => k_is)
    (case hdC12 => k_is)
    (case gaC12 => k_is)
    (case gtC12 => k_is)
    (case caC12 => k_is)
    (case iiC12 => k_is)
    (case tiC12 => k_is)
    (case noC12 => k_is)
    (case lC12 => k_is)
    (case cC12 => k_is)
    (case kC12 => k_is)
    (case aC13 => k_is)
    (case xC13 => k_is)
    (case saC13 => k_is)
    (case tyC13 => k_is)
    (case kcC13 => k_is)
    (case hdC13 => k_is)
    (case gaC13 => k_is)
    (case gtC13 => k_is)
    (case caC13 => k_is)
    (case iiC13 => k_is)
    (case tiC13 => k_is)
    (case noC13 => k_is)
    (case lC13 => k_is)
    (case cC13 => k_is)
    (case kC13 => k_is)
    (case aC14 => k_is)
    (case xC14 => k_is)
    (case saC14 => k_is)
    (case tyC14 => k_is)
    (case kcC14 => k_is)
    (case hdC14 => k_is)
    (case gaC14 => k_is)
    (case gtC14 => k_is)
    (case caC14 => k_is)
    (case iiC14 => k_is)
    (case tiC14 => k_is)
    (case noC14 => k_is)
    (case lC14 => k_is)
    (case cC14 => k_is)
    (case kC14 => k_is)
    (case aC15 => k_is)
    (case xC15 => k_is)
    (case saC15 => k_is)
    (case tyC15 => k_is)
    (case kcC15 => k_is)
    (case hdC15 => k_is)
    (case gaC15 => k_is)
    (case gtC15 => k_is)
    (case caC15 => k_is)
    (case iiC15 => k_is)
    (case tiC15 => k_is)
    (case noC15 => k_is)
    (case lC15 => k_is)
    (case cC15 => k_is)
    (case kC15 => k_is)
    (case cgO => k_is)
    (case ctO => k_is)
    (case rdO => k_is)
    (case gaO => k_is)
    (case atO => k_is)
    (case vVO => k_is)
    (case inj => decide)
    (case nb => decide)
