import PyProof.Rows.All
import Wide.All
import OpenK.AllK
import Wide.FinOn
import HandS.Base
import HandS.Call
import HandS.List
import HandS.Comp
import HandS.Iter
import HandS.Ends
import HandS.Words
import HandS.Evl
import HandS.WordsList
import HandS.Zip
import HandS.Wide
import HandS.Gcd
import HandS.IsInst
import HandS.TupMul
import HandS.Text
import HandS.ClsMeth
import HandS.RaiseMore
import HandS.ListEq
import HandS.TupLe
import HandS.Flow
import HandS.ForMost
import PySem.Challenge.RW_noughtcut_k01_kinds_of_things
set_option Elab.async false
set_option linter.all false
section
namespace Nc
/-! ### fractions: Rat's own top and bottom -/
def Sz (n d : Nat) (r : Rat) : Prop := r.num.natAbs < 2 ^ n ∧ r.den < 2 ^ d
theorem den_pos (r : Rat) : (0 : Int) < (r.den : Int) := by
  have := r.den_nz
  omega
theorem num_div {t b : Int} (hb : 0 < b) : t / ((Nat.gcd t.natAbs b.natAbs : Nat) : Int) = (Rat.divInt t b).num := by
  rw [Rat.num_divInt, Int.sign_eq_one_of_pos hb, Int.one_mul, Int.gcd_comm]
  rfl
theorem den_div {t b : Int} (hb : 0 < b) : b / ((Nat.gcd t.natAbs b.natAbs : Nat) : Int) = ((Rat.divInt t b).den : Int) := by
  rw [Rat.den_divInt, if_neg (by omega), Int.gcd_comm]
  have e : b = ((b.natAbs : Nat) : Int) := by omega
  conv => lhs; rw [e]
  rfl
theorem gcd_pos {t b : Int} (hb : 0 < b) : (0 : Int) < ((Nat.gcd t.natAbs b.natAbs : Nat) : Int) := by
  have := Nat.gcd_pos_of_pos_right t.natAbs (n := b.natAbs) (by omega)
  omega
theorem gcd_le {t b : Int} (hb : 0 < b) : ((Nat.gcd t.natAbs b.natAbs : Nat) : Int) ≤ b := by
  have := Nat.gcd_le_right t.natAbs (n := b.natAbs) (by omega)
  omega
theorem add_is (r s : Rat) : Rat.divInt (r.num * (s.den : Int) + s.num * (r.den : Int)) ((r.den : Int) * (s.den : Int)) = r + s := by
  have h1 := den_pos r
  have h2 := den_pos s
  rw [← Rat.divInt_add_divInt r.num s.num (by omega) (by omega), Rat.num_divInt_den, Rat.num_divInt_den]
theorem mul_is (r s : Rat) : Rat.divInt (r.num * s.num) ((r.den : Int) * (s.den : Int)) = r * s := by
  rw [← Rat.divInt_mul_divInt r.num s.num, Rat.num_divInt_den, Rat.num_divInt_den]
theorem natAbs_ediv_le (a b : Int) : (a / b).natAbs ≤ a.natAbs := Int.natAbs_ediv_le_natAbs a b
/-- the size of a quotient by the shared part -/
theorem sz_div {t b : Int} {n d : Nat} (hb : 0 < b) (ht : t.natAbs < 2 ^ n) (hz : b.natAbs < 2 ^ d) : Sz n d (Rat.divInt t b) := by
  constructor
  · rw [← num_div hb]
    exact Nat.lt_of_le_of_lt (natAbs_ediv_le _ _) ht
  · have h := den_div (t := t) hb
    have h2 := natAbs_ediv_le b ((Nat.gcd t.natAbs b.natAbs : Nat) : Int)
    rw [h] at h2
    have : ((Rat.divInt t b).den : Int).natAbs = (Rat.divInt t b).den := Int.natAbs_natCast _
    omega
theorem lt_mul {a b : Nat} {i j : Int} (ha : i.natAbs < 2 ^ a) (hb : j.natAbs < 2 ^ b) : (i * j).natAbs < 2 ^ (a + b) := by
  rw [Int.natAbs_mul, Nat.pow_add]
  exact Nat.mul_lt_mul'' ha hb
theorem lt_add {n : Nat} {i j : Int} (ha : i.natAbs < 2 ^ n) (hb : j.natAbs < 2 ^ n) : (i + j).natAbs < 2 ^ (n + 1) := by
  have := Int.natAbs_add_le i j
  rw [Nat.pow_succ]
  omega
theorem lt_mono {n m : Nat} {i : Nat} (h : i < 2 ^ n) (hm : n ≤ m) : i < 2 ^ m := Nat.lt_of_lt_of_le h (Nat.pow_le_pow_right (by decide) hm)
theorem Sz.mono {n m d e : Nat} {r : Rat} (h : Sz n d r) (hm : n ≤ m) (he : d ≤ e) : Sz m e r := ⟨lt_mono h.1 hm, lt_mono h.2 he⟩
theorem Sz.den {n d : Nat} {r : Rat} (h : Sz n d r) : ((r.den : Int)).natAbs < 2 ^ d := by
  rw [Int.natAbs_natCast]
  exact h.2
theorem sz_add {n d m e N : Nat} {r s : Rat} (hr : Sz n d r) (hs : Sz m e s) (h1 : n + e ≤ N := by omega) (h2 : m + d ≤ N := by omega) : Sz (N + 1) (d + e) (r + s) := by
  rw [← add_is]
  have k1 := lt_mono (lt_mul hr.1 hs.den) h1
  have k2 := lt_mono (lt_mul hs.1 hr.den) h2
  have k3 := lt_mul hr.den hs.den
  exact sz_div (Int.mul_pos (den_pos r) (den_pos s)) (lt_add k1 k2) k3
theorem sz_mul {n d m e : Nat} {r s : Rat} (hr : Sz n d r) (hs : Sz m e s) : Sz (n + m) (d + e) (r * s) := by
  rw [← mul_is]
  exact sz_div (Int.mul_pos (den_pos r) (den_pos s)) (lt_mul hr.1 hs.1) (lt_mul hr.den hs.den)
theorem sz_zero : Sz 1 1 (0 : Rat) := ⟨by decide, by decide⟩
theorem sz_one : Sz 1 1 (1 : Rat) := ⟨by decide, by decide⟩
/-! ### rows -/
/-- what a row weighs another one -/
def weighs (l : List (Rat × Rat)) : Rat := l.foldl (fun t p => t + p.1 * p.2) 0
theorem foldl_weigh : ∀ (l : List (Rat × Rat)) (t : Rat), l.foldl (fun t p => t + p.1 * p.2) t = t + weighs l
  | [], t => by simp [weighs, Rat.add_zero]
  | p :: r, t => by
    unfold weighs
    simp only [List.foldl_cons]
    rw [foldl_weigh r, foldl_weigh r (0 + p.1 * p.2)]
    grind
theorem weighs_cons (p : Rat × Rat) (r : List (Rat × Rat)) : weighs (p :: r) = p.1 * p.2 + weighs r := by
  unfold weighs
  simp only [List.foldl_cons]
  rw [foldl_weigh r]
  unfold weighs
  grind
theorem weighs_take {l : List (Rat × Rat)} {i : Nat} {p : Rat × Rat} (h : l[i]? = some p) : weighs (l.take (i + 1)) = weighs (l.take i) + p.1 * p.2 := by
  unfold weighs
  rw [List.take_add_one, h, List.foldl_append]
  rfl
theorem weighs_add : ∀ (a b c : List Rat), a.length = b.length → weighs (((a.zip b).map fun p => p.1 + p.2).zip c) = weighs (a.zip c) + weighs (b.zip c)
  | [], [], c, _ => by simp [weighs, Rat.add_zero]
  | x :: a, y :: b, [], _ => by simp [weighs, Rat.add_zero]
  | x :: a, y :: b, z :: c, h => by
    have ih := weighs_add a b c (by simpa using h)
    simp only [List.zip_cons_cons, List.map_cons, weighs_cons]
    rw [ih]
    grind
theorem weighs_mul (by_ : Rat) : ∀ (a c : List Rat), weighs ((a.map fun x => by_ * x).zip c) = by_ * weighs (a.zip c)
  | [], c => by simp [weighs, Rat.mul_zero]
  | x :: a, [] => by simp [weighs, Rat.mul_zero]
  | x :: a, z :: c => by
    have ih := weighs_mul by_ a c
    simp only [List.zip_cons_cons, List.map_cons, weighs_cons]
    rw [ih]
    grind
/-! ### sums: a row and a number -/
abbrev Sum2 := List Rat × Rat
def tells (s : Sum2) (row : List Rat) : Rat := weighs (s.1.zip row) + s.2
def splus (s t : Sum2) : Sum2 := ((s.1.zip t.1).map fun p => p.1 + p.2, s.2 + t.2)
def stimes (q : Rat) (s : Sum2) : Sum2 := (s.1.map fun x => q * x, q * s.2)
theorem tells_splus (s t : Sum2) (row : List Rat) (h : s.1.length = t.1.length) : tells (splus s t) row = tells s row + tells t row := by
  unfold tells splus
  simp only
  rw [weighs_add _ _ _ h]
  grind
theorem tells_stimes (q : Rat) (s : Sum2) (row : List Rat) : tells (stimes q s) row = q * tells s row := by
  unfold tells stimes
  simp only
  rw [weighs_mul]
  grind
theorem splus_comm (s t : Sum2) : splus s t = splus t s := by
  unfold splus
  have : (s.1.zip t.1).map (fun p => p.1 + p.2) = (t.1.zip s.1).map fun p => p.1 + p.2 := by
    apply List.ext_getElem
    · simp [Nat.min_comm]
    · intro i h1 h2
      simp only [List.getElem_map, List.getElem_zip]
      exact Rat.add_comm _ _
  rw [this, Rat.add_comm]
/-- all of a row below a size -/
def SzL (n d : Nat) (l : List Rat) : Prop := ∀ r ∈ l, Sz n d r
theorem sz_weighs {n d m e : Nat} (hn : d ≤ n) (hm : e ≤ m) : ∀ (i : Nat) (l : List (Rat × Rat)), i ≤ l.length → (∀ p ∈ l, Sz n d p.1 ∧ Sz m e p.2) → Sz (1 + i * (n + m + 1)) (1 + i * (d + e)) (weighs (l.take i))
  | 0, l, _, _ => by simpa [weighs] using sz_zero
  | i + 1, l, h, hl => by
    have ih := sz_weighs hn hm i l (by omega) hl
    have e1 : l[i]? = some l[i] := List.getElem?_eq_getElem (by omega)
    rw [weighs_take e1]
    have hp := hl l[i] (List.getElem_mem _)
    have le : i * (d + e) ≤ i * (n + m + 1) := Nat.mul_le_mul_left i (by omega)
    have := sz_add (N := i * (n + m + 1) + (n + m + 1)) ih (sz_mul hp.1 hp.2) (by omega) (by omega)
    exact this.mono (by rw [Nat.add_mul]; omega) (by rw [Nat.add_mul]; omega)
theorem sz_of_weighs {n d m e : Nat} {a b : List Rat} (hn : d ≤ n) (hm : e ≤ m) (ha : SzL n d a) (hb : SzL m e b) (hl : a.length = b.length) : Sz (1 + a.length * (n + m + 1)) (1 + a.length * (d + e)) (weighs (a.zip b)) := by
  have h := sz_weighs hn hm a.length (a.zip b) (by rw [List.length_zip]; omega) (fun p hp => ⟨ha _ (List.of_mem_zip hp).1, hb _ (List.of_mem_zip hp).2⟩)
  rwa [List.take_of_length_le (by rw [List.length_zip]; omega)] at h
/-! ### the greatest shared divisor, step by step -/
theorem gcd_step {a b : Int} (ha : 0 ≤ a) (hb : 0 < b) : Nat.gcd b.natAbs (a % b).natAbs = Nat.gcd a.natAbs b.natAbs := by
  have e : (a % b).natAbs = a.natAbs % b.natAbs := by
    rw [Int.natAbs_emod_of_nonneg ha]
  rw [e, Nat.gcd_comm a.natAbs, Nat.gcd_rec b.natAbs a.natAbs, Nat.gcd_comm]
end Nc
end
section
set_option maxRecDepth 100000
set_option maxHeartbeats 4000000
namespace Nc
open PySem L2 Evl PyProof.Rows
/-! ### what stands for a fraction, a row, a sum -/
def FrV (K : PySem.W.Frag) (H : Hp) (v : V) (r : Rat) : Prop := ∃ t, v = .ref t ∧ SqT K H t [.int r.num, .int (r.den : Int)]
abbrev FrL (K : PySem.W.Frag) (H : Hp) : List V → List Rat → Prop := Paired (FrV K H)
def RowV (K : PySem.W.Frag) (H : Hp) (v : V) (rs : List Rat) : Prop := ∃ t xs, v = .ref t ∧ SqT K H t xs ∧ FrL K H xs rs
def SumV (K : PySem.W.Frag) (H : Hp) (v : V) (s : Sum2) : Prop := ∃ t a b, v = .ref t ∧ SqT K H t [a, b] ∧ RowV K H a s.1 ∧ FrV K H b s.2
variable {K : PySem.W.Frag} {H H' : Hp}
theorem FrV.ex {v : V} {r : Rat} (e : Ex H H') (h : FrV K H v r) : FrV K H' v r := by
  obtain ⟨t, rfl, q⟩ := h
  exact ⟨t, rfl, ex_t e q⟩
theorem pmono {α β : Type} {F G : α → β → Prop} (h : ∀ a b, F a b → G a b) : ∀ {xs : List α} {ys : List β}, Paired F xs ys → Paired G xs ys
  | _, _, .nil => .nil
  | _, _, .cons a t => .cons (h _ _ a) (pmono h t)
theorem FrL.ex {xs : List V} {rs : List Rat} (e : Ex H H') (h : FrL K H xs rs) : FrL K H' xs rs := pmono (fun _ _ => FrV.ex e) h
theorem RowV.ex {v : V} {rs : List Rat} (e : Ex H H') (h : RowV K H v rs) : RowV K H' v rs := by
  obtain ⟨t, xs, rfl, q, l⟩ := h
  exact ⟨t, xs, rfl, ex_t e q, FrL.ex e l⟩
theorem SumV.ex {v : V} {s : Sum2} (e : Ex H H') (h : SumV K H v s) : SumV K H' v s := by
  obtain ⟨t, a, b, rfl, q, l, n⟩ := h
  exact ⟨t, a, b, rfl, ex_t e q, l.ex e, n.ex e⟩
theorem pget {α β : Type} {F : α → β → Prop} : ∀ {xs : List α} {ys : List β} {i : Nat} {x : α}, Paired F xs ys → xs[i]? = some x → ∃ y, ys[i]? = some y ∧ F x y
  | _, _, _, _, .nil, e => by simp at e
  | _, _, 0, _, .cons r _, e => by simp at e; subst e; exact ⟨_, rfl, r⟩
  | _, _, i + 1, x, .cons _ t, e => by
    obtain ⟨u, h1, h2⟩ := pget (i := i) (x := x) t (by simpa using e)
    exact ⟨u, by simpa using h1, h2⟩
theorem pget' {α β : Type} {F : α → β → Prop} : ∀ {xs : List α} {ys : List β} {i : Nat} {y : β}, Paired F xs ys → ys[i]? = some y → ∃ x, xs[i]? = some x ∧ F x y
  | _, _, _, _, .nil, e => by simp at e
  | _, _, 0, _, .cons r _, e => by simp at e; subst e; exact ⟨_, rfl, r⟩
  | _, _, i + 1, y, .cons _ t, e => by
    obtain ⟨u, h1, h2⟩ := pget' (i := i) (y := y) t (by simpa using e)
    exact ⟨u, by simpa using h1, h2⟩
/-! ### data -/
def fd (r : Rat) : PyData := .tuple [.int r.num, .int (r.den : Int)]
def sd (s : Sum2) : PyData := .tuple [.tuple (s.1.map fd), fd s.2]
theorem FrV.dp {v : V} {r : Rat} (h : FrV K H v r) : Dp K H v (fd r) := by
  obtain ⟨t, rfl, q⟩ := h
  exact .tup q (.cons (.int _) (.cons (.int _) .nil))
theorem FrL.dp : ∀ {xs : List V} {rs : List Rat}, FrL K H xs rs → DpAll K H xs (rs.map fd)
  | _, _, .nil => .nil
  | _, _, .cons a t => .cons a.dp (FrL.dp t)
theorem RowV.dp {v : V} {rs : List Rat} (h : RowV K H v rs) : Dp K H v (.tuple (rs.map fd)) := by
  obtain ⟨t, xs, rfl, q, l⟩ := h
  exact .tup q (FrL.dp l)
theorem SumV.dp {v : V} {s : Sum2} (h : SumV K H v s) : Dp K H v (sd s) := by
  obtain ⟨t, a, b, rfl, q, l, n⟩ := h
  exact .tup q (.cons l.dp (.cons n.dp .nil))
/-! ### shapes -/
theorem lay_fd (r : Rat) : (fd r).canLay0 = true := rfl
theorem layAll_fd : ∀ rs : List Rat, PyData.canLayAll0 (rs.map fd) = true
  | [] => rfl
  | r :: rs => by
    show ((fd r).canLay0 && PyData.canLayAll0 (rs.map fd)) = true
    rw [layAll_fd rs]
    rfl
end Nc
end
section
set_option maxRecDepth 100000
set_option maxHeartbeats 4000000
namespace Nc
open PySem L2 Evl PyProof.Rows
/-! ### a def of the top, with and without its promise -/
structure Df (K : PySem.W.Frag) (mg : Str → Option Value) (x : Str) (st : Stmt) (ps : List Str) : Prop where
  ex : ∃ f fd, mg x = some (.ref f) ∧ Fun K x x st f fd ∧ Binds K fd ps []
structure Ok (P : Program) (w : World) (K : PySem.W.Frag) (mg : Str → Option Value) (base : Heap) (k : Nat) (x : Str) (ps : List Str) (sp : Sp) : Prop where
  ex : ∃ f fd, mg x = some (.ref f) ∧ PySem.W.keepIn K (.ref f) = true ∧ FnOk P w K mg base CX0 k f fd ps sp ∧ Binds K fd ps []
theorem Df.ok {P : Program} {w : World} {K : PySem.W.Frag} {mg : Str → Option Value} {base : Heap} {k : Nat} {x : Str} {st : Stmt} {ps : List Str} {sp : Sp} (D : Df K mg x st ps)
    (h : ∀ f fd, Fun K x x st f fd → FnOk P w K mg base CX0 k f fd ps sp) : Ok P w K mg base k x ps sp := by
  obtain ⟨f, fd, g, F, b⟩ := D.ex
  exact ⟨f, fd, g, F.kp, h f fd F, b⟩
theorem Ok.mono {P : Program} {w : World} {K : PySem.W.Frag} {mg : Str → Option Value} {base : Heap} {j k : Nat} {x : Str} {ps : List Str} {sp : Sp} (D : Ok P w K mg base j x ps sp) (h : j ≤ k) : Ok P w K mg base k x ps sp := by
  obtain ⟨f, fd, g, kp, F, b⟩ := D.ex
  exact ⟨f, fd, g, kp, F.mono h, b⟩
theorem Df.of {K : PySem.W.Frag} {h : Heap} {mg : Str → Option Value} (X : K.In h) (G : h.Ns mainGlobals mg) {x : Str} {st : Stmt} {ps : List Str} {f : Addr} {oc : Value} {od an : Option Addr} {osl : Array (Option Value)} {kV doc pm cdv ct : Value}
    (a : PySem.W.nsIn K mainGlobals x = some (some (.ref f))) (l : K.lookup f = some ⟨oc, od, .func (PySem.W.fnOf x x (defArgs st) (defBody st) (defScope st) .none kV doc pm an cdv ct), osl⟩)
    (c : PySem.W.codeIn K cdv x = true) (k : PySem.W.keepIn K (.ref f) = true)
    (hb : ∀ (kV doc pm : Value) (an : Option Addr) (cdv ct : Value) (us : List Value), us.length = ps.length → bindArgs (PySem.W.fnOf x x (defArgs st) (defBody st) (defScope st) .none kV doc pm an cdv ct) ⟨us, []⟩ = pure (ps.zip us)) : Df K mg x st ps :=
  have F := fun_mk (st := st) l c k
  ⟨f, _, PySem.W.mg_of X G a, F, F.binds hb⟩
section
variable {X : Cx} {k : Nat} {x : Str} {ps : List Str} {sp : Sp} {e : Expr} {es : List Expr} {t : TA} {p pos : Pos}
/-- a call of such a def -/
theorem cl (D : Ok X.prog X.w X.K X.mg X.base k x ps sp) (hr : Room k X.A) (ha : PA X (e :: es) t) (hg : Gl X x := by rfl) (hdb : (x == ("__debug__" : Str)) = false := by decide)
    (he : starEach (e :: es) X.env = (false, eval e X.env) :: starEach es X.env := by rfl) (hpl : (backTo pos (starEach es X.env)).any (·.1) = false := by rfl) : PE X (.Call (.Name x p) (e :: es) [] pos) (tCall sp [] E0 t) := by
  obtain ⟨f, fd, g, kp, F, b⟩ := D.ex
  exact pe_call F hr hg g kp b .nil pass0 ha hdb he hpl
end
/-! ### small facts -/
theorem at0 {a : V} {l : List V} : atI (a :: l) 0 = some a := atI_nat (j := 0) rfl
theorem at1 {a b : V} {l : List V} : atI (a :: b :: l) 1 = some b := atI_nat (j := 1) rfl
theorem at2 {a b c : V} {l : List V} : atI (a :: b :: c :: l) 2 = some c := atI_nat (j := 2) rfl
theorem at3 {a b c d : V} {l : List V} : atI (a :: b :: c :: d :: l) 3 = some d := atI_nat (j := 3) rfl
theorem at_mem {xs : List V} {d : Int} (h0 : 0 ≤ d) (h1 : d < xs.length) : ∃ v, atI xs d = some v ∧ v ∈ xs := by
  have h : d.toNat < xs.length := by omega
  refine ⟨xs[d.toNat], ?_, List.getElem_mem _⟩
  have e : d = (d.toNat : Int) := by omega
  have q : atI xs (d.toNat : Int) = some xs[d.toNat] := atI_nat (List.getElem?_eq_getElem h)
  rw [← e] at q
  exact q
theorem mulOk {i j : Int} {a b : Nat} (ha : i.natAbs < 2 ^ a) (hb : j.natAbs < 2 ^ b) (h0 : 0 < a := by omega) (h1 : 0 < b := by omega) (h : a + b ≤ 1000000 := by omega) : CMulW i j := wide_mul ha hb h0 h1 h
section
variable {K : PySem.W.Frag} {σ : L2.St} {H : Hp}
/-- an item of a tuple that stands in a slot -/
theorem ix0 {i : Nat} {t : Addr} {a : V} {l : List V} (hs : σ[i]? = some (some (.ref t))) (q : SqT K H t (a :: l)) : Ev (tOp (rIxT K) (tVar i) (tC (.int 0))) σ H a := ev_op (ev_var hs) ev_c (rv_ixT q at0)
theorem ix1 {i : Nat} {t : Addr} {a b : V} {l : List V} (hs : σ[i]? = some (some (.ref t))) (q : SqT K H t (a :: b :: l)) : Ev (tOp (rIxT K) (tVar i) (tC (.int 1))) σ H b := ev_op (ev_var hs) ev_c (rv_ixT q at1)
end
theorem ix_tK {X : Cx} (K : PySem.W.Frag) (h : X.K = K := by rfl) : IxR X (rIxT K) := by
  subst h
  exact ix_tup
theorem ix_lK {X : Cx} (K : PySem.W.Frag) (h : X.K = K := by rfl) : IxR X (rIxL K) := by
  subst h
  exact ix_list
/-! ### promises of the fractions' defs -/
/-- a fraction of two whole numbers, the bottom above nought -/
def spPart (K : PySem.W.Frag) : Sp := fun vs H Q _ => ∃ (t b : Int) (n : Nat), vs = [.int t, .int b] ∧ 0 < b ∧ b.natAbs < 2 ^ n ∧ 0 < n ∧ n ≤ 9000 ∧ ∀ v H', Ex H H' → FrV K H' v (Rat.divInt t b) → Q v H'
/-- two fractions, a third one of them -/
def sp2 (g : Rat → Rat → Rat) (K : PySem.W.Frag) : Sp := fun vs H Q _ => ∃ (x y : V) (r s : Rat) (n d m e : Nat), vs = [x, y] ∧ FrV K H x r ∧ FrV K H y s ∧ Sz n d r ∧ Sz m e s ∧ (0 < n ∧ 0 < d ∧ 0 < m ∧ 0 < e ∧ d + e ≤ 8900 ∧ n + m + d + e ≤ 900000) ∧ ∀ v H', Ex H H' → FrV K H' v (g r s) → Q v H'
abbrev spPlus := sp2 (· + ·)
abbrev spTimes := sp2 (· * ·)
/-- a made pair is a fraction -/
theorem made {K : PySem.W.Frag} {H : Hp} {p : Addr} {a b : Int} {r : Rat} (e1 : a = r.num) (e2 : b = (r.den : Int)) : FrV K (upd H p (.tup [.int a, .int b])) (.ref p) r := ⟨p, rfl, by rw [e1, e2]; exact st_of upd_same⟩
/-- what one row weighs another -/
def spWeigh (K : PySem.W.Frag) : Sp := fun vs H Q _ => ∃ (x y : V) (rs ss : List Rat) (n d m e : Nat), vs = [x, y] ∧ RowV K H x rs ∧ RowV K H y ss ∧ rs.length = ss.length ∧ SzL n d rs ∧ SzL m e ss ∧
  (0 < d ∧ 0 < e ∧ d ≤ n ∧ e ≤ m ∧ 1 + rs.length * (d + e) ≤ 8900 ∧ 1 + rs.length * (n + m + 1) ≤ 400000) ∧ ∀ v H', Ex H H' → FrV K H' v (weighs (rs.zip ss)) → Q v H'
/-- what a sum tells at a row -/
def spTells (K : PySem.W.Frag) : Sp := fun vs H Q _ => ∃ (x y : V) (s : Sum2) (ss : List Rat) (n d m e : Nat), vs = [x, y] ∧ SumV K H x s ∧ RowV K H y ss ∧ s.1.length = ss.length ∧ SzL n d s.1 ∧ Sz n d s.2 ∧ SzL m e ss ∧
  (0 < d ∧ 0 < e ∧ d ≤ n ∧ e ≤ m ∧ 1 + s.1.length * (d + e) + d ≤ 8900 ∧ 1 + s.1.length * (n + m + 1) ≤ 400000 ∧ n ≤ 400000) ∧ ∀ v H', Ex H H' → FrV K H' v (tells s ss) → Q v H'
/-- a module's constant that is a fraction -/
structure Cst (K : PySem.W.Frag) (mg : Str → Option Value) (x : Str) (r : Rat) : Prop where
  ex : ∃ a, mg x = some (.ref a) ∧ ∀ H, FrV K H (.ref a) r
end Nc
end
section
set_option maxRecDepth 100000
set_option maxHeartbeats 4000000
namespace Nc
open PySem PySem.Spec PyProof.Rows L2
theorem tuple_mul1 (l : Addr) (items : Array Value) (n : Nat) (dd : Option Addr) (sl : Array (Option Value)) (u : Tok) :
    Meets (Builtin.«tuple.__mul__» ⟨[.ref l, .int 1 u], []⟩) (fun _ R s => s.heap.get? l = some { cls := .type "tuple", dict := dd, data := .seq items n, slots := sl } ∧
      R (.ok (.ret (Value.ref l))) s) :=
  .of_wp fun prog w A R s h => by
    obtain ⟨hp, g, d, tk, os⟩ := s
    obtain ⟨hl, h⟩ := h
    have f1 := AutoSeq1.idx_int
    wp_walk using wpAny_loadPart' hl
    repeat (first
      | (refine wpAny_ite_true (by simp) ?_; wp_walk using wpAny_loadPart' hl)
      | (refine wpAny_ite_false (by simp) ?_; wp_walk using wpAny_loadPart' hl))
    exact ⟨_, rfl, h⟩
theorem tuple_mul0 (l : Addr) (items : Array Value) (n : Nat) (dd : Option Addr) (sl : Array (Option Value)) (u : Tok) (c1 : items.isEmpty = false) :
    Meets (Builtin.«tuple.__mul__» ⟨[.ref l, .int 0 u], []⟩) (fun _ R s => s.heap.get? l = some { cls := .type "tuple", dict := dd, data := .seq items n, slots := sl } ∧
      R (.ok (.ret (Value.ref s.heap.objs.size))) { s with heap := s.heap.push { cls := Value.type "tuple", data := Data.seq #[] }, toks := s.toks }) :=
  .of_wp fun prog w A R s h => by
    obtain ⟨hp, g, d, tk, os⟩ := s
    obtain ⟨hl, h⟩ := h
    have f1 := AutoSeq1.idx_int
    wp_walk using wpAny_loadPart' hl
    repeat (first
      | (refine wpAny_ite_true (by simp) ?_; wp_walk using wpAny_loadPart' hl)
      | (refine wpAny_ite_false (by simp [c1]) ?_; wp_walk using wpAny_loadPart' hl))
    exact ⟨_, rfl, h⟩
def rRepA (K : PySem.W.Frag) : R2 := fun x y H Q => ∃ l k xs, x = .ref l ∧ y = .int k ∧ SqT K H l xs ∧ xs ≠ [] ∧ 0 ≤ k ∧ k ≤ 1000 ∧ xs.length ≤ 1000 ∧ ∀ p H', Evl.Ex H H' → SqT K H' p (List.replicate k.toNat xs).flatten → Q (.ref p) H'
theorem op_repA {X : Cx} : OpR X (binaryOp .Mult) (rRepA X.K) := by
  intro pins s σ H x y v u Q I rx ry h
  obtain ⟨l, k, xs, rfl, rfl, hT, hne, h1, h2, hz, q⟩ := h
  by_cases h3 : 2 ≤ k
  · exact op_repT pins s σ H _ _ v u Q I rx ry ⟨l, k, xs, rfl, rfl, hT, hne, h3, h2, hz, fun p hp => q p _ (Evl.Ex.new hp) (Evl.st_of upd_same)⟩
  cases rx
  obtain ⟨t, rfl⟩ := ry
  obtain ⟨its, r, ⟨⟨cls, dd, data, sl⟩, ho, hc, n, hd⟩, hs⟩ := I.tuple hT
  simp only at hc hd
  subst hc hd
  have hle : its.length = xs.length := r.length.symm
  have hn : its ≠ [] := fun e => hne (by
    rw [e] at hle
    exact List.eq_nil_of_length_eq_zero hle.symm)
  have hi : its.toArray.isEmpty = false := by
    cases its with
    | nil => exact absurd rfl hn
    | cons a b => rfl
  by_cases h4 : k = 1
  · subst h4
    refine wpAny_binaryOp_repeat_ref (T := "tuple") (U := "int") (by decide) ⟨_, ho, rfl⟩ (fun s' => typeIs_int s' 1 t) noFill_tuple_mul F.fills_int_mul F.slot_int_rmul repeat_tuple F.slot_int_index.lookup
      (call_meets F.slot_int_rmul (typeIs_int s 1 t) F.entry_int_rmul (F.args_int_rmul_2 _ _) (int_rmul_tuple 1 t l its.toArray n dd sl)
        ⟨ho, rfl, ⟨_, ho, rfl⟩, call_meets F.slot_tuple_mul ⟨_, ho, rfl⟩ F.entry_tuple_mul (F.args_tuple_mul_2 _ _) (tuple_mul1 l its.toArray n dd sl t) ⟨ho, ?_⟩⟩)
    refine ⟨.ref l, H, I, rfl, q l H (Evl.Ex.refl H) ?_⟩
    have e : (List.replicate (1 : Int).toNat xs).flatten = xs := by simp
    rw [e]
    exact hT
  · have h5 : k = 0 := by omega
    subst h5
    refine wpAny_binaryOp_repeat_ref (T := "tuple") (U := "int") (by decide) ⟨_, ho, rfl⟩ (fun s' => typeIs_int s' 0 t) noFill_tuple_mul F.fills_int_mul F.slot_int_rmul repeat_tuple F.slot_int_index.lookup
      (call_meets F.slot_int_rmul (typeIs_int s 0 t) F.entry_int_rmul (F.args_int_rmul_2 _ _) (int_rmul_tuple 0 t l its.toArray n dd sl)
        ⟨ho, rfl, ⟨_, ho, rfl⟩, call_meets F.slot_tuple_mul ⟨_, ho, rfl⟩ F.entry_tuple_mul (F.args_tuple_mul_2 _ _) (tuple_mul0 l its.toArray n dd sl t hi) ⟨ho, ?_⟩⟩)
    refine ⟨.ref s.heap.objs.size, _, I.laid (t' := s.toks) (o := .tup []) (fun b ob q => Heap.get?_push_of_some _ q) (Nat.le_refl _) ?_, rfl, q _ _ (Evl.Ex.new (I.hok.fresh (Nat.le_refl _))) (Evl.st_of upd_same)⟩
    exact ⟨Nat.zero_le _, [], .nil, IsTup.new _ _⟩
end Nc
end
section
set_option maxRecDepth 100000
set_option maxHeartbeats 4000000
namespace Nc
open PySem PySem.Spec PyProof.Rows L2 Evl
/-- a comprehension over zip of two tuples of one length -/
theorem lc_zipT {K : PySem.W.Frag} {a b : Addr} {xs ys : List V} {g : TG} {tt : TT} {te : TE} {vs : List Nat} {σ : L2.St} {H1 : Hp} {D : Addr} {Qd : Hp → Prop} (hl : xs.length = ys.length) (Pv : Nat → Hp → Prop) (h0 : Pv 0 (upd H1 D (.lst []))) (hq : ∀ i H, Pv i H → SqT K H a xs ∧ SqT K H b ys)
    (hs : ∀ (i : Nat) (x y : V) (T : Addr) (H : Hp), xs[i]? = some x → ys[i]? = some y → Pv i H → H T = none → g (.ref T) (wipe σ vs) (upd H T (.tup [x, y])) fun σ2 H2 => wipe σ2 vs = wipe σ vs ∧ tt σ2 H2 fun b H3 =>
      if b = true then te σ2 H3 fun y H4 => ∃ acc, H4 D = some (.lst acc) ∧ acc.length < sizeLine ∧ Pv (i + 1) (upd H4 D (.lst (acc ++ [y]))) else Pv (i + 1) H3) (hd : ∀ H, Pv xs.length H → Qd H) :
    ∃ W : Nat → Nat → Hp → Prop, (∃ m, W 0 m (upd H1 D (.lst []))) ∧ ∀ i m H, W i m H →
      ((RZ.ItzT K a b).stop i H ∧ Qd H) ∨ ((RZ.ItzT K a b).go i H ∧ ∃ Nx : Hp → Prop, (∀ H', Nx H' → ∃ m', m' < m ∧ W (i + 1) m' H') ∧ ∀ x H', (RZ.ItzT K a b).yld i H x H' → g x (wipe σ vs) H' fun σ2 H2 => wipe σ2 vs = wipe σ vs ∧ tt σ2 H2 fun b H3 =>
        if b = true then te σ2 H3 fun y H4 => ∃ acc, H4 D = some (.lst acc) ∧ acc.length < sizeLine ∧ Nx (upd H4 D (.lst (acc ++ [y]))) else Nx H3) := by
  refine ⟨fun i m H => m = xs.length - i ∧ i ≤ xs.length ∧ Pv i H, ⟨xs.length, rfl, Nat.zero_le _, h0⟩, ?_⟩
  rintro i m H ⟨rfl, hi, p⟩
  obtain ⟨qx, qy⟩ := hq i H p
  by_cases hlt : i < xs.length
  · have hx : xs[i]? = some xs[i] := List.getElem?_eq_getElem hlt
    have hlt2 : i < ys.length := by omega
    have hy : ys[i]? = some ys[i] := List.getElem?_eq_getElem hlt2
    refine .inr ⟨⟨xs, ys, _, _, qx, qy, hx, hy⟩, Pv (i + 1), fun H' p' => ⟨xs.length - (i + 1), by omega, rfl, hlt, p'⟩, fun v H' y => ?_⟩
    obtain ⟨T, x', y', rfl, hT, rfl, f1, f2⟩ := y
    exact hs i x' y' T H (f1 xs qx) (f2 ys qy) p hT
  · have e : i = xs.length := by omega
    subst e
    exact .inl ⟨⟨xs, ys, qx, qy, Or.inl (Nat.le_refl _)⟩, hd H p⟩
section
variable {K : PySem.W.Frag} {H H' H1 H4 : Hp} {D : Addr}
/-- a tuple stands as it stood where a list changes -/
theorem sqt_mut {t : Addr} {xs ys : List V} {o : HO} (hD : H D = some (.lst xs)) (h : SqT K H t ys) : SqT K (upd H D o) t ys := by
  rcases h with (h | ⟨ob, h⟩) | h
  · exact .inl (.inl (by rw [upd_ne (ne_of h hD (by intro z; cases z))]; exact h))
  · exact .inl (.inr ⟨ob, by rw [upd_ne (ne_of h hD (by intro z; cases z))]; exact h⟩)
  · exact .inr h
theorem FrV.mut {xs : List V} {o : HO} {v : V} {r : Rat} (hD : H D = some (.lst xs)) (h : FrV K H v r) : FrV K (upd H D o) v r := by
  obtain ⟨t, rfl, q⟩ := h
  exact ⟨t, rfl, sqt_mut hD q⟩
theorem RowV.mut {xs : List V} {o : HO} {v : V} {r : List Rat} (hD : H D = some (.lst xs)) (h : RowV K H v r) : RowV K (upd H D o) v r := by
  obtain ⟨t, ys, rfl, q, l⟩ := h
  exact ⟨t, ys, rfl, sqt_mut hD q, pmono (fun _ _ => FrV.mut hD) l⟩
theorem SumV.mut {xs : List V} {o : HO} {v : V} {s : Sum2} (hD : H D = some (.lst xs)) (h : SumV K H v s) : SumV K (upd H D o) v s := by
  obtain ⟨t, a, b, rfl, q, l, n⟩ := h
  exact ⟨t, a, b, rfl, sqt_mut hD q, l.mut hD, n.mut hD⟩
/-- what a comprehension has built of things of a kind R behind i turns -/
def Bld {α : Type} (R : Hp → V → α → Prop) (H1 : Hp) (D : Addr) (L : List α) (i : Nat) (H' : Hp) : Prop := Ex H1 H' ∧ ∃ xs, H' D = some (.lst xs) ∧ xs.length = i ∧ Paired (R H') xs (L.take i)
/-- a kind of things that stay as they are where the heap grows, where a list changes -/
structure Stays {α : Type} (R : Hp → V → α → Prop) : Prop where
  ex : ∀ {H H' v a}, Ex H H' → R H v a → R H' v a
  mt : ∀ {H D xs o v a}, H D = some (.lst xs) → R H v a → R (upd H D o) v a
theorem stF : Stays (FrV K) := ⟨FrV.ex, FrV.mut⟩
theorem stR : Stays (RowV K) := ⟨RowV.ex, RowV.mut⟩
theorem stS : Stays (SumV K) := ⟨SumV.ex, SumV.mut⟩
theorem bld0 {α : Type} {R : Hp → V → α → Prop} {L : List α} (hD : H1 D = none) : Bld R H1 D L 0 (upd H1 D (.lst [])) := ⟨Ex.new hD, [], upd_same, rfl, .nil⟩
theorem bld_step {α : Type} {R : Hp → V → α → Prop} (S : Stays R) {L : List α} {i : Nat} {v : V} {a : α} (hD : H1 D = none) (b : Bld R H1 D L i H') (e : Ex H' H4) (hi : L[i]? = some a) (hz : i < 100000) (hv : R H4 v a) :
    ∃ acc, H4 D = some (.lst acc) ∧ acc.length < sizeLine ∧ Bld R H1 D L (i + 1) (upd H4 D (.lst (acc ++ [v]))) := by
  obtain ⟨e1, xs, hx, hl, p⟩ := b
  have h4 := e D _ hx
  refine ⟨xs, h4, sz_lt (by omega), Ex.mut (e1.trans e) hD, xs ++ [v], upd_same, by simp [hl], ?_⟩
  rw [List.take_add_one, hi]
  exact Paired.snoc (pmono (fun _ _ q => S.mt h4 (S.ex e q)) p) (S.mt h4 hv)
theorem bld_end {α : Type} {R : Hp → V → α → Prop} {L : List α} {n : Nat} (hn : n = L.length) (b : Bld R H1 D L n H') : Ex H1 H' ∧ ∃ xs, H' D = some (.lst xs) ∧ Paired (R H') xs L := by
  obtain ⟨e1, xs, hx, hl, p⟩ := b
  refine ⟨e1, xs, hx, ?_⟩
  rwa [hn, List.take_length] at p
/-- the tuple made of what was built -/
theorem bld_row {L : List Rat} {n : Nat} {l : Addr} {xs : List V} (hx : H' D = some (.lst xs)) (p : FrL K H' xs L) (hl : H' l = none) : RowV K (upd H' l (.tup xs)) (.ref l) L :=
  ⟨l, xs, rfl, st_of upd_same, FrL.ex (Ex.new hl) p⟩
end
/-! ### promises of the sums' defs -/
def spSumP (K : PySem.W.Frag) : Sp := fun vs H Q _ => ∃ (x y : V) (s t : Sum2) (n d m e : Nat), vs = [x, y] ∧ SumV K H x s ∧ SumV K H y t ∧ s.1.length = t.1.length ∧ s.1.length ≤ 100 ∧ SzL n d s.1 ∧ Sz n d s.2 ∧ SzL m e t.1 ∧ Sz m e t.2 ∧
  (0 < n ∧ 0 < d ∧ 0 < m ∧ 0 < e ∧ d + e ≤ 8900 ∧ n + m + d + e ≤ 900000) ∧ ∀ v H', Ex H H' → SumV K H' v (splus s t) → Q v H'
def spSumT (K : PySem.W.Frag) : Sp := fun vs H Q _ => ∃ (x y : V) (r : Rat) (t : Sum2) (n d m e : Nat), vs = [x, y] ∧ FrV K H x r ∧ SumV K H y t ∧ t.1.length ≤ 100 ∧ Sz n d r ∧ SzL m e t.1 ∧ Sz m e t.2 ∧
  (0 < n ∧ 0 < d ∧ 0 < m ∧ 0 < e ∧ d + e ≤ 8900 ∧ n + m + d + e ≤ 900000) ∧ ∀ v H', Ex H H' → SumV K H' v (stimes r t) → Q v H'
def spFlat (K : PySem.W.Frag) : Sp := fun vs H Q _ => ∃ (k : Nat) (y : V) (r : Rat), vs = [.int (k : Int), y] ∧ FrV K H y r ∧ k ≤ 100 ∧ ∀ v H', Ex H H' → SumV K H' v (List.replicate k 0, r) → Q v H'
/-- the row with 1 at a place -/
def unit (k p : Nat) : List Rat := (List.range k).map fun i => if i = p then 1 else 0
def spPlace (K : PySem.W.Frag) : Sp := fun vs H Q _ => ∃ (k p : Nat), vs = [.int (k : Int), .int (p : Int)] ∧ k ≤ 100 ∧ ∀ v H', Ex H H' → SumV K H' v (unit k p, 0) → Q v H'
end Nc
end
section
set_option maxRecDepth 100000
set_option maxHeartbeats 4000000
namespace Nc
open PySem PySem.Spec PyProof.Rows L2 Evl
/-! ### the stream: a list of three whole numbers at s, that alone changes -/
def Stm (s : Addr) (H : Hp) : Prop := ∃ a b c : Int, H s = some (.lst [.int a, .int b, .int c])
structure Dr (s : Addr) (H H' : Hp) : Prop where
  keep : ∀ a o, a ≠ s → H a = some o → H' a = some o
  st : Stm s H'
section
variable {K : PySem.W.Frag} {s p : Addr} {H H' H2 : Hp}
theorem Dr.refl (h : Stm s H) : Dr s H H := ⟨fun _ _ _ q => q, h⟩
theorem Dr.trans (a : Dr s H H') (b : Dr s H' H2) : Dr s H H2 := ⟨fun x o hx q => b.keep x o hx (a.keep x o hx q), b.st⟩
theorem Stm.ne (h : Stm s H) (hp : H p = none) : s ≠ p := by
  obtain ⟨a, b, c, e⟩ := h
  exact ne_of_none e hp
theorem Dr.new {o : HO} (h : Stm s H) (hp : H p = none) : Dr s H (upd H p o) := ⟨fun a u ha q => by rw [upd_ne (ne_of_none q hp)]; exact q, by
  obtain ⟨a, b, c, e⟩ := id h
  exact ⟨a, b, c, by rw [upd_ne (h.ne hp)]; exact e⟩⟩
/-- another list changes -/
theorem Dr.mut {o : HO} (d : Dr s H H') (hp : H p = none) (hs : s ≠ p) : Dr s H (upd H' p o) := ⟨fun a u ha q => by rw [upd_ne (ne_of_none q hp)]; exact d.keep a u ha q, by
  obtain ⟨a, b, c, e⟩ := d.st
  exact ⟨a, b, c, by rw [upd_ne hs]; exact e⟩⟩
theorem Dr.ex (h : Stm s H) (e : Ex H H') : Dr s H H' := ⟨fun a o _ q => e a o q, by
  obtain ⟨a, b, c, q⟩ := h
  exact ⟨a, b, c, e _ _ q⟩⟩
theorem sqt_dr {t : Addr} {xs : List V} (h : Stm s H) (d : Dr s H H') (q : SqT K H t xs) : SqT K H' t xs := by
  obtain ⟨a, b, c, e⟩ := h
  rcases q with (q | ⟨o, q⟩) | q
  · exact .inl (.inl (d.keep _ _ (ne_of q e (by intro z; cases z)) q))
  · exact .inl (.inr ⟨o, d.keep _ _ (ne_of q e (by intro z; cases z)) q⟩)
  · exact .inr q
theorem FrV.dr {v : V} {r : Rat} (h : Stm s H) (d : Dr s H H') (q : FrV K H v r) : FrV K H' v r := by
  obtain ⟨t, rfl, q⟩ := q
  exact ⟨t, rfl, sqt_dr h d q⟩
theorem FrL.dr {xs : List V} {rs : List Rat} (h : Stm s H) (d : Dr s H H') (q : FrL K H xs rs) : FrL K H' xs rs := pmono (fun _ _ => FrV.dr h d) q
theorem RowV.dr {v : V} {rs : List Rat} (h : Stm s H) (d : Dr s H H') (q : RowV K H v rs) : RowV K H' v rs := by
  obtain ⟨t, xs, rfl, q, l⟩ := q
  exact ⟨t, xs, rfl, sqt_dr h d q, FrL.dr h d l⟩
theorem SumV.dr {v : V} {z : Sum2} (h : Stm s H) (d : Dr s H H') (q : SumV K H v z) : SumV K H' v z := by
  obtain ⟨t, a, b, rfl, q, l, n⟩ := q
  exact ⟨t, a, b, rfl, sqt_dr h d q, l.dr h d, n.dr h d⟩
/-- the stream's list changes -/
theorem Dr.put {xs : List V} {a b c : Int} (h : H s = some (.lst xs)) : Dr s H (upd H s (.lst [.int a, .int b, .int c])) := ⟨fun x o hx q => by rw [upd_ne hx]; exact q, ⟨a, b, c, upd_same⟩⟩
end
theorem b01 (k : Bool) : -(2 ^ 64) < (if k = true then (1 : Int) else 0) ∧ (if k = true then (1 : Int) else 0) < 2 ^ 64 := by
  cases k <;> decide
theorem modb (x : Int) {m : Int} (h : 0 < m) (hm : m ≤ 2 ^ 64) : -(2 ^ 64) < x % m ∧ x % m < 2 ^ 64 := by
  have h1 := Int.emod_nonneg x (b := m) (by omega)
  have h2 := Int.emod_lt_of_pos x h
  omega
theorem cdivT {i m : Int} (h : 0 < m) (hm : m < 2 ^ 200) : CDivW i m := wide_div (b := 200) h (by omega) (by decide) (by decide)
/-! ### promises of what is drawn -/
def spCell (K : PySem.W.Frag) : Sp := fun vs H Q _ => ∃ (a : Addr) (ns : List Int) (k : Nat), vs = [.ref a, .int (k : Int)] ∧ SqL K H a (ns.map V.int) ∧ k ≤ 100 ∧ ∀ c : Int, Q (.int c) H
def spStream : Sp := fun vs H Q _ => ∃ c : Int, vs = [.int c] ∧ ∀ s a b d, H s = none → Q (.ref s) (upd H s (.lst [.int a, .int b, .int d]))
def spTake : Sp := fun vs H Q _ => ∃ (s : Addr) (m : Int), vs = [.ref s, .int m] ∧ Stm s H ∧ 0 < m ∧ m < 2 ^ 200 ∧ ∀ d H', 0 ≤ d → d < m → Dr s H H' → Q (.int d) H'
/-- a whole number above nought, below a bound -/
def spDraw (n : Nat) : Sp := fun vs H Q _ => ∃ s : Addr, vs = [.ref s] ∧ Stm s H ∧ ∀ d H', 0 < d → d.natAbs < 2 ^ n → Dr s H H' → Q (.int d) H'
/-- a fraction of that size -/
def spNum (K : PySem.W.Frag) (n d : Nat) : Sp := fun vs H Q _ => ∃ s : Addr, vs = [.ref s] ∧ Stm s H ∧ ∀ v r H', Dr s H H' → FrV K H' v r → Sz n d r → Q v H'
/-- a row of so many -/
def spRow (K : PySem.W.Frag) (n d : Nat) : Sp := fun vs H Q _ => ∃ (s : Addr) (k : Nat), vs = [.ref s, .int (k : Int)] ∧ Stm s H ∧ k ≤ 100 ∧ ∀ v L H', Dr s H H' → RowV K H' v L → L.length = k → SzL n d L → Q v H'
end Nc
end
section
set_option maxRecDepth 100000
set_option maxHeartbeats 4000000
namespace Nc
open PySem PySem.Spec PyProof.Rows L2 Evl
theorem depthAll_fd : ∀ rs : List Rat, PyData.depthAll (rs.map fd) ≤ 1
  | [] => Nat.zero_le _
  | r :: rs => by
    have ih := depthAll_fd rs
    show max (PyData.depth (fd r)) (PyData.depthAll (rs.map fd)) ≤ 1
    have : PyData.depth (fd r) = 1 := rfl
    omega
theorem lay_row (rs : List Rat) : (PyData.tuple (rs.map fd)).canLay0 = true := layAll_fd rs
theorem shaped_row (rs : List Rat) : SeqAt.shaped (.tuple (rs.map fd)) = true := by
  unfold SeqAt.shaped
  rw [lay_row, Bool.true_and]
  refine decide_eq_true ?_
  have := depthAll_fd rs
  show PyData.depthAll (rs.map fd) + 1 ≤ 64
  omega
theorem shaped_list (rs : List Rat) : SeqAt.shaped (.list (rs.map fd)) = true := by
  unfold SeqAt.shaped
  have h : (PyData.list (rs.map fd)).canLay0 = true := layAll_fd rs
  rw [h, Bool.true_and]
  refine decide_eq_true ?_
  have := depthAll_fd rs
  show PyData.depthAll (rs.map fd) + 1 ≤ 64
  omega
theorem shaped_fd (r : Rat) : SeqAt.shaped (fd r) = true := rfl
theorem lay_sd (s : Sum2) : (sd s).canLay0 = true := by
  show ((PyData.tuple (s.1.map fd)).canLay0 && ((fd s.2).canLay0 && true)) = true
  rw [lay_row]
  rfl
theorem shaped_sd (s : Sum2) : SeqAt.shaped (sd s) = true := by
  unfold SeqAt.shaped
  rw [lay_sd, Bool.true_and]
  refine decide_eq_true ?_
  have h1 := depthAll_fd s.1
  have h2 : PyData.depth (fd s.2) = 1 := rfl
  show max (PyData.depthAll (s.1.map fd) + 1) (max (PyData.depth (fd s.2)) 0) + 1 ≤ 64
  omega
theorem eqv_sd (s : Sum2) : PyData.eqv (sd s) (sd s) = true := SeqAt.eqv_refl _ (lay_sd s)
theorem eqv_fd (r : Rat) : PyData.eqv (fd r) (fd r) = true := SeqAt.eqv_refl _ rfl
theorem eqv_row (rs : List Rat) : PyData.eqv (.tuple (rs.map fd)) (.tuple (rs.map fd)) = true := SeqAt.eqv_refl _ (lay_row rs)
theorem eqv_list (rs : List Rat) : PyData.eqv (.list (rs.map fd)) (.list (rs.map fd)) = true := SeqAt.eqv_refl _ (layAll_fd rs)
/-- a tuple's type -/
theorem tyT {K : PySem.W.Frag} {H : Hp} {t : Addr} {xs : List V} (q : SqT K H t xs) : TyX K H (.ref t) (.type "tuple") := by
  rcases q with (q | ⟨o, q⟩) | ⟨o, its, n, h, hc, _⟩
  · exact .base (.tup q)
  · exact .fTuple q
  · exact .kTuple h hc
theorem tyI {K : PySem.W.Frag} {H : Hp} (i : Int) : TyX K H (.int i) (.type "int") := .base (.int i)
theorem sz_tells {n d m e : Nat} {s : Sum2} {row : List Rat} (hn : d ≤ n) (hm : e ≤ m) (ha : SzL n d s.1) (hb : SzL m e row) (hc : Sz n d s.2) (hl : s.1.length = row.length) : Sz (1 + s.1.length * (n + m + 1) + n + 1) (1 + s.1.length * (d + e) + d) (tells s row) := by
  have h := sz_of_weighs hn hm ha hb hl
  have le : s.1.length * (d + e) ≤ s.1.length * (n + m + 1) := Nat.mul_le_mul_left _ (by omega)
  exact sz_add (N := 1 + s.1.length * (n + m + 1) + n) h hc (by omega) (by omega)
theorem len_splus (s t : Sum2) (h : s.1.length = t.1.length) : (splus s t).1.length = s.1.length := by
  unfold splus
  simp
  omega
theorem len_stimes (q : Rat) (s : Sum2) : (stimes q s).1.length = s.1.length := by
  unfold stimes
  simp
theorem szl_splus {n d m e N : Nat} {s t : Sum2} (h1 : SzL n d s.1) (h2 : SzL m e t.1) (k1 : n + e ≤ N := by omega) (k2 : m + d ≤ N := by omega) : SzL (N + 1) (d + e) (splus s t).1 := by
  intro r hr
  unfold splus at hr
  obtain ⟨p, hp, rfl⟩ := List.mem_map.mp hr
  have := List.of_mem_zip hp
  exact sz_add (h1 _ this.1) (h2 _ this.2)
theorem szl_stimes {n d m e : Nat} {q : Rat} {s : Sum2} (h1 : Sz n d q) (h2 : SzL m e s.1) : SzL (n + m) (d + e) (stimes q s).1 := by
  intro r hr
  unfold stimes at hr
  obtain ⟨p, hp, rfl⟩ := List.mem_map.mp hr
  exact sz_mul h1 (h2 _ hp)
/-- the found sum is the due one, by its own kinds -/
def spWhole (K : PySem.W.Frag) : Sp := fun vs H Q _ => ∃ (x y : V) (s : Sum2), vs = [x, y] ∧ SumV K H x s ∧ SumV K H y s ∧ s.1.length ≤ 100 ∧ ∀ H', Ex H H' → Q (.bl true) H'
def spPlaces : Sp := fun vs H Q _ => ∃ k : Nat, vs = [.int (k : Int)] ∧ k ≤ 100 ∧ ∀ H', Ex H H' → Q (.bl true) H'
/-- all goes well, the stream alone changes -/
def spRight : Sp := fun vs H Q _ => ∃ s : Addr, vs = [.ref s] ∧ Stm s H ∧ ∀ H', (∀ a o, a ≠ s → H a = some o → H' a = some o) → Q (.bl true) H'
def spLaw (K : PySem.W.Frag) : Sp := fun vs H Q _ => ∃ (a : Addr) (ns : List Int), vs = [.ref a] ∧ SqL K H a (ns.map V.int) ∧ ns.length ≤ 63 ∧ ∀ H', Q (.bl true) H'
end Nc
end
section
set_option maxRecDepth 100000
set_option maxHeartbeats 4000000
namespace Nc
open PySem PySem.Spec PyProof.Rows L2 Evl
/-! ### bottoms of either sign -/
theorem gcdI_dvd_left (t b : Int) : ((Nat.gcd t.natAbs b.natAbs : Nat) : Int) ∣ t := Int.ofNat_dvd_left.mpr (Nat.gcd_dvd_left _ _)
theorem gcdI_dvd_right (t b : Int) : ((Nat.gcd t.natAbs b.natAbs : Nat) : Int) ∣ b := Int.ofNat_dvd_left.mpr (Nat.gcd_dvd_right _ _)
theorem gcd_posZ {t b : Int} (hb : b ≠ 0) : (0 : Int) < ((Nat.gcd t.natAbs b.natAbs : Nat) : Int) := by
  have := Nat.gcd_pos_of_pos_right t.natAbs (n := b.natAbs) (by omega)
  omega
theorem gcd_leZ {t b : Int} (hb : b ≠ 0) : ((Nat.gcd t.natAbs b.natAbs : Nat) : Int).natAbs ≤ b.natAbs := by
  rw [Int.natAbs_natCast]
  exact Nat.gcd_le_right t.natAbs (n := b.natAbs) (by omega)
theorem num_neg {t b : Int} (hb : b < 0) : t.fdiv (-((Nat.gcd t.natAbs b.natAbs : Nat) : Int)) = (Rat.divInt t b).num := by
  rw [Int.fdiv_eq_ediv_of_dvd (Int.neg_dvd.mpr (gcdI_dvd_left t b)), Int.ediv_neg, Rat.num_divInt, Int.sign_eq_neg_one_of_neg hb, Int.gcd_comm]
  have : -1 * t = -t := by omega
  rw [this]
  exact (Int.neg_ediv_of_dvd (gcdI_dvd_left t b)).symm
theorem den_neg {t b : Int} (hb : b < 0) : b.fdiv (-((Nat.gcd t.natAbs b.natAbs : Nat) : Int)) = ((Rat.divInt t b).den : Int) := by
  rw [Int.fdiv_eq_ediv_of_dvd (Int.neg_dvd.mpr (gcdI_dvd_right t b)), Int.ediv_neg, Rat.den_divInt, if_neg (by omega), Int.gcd_comm]
  have e : ((b.natAbs : Nat) : Int) = -b := by omega
  rw [Int.natCast_ediv, e]
  exact (Int.neg_ediv_of_dvd (gcdI_dvd_right t b)).symm
theorem num_pos {t b : Int} (hb : 0 < b) : t.fdiv ((Nat.gcd t.natAbs b.natAbs : Nat) : Int) = (Rat.divInt t b).num := by
  rw [Int.fdiv_eq_ediv_of_dvd (gcdI_dvd_left t b)]
  exact num_div hb
theorem den_posI {t b : Int} (hb : 0 < b) : b.fdiv ((Nat.gcd t.natAbs b.natAbs : Nat) : Int) = ((Rat.divInt t b).den : Int) := by
  rw [Int.fdiv_eq_ediv_of_dvd (gcdI_dvd_right t b)]
  exact den_div hb
theorem sz_divZ {t b : Int} {n d : Nat} (hb : b ≠ 0) (ht : t.natAbs < 2 ^ n) (hz : b.natAbs < 2 ^ d) : Sz n d (Rat.divInt t b) := by
  by_cases h : 0 < b
  · exact sz_div h ht hz
  · have h2 : (0 : Int) < -b := by omega
    have e : Rat.divInt t b = Rat.divInt (-t) (-b) := by
      rw [Rat.divInt_eq_divInt_iff hb (by omega)]
      rw [Int.mul_neg, Int.neg_mul]
    rw [e]
    exact sz_div h2 (by omega) (by omega)
theorem cross {t b : Int} (hb : b ≠ 0) : (Rat.divInt t b).num * b = t * ((Rat.divInt t b).den : Int) := by
  have h := Rat.num_divInt_den (Rat.divInt t b)
  have hd := den_pos (Rat.divInt t b)
  rwa [Rat.divInt_eq_divInt_iff (by omega) hb] at h
theorem sub_is (r s : Rat) : Rat.divInt (r.num * (s.den : Int) - s.num * (r.den : Int)) ((r.den : Int) * (s.den : Int)) = r - s := by
  have h1 := den_pos r
  have h2 := den_pos s
  rw [← Rat.divInt_sub_divInt r.num s.num (by omega) (by omega), Rat.num_divInt_den, Rat.num_divInt_den]
theorem lt_sub {n : Nat} {i j : Int} (ha : i.natAbs < 2 ^ n) (hb : j.natAbs < 2 ^ n) : (i - j).natAbs < 2 ^ (n + 1) := by
  rw [Nat.pow_succ]
  omega
theorem weighs_comm : ∀ (a b : List Rat), weighs (a.zip b) = weighs (b.zip a)
  | [], b => by cases b <;> rfl
  | x :: a, [] => rfl
  | x :: a, y :: b => by
    simp only [List.zip_cons_cons, weighs_cons]
    rw [weighs_comm a b, Rat.mul_comm]
/-! ### // by any divisor below 2 ^ 9000; a text so many times -/
def CDivZ (_ j : Int) : Prop := j ≠ 0 ∧ j.natAbs.log2 < 9000
theorem op_fdivZ {X : Cx} : OpR X (binaryOp .FloorDiv) (rI CDivZ fun i j => .int (i.fdiv j)) := opI fun i j _ _ _ _ _ hc q => floordiv_int hc.1 q (.inl (PyProof.noPylong_of_log2 hc.2))
theorem cdivZ {i j : Int} {b : Nat} (h : j ≠ 0) (hb : j.natAbs < 2 ^ b) (h0 : 0 < b) (h9 : b ≤ 9000) : CDivZ i j := ⟨h, Nat.lt_of_lt_of_le (PySem.Flt.log2_lt_of h0 hb) h9⟩
theorem op_mulStr {X : Cx} {x : Str} {n : Int} (hr : (decide (n < -(2 ^ 63 : Int)) || decide (n ≥ 2 ^ 63)) = false) (h1 : ¬ n < 1) (h2 : (n == 1 || x.length == 0) = false)
    (hb : ¬ ((x.length : Int) > (2 ^ 63 - 1) / n)) (hl : Builtin.Str.tooLong (x.length * n.toNat) = false) :
    OpR X (binaryOp .Mult) (fun a b H Q => a = .str x ∧ b = .int n ∧ (⟨(List.replicate n.toNat x.cps).foldl (· ++ ·) #[]⟩ : Str).length ≤ sizeLine ∧ Q (.str ⟨(List.replicate n.toNat x.cps).foldl (· ++ ·) #[]⟩) H) := by
  intro pins s σ H a b v u Q I ra rb h
  obtain ⟨rfl, rfl, hz, q⟩ := h
  obtain ⟨t, rfl⟩ := ra
  obtain ⟨t2, rfl⟩ := rb
  refine PySem.P.mul_str hr (fun _ _ => hb) (fun _ _ => hl) ?_
  rw [if_neg h1, if_neg (by rw [h2]; decide)]
  exact ⟨hz, ⟨.str _, H, I.tok _, ⟨_, rfl⟩, q⟩⟩
end Nc
end
section
set_option maxRecDepth 100000
set_option maxHeartbeats 4000000
namespace Nc
open PySem PySem.Spec PyProof.Rows L2 Evl
/-! ### promises of k02's defs -/
def spPartZ (K : PySem.W.Frag) : Sp := fun vs H Q _ => ∃ (t b : Int) (n : Nat), vs = [.int t, .int b] ∧ b ≠ 0 ∧ b.natAbs < 2 ^ n ∧ 0 < n ∧ n ≤ 9000 ∧ ∀ v H', Ex H H' → FrV K H' v (Rat.divInt t b) → Q v H'
theorem Ok.imp {P : Program} {w : World} {K : PySem.W.Frag} {mg : Str → Option Value} {base : Heap} {k : Nat} {x : Str} {ps : List Str} {sp sp' : Sp} (D : Ok P w K mg base k x ps sp) (h : ∀ vs H Q E, sp' vs H Q E → sp vs H Q E) : Ok P w K mg base k x ps sp' := by
  obtain ⟨f, fd, g, kp, F, b⟩ := D.ex
  exact ⟨f, fd, g, kp, F.imp h, b⟩
theorem part_imp {K : PySem.W.Frag} : ∀ vs H Q E, spPart K vs H Q E → spPartZ K vs H Q E := by
  rintro vs H Q E ⟨t, b, n, h1, h2, h3, h4, h5, q⟩
  exact ⟨t, b, n, h1, by omega, h3, h4, h5, q⟩
abbrev spMinus := sp2 (· - ·)
def spRatio (K : PySem.W.Frag) : Sp := fun vs H Q _ => ∃ (x y : V) (r s : Rat) (n d m e : Nat), vs = [x, y] ∧ FrV K H x r ∧ FrV K H y s ∧ Sz n d r ∧ Sz m e s ∧ s.num ≠ 0 ∧ (0 < n ∧ 0 < d ∧ 0 < m ∧ 0 < e ∧ d + m ≤ 8900 ∧ n + m + d + e ≤ 900000) ∧
  ∀ v H', Ex H H' → FrV K H' v (Rat.divInt (r.num * (s.den : Int)) ((r.den : Int) * s.num)) → Q v H'
def spLess (K : PySem.W.Frag) : Sp := fun vs H Q _ => ∃ (x y : V) (r s : Rat) (n d m e : Nat), vs = [x, y] ∧ FrV K H x r ∧ FrV K H y s ∧ Sz n d r ∧ Sz m e s ∧ (0 < n ∧ 0 < d ∧ 0 < m ∧ 0 < e ∧ n + m + d + e ≤ 900000) ∧ Q (.bl (decide (r.num * (s.den : Int) < s.num * (r.den : Int)))) H
/-- the greatest shared divisor -/
def spCommon : Sp := fun vs H Q _ => ∃ a b : Int, vs = [.int a, .int b] ∧ 0 ≤ a ∧ 0 < b ∧ Q (.int ((Nat.gcd a.natAbs b.natAbs : Nat) : Int)) H
/-- a whole number of so many bits at most -/
def spInt (n : Nat) : Sp := fun vs H Q _ => ∃ s : Addr, vs = [.ref s] ∧ Stm s H ∧ ∀ d H', d.natAbs < 2 ^ n → Dr s H H' → Q (.int d) H'
/-- the found fraction is that of a top and a bottom -/
def spIs (K : PySem.W.Frag) : Sp := fun vs H Q _ => ∃ (x : V) (t b : Int) (n : Nat), vs = [x, .int t, .int b] ∧ b ≠ 0 ∧ FrV K H x (Rat.divInt t b) ∧ t.natAbs < 2 ^ n ∧ b.natAbs < 2 ^ n ∧ 0 < n ∧ n ≤ 400000 ∧ ∀ H', Ex H H' → Q (.bl true) H'
def spPair (K : PySem.W.Frag) : Sp := fun vs H Q _ => ∃ (x y : V) (r s : Rat), vs = [x, y] ∧ FrV K H x r ∧ FrV K H y s ∧ Sz 2700 200 r ∧ Sz 2700 200 s ∧ ∀ H', Ex H H' → Q (.bl true) H'
/-- a row of at most six long ones, or of at most thirty-one short ones -/
def SzR (L : List Rat) : Prop := (L.length ≤ 6 ∧ SzL 1330 100 L) ∨ (L.length ≤ 31 ∧ SzL 4 4 L)
def spRow2 (K : PySem.W.Frag) : Sp := fun vs H Q _ => ∃ (s : Addr) (k : Nat), vs = [.ref s, .int (k : Int)] ∧ Stm s H ∧ k ≤ 31 ∧ ∀ v L H', Dr s H H' → RowV K H' v L → L.length = k → SzR L → (6 < k → SzL 4 4 L) → Q v H'
/-- what two rows come to, not divided -/
def spDue (K : PySem.W.Frag) : Sp := fun vs H Q _ => ∃ (x y : V) (a b : List Rat), vs = [x, y] ∧ RowV K H x a ∧ RowV K H y b ∧ a.length = b.length ∧ SzR a ∧ SzR b ∧ a.length ≤ 31 ∧
  ∀ (p : Addr) (t u : Int) H', Ex H H' → SqT K H' p [.int t, .int u] → 0 < u → weighs (a.zip b) = Rat.divInt t u → t.natAbs < 2 ^ 90000 → u.natAbs < 2 ^ 90000 → Q (.ref p) H'
end Nc
end
section
set_option maxRecDepth 100000
set_option maxHeartbeats 4000000
namespace Nc
open PySem PySem.Spec PyProof.Rows L2 Evl
/-! ### a def's promise where no repr is under way around it -/
structure GOk (P : Program) (w : World) (K : PySem.W.Frag) (mg : Str → Option Value) (base : Heap) (k : Nat) (f : Addr) (fd : FuncData) (ps : List Str) (sp : Sp) : Prop where
  many : ∀ vs H Q E, sp vs H Q E → vs.length = ps.length
  go : ∀ (A : Around) (stack : List Env) (s : Shared) (H : Hp) (us : List Value) (vs : List V) (Q : VK), A.guards = some [] → Room k A → Env0 P w K mg base A stack s H →
    BindsTo s fd ⟨us, []⟩ (ps.zip us) → Vals vs us → sp vs H Q E0 → codeAny (model P w) A (.call (.ref f) ⟨us, []⟩) (CR CX0 stack P w H s Q E0) s
section
variable {P : Program} {w : World} {K : PySem.W.Frag} {mg : Str → Option Value} {base : Heap} {k : Nat} {f : Addr} {fd : FuncData} {x qual : Str} {st : Stmt} {N ps : List Str} {sp : Sp}
/-- by its body's term, which may say repr -/
theorem gok (F : Fun K x qual st f fd) (S : FnScope N ps (defScope st)) (many : ∀ vs H Q E, sp vs H Q E → vs.length = ps.length)
    (body : ∀ (cdv : Value) (A : Around) (stack : List Env) (s : Shared) (H : Hp) (vs : List V) (Q : VK) (_ : A.guards = some []) (_ : Room k (A.deeper (envOfC qual (defScope st) s.heap.objs.size f cdv))), sp vs H Q E0 →
      ∃ t, PSs (cxOf CX0 P w K mg base N qual (defScope st) f cdv A stack s H E0).nox (defBody st) t ∧ t ⟨fun _ H' => Q .non H', Q, fun _ _ => False, fun _ _ => False⟩ (start N vs) H) : GOk P w K mg base (k + 1) f fd ps sp := by
  obtain ⟨oc, od, kV, doc, pm, an, cdv, ct, osl, rfl, lk, hcd⟩ := F.ex
  constructor
  · exact many
  intro A stack s H us vs Q hG hR e0 hb rv hsp
  have sz := many _ _ _ _ hsp
  have inK : K.In s.heap := e0.mod.kin.keeps fun b o e => And.left (e0.bs b o e)
  have kinds : ∀ y ∈ ps.zip us, (defScope st).names.lookup y.1 = some .local ∨ ((defScope st).names.lookup y.1 = some .cell ∧ ((cellsFrom (s.heap.objs.size + 1) (defScope st).names []).lookup y.1).isSome = true) := by
    rintro ⟨n, v⟩ hy
    have hn := S.par n (List.of_mem_zip hy).1
    exact hn.imp id fun c => ⟨c, PySem.W.cellsFrom_some _ _ _ (.inl c)⟩
  obtain ⟨t, ht, hq⟩ := body cdv A stack s H vs Q hG (hR.deeper _) hsp
  apply codeAny_call_function (ho := inK _ _ lk) (hd' := rfl) (hco := S.co) (hgen := S.gen) (hbody := rfl) (hcd := PySem.W.codeRec_of inK hcd) hR.depth
  apply hb
  apply wpAny_newFunctionEnv_cells S.kind kinds
  rintro env rfl s1 x1
  constructor
  · exact (e0.mod.nolimit.keeps fun b o e => And.left (e0.bs b o e)).keeps x1.toInCall.keep
  apply codeAny_func
  have I := inv_start (CX := CX0) (E := E0) S hR.hd e0 sz rv x1
  refine wpAny_mono (ht.nox.run [] s1 _ H _ I hq) ?_ fun _ _ z => z
  have leave : ∀ {σ' : L2.St} {H' : Hp} {v : V} {u : Value} {s'' : Shared}, Inv (cxOf CX0 P w K mg base N qual (defScope st) f cdv A stack s H E0) [] σ' H' s'' → RelV v u → Q v H' → CE stack P w H s Q u s'' := fun J r z => ⟨_, _, J.os, J.bare, J.base, J.hok, r, z⟩
  rintro (_ | _ | _ | u) s2 hs
  all_goals first
    | (obtain ⟨_, _, J, z⟩ := hs; exact leave (v := .non) (u := .none) J rfl z)
    | (obtain ⟨_, _, _, J, r, z⟩ := hs; exact leave J r z)
    | (obtain ⟨_, _, _, z⟩ := hs; exact z.elim)
end
section
variable {X : Cx} {k : Nat} {f : Addr} {fd : FuncData} {ps : List Str} {sp : Sp} {x : Str} {e : Expr} {es : List Expr} {ta : TA} {p pos : Pos}
/-- a call of such a def, from where no repr is under way -/
theorem clG (F : GOk X.prog X.w X.K X.mg X.base k f fd ps sp) (hG : X.A.guards = some []) (hR : Room k X.A) (hm : X.mg x = some (.ref f)) (hk : PySem.W.keepIn X.K (.ref f) = true) (hb : Binds X.K fd ps []) (ha : PA X (e :: es) ta)
    (hg : Gl X x := by rfl) (hdb : (x == ("__debug__" : Str)) = false := by decide) (he : starEach (e :: es) X.env = (false, eval e X.env) :: starEach es X.env := by rfl) (hpl : (backTo pos (starEach es X.env)).any (·.1) = false := by rfl) :
    PE X (.Call (.Name x p) (e :: es) [] pos) (tCall sp [] E0 ta) := by
  constructor
  intro pins s σ H Q I h
  apply wpAny_Call_Name_kw
  apply ld_glob I hg hm (hd := hdb)
  apply PySem.W.callWith_K (h₀ := X.base) I.ok.mod.kin hk (he := he) (hplain := hpl)
  refine thn (ha.run pos pins s σ H _ I h) ?_
  rintro us s1 ⟨vs, H1, J, rv, z⟩
  refine ⟨J.kIn, ?_⟩
  have z' : sp vs H1 Q E0 := by simpa using z
  have sz : us.length = ps.length := by rw [← rv.length]; exact F.many _ _ _ _ z'
  have hb' := hb s1 us J.kIn (by simpa using sz)
  simp only [List.append_nil] at hb'
  apply wpAny_call
  refine codeAny_mono (F.go X.A X.stack s1 H1 us vs Q hG hR J.env0 hb' rv z') ?_
  rintro (_ | (_ | _ | _ | u)) s2 hr
  all_goals first
    | exact J.after hr
    | exact hr.elim
/-- repr of data -/
def rRepr (K : PySem.W.Frag) : List V → Hp → VK → Prop := fun vs H Q => ∃ v d, vs = [v] ∧ Dp K H v d ∧ (∃ a, v = .ref a) ∧ d.showable = true ∧ d.hasDict = false ∧ d.depth ≤ 60 ∧ d.shown.length ≤ sizeLine ∧ Q (.str d.shown) H
theorem call_reprD (hG : X.A.guards = some []) (hu : X.A.units + 64 < cLine) : CallR X (.builtin "repr") (rRepr X.K) := by
  intro pins s σ H vs us Q I rv h
  obtain ⟨v, d, rfl, hd, ⟨a, rfl⟩, h1, h2, h3, h4, q⟩ := h
  cases rv with
  | cons r rr =>
    cases rr
    cases r
    obtain ⟨as, R⟩ := Dp.reads I d _ _ hd rfl
    exact repr_of_reads' R h1 (fun z => by rw [h2] at z; cases z) hG (by omega) (fun _ _ z => z) (fun h' u tk kp => ⟨.str d.shown, H, I.kept (t' := tk) kp, ⟨u, rfl⟩, q⟩) h4
end
/-! ### the law's own call -/
/-- the script alone is tracked, and it only where the module doesn't write it -/
noncomputable def onlyA (K : PySem.W.Frag) (a : Addr) (ob : Obj) (xs : List V) : Hp := open Classical in fun b => if b = a ∧ K.lookup a = none then some (.frz ob (.lst xs)) else none
theorem onlyA_some {K : PySem.W.Frag} {a b : Addr} {ob : Obj} {xs : List V} {u : HO} (h : onlyA K a ob xs b = some u) : b = a ∧ K.lookup a = none ∧ u = .frz ob (.lst xs) := by
  unfold onlyA at h
  split at h
  · rename_i c
    exact ⟨c.1, c.2, (Option.some.inj h).symm⟩
  · cases h
theorem gcall {P : Program} {w : World} {K : PySem.W.Frag} {mg mb : Str → Option Value} {k : Nat} {fa a : Addr} {fd : FuncData} {x : Str} {sp : Sp} {s1 : Shared} {us : List Value} {ns : List Int} (inK : K.In s1.heap) (gl : s1.heap.Ns mainGlobals mg) (bl : s1.heap.Ns builtinsNs mb)
    (bb : ∀ y : Str, y ≠ "__name__" → mb y = bootBuiltins y) (nl : s1.heap.NoLimit) (ng : s1.gens = #[]) (at_ : s1.heap.get? a = some { cls := .type "list", data := .seq us.toArray }) (hints : IntsAre us ns) (sz : ns.length ≤ sizeLine) (hR : Room k callerA)
    (F : ∀ base : Heap, K.In base → base.Ns mainGlobals mg → GOk P w K mg base k fa fd [x] sp) (binds : ∀ (s : Shared) (u : Value), BindsTo s fd ⟨[u], []⟩ [(x, u)]) (hsp : ∀ H : Hp, SqL K H a (ns.map V.int) → sp [.ref a] H (fun v _ => v = .bl true) E0) :
    codeAny (model P w) callerA (.call (.ref fa) ⟨[.ref a], []⟩) (fun r s' => r = .ok (.ret (.bool true)) ∧ OldK s1.heap s'.heap ∧ s'.os = s1.os ∧ AllBare s'.gens) s1 := by
  have rv := vals_ints hints
  have ln := hints.length
  have okA : ObjOk P w (onlyA K a { cls := .type "list", data := .seq us.toArray } (ns.map V.int)) s1.heap a (.frz { cls := .type "list", data := .seq us.toArray } (.lst (ns.map V.int))) := ⟨at_, by simpa using sz, us, _, rv, at_⟩
  generalize hobj : ({ cls := .type "list", data := .seq us.toArray } : Obj) = ob at at_ okA
  generalize hH : onlyA K a ob (ns.map V.int) = H0 at okA
  have only : ∀ {b u}, H0 b = some u → b = a ∧ K.lookup a = none ∧ u = .frz ob (.lst (ns.map V.int)) := by
    subst hH
    exact onlyA_some
  have seq : SqL K H0 a (ns.map V.int) := by
    cases hk : K.lookup a with
    | none =>
      refine .inl (.inr ⟨ob, ?_⟩)
      rw [← hH]
      unfold onlyA
      rw [if_pos ⟨rfl, hk⟩]
    | some o =>
      have e := inK a o hk
      rw [at_] at e
      cases e
      subst hobj
      exact .inr ⟨_, us.toArray, _, hk, rfl, rfl, rfl, by rw [List.size_toArray, ln]; exact sz, by simpa using rv⟩
  have unseen : ∀ {b : Addr} {o : Obj}, s1.heap.get? b = some o → (b = a → False) → H0 b = none := by
    intro b o hb hn
    cases q : H0 b with
    | none => rfl
    | some u => exact (hn (only q).1).elim
  have kept : ∀ {b : Addr} {m : Str → Option Value}, s1.heap.Ns b m → (hidT s1.heap H0).Ns b m := by
    rintro b m ⟨o, es, ep, hb, hd, r⟩
    refine ⟨o, es, ep, hidT_get hb (unseen hb fun z => ?_), hd, r⟩
    rw [z, at_] at hb
    cases hb
    rw [← hobj] at hd
    cases hd
  have kIn : K.In (hidT s1.heap H0) := fun b o hb => hidT_get (inK b o hb) (by
    cases q : H0 b with
    | none => rfl
    | some u =>
      obtain ⟨rfl, n, _⟩ := only q
      rw [n] at hb
      cases hb)
  have limit : (hidT s1.heap H0).NoLimit := by
    obtain ⟨mc, h1, h2⟩ := nl
    exact ⟨mc, kept h1, h2⟩
  have hok : HOk P w H0 s1.heap := by
    intro b u hb
    obtain ⟨rfl, _, rfl⟩ := only hb
    exact okA
  have e0 : Env0 P w K mg (hidT s1.heap H0) callerA [] s1 H0 := by
    refine ⟨rfl, ⟨kIn, kept gl, ⟨mb, kept bl, bb⟩, limit⟩, fun b o e => of_hidT e, Nat.le_of_eq (hidT_size _ _), trivial, fun b hb => ?_, hok, .of_eq ng⟩
    cases hb
  refine codeAny_mono ((F _ kIn (kept gl)).go callerA [] s1 H0 [.ref a] [.ref a] _ rfl hR e0 (binds s1 (.ref a)) (.cons rfl .nil) (hsp H0 seq)) ?_
  rintro (_ | (_ | _ | _ | u)) s2 hr
  all_goals first
    | (obtain ⟨v, H2, os, bare, un, ok2, r2, rfl⟩ := hr
       obtain rfl : u = Value.bool true := r2
       refine ⟨rfl, OldK.of_keep fun b o hb => ?_, os, bare⟩
       cases q : H0 b with
       | none => exact un.keep b o hb q (fun z => by cases z) (by simp)
       | some y =>
         obtain ⟨rfl, _, rfl⟩ := only q
         have h3 := ok2 b _ (un.frzs b _ _ q)
         rw [at_] at hb
         cases hb
         exact h3.1)
    | exact hr.elim
theorem gwalk {l : PySem.W.OpenLaw} {n k : Nat} {q : Program} {loose : List Str} {XP : (Str → Option Value) → Heap → Prop} {YP : World → Heap → Prop} {d : DefRec} {K : Params → PySem.W.Frag} {sp : PySem.W.Frag → Sp} {x : Str} (most : l.most = some n) (sz : n ≤ sizeLine) (nodef : d.params.defaults = []) (hR : Room k callerA)
    (inK : ∀ (w : World) (h : Heap), YP w h → (K w.params).In h)
    (F : ∀ (w : World) (mg : Str → Option Value) (fa : Addr) (h : Heap), (K w.params).In h → h.Ns mainGlobals mg → mg d.name = some (.ref fa) →
      ∃ fd : FuncData, (∀ (s : Shared) (u : Value), BindsTo s fd ⟨[u], []⟩ [(x, u)]) ∧ ∀ base : Heap, (K w.params).In base → base.Ns mainGlobals mg → GOk l.prog w (K w.params) mg base k fa fd [x] (sp (K w.params)))
    (hsp : ∀ (K : PySem.W.Frag) (H : Hp) (a : Addr) (ns : List Int), ns.length ≤ n → SqL K H a (ns.map V.int) → sp K [.ref a] H (fun v _ => v = .bl true) E0) : PySem.W.WalkO q loose XP YP l.row.toRowW d [] (fun f vs => PySem.call f vs) := by
  apply Att.attach_call most nodef
  intro w s0 s1 mg mb fa o pm cd doc a us ns G Y ho hd hcd hmg hobj hints hl hg
  obtain ⟨fd, hb, hF⟩ := F w mg fa _ (inK w _ Y) G.T.g hmg
  exact gcall (inK w _ Y) G.T.g G.T.b G.T.builtins G.T.nolimit hg hobj hints (Nat.le_trans hl sz) hR hF hb fun H hS => hsp _ H a ns hl hS
end Nc
end
section
set_option maxRecDepth 100000
set_option maxHeartbeats 4000000
namespace Nc
open PySem PySem.Spec PyProof.Rows L2 Evl
/-! ### coarser rules: a new object by what it holds -/
def tTupE (t : TA) : TE := fun σ H Q => t σ H fun xs H1 => xs.length ≤ sizeLine ∧ ∀ p H2, H1 p = none → Ex H1 H2 → H2 p = some (.tup xs) → Q (.ref p) H2
def tLstE (t : TA) : TE := fun σ H Q => t σ H fun xs H1 => xs.length ≤ sizeLine ∧ ∀ p H2, H1 p = none → Ex H1 H2 → H2 p = some (.lst xs) → Q (.ref p) H2
def tDicE : TE := fun _ H Q => ∀ p H2, H p = none → Ex H H2 → H2 p = some (.dK []) → Q (.ref p) H2
section
variable {X : Cx} {es : List Expr} {t : TA} {pos : Pos}
theorem pe_tupE {x1} (h : PA X es t) : PE X (.Tuple es x1 pos) (tTupE t) := by
  constructor
  intro pins s σ H Q I hq
  refine wpAny_Tuple_spliced (thn (h.run _ pins s σ H _ I hq) ?_)
  rintro us s2 ⟨vs, H2, J, rv, sz, k⟩
  have fr := J.fresh
  refine ⟨rv.length ▸ sz, .ref _, _, J.laid (o := .tup vs) (t' := s2.toks) (fun _ _ => Heap.get?_push_of_some _) (Nat.le_refl _) ⟨sz, us, rv, _, Heap.get?_push_size _ rfl, rfl, _, rfl⟩, rfl, k _ _ fr (Ex.new fr) upd_same⟩
theorem pe_lstE (h : PA X es t) : PE X (.List es pos) (tLstE t) := by
  constructor
  intro pins s σ H Q I hq
  refine wpAny_List_spliced (thn (h.run _ pins s σ H _ I hq) ?_)
  rintro us s2 ⟨vs, H2, J, rv, sz, k⟩
  have fr := J.fresh
  refine ⟨rv.length ▸ sz, .ref _, _, J.laid (o := .lst vs) (t' := s2.toks) (fun _ _ => Heap.get?_push_of_some _) (Nat.le_refl _) ⟨sz, us, 0, rv, Heap.get?_push_size _ rfl⟩, rfl, k _ _ fr (Ex.new fr) upd_same⟩
theorem pe_dicE : PE X (.Dict [] [] pos) tDicE := ⟨fun pins s σ H Q I h => pe_dnewK.run pins s σ H Q I fun p hp => h p _ hp (Ex.new hp) upd_same⟩
def rCatE : R2 := fun x y H Q => ∃ l b xs zs, x = .ref l ∧ y = .ref b ∧ H l = some (.lst xs) ∧ H b = some (.lst zs) ∧ xs.length + zs.length ≤ sizeLine ∧ ∀ p H2, H p = none → Ex H H2 → H2 p = some (.lst (xs ++ zs)) → Q (.ref p) H2
theorem op_catE : OpR X (binaryOp .Add) rCatE := by
  intro pins s σ H x y v u Q I rx ry h
  obtain ⟨l, b, xs, zs, e1, e2, hH, hB, hz, q⟩ := h
  exact op_cat pins s σ H x y v u Q I rx ry ⟨l, b, xs, zs, e1, e2, hH, hB, hz, fun p hp => q p _ hp (Ex.new hp) upd_same⟩
def rSlE (K : PySem.W.Frag) : V → Option Int → Option Int → Hp → VK → Prop := fun x lo hi H Q => ∃ a xs, x = .ref a ∧ SqL K H a xs ∧ ∀ p H2, H p = none → Ex H H2 → H2 p = some (.lst (cutV xs lo hi)) → Q (.ref p) H2
theorem sl_listE : SlR X (rSlE X.K) := by
  intro pins s σ H x v vl vu lo hi sl Q I rx hs pl pu h
  obtain ⟨a, xs, e, hx, q⟩ := h
  exact sl_list pins s σ H x v vl vu lo hi sl Q I rx hs pl pu ⟨a, xs, e, hx, fun p hp => q p _ hp (Ex.new hp) upd_same⟩
def rTupE (K : PySem.W.Frag) : List V → Hp → VK → Prop := fun vs H Q => ∃ p ys, vs = [.ref p] ∧ SqL K H p ys ∧ ∀ l H2, H l = none → Ex H H2 → H2 l = some (.tup ys) → Q (.ref l) H2
theorem call_tupE : CallR X (.type "tuple") (rTupE X.K) := by
  intro pins s σ H vs us Q I r h
  obtain ⟨p, ys, e, hq, q⟩ := h
  exact call_tuple_of pins s σ H vs us Q I r ⟨p, ys, e, .inl ⟨hq, fun p hp => q p _ hp (Ex.new hp) upd_same⟩⟩
def rLstE (K : PySem.W.Frag) : List V → Hp → VK → Prop := fun vs H Q => ∃ p ys, vs = [.ref p] ∧ SqL K H p ys ∧ ∀ l H2, H l = none → Ex H H2 → H2 l = some (.lst ys) → Q (.ref l) H2
theorem call_lstE : CallR X (.type "list") (rLstE X.K) := by
  intro pins s σ H vs us Q I r h
  obtain ⟨p, ys, e, hq, q⟩ := h
  exact call_list_of pins s σ H vs us Q I r ⟨p, ys, e, .inl hq, fun p hp => q p _ hp (Ex.new hp) upd_same⟩
/-! ### a list == [] -/
def rEqNil (K : PySem.W.Frag) : R2 := fun x y H Q => ∃ a b xs, x = .ref a ∧ y = .ref b ∧ SqL K H a xs ∧ SqL K H b [] ∧ Q (.bl xs.isEmpty) H
theorem op_eqNil (hu : X.A.units + 64 < cLine) : OpR X (compareOp .Eq) (rEqNil X.K) := by
  intro pins s σ H x y v u Q I rx ry h
  obtain ⟨a, b, xs, rfl, rfl, ha, hb, q⟩ := h
  cases rx
  cases ry
  obtain ⟨its, r1, p1, _⟩ := I.list ha
  obtain ⟨its2, r2, p2, _⟩ := I.list hb
  cases r2
  cases r1 with
  | nil =>
    refine SeqAt.eq_listAt (e := fun _ => true) p1.isList p2.isList rfl (by omega) (fun j h1 _ => absurd h1 (Nat.not_lt_zero j)) ?_
    exact ⟨.bl true, H, I, rfl, q⟩
  | cons h1 h2 =>
    refine SeqAt.eq_list_lengthsAt p1.isList p2.isList (by simp) (by omega) ?_
    exact ⟨.bl false, H, I, rfl, q⟩
end
/-! ### a def of the top whose promise holds where no repr is under way -/
structure GO (P : Program) (w : World) (K : PySem.W.Frag) (mg : Str → Option Value) (base : Heap) (k : Nat) (x : Str) (ps : List Str) (sp : Sp) : Prop where
  ex : ∃ f fd, mg x = some (.ref f) ∧ PySem.W.keepIn K (.ref f) = true ∧ GOk P w K mg base k f fd ps sp ∧ Binds K fd ps []
theorem Df.go {P : Program} {w : World} {K : PySem.W.Frag} {mg : Str → Option Value} {base : Heap} {k : Nat} {x : Str} {st : Stmt} {ps : List Str} {sp : Sp} (D : Df K mg x st ps)
    (h : ∀ f fd, Fun K x x st f fd → GOk P w K mg base k f fd ps sp) : GO P w K mg base k x ps sp := by
  obtain ⟨f, fd, g, F, b⟩ := D.ex
  exact ⟨f, fd, g, F.kp, h f fd F, b⟩
section
variable {X : Cx} {k : Nat} {x : Str} {ps : List Str} {sp : Sp} {e : Expr} {es : List Expr} {t : TA} {p pos : Pos}
theorem clg (D : GO X.prog X.w X.K X.mg X.base k x ps sp) (hG : X.A.guards = some []) (hr : Room k X.A) (ha : PA X (e :: es) t) (hg : Gl X x := by rfl) (hdb : (x == ("__debug__" : Str)) = false := by decide)
    (he : starEach (e :: es) X.env = (false, eval e X.env) :: starEach es X.env := by rfl) (hpl : (backTo pos (starEach es X.env)).any (·.1) = false := by rfl) : PE X (.Call (.Name x p) (e :: es) [] pos) (tCall sp [] E0 t) := by
  obtain ⟨f, fd, g, kp, F, b⟩ := D.ex
  exact clG F hG hr g kp b ha hg hdb he hpl
end
/-! ### kinds -/
inductive Kn where
  | non | bl | int | str | tup | lst | dic
  deriving DecidableEq
def Kn.nm : Kn → String
  | .non => "NoneType" | .bl => "bool" | .int => "int" | .str => "str" | .tup => "tuple" | .lst => "list" | .dic => "dict"
def KdV (K : PySem.W.Frag) (H : Hp) (v : V) (k : Kn) : Prop := TyX K H v (.type k.nm) ∧ (k = .int → ∃ i, v = .int i)
theorem kd_int (k : Kn) : kitB k.nm "int" = some (decide (k = .int) || decide (k = .bl)) := by cases k <;> decide +kernel
theorem kd_bool (k : Kn) : kitB k.nm "bool" = some (decide (k = .bl)) := by cases k <;> decide +kernel
theorem kd_tup (k : Kn) : kitB k.nm "tuple" = some (decide (k = .tup)) := by cases k <;> decide +kernel
section
variable {K : PySem.W.Frag} {H H' : Hp} {s : Addr}
theorem tyL {t : Addr} {xs : List V} (q : SqL K H t xs) : TyX K H (.ref t) (.type "list") := by
  rcases q with (q | ⟨o, q⟩) | ⟨o, us, n, hk, hc, _⟩
  · exact .base (.lst q)
  · exact .base (.frz q)
  · exact .kList hk (by assumption)
/-- a small thing -/
inductive Lf : V → Prop
  | non : Lf .non
  | bl (b : Bool) : Lf (.bl b)
  | int (i : Int) (h : i.natAbs < 2 ^ 250) : Lf (.int i)
  | str (x : Str) (h : x ∈ [("1" : Str), "1/2", ""]) : Lf (.str x)
theorem Lf.kd {v : V} (h : Lf v) : ∃ k, KdV K H v k ∧ k ≠ .tup := by
  cases h with
  | non => exact ⟨.non, ⟨.base .non, fun z => by cases z⟩, by decide⟩
  | bl b => exact ⟨.bl, ⟨.base (.bl b), fun z => by cases z⟩, by decide⟩
  | int i h => exact ⟨.int, ⟨.base (.int i), fun _ => ⟨i, rfl⟩⟩, by decide⟩
  | str x h => exact ⟨.str, ⟨.base (.str x), fun z => by cases z⟩, by decide⟩
/-- a thing as the law draws it: s is the stream -/
inductive Bt (K : PySem.W.Frag) (s : Addr) (H : Hp) : V → Prop
  | leaf {v} (h : Lf v) : Bt K s H v
  | tup {t xs} (q : SqT K H t xs) (h : ∀ x ∈ xs, Lf x) (n : xs.length ≤ 3) : Bt K s H (.ref t)
  | lst {a xs} (q : H a = some (.lst xs)) (e : a ≠ s) (h : ∀ x ∈ xs, Lf x) (n : xs.length ≤ 3) : Bt K s H (.ref a)
  | dic {a} (q : H a = some (.dK [])) : Bt K s H (.ref a)
  | two {t u xs} (q : SqT K H t [.ref u, .ref u]) (p : SqT K H u xs) (h : ∀ x ∈ xs, Lf x) (n : xs.length ≤ 3) : Bt K s H (.ref t)
theorem Bt.ex {v : V} (e : Ex H H') (h : Bt K s H v) : Bt K s H' v := by
  cases h with
  | leaf h => exact .leaf h
  | tup q h n => exact .tup (ex_t e q) h n
  | lst q d h n => exact .lst (e _ _ q) d h n
  | dic q => exact .dic (e _ _ q)
  | two q p h n => exact .two (ex_t e q) (ex_t e p) h n
theorem Bt.dr {v : V} (hs : Stm s H) (d : Dr s H H') (h : Bt K s H v) : Bt K s H' v := by
  cases h with
  | leaf h => exact .leaf h
  | tup q h n => exact .tup (sqt_dr hs d q) h n
  | lst q e h n => exact .lst (d.keep _ _ e q) e h n
  | dic q =>
    obtain ⟨a, b, c, e⟩ := id hs
    exact .dic (d.keep _ _ (ne_of q e (by intro z; cases z)) q)
  | two q p h n => exact .two (sqt_dr hs d q) (sqt_dr hs d p) h n
theorem FrV.bt {v : V} {r : Rat} (h : FrV K H v r) (z : Sz 250 250 r) : Bt K s H v := by
  obtain ⟨t, rfl, q⟩ := h
  refine .tup q (fun x hx => ?_) (by show 2 ≤ 3; decide)
  simp only [List.mem_cons, List.not_mem_nil, or_false] at hx
  rcases hx with rfl | rfl
  · exact .int _ z.1
  · exact .int _ z.den
/-- whether a thing is a fraction -/
inductive Th (K : PySem.W.Frag) (H : Hp) : V → Bool → Prop
  | oth {v k} (h : KdV K H v k) (n : k ≠ .tup) : Th K H v false
  | tupN {t xs} (q : SqT K H t xs) (n : xs.length ≠ 2) : Th K H (.ref t) false
  | two {t x y kx ky} (q : SqT K H t [x, y]) (hx : KdV K H x kx) (hy : KdV K H y ky) (n : ¬ (kx = .int ∧ ky = .int)) : Th K H (.ref t) false
  | nums {t a b} (q : SqT K H t [.int a, .int b]) : Th K H (.ref t) (decide (0 < b) && decide (Nat.gcd a.natAbs b.natAbs = 1))
theorem th_tup {t : Addr} {xs : List V} (q : SqT K H t xs) (h : ∀ x ∈ xs, ∃ k, KdV K H x k) : ∃ b, Th K H (.ref t) b := by
  match xs, q, h with
  | [], q, _ => exact ⟨_, .tupN q (by simp)⟩
  | [_], q, _ => exact ⟨_, .tupN q (by simp)⟩
  | _ :: _ :: _ :: _, q, _ => exact ⟨_, .tupN q (by simp)⟩
  | [x, y], q, h =>
    obtain ⟨kx, hx⟩ := h x (by simp)
    obtain ⟨ky, hy⟩ := h y (by simp)
    by_cases e : kx = .int ∧ ky = .int
    · obtain ⟨a, rfl⟩ := hx.2 e.1
      obtain ⟨b, rfl⟩ := hy.2 e.2
      exact ⟨_, .nums q⟩
    · exact ⟨_, .two q hx hy e⟩
theorem Bt.th {v : V} (h : Bt K s H v) : ∃ b, Th K H v b := by
  cases h with
  | leaf h =>
    obtain ⟨k, hk, n⟩ := h.kd (K := K) (H := H)
    exact ⟨_, .oth hk n⟩
  | tup q h n => exact th_tup q fun x hx => (h x hx).kd.imp fun _ => And.left
  | lst q e h n => exact ⟨_, .oth (k := .lst) ⟨tyL (sq_of q), fun z => by cases z⟩ (by decide)⟩
  | dic q => exact ⟨_, .oth (k := .dic) ⟨.base (.dK q), fun z => by cases z⟩ (by decide)⟩
  | two q p h n =>
    refine th_tup q fun x hx => ?_
    simp only [List.mem_cons, List.not_mem_nil, or_false, or_self] at hx
    subst hx
    exact ⟨.tup, tyT p, fun z => by cases z⟩
theorem Bt.kd {v : V} (h : Bt K s H v) : ∃ k, KdV K H v k := by
  cases h with
  | leaf h => exact h.kd.imp fun _ => And.left
  | tup q h n => exact ⟨.tup, tyT q, fun z => by cases z⟩
  | lst q e h n => exact ⟨.lst, tyL (sq_of q), fun z => by cases z⟩
  | dic q => exact ⟨.dic, .base (.dK q), fun z => by cases z⟩
  | two q p h n => exact ⟨.tup, tyT q, fun z => by cases z⟩
end
/-! ### repr of such things -/
/-- what repr of v tells here -/
inductive Rp (K : PySem.W.Frag) (H : Hp) : V → Str → Prop
  | non : Rp K H .non "None"
  | bl (b : Bool) : Rp K H (.bl b) (if b then "True" else "False")
  | int (i : Int) (h : i.natAbs.log2 < 1920) : Rp K H (.int i) (toString i)
  | str (x : Str) (h : (reprText x).length ≤ sizeLine) : Rp K H (.str x) (reprText x)
  | dat {a d} (h : Dp K H (.ref a) d) (h1 : d.showable = true) (h2 : d.hasDict = false) (h3 : d.depth ≤ 60) (h4 : d.shown.length ≤ sizeLine) : Rp K H (.ref a) d.shown
  | dic {a} (q : H a = some (.dK [])) : Rp K H (.ref a) (PyData.dict []).shown
def rRp (K : PySem.W.Frag) : List V → Hp → VK → Prop := fun vs H Q => ∃ v x, vs = [v] ∧ Rp K H v x ∧ Q (.str x) H
theorem room {u : Nat} (hu : u + 64 < cLine) : u + ((PyData.dict []).depth + 1) < cLine := by
  have : (PyData.dict []).depth ≤ 2 := by decide
  omega
theorem call_rp {X : Cx} (hG : X.A.guards = some []) (hu : X.A.units + 64 < cLine) : CallR X (.builtin "repr") (rRp X.K) := by
  intro pins s σ H xs us Q I r h
  obtain ⟨v, x, rfl, h, q⟩ := h
  cases h with
  | non =>
    obtain ⟨u, rfl, rx⟩ := vals1 r
    cases (show u = Value.none from rx)
    exact PySem.P.repr_of_none ⟨.str _, H, I.tok _, ⟨_, rfl⟩, q⟩
  | bl b =>
    obtain ⟨u, rfl, rx⟩ := vals1 r
    cases (show u = Value.bool b from rx)
    exact PySem.P.repr_of_bool ⟨.str _, H, I.tok _, ⟨_, rfl⟩, q⟩
  | int i hz =>
    obtain ⟨u, rfl, t, rfl⟩ := vals1 r
    exact PySem.P.repr_of_int hz ⟨.str _, H, I.tok _, ⟨_, rfl⟩, q⟩
  | str x hz =>
    obtain ⟨u, rfl, t, rfl⟩ := vals1 r
    exact PySem.P.repr_of_str ⟨.str _, H, I.tok _, ⟨_, rfl⟩, q⟩ hz
  | dat h h1 h2 h3 h4 => exact call_reprD hG hu pins s σ H _ us Q I r ⟨_, _, rfl, h, ⟨_, rfl⟩, h1, h2, h3, h4, q⟩
  | @dic a hq =>
    obtain ⟨u, rfl, rx⟩ := vals1 r
    cases (show u = Value.ref a from rx)
    obtain ⟨_, ya, va, ra, o, es, ep, g1, g2, g3, g4⟩ := (show ObjOk X.prog X.w H s.heap a (.dK []) from I.hok a _ hq)
    cases ra
    have he : es.toList = [] := by
      have hp := g4.2.1
      generalize es.toList = l at hp
      cases hp
      rfl
    have R : Reads s.heap (.ref a) (.dict []) ([a] ++ [] ++ []) := by
      refine Reads.dict g1 g2.1 g3 ?_ ?_
      · rw [he]
        exact .nil
      · rw [he]
        exact .nil
    refine repr_of_reads' R rfl (fun _ hm => ?_) hG (room hu) (fun _ _ z => z) (fun h' u tk kp => ⟨.str _, H, I.kept (t' := tk) kp, ⟨u, rfl⟩, q⟩) (by decide)
    simp only [List.append_nil, List.mem_singleton] at hm
    subst hm
    simp at ya
/-! ### data of such things -/
def lfD : V → PyData
  | .bl b => .bool b
  | .int i => .int i
  | .str x => .str x
  | _ => .none
section
variable {K : PySem.W.Frag} {H : Hp} {s : Addr}
theorem Lf.dp {v : V} (h : Lf v) : Dp K H v (lfD v) := by
  cases h with
  | non => exact .non
  | bl b => exact .bl b
  | int i h => exact .int i
  | str x h => exact .str x
theorem lfs_dp : ∀ {xs : List V}, (∀ x ∈ xs, Lf x) → DpAll K H xs (xs.map lfD)
  | [], _ => .nil
  | x :: xs, h => .cons (h x (by simp)).dp (lfs_dp fun y hy => h y (by simp [hy]))
theorem log2_lt {i : Int} (h : i.natAbs < 2 ^ 250) : i.natAbs.log2 < 1920 := Nat.lt_of_lt_of_le (PySem.Flt.log2_lt_of (by decide) h) (by decide)
theorem Lf.sh {v : V} (h : Lf v) : (lfD v).showable = true ∧ (lfD v).hasDict = false ∧ (lfD v).depth = 0 ∧ (lfD v).leavesShort 92 = true ∧ (lfD v).bulk ≤ 3 := by
  cases h with
  | non => exact ⟨rfl, rfl, rfl, rfl, by decide⟩
  | bl b => exact ⟨rfl, rfl, rfl, rfl, by show 0 ≤ 3; decide⟩
  | int i h =>
    refine ⟨decide_eq_true (log2_lt h), rfl, rfl, decide_eq_true ?_, by show 0 ≤ 3; decide⟩
    have h10 : i.natAbs < 10 ^ 91 := Nat.lt_of_lt_of_le h (by decide +kernel)
    have := int_text_length_le10 (k := 91) (by decide) h10
    show (Str.ofString (toString i)).length ≤ 92
    rw [PySem.ofString_length]
    exact this
  | str x h =>
    simp only [List.mem_cons, List.not_mem_nil, or_false] at h
    rcases h with rfl | rfl | rfl <;> exact ⟨rfl, rfl, rfl, by decide, by decide⟩
theorem lfs_sh : ∀ {xs : List V}, (∀ x ∈ xs, Lf x) → PyData.showableAll (xs.map lfD) = true ∧ PyData.hasDictAll (xs.map lfD) = false ∧ PyData.depthAll (xs.map lfD) = 0 ∧ PyData.leavesShortAll 92 (xs.map lfD) = true ∧ PyData.bulkAll (xs.map lfD) ≤ 4 * xs.length
  | [], _ => ⟨rfl, rfl, rfl, rfl, Nat.le_refl _⟩
  | x :: xs, h => by
    obtain ⟨a1, a2, a3, a4, a5⟩ := (h x (by simp)).sh
    obtain ⟨b1, b2, b3, b4, b5⟩ := lfs_sh (xs := xs) fun y hy => h y (by simp [hy])
    simp only [List.map_cons, PyData.showableAll, PyData.hasDictAll, PyData.depthAll, PyData.leavesShortAll, PyData.bulkAll, a1, a2, a3, a4, b1, b2, b3, b4, Bool.and_self, Bool.or_self, List.length_cons, Nat.max_self, true_and]
    omega
theorem shown_fits {d : PyData} (h : d.leavesShort 92 = true) (hb : d.bulk ≤ 60) : d.shown.length ≤ sizeLine := by
  have h1 := PyData.shown_le_bulk 92 (by decide) d h
  have h2 : (92 + 2) * d.bulk + 92 ≤ 10000 := by omega
  have h3 : 10000 ≤ sizeLine := by decide
  omega
theorem Bt.rp {v : V} (h : Bt K s H v) : ∃ x, Rp K H v x := by
  cases h with
  | leaf h =>
    cases h with
    | non => exact ⟨_, .non⟩
    | bl b => exact ⟨_, .bl b⟩
    | int i h => exact ⟨_, .int i (log2_lt h)⟩
    | str x h =>
      refine ⟨_, .str x ?_⟩
      obtain ⟨_, _, _, a4, a5⟩ := (Lf.str x h).sh
      have z := shown_fits a4 (by omega)
      simpa only [lfD, PyData.shown] using z
  | tup q h n =>
    obtain ⟨b1, b2, b3, b4, b5⟩ := lfs_sh h
    refine ⟨_, .dat (.tup q (lfs_dp h)) b1 b2 ?_ (shown_fits b4 ?_)⟩
    · show PyData.depthAll _ + 1 ≤ 60
      omega
    · show PyData.bulkAll _ ≤ 60
      omega
  | lst q e h n =>
    obtain ⟨b1, b2, b3, b4, b5⟩ := lfs_sh h
    refine ⟨_, .dat (.lst (sq_of q) (lfs_dp h)) b1 b2 ?_ (shown_fits b4 ?_)⟩
    · show PyData.depthAll _ + 1 ≤ 60
      omega
    · show PyData.bulkAll _ ≤ 60
      omega
  | dic q => exact ⟨_, .dic q⟩
  | @two t u xs q p h n =>
    obtain ⟨b1, b2, b3, b4, b5⟩ := lfs_sh h
    have hd : Dp K H (.ref u) (.tuple (xs.map lfD)) := .tup p (lfs_dp h)
    refine ⟨_, .dat (d := .tuple [.tuple (xs.map lfD), .tuple (xs.map lfD)]) (.tup q (.cons hd (.cons hd .nil))) ?_ ?_ ?_ (shown_fits ?_ ?_)⟩
    · simp only [PyData.showable, PyData.showableAll, b1, Bool.and_self]
    · simp only [PyData.hasDict, PyData.hasDictAll, b2, Bool.or_self]
    · simp only [PyData.depth, PyData.depthAll, b3]
      decide
    · simp only [PyData.leavesShort, PyData.leavesShortAll, b4, Bool.and_self]
    · simp only [PyData.bulk, PyData.bulkAll]
      omega
end
end Nc
end
section
set_option maxRecDepth 100000
set_option maxHeartbeats 400000
namespace K01
open PySem Evl Nc PyProof.Rows
open L2 hiding spCell
/-! ### the text -/
def topS (i : Nat) : Stmt := PySem.Challenge.pw_noughtcut_k01_kinds_of_things.main.body.getD i (.Pass ⟨0, 0, 0, 0⟩)
abbrev s_is_whole : Stmt := topS 2
theorem sc_is_whole : FnScope ["thing"] ["thing"] (defScope s_is_whole) := ⟨rfl, rfl, rfl, by decide +kernel, rfl, by decide +kernel, by decide +kernel⟩
abbrev s_is_fraction : Stmt := topS 3
theorem sc_is_fraction : FnScope ["thing", "top", "bottom"] ["thing"] (defScope s_is_fraction) := ⟨rfl, rfl, rfl, by decide +kernel, rfl, by decide +kernel, by decide +kernel⟩
abbrev s_is_row : Stmt := topS 4
theorem sc_is_row : FnScope ["thing", "many", "part"] ["thing", "many"] (defScope s_is_row) := ⟨rfl, rfl, rfl, by decide +kernel, rfl, by decide +kernel, by decide +kernel⟩
abbrev s__law_cell : Stmt := topS 6
theorem sc__law_cell : FnScope ["_law_script", "_law_k"] ["_law_script", "_law_k"] (defScope s__law_cell) := ⟨rfl, rfl, rfl, by decide +kernel, rfl, by decide +kernel, by decide +kernel⟩
abbrev s__law_stream : Stmt := topS 7
theorem sc__law_stream : FnScope ["_law_cell_here"] ["_law_cell_here"] (defScope s__law_stream) := ⟨rfl, rfl, rfl, by decide +kernel, rfl, by decide +kernel, by decide +kernel⟩
abbrev s__law_take : Stmt := topS 8
theorem sc__law_take : FnScope ["_law_stream_here", "_law_many", "_law_digit", "_law_number", "_law_high"] ["_law_stream_here", "_law_many"] (defScope s__law_take) := ⟨rfl, rfl, rfl, by decide +kernel, rfl, by decide +kernel, by decide +kernel⟩
abbrev s__law_common : Stmt := topS 9
theorem sc__law_common : FnScope ["_law_one", "_law_other"] ["_law_one", "_law_other"] (defScope s__law_common) := ⟨rfl, rfl, rfl, by decide +kernel, rfl, by decide +kernel, by decide +kernel⟩
abbrev s__law_fraction : Stmt := topS 10
theorem sc__law_fraction : FnScope ["_law_top", "_law_bottom", "_law_by"] ["_law_top", "_law_bottom"] (defScope s__law_fraction) := ⟨rfl, rfl, rfl, by decide +kernel, rfl, by decide +kernel, by decide +kernel⟩
abbrev s__law_drawn : Stmt := topS 11
theorem sc__law_drawn : FnScope ["_law_stream_here", "_law_top", "_law_bottom"] ["_law_stream_here"] (defScope s__law_drawn) := ⟨rfl, rfl, rfl, by decide +kernel, rfl, by decide +kernel, by decide +kernel⟩
abbrev s__law_bent : Stmt := topS 12
theorem sc__law_bent : FnScope ["_law_stream_here", "_law_one", "_law_top", "_law_bottom", "_law_some"] ["_law_stream_here", "_law_one"] (defScope s__law_bent) := ⟨rfl, rfl, rfl, by decide +kernel, rfl, by decide +kernel, by decide +kernel⟩
abbrev s__law_is_whole : Stmt := topS 13
theorem sc__law_is_whole : FnScope ["_law_thing"] ["_law_thing"] (defScope s__law_is_whole) := ⟨rfl, rfl, rfl, by decide +kernel, rfl, by decide +kernel, by decide +kernel⟩
abbrev s__law_is_fraction : Stmt := topS 14
theorem sc__law_is_fraction : FnScope ["_law_thing"] ["_law_thing"] (defScope s__law_is_fraction) := ⟨rfl, rfl, rfl, by decide +kernel, rfl, by decide +kernel, by decide +kernel⟩
abbrev s__law_is_row : Stmt := topS 15
theorem sc__law_is_row : FnScope ["_law_thing", "_law_many", "_law_one"] ["_law_thing", "_law_many"] (defScope s__law_is_row) := ⟨rfl, rfl, rfl, by decide +kernel, rfl, by decide +kernel, by decide +kernel⟩
abbrev s__law_told : Stmt := topS 16
theorem sc__law_told : FnScope ["_law_found", "_law_due"] ["_law_found", "_law_due"] (defScope s__law_told) := ⟨rfl, rfl, rfl, by decide +kernel, rfl, by decide +kernel, by decide +kernel⟩
abbrev s__law_thing_right : Stmt := topS 17
theorem sc__law_thing_right : FnScope ["_law_thing", "_law_kept", "_law_turn"] ["_law_thing"] (defScope s__law_thing_right) := ⟨rfl, rfl, rfl, by decide +kernel, rfl, by decide +kernel, by decide +kernel⟩
abbrev s__law_row_right : Stmt := topS 18
theorem sc__law_row_right : FnScope ["_law_stream_here", "_law_row", "_law_many", "_law_at", "_law_odd", "_law_bent_here", "_law_thing", "_law_size"] ["_law_stream_here", "_law_row"] (defScope s__law_row_right) := ⟨rfl, rfl, rfl, by decide +kernel, rfl, by decide +kernel, by decide +kernel⟩
abbrev s_law : Stmt := topS 19
theorem sc_law : FnScope ["_law_script", "_law_k", "_law_stream_here", "_law_one", "_law_turn", "_law_row", "_law_at", "_law_j"] ["_law_script"] (defScope s_law) := ⟨rfl, rfl, rfl, by decide +kernel, rfl, by decide +kernel, by decide +kernel⟩

end K01
end
section
set_option maxRecDepth 100000
set_option maxHeartbeats 400000
namespace K01
open PySem Evl Nc PyProof.Rows
open L2 hiding spCell
def spWh (K : PySem.W.Frag) : Sp := fun vs H Q _ => ∃ v k, vs = [v] ∧ KdV K H v k ∧ Q (.bl (decide (k = .int))) H
def spFr (K : PySem.W.Frag) : Sp := fun vs H Q _ => ∃ v b, vs = [v] ∧ Th K H v b ∧ Q (.bl b) H
def spTold : Sp := fun vs H Q _ => ∃ a : Bool, vs = [.bl a, .bl a] ∧ Q (.bl true) H
/-- a row as the law draws it -/
inductive Rw (K : PySem.W.Frag) (H : Hp) : V → Option (List Bool) → Prop
  | oth {v k} (h : KdV K H v k) (n : k ≠ .tup) : Rw K H v none
  | tup {t xs bs} (q : SqT K H t xs) (p : Paired (Th K H) xs bs) (z : xs.length ≤ 100) : Rw K H (.ref t) (some bs)
def rwB : Option (List Bool) → Int → Bool
  | none, _ => false
  | some bs, k => decide ((bs.length : Int) = k) && bs.all id
def spIsRw (K : PySem.W.Frag) : Sp := fun vs H Q _ => ∃ (v : V) (k : Int) (f : Option (List Bool)), vs = [v, .int k] ∧ Rw K H v f ∧ ∀ H', Ex H H' → Q (.bl (rwB f k)) H'
theorem ifB {b : Bool} {A B : Prop} (h1 : b = true → A) (h2 : b = false → B) : if b = true then A else B := by
  cases b
  · exact iteF (h2 rfl)
  · exact iteT (h1 rfl)
theorem th_ex {K : PySem.W.Frag} {H H' : Hp} {v : V} {b : Bool} (kd : ∀ {v k}, KdV K H v k → KdV K H' v k) (e : Ex H H') (h : Th K H v b) : Th K H' v b := by
  cases h with
  | oth h n => exact .oth (kd h) n
  | tupN q n => exact .tupN (ex_t e q) n
  | two q hx hy n => exact .two (ex_t e q) (kd hx) (kd hy) n
  | nums q => exact .nums (ex_t e q)
theorem tyx_ex {K : PySem.W.Frag} {H H' : Hp} {v : V} {t : Value} (e : Ex H H') (h : TyX K H v t) : TyX K H' v t := by
  cases h with
  | base h =>
    cases h with
    | non => exact .base .non
    | bl x => exact .base (.bl x)
    | int x => exact .base (.int x)
    | str x => exact .base (.str x)
    | flt x => exact .base (.flt x)
    | lst q => exact .base (.lst (e _ _ q))
    | frz q => exact .base (.frz (e _ _ q))
    | tup q => exact .base (.tup (e _ _ q))
    | dK q => exact .base (.dK (e _ _ q))
    | dT q => exact .base (.dT (e _ _ q))
    | ins q cl ha hn htk hm => exact .base (.ins (e _ _ q) cl ha hn htk hm)
  | byt b => exact .byt b
  | set q => exact .set (e _ _ q)
  | kList q c => exact .kList q c
  | kTuple q c => exact .kTuple q c
  | kDict q c => exact .kDict q c
  | fTuple q => exact .fTuple (e _ _ q)
  | fDict q => exact .fDict (e _ _ q)
theorem kd_ex {K : PySem.W.Frag} {H H' : Hp} {v : V} {k : Kn} (e : Ex H H') (h : KdV K H v k) : KdV K H' v k := ⟨tyx_ex e h.1, h.2⟩
theorem th_exx {K : PySem.W.Frag} {H H' : Hp} {v : V} {b : Bool} (e : Ex H H') (h : Th K H v b) : Th K H' v b := th_ex (kd_ex e) e h
theorem eq_of_nd {a b : Int} (e : (!decide (V.int a = V.int b)) = false) : a = b := by
  by_cases h : V.int a = V.int b
  · exact V.int.inj h
  · rw [decide_eq_false h] at e
    cases e
theorem dec_int (n : Nat) : decide (V.int (n : Int) = V.int 1) = decide (n = 1) := by
  by_cases h : n = 1
  · rw [decide_eq_true h, h]
    decide
  · rw [decide_eq_false h]
    refine decide_eq_false fun z => h ?_
    have := V.int.inj z
    omega
theorem q_bl {a b : Bool} {Q : VK} {H : Hp} (q : Q (.bl b) H) (e : a = b) : Q (.bl a) H := by
  rw [e]
  exact q
section
variable {P : Program} {w : World} {K : PySem.W.Frag} {mg : Str → Option Value} {base : Heap}
theorem ok__law_cell (D : Df K mg "_law_cell" s__law_cell ["_law_script", "_law_k"]) (mlen : mg "len" = none) : Ok P w K mg base 1 "_law_cell" ["_law_script", "_law_k"] (spCell K) := by
  refine D.ok fun f fd F => F.ok sc__law_cell (fun vs H Q E h => ?_) (fun cdv A outer s H vs Q E hr h => ?_)
  · obtain ⟨a, ns, k, rfl, _⟩ := h
    rfl
  · obtain ⟨a, ns, k, rfl, hS, hk, q⟩ := h
    refine ⟨_, pss_cons (ps_if (pt_cmpR op_lt (pv 1) (pe_callB call_len_seq (by rfl) mlen PySem.boot_len (pa_cons (pv 0) pa_nil)) (nomark _)) (pss_one (ps_ret (pe_ix ix_list (pv 0) (pv 1) (fun _ _ => rfl)))) pss_nil)
      (pss_one (ps_ret (pe_op op_add (pe_op op_mul pe_int (pv 1)) pe_int))), ?_⟩
    refine ⟨_, rfl, _, rfl, a, _, rfl, .inl hS, _, _, rfl, rfl, _, rfl, ite2 (fun hd => ?_) (fun hd => ?_)⟩
    · have hlt := of_decide_eq_true hd
      rw [List.length_map] at hlt
      have hn : k < ns.length := by omega
      refine ⟨_, rfl, _, rfl, a, _, _, .int ns[k], rfl, rfl, hS, atI_nat ?_, q _⟩
      rw [List.getElem?_map, List.getElem?_eq_getElem hn]
      rfl
    · exact ⟨_, rfl, _, _, rfl, rfl, .inl ⟨by decide, by decide⟩, _, _, rfl, rfl, q _⟩
theorem ok__law_stream (D : Df K mg "_law_stream" s__law_stream ["_law_cell_here"]) (mint : mg "int" = none) : Ok P w K mg base 1 "_law_stream" ["_law_cell_here"] spStream := by
  refine D.ok fun f fd F => F.ok sc__law_stream (fun vs H Q E h => ?_) (fun cdv A outer s H vs Q E hr h => ?_)
  · obtain ⟨c, rfl, _⟩ := h
    rfl
  · obtain ⟨c, rfl, q⟩ := h
    refine ⟨_, pss_one (ps_ret (pe_lst (pa_cons (pe_op op_mul (pv 0) (pe_callTy call_int1 (by rfl) mint (by decide +kernel) (pa_cons (pe_cmpR op_ge (pv 0) (pe_op op_pow pe_int pe_int) (nomark _)) pa_nil))) (pa_cons (pe_op op_mod (pv 0) pe_int) (pa_cons pe_int pa_nil))))), ?_⟩
    refine ⟨_, rfl, _, rfl, _, _, rfl, rfl, ⟨by decide, by decide, by decide⟩, _, _, rfl, rfl, .inr ⟨_, rfl, _, _, rfl, rfl, .inr (b01 _), _, rfl, _, _, rfl, rfl, (by show (0 : Int) < _; decide), (by show 3 ≤ sizeLine; decide), fun p hp => ?_⟩⟩
    exact q _ _ _ _ hp
theorem ok__law_take (D : Df K mg "_law_take" s__law_take ["_law_stream_here", "_law_many"]) : Ok P w K mg base 1 "_law_take" ["_law_stream_here", "_law_many"] spTake := by
  refine D.ok fun f fd F => F.ok sc__law_take (fun vs H Q E h => ?_) (fun cdv A outer s H vs Q E hr h => ?_)
  · obtain ⟨s, m, rfl, _⟩ := h
    rfl
  · obtain ⟨s, m, rfl, ⟨a, b, c, hS⟩, m0, m1, q⟩ := h
    refine ⟨_, pss_cons (ps_if (pt_cmpR op_gt (pe_ix ix_list (pv 0) pe_int (fun _ _ => rfl)) pe_int (nomark _)) (pss_cons (ps_set (i := 2) sc__law_take.nd rfl (.inl rfl) (pe_op op_mod (pe_ix ix_list (pv 0) pe_int (fun _ _ => rfl)) (pv 1))) (pss_cons (ps_asg (pe_op op_fdivW (pe_ix ix_list (pv 0) pe_int (fun _ _ => rfl)) (pv 1)) (pg_sub (pv 0) pe_int set_list)) (pss_one (ps_ret (pv 2))))) pss_nil)
      (pss_cons (ps_asg (pe_op op_add (pe_ix ix_list (pv 0) pe_int (fun _ _ => rfl)) pe_int) (pg_sub (pv 0) pe_int set_list))
      (pss_cons (ps_set (i := 3) sc__law_take.nd rfl (.inl rfl) (pe_op op_mod (pe_op op_add (pe_op op_add (pe_op op_mul (pe_ix ix_list (pv 0) pe_int (fun _ _ => rfl)) pe_int) (pe_op op_mul pe_int (pe_ix ix_list (pv 0) pe_int (fun _ _ => rfl)))) pe_int) pe_int))
      (pss_cons (ps_set (i := 3) sc__law_take.nd rfl (.inl rfl) (pe_op op_mod (pe_op op_mul (pv 3) (pv 3)) pe_int))
      (pss_cons (ps_set (i := 4) sc__law_take.nd rfl (.inl rfl) (pe_op op_mod (pe_op op_add (pe_op op_mul (pv 3) pe_int) (pe_op op_mul pe_int (pe_ix ix_list (pv 0) pe_int (fun _ _ => rfl)))) pe_int))
      (pss_one (ps_ret (pe_op op_mod (pe_op op_fdiv (pe_op op_mod (pe_op op_mul (pv 4) (pv 3)) pe_int) pe_int) (pv 1)))))))), ?_⟩
    have hL : SqL K H s [.int a, .int b, .int c] := sq_of hS
    refine ⟨_, rfl, _, _, _, _, rfl, rfl, hL, at0, _, _, rfl, rfl, _, rfl, ite2 (fun hd => ?_) (fun hd => ?_)⟩
    · refine ⟨_, rfl, _, _, _, _, rfl, rfl, hL, at0, _, rfl, _, _, rfl, rfl, m0, _, rfl, _, _, _, _, rfl, rfl, hL, at0, _, rfl, _, _, rfl, rfl, cdivT m0 m1, _, rfl, s, _, _, 0, rfl, rfl, hS, rfl, _, rfl, ?_⟩
      exact q _ _ (Int.emod_nonneg _ (by omega)) (Int.emod_lt_of_pos _ m0) (Dr.put hS)
    · refine ⟨_, rfl, _, _, _, _, rfl, rfl, hL, at2, _, _, rfl, rfl, _, rfl, s, _, _, 2, rfl, rfl, hS, rfl, ?_⟩
      have d1 : Dr s H (upd H s (.lst [.int a, .int b, .int (c + 1)])) := Dr.put hS
      have hL2 : SqL K (upd H s (.lst [.int a, .int b, .int (c + 1)])) s [.int a, .int b, .int (c + 1)] := sq_of upd_same
      refine ⟨_, rfl, _, _, _, _, rfl, rfl, hL2, at1, _, _, rfl, rfl, .inr ⟨by decide, by decide⟩, _, rfl, _, _, _, _, rfl, rfl, hL2, at2, _, _, rfl, rfl, .inl ⟨by decide, by decide⟩, _, _, rfl, rfl, _, _, rfl, rfl, _, _, rfl, rfl, (by show (0 : Int) < _; decide), ?_⟩
      refine ⟨_, rfl, _, rfl, _, _, rfl, rfl, .inl (modb _ (by decide) (by decide)), _, _, rfl, rfl, (by show (0 : Int) < _; decide), ?_⟩
      refine ⟨_, rfl, _, _, rfl, rfl, .inr ⟨by decide, by decide⟩, _, rfl, _, _, _, _, rfl, rfl, hL2, at2, _, _, rfl, rfl, .inl ⟨by decide, by decide⟩, _, _, rfl, rfl, _, _, rfl, rfl, (by show (0 : Int) < _; decide), ?_⟩
      refine ⟨_, rfl, _, rfl, _, _, rfl, rfl, .inl (modb _ (by decide) (by decide)), _, _, rfl, rfl, (by show (0 : Int) < _; decide), _, _, rfl, rfl, ⟨by decide, by decide⟩, _, rfl, _, _, rfl, rfl, m0, ?_⟩
      exact q _ _ (Int.emod_nonneg _ (by omega)) (Int.emod_lt_of_pos _ m0) d1
theorem ok__law_common (D : Df K mg "_law_common" s__law_common ["_law_one", "_law_other"]) : Ok P w K mg base 1 "_law_common" ["_law_one", "_law_other"] spCommon := by
  refine D.ok fun f fd F => F.ok sc__law_common (fun vs H Q E h => ?_) (fun cdv A outer s H vs Q E hr h => ?_)
  · obtain ⟨t, b, rfl, _⟩ := h
    rfl
  · obtain ⟨t, b, rfl, ht, hb, q⟩ := h
    refine ⟨_, pss_cons (ps_while PassesOwn.never (pt_cmpR op_ne (pv 1) pe_int (nomark _)) (pss_one (ps_par (i := 0) (j := 1) rfl sc__law_common.nd rfl rfl (by decide) rfl rfl (pa_cons (pv 1) (pa_cons (pe_op op_mod (pv 0) (pv 1)) pa_nil)) (by rfl))))
      (pss_one (ps_ret (pv 0))), ?_⟩
    refine ⟨fun m σ H' => ∃ a c : Int, σ = [some (.int a), some (.int c)] ∧ 0 ≤ a ∧ 0 ≤ c ∧ m = c.toNat ∧ Nat.gcd a.natAbs c.natAbs = Nat.gcd t.natAbs b.natAbs ∧ H' = H,
      ⟨b.toNat, t, b, rfl, ht, by omega, rfl, rfl, rfl⟩, ?_⟩
    rintro m σ H' ⟨a, c, rfl, ha, hc, rfl, hg, rfl⟩
    refine ⟨_, rfl, rfl, _, rfl, ?_⟩
    by_cases hc0 : c = 0
    · subst hc0
      rw [decide_eq_true rfl]
      refine iteF ?_
      have ea : a = ((Nat.gcd t.natAbs b.natAbs : Nat) : Int) := by
        rw [← hg]
        simp
        omega
      subst ea
      exact ⟨_, rfl, q⟩
    · rw [decide_eq_false (fun z => hc0 (V.int.inj z))]
      refine iteT ?_
      have hc1 : 0 < c := by omega
      refine ⟨fun σ' H'' => σ' = [some (.int c), some (.int (a % c))] ∧ H'' = H', ?_, ?_⟩
      · rintro σ' H'' ⟨rfl, rfl⟩
        have z1 := Int.emod_nonneg a (b := c) (by omega)
        have z2 := Int.emod_lt_of_pos a hc1
        exact ⟨(a % c).toNat, by omega, c, a % c, rfl, by omega, z1, rfl, (gcd_step ha hc1).trans hg, rfl⟩
      · exact ⟨_, rfl, _, rfl, _, rfl, a, c, rfl, rfl, hc1, _, _, rfl, rfl, rfl⟩
theorem ok__law_fraction (D : Df K mg "_law_fraction" s__law_fraction ["_law_top", "_law_bottom"]) (GC : Ok P w K mg base 1 "_law_common" ["_law_one", "_law_other"] spCommon) (mabs : mg "abs" = none) : Ok P w K mg base 2 "_law_fraction" ["_law_top", "_law_bottom"] (spPart K) := by
  refine D.ok fun f fd F => F.ok sc__law_fraction (fun vs H Q E h => ?_) (fun cdv A outer s H vs Q E hr h => ?_)
  · obtain ⟨t, b, n, rfl, _⟩ := h
    rfl
  · obtain ⟨t, b, n, rfl, hb, hn, h0, h9, q⟩ := h
    refine ⟨_, pss_cons (ps_set (i := 2) sc__law_fraction.nd rfl (.inl rfl) (cl GC hr (pa_cons (pe_callB call_abs (by rfl) mabs (by decide +kernel) (pa_cons (pv 0) pa_nil)) (pa_cons (pv 1) pa_nil))))
      (pss_one (ps_ret (pe_tup (pa_cons (pe_op op_fdivW (pv 0) (pv 2)) (pa_cons (pe_op op_fdivW (pv 1) (pv 2)) pa_nil))))), ?_⟩
    have g1 := gcd_pos (t := t) hb
    have g2 := gcd_le (t := t) hb
    have dv : ∀ i : Int, CDivW i ((Nat.gcd t.natAbs b.natAbs : Nat) : Int) := fun i => wide_div g1 (wide_le (by omega) g2 hn) h0 h9
    have ea : Nat.gcd (if t < 0 then -t else t).natAbs b.natAbs = Nat.gcd t.natAbs b.natAbs := by
      split
      · rw [Int.natAbs_neg]
      · rfl
    refine ⟨_, rfl, t, rfl, _, rfl, _, b, rfl, by split <;> omega, hb, ?_⟩
    rw [ea]
    refine ⟨_, rfl, _, rfl, t, _, rfl, rfl, dv _, _, rfl, _, rfl, b, _, rfl, rfl, dv _, (by show 2 ≤ sizeLine; decide), fun p hp => ?_⟩
    exact q _ _ (Ex.new hp) (made (num_div hb) (den_div hb))
theorem ok_is_whole (D : Df K mg "is_whole" s_is_whole ["thing"]) (misi : mg "isinstance" = none) (mint : mg "int" = none) (mbool : mg "bool" = none) : Ok P w K mg base 1 "is_whole" ["thing"] (spWh K) := by
  refine D.ok fun f fd F => F.ok sc_is_whole (fun vs H Q E h => ?_) (fun cdv A outer s H vs Q E hr h => ?_)
  · obtain ⟨v, k, rfl, _⟩ := h
    rfl
  · obtain ⟨v, k, rfl, hk, q⟩ := h
    refine ⟨_, pss_one (ps_ret (pe_and (pe_callB call_isi (by rfl) misi (by decide +kernel) (pa_cons (pv 0) (pa_cons (pe_bltn (v := .ty "int") (by rfl) mint (by decide +kernel) rfl) pa_nil))) (pe_one (pe_not (pe_callB call_isi (by rfl) misi (by decide +kernel) (pa_cons (pv 0) (pa_cons (pe_bltn (v := .ty "bool") (by rfl) mbool (by decide +kernel) rfl) pa_nil))))))), ?_⟩
    refine ⟨_, rfl, v, _, _, _, _, rfl, .ty _, hk.1, kit_ty (kd_int k), _, rfl, ifB (fun e => ?_) (fun e => ?_)⟩
    · refine ⟨_, rfl, v, _, _, _, _, rfl, .ty _, hk.1, kit_ty (kd_bool k), _, rfl, ?_⟩
      cases k <;> first | exact q | exact absurd e (by decide)
    · cases k <;> first | exact q | exact absurd e (by decide)
theorem ok__law_is_whole (D : Df K mg "_law_is_whole" s__law_is_whole ["_law_thing"]) (misi : mg "isinstance" = none) (mint : mg "int" = none) (mbool : mg "bool" = none) : Ok P w K mg base 1 "_law_is_whole" ["_law_thing"] (spWh K) := by
  refine D.ok fun f fd F => F.ok sc__law_is_whole (fun vs H Q E h => ?_) (fun cdv A outer s H vs Q E hr h => ?_)
  · obtain ⟨v, k, rfl, _⟩ := h
    rfl
  · obtain ⟨v, k, rfl, hk, q⟩ := h
    refine ⟨_, pss_one (ps_ret (pe_and (pe_callB call_isi (by rfl) misi (by decide +kernel) (pa_cons (pv 0) (pa_cons (pe_bltn (v := .ty "int") (by rfl) mint (by decide +kernel) rfl) pa_nil))) (pe_one (pe_not (pe_callB call_isi (by rfl) misi (by decide +kernel) (pa_cons (pv 0) (pa_cons (pe_bltn (v := .ty "bool") (by rfl) mbool (by decide +kernel) rfl) pa_nil))))))), ?_⟩
    refine ⟨_, rfl, v, _, _, _, _, rfl, .ty _, hk.1, kit_ty (kd_int k), _, rfl, ifB (fun e => ?_) (fun e => ?_)⟩
    · refine ⟨_, rfl, v, _, _, _, _, rfl, .ty _, hk.1, kit_ty (kd_bool k), _, rfl, ?_⟩
      cases k <;> first | exact q | exact absurd e (by decide)
    · cases k <;> first | exact q | exact absurd e (by decide)
theorem ok_is_fraction (D : Df K mg "is_fraction" s_is_fraction ["thing"]) (GW : Ok P w K mg base 1 "is_whole" ["thing"] (spWh K)) (misi : mg "isinstance" = none) (mtuple : mg "tuple" = none) (mlen : mg "len" = none) (mgcd : mg "gcd" = some (.builtin "math.gcd")) : Ok P w K mg base 2 "is_fraction" ["thing"] (spFr K) := by
  refine D.ok fun f fd F => F.ok sc_is_fraction (fun vs H Q E h => ?_) (fun cdv A outer s H vs Q E hr h => ?_)
  · obtain ⟨v, b, rfl, _⟩ := h
    rfl
  · obtain ⟨v, b, rfl, ht, q⟩ := h
    have hr1 : Room 1 _ := hr.mono (by decide)
    refine ⟨_, (pss_cons (ps_if (PW.pt (pw_or (pt_not (pt_val (pe_callB call_isi (by rfl) misi (by decide +kernel) (pa_cons (pv 0) (pa_cons (pe_bltn (v := .ty "tuple") (by rfl) mtuple (by decide +kernel) rfl) pa_nil))))) (pw_or1 (pt_cmpR op_ne (pe_callB call_len_seq (by rfl) mlen PySem.boot_len (pa_cons (pv 0) pa_nil)) pe_int (nomark _))))) (pss_one (ps_ret pe_bl)) pss_nil)
      (pss_cons (ps_asg (pv 0) (pg_tup rfl (pgs_cons (pg_name (i := 1) sc_is_fraction.nd rfl (.inl rfl)) (pgs_cons (pg_name (i := 2) sc_is_fraction.nd rfl (.inl rfl)) pgs_nil))))
      (pss_one (ps_ret (pe_and (cl GW hr1 (pa_cons (pv 1) pa_nil)) (pe_and (cl GW hr1 (pa_cons (pv 2) pa_nil)) (pe_and (pe_cmpR op_gt (pv 2) pe_int (nomark _)) (pe_one (pe_cmpR op_eq (pe_callBfun cr_gcd (by rfl) mgcd (pa_cons (pv 1) (pa_cons (pv 2) pa_nil))) pe_int (nomark _)))))))))), ?_⟩
    cases ht with
    | oth h n =>
      refine ⟨_, rfl, v, _, _, _, _, rfl, .ty _, h.1, kit_ty (kd_tup _), _, rfl, ?_⟩
      rw [decide_eq_false n]
      exact iteT (iteT q)
    | tupN qt n =>
      refine ⟨_, rfl, _, _, _, _, _, rfl, .ty _, tyT qt, kit_ty (r := true) (by decide +kernel), _, rfl, ?_⟩
      refine iteF ?_
      refine ⟨_, rfl, _, _, rfl, .inr qt, rfl, _, rfl, ifB (fun e => q) (fun e => ?_)⟩
      have e1 := eq_of_nd e
      exact (n (by omega)).elim
    | @two t x y kx ky qt hx hy n =>
      refine ⟨_, rfl, _, _, _, _, _, rfl, .ty _, tyT qt, kit_ty (r := true) (by decide +kernel), _, rfl, ?_⟩
      refine iteF ?_
      refine ⟨_, rfl, _, _, rfl, .inr qt, rfl, _, rfl, iteNS rfl ?_⟩
      refine ⟨_, rfl, t, [x, y], rfl, qt, rfl, x, [y], rfl, y, [], rfl, rfl, ?_⟩
      refine ⟨_, rfl, x, kx, rfl, hx, _, rfl, ifB (fun e => ?_) (fun e => q)⟩
      refine ⟨_, rfl, y, ky, rfl, hy, _, rfl, ifB (fun e2 => ?_) (fun e2 => q)⟩
      exact (n ⟨of_decide_eq_true e, of_decide_eq_true e2⟩).elim
    | @nums t a b qt =>
      refine ⟨_, rfl, _, _, _, _, _, rfl, .ty _, tyT qt, kit_ty (r := true) (by decide +kernel), _, rfl, ?_⟩
      refine iteF ?_
      refine ⟨_, rfl, _, _, rfl, .inr qt, rfl, _, rfl, iteNS rfl ?_⟩
      refine ⟨_, rfl, t, [.int a, .int b], rfl, qt, rfl, _, [_], rfl, _, [], rfl, rfl, ?_⟩
      refine ⟨_, rfl, _, .int, rfl, ⟨tyI a, fun _ => ⟨a, rfl⟩⟩, _, rfl, iteT ?_⟩
      refine ⟨_, rfl, _, .int, rfl, ⟨tyI b, fun _ => ⟨b, rfl⟩⟩, _, rfl, iteT ?_⟩
      refine ⟨_, rfl, _, _, rfl, rfl, _, rfl, ifB (fun e => ?_) (fun e => ?_)⟩
      · refine ⟨_, rfl, _, rfl, a, b, rfl, rfl, ?_⟩
        rw [e, Bool.true_and] at q
        exact q_bl q (dec_int _)
      · rw [e, Bool.false_and] at q
        exact q
end

end K01
end
section
set_option maxRecDepth 100000
set_option maxHeartbeats 400000
namespace K01
open PySem Evl Nc PyProof.Rows
open L2 hiding spCell
theorem ne_of_nd {a b : Int} (e : (!decide (V.int a = V.int b)) = true) : decide (a = b) = false := by
  by_cases h : a = b
  · rw [decide_eq_true (congrArg V.int h)] at e
    cases e
  · exact decide_eq_false h
theorem of_nd {p : Prop} [Decidable p] (e : (!decide p) = false) : p := by
  by_cases h : p
  · exact h
  · rw [decide_eq_false h] at e
    cases e
def spThing (K : PySem.W.Frag) : Sp := fun vs H Q _ => ∃ s v, vs = [v] ∧ Bt K s H v ∧ Q (.bl true) H
section
variable {P : Program} {w : World} {K : PySem.W.Frag} {mg : Str → Option Value} {base : Heap}
theorem ok_is_row (D : Df K mg "is_row" s_is_row ["thing", "many"]) (GF : Ok P w K mg base 2 "is_fraction" ["thing"] (spFr K)) (misi : mg "isinstance" = none) (mtuple : mg "tuple" = none) (mlen : mg "len" = none) (mall : mg "all" = none) : Ok P w K mg base 3 "is_row" ["thing", "many"] (spIsRw K) := by
  refine D.ok fun f fd F => F.ok sc_is_row (fun vs H Q E h => ?_) (fun cdv A outer s H vs Q E hr h => ?_)
  · obtain ⟨v, k, f, rfl, _⟩ := h
    rfl
  · obtain ⟨v, k, f, rfl, hw, q⟩ := h
    refine ⟨_, (pss_cons (ps_if (PW.pt (pw_or (pt_not (pt_val (pe_callB call_isi (by rfl) misi (by decide +kernel) (pa_cons (pv 0) (pa_cons (pe_bltn (v := .ty "tuple") (by rfl) mtuple (by decide +kernel) rfl) pa_nil))))) (pw_or1 (pt_cmpR op_ne (pe_callB call_len_seq (by rfl) mlen PySem.boot_len (pa_cons (pv 0) pa_nil)) (pv 1) (nomark _))))) (pss_one (ps_ret pe_bl)) pss_nil)
      (pss_one (ps_ret (pe_callB (cr_all rfl) (by rfl) mall (by decide +kernel) (pa_cons (pe_lc (own := [("part", 2)]) (g := gName 2) (tt := tYes) rfl sc_is_row.nd (pi_tup (pv 0)) (blkOk_by (N := ["thing", "many", "part"]) (sc := defScope s_is_row) (by decide +kernel)) (fun _ _ _ _ _ => (pg_name (i := 2) sc_is_row.nd rfl (.inl rfl))) (fun _ _ _ _ _ => pts_nil) (fun _ _ _ _ _ => cl GF (hr.mono (by decide)) (pa_cons (pv 2) pa_nil))) pa_nil))))), ?_⟩
    cases hw with
    | oth h n =>
      refine ⟨_, rfl, v, _, _, _, _, rfl, .ty _, h.1, kit_ty (kd_tup _), _, rfl, ?_⟩
      rw [decide_eq_false n]
      exact iteT (iteT (q _ (Ex.refl H)))
    | @tup t xs bs qt p z =>
      have hl := Paired.length p
      refine ⟨_, rfl, _, _, _, _, _, rfl, .ty _, tyT qt, kit_ty (r := true) (by decide +kernel), _, rfl, iteF ?_⟩
      refine ⟨_, rfl, _, _, rfl, .inr qt, _, rfl, rfl, _, rfl, ifB (fun e => ?_) (fun e => ?_)⟩
      · refine q_bl (q _ (Ex.refl H)) ?_
        show _ = (decide ((bs.length : Int) = k) && bs.all id)
        rw [← hl, ne_of_nd e, Bool.false_and]
      · have e1 := eq_of_nd e
        subst e1
        refine ⟨_, rfl, t, rfl, ⟨_, qt⟩, fun D hD => ?_⟩
        refine lc_tup (K := K) (a := t) (xs := xs) (fun i H' => Ex H H' ∧ H' D = some (.lst ((bs.take i).map V.bl))) ⟨Ex.new hD, upd_same⟩ (fun i H' _ b => ex_t b.1 qt) ?_ ?_
        · rintro i x H' hi ⟨e1, k1⟩
          obtain ⟨b, hb, th⟩ := pget p hi
          have hlt := (List.getElem?_eq_some_iff.mp hi).1
          refine ⟨rfl, ?_⟩
          refine ⟨_, rfl, x, b, rfl, th_exx e1 th, _, k1, sz_lt (by rw [List.length_map, List.length_take]; omega), Ex.mut e1 hD, ?_⟩
          rw [List.take_add_one, hb, List.map_append]
          exact upd_same
        · rintro H1 ⟨e1, k1⟩
          refine ⟨D, bs, rfl, sq_of ?_, ?_⟩
          · rw [k1, List.take_of_length_le (by omega)]
          · refine q_bl (q _ e1) ?_
            show _ = (decide ((bs.length : Int) = (xs.length : Int)) && bs.all id)
            rw [decide_eq_true (by omega), Bool.true_and]
theorem ok__law_is_row (D : Df K mg "_law_is_row" s__law_is_row ["_law_thing", "_law_many"]) (GF : Ok P w K mg base 2 "_law_is_fraction" ["_law_thing"] (spFr K)) (misi : mg "isinstance" = none) (mtuple : mg "tuple" = none) (mlen : mg "len" = none) : Ok P w K mg base 3 "_law_is_row" ["_law_thing", "_law_many"] (spIsRw K) := by
  refine D.ok fun f fd F => F.ok sc__law_is_row (fun vs H Q E h => ?_) (fun cdv A outer s H vs Q E hr h => ?_)
  · obtain ⟨v, k, f, rfl, _⟩ := h
    rfl
  · obtain ⟨v, k, f, rfl, hw, q⟩ := h
    refine ⟨_, (pss_cons (ps_if (PW.pt (pw_or (pt_not (pt_val (pe_callB call_isi (by rfl) misi (by decide +kernel) (pa_cons (pv 0) (pa_cons (pe_bltn (v := .ty "tuple") (by rfl) mtuple (by decide +kernel) rfl) pa_nil))))) (pw_or1 (pt_cmpR op_ne (pe_callB call_len_seq (by rfl) mlen PySem.boot_len (pa_cons (pv 0) pa_nil)) (pv 1) (nomark _))))) (pss_one (ps_ret pe_bl)) pss_nil)
      (pss_one (ps_ret (pe_cmpR (op_eqNil hr.units) (pe_lc (own := [("_law_one", 2)]) (g := gName 2) (tt := tNot (tB (tCall (spFr K) [] E0 (tCons (tVar 2) tNil)))) rfl sc__law_is_row.nd (pi_tup (pv 0)) (blkOk_by (N := ["_law_thing", "_law_many", "_law_one"]) (sc := defScope s__law_is_row) (by decide +kernel)) (fun _ _ _ _ _ => (pg_name (i := 2) sc__law_is_row.nd rfl (.inl rfl))) (fun _ _ _ _ _ => pts_one (pt_not (pt_val (cl GF (hr.mono (by decide)) (pa_cons (pv 2) pa_nil))))) (fun _ _ _ _ _ => (pv 2))) (pe_lst pa_nil) (nomark _))))), ?_⟩
    cases hw with
    | oth h n =>
      refine ⟨_, rfl, v, _, _, _, _, rfl, .ty _, h.1, kit_ty (kd_tup _), _, rfl, ?_⟩
      rw [decide_eq_false n]
      exact iteT (iteT (q _ (Ex.refl H)))
    | @tup t xs bs qt p z =>
      have hl := Paired.length p
      refine ⟨_, rfl, _, _, _, _, _, rfl, .ty _, tyT qt, kit_ty (r := true) (by decide +kernel), _, rfl, iteF ?_⟩
      refine ⟨_, rfl, _, _, rfl, .inr qt, _, rfl, rfl, _, rfl, ifB (fun e => ?_) (fun e => ?_)⟩
      · refine q_bl (q _ (Ex.refl H)) ?_
        show _ = (decide ((bs.length : Int) = k) && bs.all id)
        rw [← hl, ne_of_nd e, Bool.false_and]
      · have e1 := eq_of_nd e
        subst e1
        refine ⟨_, rfl, t, rfl, ⟨_, qt⟩, fun D hD => ?_⟩
        refine lc_tup (K := K) (a := t) (xs := xs) (fun i H' => Ex H H' ∧ ∃ ys, H' D = some (.lst ys) ∧ ys.length ≤ i ∧ ys.isEmpty = (bs.take i).all id) ⟨Ex.new hD, [], upd_same, Nat.le_refl _, rfl⟩ (fun i H' _ b => ex_t b.1 qt) ?_ ?_
        · rintro i x H' hi ⟨e1, ys, k1, k2, k3⟩
          obtain ⟨b, hb, th⟩ := pget p hi
          have hlt := (List.getElem?_eq_some_iff.mp hi).1
          refine ⟨rfl, ?_⟩
          refine ⟨_, rfl, x, b, rfl, th_exx e1 th, _, rfl, ifB (fun e => ?_) (fun e => ?_)⟩
          · have eb : b = false := by
              cases b
              · rfl
              · cases e
            subst eb
            refine ⟨_, rfl, ys, k1, sz_lt (by omega), Ex.mut e1 hD, _, upd_same, by simp; omega, ?_⟩
            rw [List.take_add_one, hb, List.all_append]
            simp
          · have eb : b = true := by
              cases b
              · cases e
              · rfl
            subst eb
            refine ⟨e1, ys, k1, by omega, ?_⟩
            rw [List.take_add_one, hb, List.all_append, ← k3]
            simp
        · rintro H1 ⟨e1, ys, k1, k2, k3⟩
          refine ⟨(by show 0 ≤ sizeLine; decide), fun p0 hp0 => ?_⟩
          have e2 : Ex H1 (upd H1 p0 (.lst [])) := Ex.new hp0
          refine ⟨D, p0, ys, rfl, rfl, sq_of (e2 _ _ k1), sq_of upd_same, ?_⟩
          refine q_bl (q _ (e1.trans e2)) ?_
          show _ = (decide ((bs.length : Int) = (xs.length : Int)) && bs.all id)
          rw [decide_eq_true (by omega), Bool.true_and, k3, List.take_of_length_le (by omega)]
theorem ok__law_is_fraction (D : Df K mg "_law_is_fraction" s__law_is_fraction ["_law_thing"]) (GW : Ok P w K mg base 1 "_law_is_whole" ["_law_thing"] (spWh K)) (GC : Ok P w K mg base 1 "_law_common" ["_law_one", "_law_other"] spCommon) (misi : mg "isinstance" = none) (mtuple : mg "tuple" = none) (mlen : mg "len" = none) (mabs : mg "abs" = none) :
    Ok P w K mg base 2 "_law_is_fraction" ["_law_thing"] (spFr K) := by
  refine D.ok fun f fd F => F.ok sc__law_is_fraction (fun vs H Q E h => ?_) (fun cdv A outer s H vs Q E hr h => ?_)
  · obtain ⟨v, b, rfl, _⟩ := h
    rfl
  · obtain ⟨v, b, rfl, ht, q⟩ := h
    have hr1 : Room 1 _ := hr.mono (by decide)
    refine ⟨_, (pss_cons (ps_if (PW.pt (pw_or (pt_not (pt_val (pe_callB call_isi (by rfl) misi (by decide +kernel) (pa_cons (pv 0) (pa_cons (pe_bltn (v := .ty "tuple") (by rfl) mtuple (by decide +kernel) rfl) pa_nil))))) (pw_or (pt_cmpR op_ne (pe_callB call_len_seq (by rfl) mlen PySem.boot_len (pa_cons (pv 0) pa_nil)) pe_int (nomark _)) (pw_or (pt_not (pt_val (cl GW hr1 (pa_cons (pe_ix ix_tup (pv 0) pe_int (fun _ _ => rfl)) pa_nil)))) (pw_or1 (pt_not (pt_val (cl GW hr1 (pa_cons (pe_ix ix_tup (pv 0) pe_int (fun _ _ => rfl)) pa_nil))))))))) (pss_one (ps_ret pe_bl)) pss_nil)
      (pss_one (ps_ret (pe_and (pe_cmpR op_gt (pe_ix ix_tup (pv 0) pe_int (fun _ _ => rfl)) pe_int (nomark _)) (pe_one (pe_cmpR op_eq (cl GC hr1 (pa_cons (pe_callB call_abs (by rfl) mabs (by decide +kernel) (pa_cons (pe_ix ix_tup (pv 0) pe_int (fun _ _ => rfl)) pa_nil)) (pa_cons (pe_ix ix_tup (pv 0) pe_int (fun _ _ => rfl)) pa_nil))) pe_int (nomark _))))))), ?_⟩
    cases ht with
    | oth h n =>
      refine ⟨_, rfl, v, _, _, _, _, rfl, .ty _, h.1, kit_ty (kd_tup _), _, rfl, ?_⟩
      rw [decide_eq_false n]
      exact iteT (iteT q)
    | tupN qt n =>
      refine ⟨_, rfl, _, _, _, _, _, rfl, .ty _, tyT qt, kit_ty (r := true) (by decide +kernel), _, rfl, iteF ?_⟩
      refine ⟨_, rfl, _, _, rfl, .inr qt, rfl, _, rfl, ifB (fun e => iteT q) (fun e => ?_)⟩
      have e1 := eq_of_nd e
      exact (n (by omega)).elim
    | @two t x y kx ky qt hx hy n =>
      refine ⟨_, rfl, _, _, _, _, _, rfl, .ty _, tyT qt, kit_ty (r := true) (by decide +kernel), _, rfl, iteF ?_⟩
      refine ⟨_, rfl, _, _, rfl, .inr qt, rfl, _, rfl, iteNS rfl ?_⟩
      refine ⟨_, rfl, _, _, _, _, rfl, rfl, qt, at0, x, kx, rfl, hx, _, rfl, ifB (fun e => iteT q) (fun e => ?_)⟩
      refine ⟨_, rfl, _, _, _, _, rfl, rfl, qt, at1, y, ky, rfl, hy, _, rfl, ifB (fun e2 => q) (fun e2 => ?_)⟩
      exact (n ⟨of_nd e, of_nd e2⟩).elim
    | @nums t a b qt =>
      refine ⟨_, rfl, _, _, _, _, _, rfl, .ty _, tyT qt, kit_ty (r := true) (by decide +kernel), _, rfl, iteF ?_⟩
      refine ⟨_, rfl, _, _, rfl, .inr qt, rfl, _, rfl, iteNS rfl ?_⟩
      refine ⟨_, rfl, _, _, _, _, rfl, rfl, qt, at0, _, .int, rfl, ⟨tyI a, fun _ => ⟨a, rfl⟩⟩, _, rfl, iteF ?_⟩
      refine ⟨_, rfl, _, _, _, _, rfl, rfl, qt, at1, _, .int, rfl, ⟨tyI b, fun _ => ⟨b, rfl⟩⟩, _, rfl, iteF ?_⟩
      refine ⟨_, rfl, _, _, _, _, rfl, rfl, qt, at1, _, _, rfl, rfl, _, rfl, ifB (fun e => ?_) (fun e => ?_)⟩
      · have hb : 0 < b := of_decide_eq_true e
        rw [e, Bool.true_and] at q
        refine ⟨_, rfl, _, _, _, _, rfl, rfl, qt, at0, _, rfl, _, rfl, _, _, _, _, rfl, rfl, qt, at1, _, _, rfl, by split <;> omega, hb, ?_⟩
        have eg : (if a < 0 then -a else a).natAbs = a.natAbs := by
          split
          · rw [Int.natAbs_neg]
          · rfl
        rw [eg]
        exact ⟨rfl, q_bl q (dec_int _)⟩
      · rw [e, Bool.false_and] at q
        exact q
theorem ok__law_told (D : Df K mg "_law_told" s__law_told ["_law_found", "_law_due"]) (misi : mg "isinstance" = none) (mbool : mg "bool" = none) : Ok P w K mg base 1 "_law_told" ["_law_found", "_law_due"] spTold := by
  refine D.ok fun f fd F => F.ok sc__law_told (fun vs H Q E h => ?_) (fun cdv A outer s H vs Q E hr h => ?_)
  · obtain ⟨a, rfl, _⟩ := h
    rfl
  · obtain ⟨a, rfl, q⟩ := h
    refine ⟨_, pss_one (ps_ret (pe_and (pe_callB call_isi (by rfl) misi (by decide +kernel) (pa_cons (pv 0) (pa_cons (pe_bltn (v := .ty "bool") (by rfl) mbool (by decide +kernel) rfl) pa_nil))) (pe_one (pe_cmpR op_eq (pv 0) (pv 1) (nomark _))))), ?_⟩
    refine ⟨_, rfl, _, _, _, _, _, rfl, .ty _, .base (.bl a), kit_ty (r := true) (by decide +kernel), _, rfl, iteT ⟨_, rfl, _, rfl, rfl, ?_⟩⟩
    exact q_bl q (decide_eq_true rfl)
theorem go__law_thing_right (D : Df K mg "_law_thing_right" s__law_thing_right ["_law_thing"]) (GT : Ok P w K mg base 1 "_law_told" ["_law_found", "_law_due"] spTold) (GF : Ok P w K mg base 2 "is_fraction" ["thing"] (spFr K)) (LF : Ok P w K mg base 2 "_law_is_fraction" ["_law_thing"] (spFr K))
    (GW : Ok P w K mg base 1 "is_whole" ["thing"] (spWh K)) (LW : Ok P w K mg base 1 "_law_is_whole" ["_law_thing"] (spWh K)) (mrepr : mg "repr" = none) (mrange : mg "range" = none) : GO P w K mg base 3 "_law_thing_right" ["_law_thing"] (spThing K) := by
  refine D.go fun f fd F => gok F sc__law_thing_right (fun vs H Q E h => ?_) (fun cdv A outer s H vs Q hG hr h => ?_)
  · obtain ⟨a, v, rfl, _⟩ := h
    rfl
  · obtain ⟨a, v, rfl, hv, q⟩ := h
    have hr1 : Room 1 _ := hr.mono (by decide)
    have hr2 : Room 2 _ := hr.mono (by decide)
    have hG2 : (A.deeper (envOfC "_law_thing_right" (defScope s__law_thing_right) s.heap.objs.size f cdv)).guards = some [] := hG
    refine ⟨_, (pss_cons (ps_set (i := 1) sc__law_thing_right.nd rfl (.inl rfl) (pe_callB (call_rp hG2 hr.units) (by rfl) mrepr (by decide +kernel) (pa_cons (pv 0) pa_nil)))
      (pss_cons (ps_for PassesOwn.never rfl (pi_range1 (by rfl) mrange (pa_cons pe_int pa_nil)) (pg_name (i := 2) sc__law_thing_right.nd rfl (.inl rfl)) (pss_cons (ps_if (pt_not (pt_val (cl GT hr1 (pa_cons (cl GF hr2 (pa_cons (pv 0) pa_nil)) (pa_cons (cl LF hr2 (pa_cons (pv 0) pa_nil)) pa_nil))))) (pss_one (ps_ret pe_bl)) pss_nil)
      (pss_one (ps_if (pt_not (pt_val (cl GT hr1 (pa_cons (cl GW hr1 (pa_cons (pv 0) pa_nil)) (pa_cons (cl LW hr1 (pa_cons (pv 0) pa_nil)) pa_nil))))) (pss_one (ps_ret pe_bl)) pss_nil))))
      (pss_one (ps_ret (pe_cmpR op_eq (pe_callB (call_rp hG2 hr.units) (by rfl) mrepr (by decide +kernel) (pa_cons (pv 0) pa_nil)) (pv 1) (nomark _)))))), ?_⟩
    obtain ⟨x, hx⟩ := hv.rp
    obtain ⟨b, hb⟩ := hv.th
    obtain ⟨k, hk⟩ := hv.kd
    refine ⟨_, rfl, v, x, rfl, hx, (2 : Int), rfl, by decide, by decide, for_range (lo := 0) (n := (2 : Int).toNat) (fun i σ H' => ∃ o2, σ = [some v, some (.str x), o2] ∧ H' = H) ⟨none, rfl, rfl⟩ ?_ ?_⟩
    · rintro i σ H' hi ⟨o2, rfl, rfl⟩
      refine ⟨_, rfl, v, b, rfl, hb, _, rfl, v, b, rfl, hb, b, rfl, _, rfl, iteF ?_⟩
      refine ⟨_, rfl, v, k, rfl, hk, _, rfl, v, k, rfl, hk, _, rfl, _, rfl, iteF ?_⟩
      exact ⟨_, rfl, rfl⟩
    · rintro σ H' ⟨o2, rfl, rfl⟩
      refine ⟨_, rfl, v, x, rfl, hx, _, rfl, rfl, ?_⟩
      exact q_bl q (decide_eq_true rfl)
end

end K01
end
section
set_option maxRecDepth 100000
set_option maxHeartbeats 400000
namespace K01
open PySem Evl Nc PyProof.Rows
open L2 hiding spCell
section
variable {P : Program} {w : World} {K : PySem.W.Frag} {mg : Str → Option Value} {base : Heap}
theorem ok__law_drawn (D : Df K mg "_law_drawn" s__law_drawn ["_law_stream_here"]) (GT : Ok P w K mg base 1 "_law_take" ["_law_stream_here", "_law_many"] spTake) (GF : Ok P w K mg base 2 "_law_fraction" ["_law_top", "_law_bottom"] (spPart K)) : Ok P w K mg base 3 "_law_drawn" ["_law_stream_here"] (spNum K 100 100) := by
  refine D.ok fun f fd F => F.ok sc__law_drawn (fun vs H Q E h => ?_) (fun cdv A outer s H vs Q E hr h => ?_)
  · obtain ⟨s, rfl, _⟩ := h
    rfl
  · obtain ⟨s, rfl, hS, q⟩ := h
    have hr1 : Room 1 _ := hr.mono (by decide)
    refine ⟨_, (pss_cons (ps_set (i := 1) sc__law_drawn.nd rfl (.inl rfl) (pe_ix ix_list (pe_lstE (pa_cons (pe_op op_sub (cl GT hr1 (pa_cons (pv 0) (pa_cons pe_int pa_nil))) pe_int) (pa_cons (pe_op op_sub (cl GT hr1 (pa_cons (pv 0) (pa_cons (pe_op op_mul pe_int (pe_op op_pow pe_int pe_int)) pa_nil))) (pe_op op_pow pe_int pe_int)) pa_nil))) (cl GT hr1 (pa_cons (pv 0) (pa_cons pe_int pa_nil))) (fun _ _ => rfl)))
      (pss_cons (ps_set (i := 2) sc__law_drawn.nd rfl (.inl rfl) (pe_ix ix_list (pe_lstE (pa_cons (pe_op op_add pe_int (cl GT hr1 (pa_cons (pv 0) (pa_cons pe_int pa_nil)))) (pa_cons (pe_op op_add pe_int (cl GT hr1 (pa_cons (pv 0) (pa_cons (pe_op op_pow pe_int pe_int) pa_nil)))) pa_nil))) (cl GT hr1 (pa_cons (pv 0) (pa_cons pe_int pa_nil))) (fun _ _ => rfl)))
      (pss_one (ps_ret (cl GF hr (pa_cons (pv 1) (pa_cons (pv 2) pa_nil))))))), ?_⟩
    have e29 : ((10 : Int) ^ (29 : Int).toNat) = 100000000000000000000000000000 := by decide
    refine ⟨_, rfl, s, _, rfl, hS, by decide, by decide, fun d1 H1 a0 a1 r1 => ?_⟩
    refine ⟨_, _, rfl, rfl, _, rfl, _, _, rfl, rfl, ⟨by decide, by decide, by decide⟩, _, _, rfl, rfl, .inl ⟨by decide, by decide⟩, s, _, rfl, r1.st, by decide, by decide, fun d2 H2 b0 b1 r2 => ?_⟩
    refine ⟨_, _, rfl, rfl, ⟨by decide, by decide, by decide⟩, _, _, rfl, rfl, (by show 2 ≤ sizeLine; decide), fun p H3 hp e3 h3 => ?_⟩
    have r3 := (r1.trans r2).trans (Dr.ex r2.st e3)
    refine ⟨_, rfl, s, _, rfl, r3.st, by decide, by decide, fun d3 H4 c0 c1 r4 => ?_⟩
    obtain ⟨v, hv, hm⟩ := at_mem (xs := [.int (d1 - 9), .int (d2 - (10 : Int) ^ (29 : Int).toNat)]) c0 (by simpa using c1)
    have b1' : d2 < 2 * (10 : Int) ^ (29 : Int).toNat := b1
    rw [e29] at b1'
    have hv2 : ∃ z : Int, v = .int z ∧ z.natAbs < 2 ^ 100 := by
      simp only [List.mem_cons, List.not_mem_nil, or_false] at hm
      rcases hm with rfl | rfl
      · exact ⟨_, rfl, by omega⟩
      · exact ⟨_, rfl, by rw [e29]; omega⟩
    obtain ⟨t, rfl, ht⟩ := hv2
    refine ⟨p, _, d3, _, rfl, rfl, sq_of (r4.keep p _ (Ne.symm (r2.st.ne hp)) h3), hv, ?_⟩
    have R4 := r3.trans r4
    refine ⟨_, rfl, s, _, rfl, R4.st, by decide, by decide, fun d4 H5 a0 a1 r5 => ?_⟩
    refine ⟨_, _, rfl, rfl, _, rfl, _, _, rfl, rfl, ⟨by decide, by decide, by decide⟩, s, _, rfl, r5.st, by decide, by decide, fun d5 H6 b0 b1 r6 => ?_⟩
    refine ⟨_, _, rfl, rfl, (by show 2 ≤ sizeLine; decide), fun p2 H7 hp2 e7 h7 => ?_⟩
    have r7 := (r5.trans r6).trans (Dr.ex r6.st e7)
    refine ⟨_, rfl, s, _, rfl, r7.st, by decide, by decide, fun d6 H8 c0 c1 r8 => ?_⟩
    obtain ⟨v, hv, hm⟩ := at_mem (xs := [.int (1 + d4), .int (1 + d5)]) c0 (by simpa using c1)
    have b2' : d5 < (10 : Int) ^ (29 : Int).toNat := b1
    rw [e29] at b2'
    have hv2 : ∃ z : Int, v = .int z ∧ 0 < z ∧ z.natAbs < 2 ^ 100 := by
      simp only [List.mem_cons, List.not_mem_nil, or_false] at hm
      rcases hm with rfl | rfl
      · exact ⟨_, rfl, by omega, by omega⟩
      · exact ⟨_, rfl, by omega, by omega⟩
    obtain ⟨z, rfl, z0, z1⟩ := hv2
    refine ⟨p2, _, d6, _, rfl, rfl, sq_of (r8.keep p2 _ (Ne.symm (r6.st.ne hp2)) h7), hv, ?_⟩
    refine ⟨_, rfl, _, rfl, t, z, 100, rfl, z0, z1, by decide, by decide, fun v H' e hv => ?_⟩
    exact q v _ H' (((R4.trans r7).trans r8).trans (Dr.ex r8.st e)) hv (sz_div z0 ht z1)
end

end K01
end
section
set_option maxRecDepth 100000
set_option maxHeartbeats 400000
namespace K01
open PySem Evl Nc PyProof.Rows
open L2 hiding spCell
section
variable {P : Program} {w : World} {K : PySem.W.Frag} {mg : Str → Option Value} {base : Heap}
theorem lf2 {x : V} {K : PySem.W.Frag} : True := trivial
section
variable {K : PySem.W.Frag} {H : Hp} {s p : Addr} {x y z : V}
theorem bt0 (q : SqT K H p []) : Bt K s H (.ref p) := .tup q (fun x hx => by cases hx) (by show 0 ≤ 3; decide)
theorem bt1 (q : SqT K H p [x]) (hx : Lf x) : Bt K s H (.ref p) := .tup q (fun u hu => by simp only [List.mem_cons, List.not_mem_nil, or_false] at hu; subst hu; exact hx) (by show 1 ≤ 3; decide)
theorem bt2 (q : SqT K H p [x, y]) (hx : Lf x) (hy : Lf y) : Bt K s H (.ref p) := .tup q (fun u hu => by
  simp only [List.mem_cons, List.not_mem_nil, or_false] at hu
  rcases hu with rfl | rfl
  · exact hx
  · exact hy) (by show 2 ≤ 3; decide)
theorem bt3 (q : SqT K H p [x, y, z]) (hx : Lf x) (hy : Lf y) (hz : Lf z) : Bt K s H (.ref p) := .tup q (fun u hu => by
  simp only [List.mem_cons, List.not_mem_nil, or_false] at hu
  rcases hu with rfl | rfl | rfl
  · exact hx
  · exact hy
  · exact hz) (by show 3 ≤ 3; decide)
theorem btl0 (q : H p = some (.lst [])) (e : p ≠ s) : Bt K s H (.ref p) := .lst q e (fun x hx => by cases hx) (by show 0 ≤ 3; decide)
theorem btl2 (q : H p = some (.lst [x, y])) (e : p ≠ s) (hx : Lf x) (hy : Lf y) : Bt K s H (.ref p) := .lst q e (fun u hu => by
  simp only [List.mem_cons, List.not_mem_nil, or_false] at hu
  rcases hu with rfl | rfl
  · exact hx
  · exact hy) (by show 2 ≤ 3; decide)
end
theorem m2 {a : Int} (h : a.natAbs < 2 ^ 200) : CMulW 2 a := mulOk (a := 2) (b := 200) (by decide) h
def spBent (K : PySem.W.Frag) : Sp := fun vs H Q _ => ∃ (s t : Addr) (a b : Int), vs = [.ref s, .ref t] ∧ Stm s H ∧ SqT K H t [.int a, .int b] ∧ a.natAbs < 2 ^ 200 ∧ b.natAbs < 2 ^ 200 ∧ ∀ u H', Dr s H H' → Bt K s H' u → Q u H'
theorem ok__law_bent (D : Df K mg "_law_bent" s__law_bent ["_law_stream_here", "_law_one"]) (GT : Ok P w K mg base 1 "_law_take" ["_law_stream_here", "_law_many"] spTake) : Ok P w K mg base 2 "_law_bent" ["_law_stream_here", "_law_one"] (spBent K) := by
  refine D.ok fun f fd F => F.ok sc__law_bent (fun vs H Q E h => ?_) (fun cdv A outer s H vs Q E hr h => ?_)
  · obtain ⟨s, t, a, b, rfl, _⟩ := h
    rfl
  · obtain ⟨s, t, a, b, rfl, hS, qt, ha, hb, q⟩ := h
    have hr1 : Room 1 _ := hr.mono (by decide)
    have lA : Lf (.int a) := .int a (lt_mono ha (by decide))
    have lB : Lf (.int b) := .int b (lt_mono hb (by decide))
    have lN : Lf (.int (0 - b)) := .int _ (lt_mono (n := 200) (by omega) (by decide))
    have lA2 : Lf (.int (2 * a)) := .int _ (lt_mono (n := 201) (by omega) (by decide))
    have lB2 : Lf (.int (2 * b)) := .int _ (lt_mono (n := 201) (by omega) (by decide))
    have hO : ∀ x ∈ [V.int a, V.int b], Lf x := fun u hu => by
      simp only [List.mem_cons, List.not_mem_nil, or_false] at hu
      rcases hu with rfl | rfl
      · exact lA
      · exact lB
    refine ⟨_, (pss_cons (ps_asg (pv 1) (pg_tup rfl (pgs_cons (pg_name (i := 2) sc__law_bent.nd rfl (.inl rfl)) (pgs_cons (pg_name (i := 3) sc__law_bent.nd rfl (.inl rfl)) pgs_nil))))
      (pss_cons (ps_set (i := 4) sc__law_bent.nd rfl (.inl rfl) (pe_lstE (pa_cons (pe_tupE (pa_cons (pv 2) (pa_cons pe_int pa_nil))) (pa_cons (pe_tupE (pa_cons (pv 2) (pa_cons (pe_op op_sub pe_int (pv 3)) pa_nil))) (pa_cons (pe_tupE (pa_cons (pe_op op_mulW pe_int (pv 2)) (pa_cons (pe_op op_mulW pe_int (pv 3)) pa_nil))) (pa_cons (pe_lstE (pa_cons (pv 2) (pa_cons (pv 3) pa_nil))) (pa_cons (pe_tupE (pa_cons (pv 2) pa_nil)) (pa_cons (pe_tupE (pa_cons (pv 2) (pa_cons (pv 3) (pa_cons pe_int pa_nil)))) (pa_cons (pe_tupE (pa_cons pe_bl (pa_cons (pv 3) pa_nil))) pa_nil)))))))))
      (pss_cons (ps_set (i := 4) sc__law_bent.nd rfl (.inl rfl) (pe_op op_catE (pv 4) (pe_lstE (pa_cons (pe_tupE (pa_cons (pv 2) (pa_cons pe_bl pa_nil))) (pa_cons (pe_tupE (pa_cons pe_str (pa_cons (pv 3) pa_nil))) (pa_cons (pe_tupE (pa_cons pe_non (pa_cons (pv 3) pa_nil))) (pa_cons (pv 2) (pa_cons pe_non (pa_cons pe_bl (pa_cons pe_bl (pa_cons pe_str (pa_cons pe_str (pa_cons pe_dicE (pa_cons (pe_tupE (pa_cons (pv 1) (pa_cons (pv 1) pa_nil))) (pa_cons (pe_tupE pa_nil) pa_nil)))))))))))))))
      (pss_one (ps_ret (pe_ix ix_list (pe_op op_catE (pv 4) (pe_lstE (pa_cons (pe_tupE (pa_cons pe_int (pa_cons (pv 3) pa_nil))) (pa_cons (pe_tupE (pa_cons (pv 2) (pa_cons (pv 3) pa_nil))) (pa_cons (pe_tupE (pa_cons (pv 3) (pa_cons (pv 3) pa_nil))) (pa_cons (pv 3) (pa_cons (pe_lstE pa_nil) (pa_cons (pe_tupE (pa_cons (pv 2) (pa_cons pe_non pa_nil))) pa_nil)))))))) (cl GT hr1 (pa_cons (pv 0) (pa_cons pe_int pa_nil))) (fun _ _ => rfl))))))), ?_⟩
    refine ⟨_, rfl, t, [.int a, .int b], rfl, qt, rfl, _, [_], rfl, _, [], rfl, rfl, ?_⟩
    refine ⟨_, rfl, (by show 2 ≤ sizeLine; decide), fun p1 H1 n1 e1 h1 => ?_⟩
    refine ⟨_, rfl, _, rfl, _, _, rfl, rfl, (by show 2 ≤ sizeLine; decide), fun p2 H2 n2 e2 h2 => ?_⟩
    refine ⟨_, rfl, _, _, rfl, rfl, m2 ha, _, rfl, _, _, rfl, rfl, m2 hb, (by show 2 ≤ sizeLine; decide), fun p3 H3 n3 e3 h3 => ?_⟩
    refine ⟨_, rfl, _, rfl, (by show 2 ≤ sizeLine; decide), fun p4 H4 n4 e4 h4 => ?_⟩
    refine ⟨_, rfl, (by show 1 ≤ sizeLine; decide), fun p5 H5 n5 e5 h5 => ?_⟩
    refine ⟨_, rfl, _, rfl, (by show 3 ≤ sizeLine; decide), fun p6 H6 n6 e6 h6 => ?_⟩
    refine ⟨_, rfl, (by show 2 ≤ sizeLine; decide), fun p7 H7 n7 e7 h7 => ?_⟩
    refine ⟨(by show 7 ≤ sizeLine; decide), fun p8 H8 n8 e8 h8 => ?_⟩
    refine ⟨_, rfl, _, rfl, (by show 2 ≤ sizeLine; decide), fun p9 H9 n9 e9 h9 => ?_⟩
    refine ⟨_, rfl, (by show 2 ≤ sizeLine; decide), fun p10 H10 n10 e10 h10 => ?_⟩
    refine ⟨_, rfl, (by show 2 ≤ sizeLine; decide), fun p11 H11 n11 e11 h11 => ?_⟩
    refine ⟨_, rfl, fun p12 H12 n12 e12 h12 => ?_⟩
    refine ⟨_, rfl, _, rfl, (by show 2 ≤ sizeLine; decide), fun p13 H13 n13 e13 h13 => ?_⟩
    refine ⟨(by show 0 ≤ sizeLine; decide), fun p14 H14 n14 e14 h14 => ?_⟩
    refine ⟨(by show 12 ≤ sizeLine; decide), fun p15 H15 n15 e15 h15 => ?_⟩
    refine ⟨p8, p15, [.ref p1, .ref p2, .ref p3, .ref p4, .ref p5, .ref p6, .ref p7], [.ref p9, .ref p10, .ref p11, .int a, .non, .bl true, .bl false, .str "1/2", .str "", .ref p12, .ref p13, .ref p14], rfl, rfl, ((((((e9.trans e10).trans e11).trans e12).trans e13).trans e14).trans e15) _ _ h8, h15, (by show 7 + 12 ≤ sizeLine; decide), fun p16 H16 n16 e16 h16 => ?_⟩
    refine ⟨_, rfl, _, rfl, (by show 2 ≤ sizeLine; decide), fun p17 H17 n17 e17 h17 => ?_⟩
    refine ⟨_, rfl, _, rfl, (by show 2 ≤ sizeLine; decide), fun p18 H18 n18 e18 h18 => ?_⟩
    refine ⟨_, rfl, _, rfl, (by show 2 ≤ sizeLine; decide), fun p19 H19 n19 e19 h19 => ?_⟩
    refine ⟨_, rfl, (by show 0 ≤ sizeLine; decide), fun p20 H20 n20 e20 h20 => ?_⟩
    refine ⟨_, rfl, (by show 2 ≤ sizeLine; decide), fun p21 H21 n21 e21 h21 => ?_⟩
    refine ⟨(by show 6 ≤ sizeLine; decide), fun p22 H22 n22 e22 h22 => ?_⟩
    refine ⟨p16, p22, _, [.ref p17, .ref p18, .ref p19, .int b, .ref p20, .ref p21], rfl, rfl, (((((e17.trans e18).trans e19).trans e20).trans e21).trans e22) _ _ h16, h22, (by show 7 + 12 + 6 ≤ sizeLine; decide), fun p23 H23 n23 e23 h23 => ?_⟩
    have F23 := Ex.refl H23
    have F22 := e23.trans F23
    have F21 := e22.trans F22
    have F20 := e21.trans F21
    have F19 := e20.trans F20
    have F18 := e19.trans F19
    have F17 := e18.trans F18
    have F16 := e17.trans F17
    have F15 := e16.trans F16
    have F14 := e15.trans F15
    have F13 := e14.trans F14
    have F12 := e13.trans F13
    have F11 := e12.trans F12
    have F10 := e11.trans F11
    have F9 := e10.trans F10
    have F8 := e9.trans F9
    have F7 := e8.trans F8
    have F6 := e7.trans F7
    have F5 := e6.trans F6
    have F4 := e5.trans F5
    have F3 := e4.trans F4
    have F2 := e3.trans F3
    have F1 := e2.trans F2
    have F0 := e1.trans F1
    have hS4 : Stm s H3 := (Dr.ex hS ((e1.trans e2).trans e3)).st
    have hS20 : Stm s H19 := (Dr.ex hS ((((((((((((((((((e1.trans e2).trans e3).trans e4).trans e5).trans e6).trans e7).trans e8).trans e9).trans e10).trans e11).trans e12).trans e13).trans e14).trans e15).trans e16).trans e17).trans e18).trans e19)).st
    have hB : ∀ u ∈ ([.ref p1, .ref p2, .ref p3, .ref p4, .ref p5, .ref p6, .ref p7] ++ [.ref p9, .ref p10, .ref p11, .int a, .non, .bl true, .bl false, .str "1/2", .str "", .ref p12, .ref p13, .ref p14]) ++ [.ref p17, .ref p18, .ref p19, .int b, .ref p20, .ref p21], Bt K s H23 u := by
      intro u hu
      simp only [List.mem_append, List.mem_cons, List.not_mem_nil, or_false] at hu
      rcases hu with ((rfl | rfl | rfl | rfl | rfl | rfl | rfl) | (rfl | rfl | rfl | rfl | rfl | rfl | rfl | rfl | rfl | rfl | rfl | rfl)) | (rfl | rfl | rfl | rfl | rfl | rfl)
      · exact bt2 (st_of (F1 _ _ h1)) lA (.int 0 (by decide))
      · exact bt2 (st_of (F2 _ _ h2)) lA lN
      · exact bt2 (st_of (F3 _ _ h3)) lA2 lB2
      · exact btl2 (F4 _ _ h4) (Ne.symm (hS4.ne n4)) lA lB
      · exact bt1 (st_of (F5 _ _ h5)) lA
      · exact bt3 (st_of (F6 _ _ h6)) lA lB (.int 1 (by decide))
      · exact bt2 (st_of (F7 _ _ h7)) (.bl true) lB
      · exact bt2 (st_of (F9 _ _ h9)) lA (.bl true)
      · exact bt2 (st_of (F10 _ _ h10)) (.str "1" (by simp)) lB
      · exact bt2 (st_of (F11 _ _ h11)) .non lB
      · exact .leaf lA
      · exact .leaf .non
      · exact .leaf (.bl true)
      · exact .leaf (.bl false)
      · exact .leaf (.str "1/2" (by simp))
      · exact .leaf (.str "" (by simp))
      · exact .dic (F12 _ _ h12)
      · exact .two (st_of (F13 _ _ h13)) (ex_t F0 qt) hO (by show 2 ≤ 3; decide)
      · exact bt0 (st_of (F14 _ _ h14)) 
      · exact bt2 (st_of (F17 _ _ h17)) (.int 0 (by decide)) lB
      · exact bt2 (st_of (F18 _ _ h18)) lA lB
      · exact bt2 (st_of (F19 _ _ h19)) lB lB
      · exact .leaf lB
      · exact btl0 (F20 _ _ h20) (Ne.symm (hS20.ne n20)) 
      · exact bt2 (st_of (F21 _ _ h21)) lA .non
    refine ⟨_, rfl, s, _, rfl, (Dr.ex hS F0).st, by decide, by decide, fun d HT d0 d1 r => ?_⟩
    obtain ⟨v, hv, hm⟩ := at_mem (xs := ([.ref p1, .ref p2, .ref p3, .ref p4, .ref p5, .ref p6, .ref p7] ++ [.ref p9, .ref p10, .ref p11, .int a, .non, .bl true, .bl false, .str "1/2", .str "", .ref p12, .ref p13, .ref p14]) ++ [.ref p17, .ref p18, .ref p19, .int b, .ref p20, .ref p21]) d0 (by simpa using d1)
    have hp := r.keep p23 _ (Ne.symm ((Dr.ex hS (((((((((((((((((((((e1.trans e2).trans e3).trans e4).trans e5).trans e6).trans e7).trans e8).trans e9).trans e10).trans e11).trans e12).trans e13).trans e14).trans e15).trans e16).trans e17).trans e18).trans e19).trans e20).trans e21).trans e22)).st.ne n23)) h23
    refine ⟨p23, _, d, _, rfl, rfl, sq_of hp, hv, ?_⟩
    exact q v HT ((Dr.ex hS F0).trans r) ((hB v hm).dr (Dr.ex hS F0).st r)
end

end K01
end
section
set_option maxRecDepth 100000
set_option maxHeartbeats 400000
namespace K01
open PySem Evl Nc PyProof.Rows
open L2 hiding spCell
section
variable {P : Program} {w : World} {K : PySem.W.Frag} {mg : Str → Option Value} {base : Heap}
theorem cut_mem {xs : List V} {lo hi : Option Int} {x : V} (h : x ∈ cutV xs lo hi) : x ∈ xs := List.mem_of_mem_drop (List.mem_of_mem_take h)
theorem paired_of {K : PySem.W.Frag} {H : Hp} : ∀ {ys : List V}, (∀ y ∈ ys, ∃ b, Th K H y b) → ∃ bs, Paired (Th K H) ys bs
  | [], _ => ⟨[], .nil⟩
  | y :: ys, h => by
    obtain ⟨b, hb⟩ := h y (by simp)
    obtain ⟨bs, hbs⟩ := paired_of (ys := ys) fun z hz => h z (by simp [hz])
    exact ⟨b :: bs, .cons hb hbs⟩
theorem rw_ex {K : PySem.W.Frag} {H H' : Hp} {v : V} {f : Option (List Bool)} (e : Ex H H') (h : Rw K H v f) : Rw K H' v f := by
  cases h with
  | oth h n => exact .oth (kd_ex e h) n
  | tup q p z => exact .tup (ex_t e q) (pmono (fun _ _ h => th_exx e h) p) z
theorem rw_bts {K : PySem.W.Frag} {H : Hp} {s t : Addr} {ys : List V} (q : H t = some (.tup ys)) (h : ∀ y ∈ ys, Bt K s H y) (z : ys.length ≤ 100) : ∃ f, Rw K H (.ref t) f := by
  obtain ⟨bs, hbs⟩ := paired_of fun y hy => (h y hy).th
  exact ⟨_, .tup (st_of q) hbs z⟩
def spRR (K : PySem.W.Frag) : Sp := fun vs H Q _ => ∃ (s D : Addr) (xs : List V), vs = [.ref s, .ref D] ∧ Stm s H ∧ D ≠ s ∧ H D = some (.lst xs) ∧ (∀ x ∈ xs, Bt K s H x) ∧ xs.length ≤ 40 ∧ ∀ H', Dr s H H' → Q (.bl true) H'
theorem ok__law_row_right (D : Df K mg "_law_row_right" s__law_row_right ["_law_stream_here", "_law_row"]) (GT : Ok P w K mg base 1 "_law_take" ["_law_stream_here", "_law_many"] spTake) (GB : Ok P w K mg base 2 "_law_bent" ["_law_stream_here", "_law_one"] (spBent K)) (GD : Ok P w K mg base 3 "_law_drawn" ["_law_stream_here"] (spNum K 100 100))
    (GO : Ok P w K mg base 1 "_law_told" ["_law_found", "_law_due"] spTold) (GI : Ok P w K mg base 3 "is_row" ["thing", "many"] (spIsRw K)) (LI : Ok P w K mg base 3 "_law_is_row" ["_law_thing", "_law_many"] (spIsRw K)) (mlen : mg "len" = none) (mtuple : mg "tuple" = none) (mlist : mg "list" = none) (mmax : mg "max" = none) :
    Ok P w K mg base 4 "_law_row_right" ["_law_stream_here", "_law_row"] (spRR K) := by
  refine D.ok fun f fd F => F.ok sc__law_row_right (fun vs H Q E h => ?_) (fun cdv A outer s H vs Q E hr h => ?_)
  · obtain ⟨s, D, xs, rfl, _⟩ := h
    rfl
  · obtain ⟨s, d0, xs, rfl, hS, hne, hD, hx, hz, q⟩ := h
    have hr1 : Room 1 _ := hr.mono (by decide)
    have hr2 : Room 2 _ := hr.mono (by decide)
    have hr3 : Room 3 _ := hr.mono (by decide)
    refine ⟨_, (pss_cons (ps_set (i := 2) sc__law_row_right.nd rfl (.inl rfl) (pe_callB call_len_seq (by rfl) mlen PySem.boot_len (pa_cons (pv 1) pa_nil)))
      (pss_cons (ps_set (i := 3) sc__law_row_right.nd rfl (.inl rfl) (cl GT hr1 (pa_cons (pv 0) (pa_cons (pe_op op_add (pv 2) pe_int) pa_nil))))
      (pss_cons (ps_set (i := 4) sc__law_row_right.nd rfl (.inl rfl) (cl GB hr2 (pa_cons (pv 0) (pa_cons (cl GD hr3 (pa_cons (pv 0) pa_nil)) pa_nil))))
      (pss_cons (ps_set (i := 5) sc__law_row_right.nd rfl (.inl rfl) (pe_op op_catE (pe_op op_catE (pe_slice sl_listE (pv 1) po_none (po_some (pv 3))) (pe_lstE (pa_cons (pv 4) pa_nil))) (pe_slice sl_listE (pv 1) (po_some (pe_op op_add (pv 3) (cl GT hr1 (pa_cons (pv 0) (pa_cons pe_int pa_nil))))) po_none)))
      (pss_cons (ps_for PassesOwn.never rfl (pi_list (pe_lstE (pa_cons (pe_callTy call_tupE (by rfl) mtuple (by decide +kernel) (pa_cons (pv 1) pa_nil)) (pa_cons (pe_callTy call_lstE (by rfl) mlist (by decide +kernel) (pa_cons (pv 1) pa_nil)) (pa_cons (pe_callTy call_tupE (by rfl) mtuple (by decide +kernel) (pa_cons (pv 5) pa_nil)) (pa_cons (pe_callTy call_tupE (by rfl) mtuple (by decide +kernel) (pa_cons (pe_op op_catE (pe_slice sl_listE (pv 1) po_none (po_some (pv 3))) (pe_slice sl_listE (pv 1) (po_some (pe_op op_add (pv 3) pe_int)) po_none)) pa_nil)) (pa_cons pe_non (pa_cons pe_str (pa_cons (pe_tupE (pa_cons (pv 1) pa_nil)) (pa_cons (pv 2) pa_nil)))))))))) (pg_name (i := 6) sc__law_row_right.nd rfl (.inl rfl)) (pss_one (ps_for PassesOwn.never rfl (pi_list (pe_lstE (pa_cons (pv 2) (pa_cons (pe_op op_add (pv 2) pe_int) (pa_cons (pe_callB (call_max2 rfl) (by rfl) mmax (by decide +kernel) (pa_cons pe_int (pa_cons (pe_op op_sub (pv 2) pe_int) pa_nil))) pa_nil))))) (pg_name (i := 7) sc__law_row_right.nd rfl (.inl rfl)) (pss_one (ps_if (pt_not (pt_val (cl GO hr1 (pa_cons (cl GI hr3 (pa_cons (pv 6) (pa_cons (pv 7) pa_nil))) (pa_cons (cl LI hr3 (pa_cons (pv 6) (pa_cons (pv 7) pa_nil))) pa_nil))))) (pss_one (ps_ret pe_bl)) pss_nil)))))
      (pss_one (ps_ret pe_bl))))))), ?_⟩
    refine ⟨_, rfl, d0, _, rfl, .inl (sq_of hD), ?_⟩
    refine ⟨_, rfl, _, rfl, _, _, rfl, rfl, s, _, rfl, hS, by omega, by omega, fun at_ H1 a0 a1 r1 => ?_⟩
    refine ⟨_, rfl, _, rfl, s, rfl, r1.st, fun v r H2 r2 fr sz => ?_⟩
    obtain ⟨t, rfl, qt⟩ := fr
    refine ⟨s, t, _, _, rfl, r2.st, qt, lt_mono sz.1 (by decide), lt_mono sz.den (by decide), fun odd H3 r3 hodd => ?_⟩
    have R3 := (r1.trans r2).trans r3
    have hD3 := R3.keep _ _ hne hD
    have hx3 : ∀ x ∈ xs, Bt K s H3 x := fun x h => (hx x h).dr hS R3
    -- the row with another thing in it
    refine ⟨_, rfl, _, rfl, at_, rfl, d0, xs, rfl, sq_of hD3, fun p1 H4 n1 e1 h1 => ?_⟩
    refine ⟨_, rfl, (by show 1 ≤ sizeLine; decide), fun p2 H5 n2 e2 h2 => ?_⟩
    have c1 : (cutV xs none (some at_)).length ≤ xs.length := cutV_length _ _ _
    have z0 : 1000 ≤ sizeLine := by decide
    refine ⟨p1, p2, _, [odd], rfl, rfl, e2 _ _ h1, h2, (by show _ + 1 ≤ sizeLine; omega), fun p3 H6 n3 e3 h3 => ?_⟩
    have E6 := (e1.trans e2).trans e3
    refine ⟨_, rfl, _, rfl, _, rfl, s, _, rfl, (Dr.ex R3.st E6).st, by decide, by decide, fun off H7 b0 b1 r7 => ?_⟩
    have R7 := (Dr.ex R3.st E6).trans r7
    have S6 := (Dr.ex R3.st E6).st
    have hD7 := R7.keep _ _ hne hD3
    have hne3 : p3 ≠ s := Ne.symm ((Dr.ex R3.st (e1.trans e2)).st.ne n3)
    have h37 := r7.keep _ _ hne3 h3
    refine ⟨_, _, rfl, rfl, _, rfl, d0, xs, rfl, sq_of hD7, fun p4 H8 n4 e4 h4 => ?_⟩
    have c2 : (cutV xs (some (at_ + off)) none).length ≤ xs.length := cutV_length _ _ _
    refine ⟨p3, p4, _, _, rfl, rfl, e4 _ _ h37, h4, (by rw [List.length_append]; show _ + 1 + _ ≤ sizeLine; omega), fun p5 H9 n5 e5 h5 => ?_⟩
    have E9 := e4.trans e5
    have R9 := R7.trans (Dr.ex r7.st E9)
    have hD9 := E9 _ _ hD7
    have hx9 : ∀ x ∈ xs, Bt K s H9 x := fun x h => (hx3 x h).dr R3.st R9
    have hodd9 := hodd.dr R3.st R9
    -- the things
    refine ⟨_, rfl, d0, xs, rfl, sq_of hD9, fun q1 G1 m1 f1 g1 => ?_⟩
    refine ⟨_, rfl, d0, xs, rfl, sq_of (f1 _ _ hD9), fun q2 G2 m2 f2 g2 => ?_⟩
    have F2 := f1.trans f2
    refine ⟨_, rfl, p5, _, rfl, sq_of (F2 _ _ h5), fun q3 G3 m3 f3 g3 => ?_⟩
    have F3 := F2.trans f3
    refine ⟨_, rfl, _, rfl, at_, rfl, d0, xs, rfl, sq_of (F3 _ _ hD9), fun q4 G4 m4 f4 g4 => ?_⟩
    have F4 := F3.trans f4
    refine ⟨_, rfl, _, rfl, _, _, rfl, rfl, _, rfl, d0, xs, rfl, sq_of (F4 _ _ hD9), fun q5 G5 m5 f5 g5 => ?_⟩
    have c3 : (cutV xs (some (at_ + 1)) none).length ≤ xs.length := cutV_length _ _ _
    refine ⟨q4, q5, _, _, rfl, rfl, f5 _ _ g4, g5, (by omega), fun q6 G6 m6 f6 g6 => ?_⟩
    refine ⟨q6, _, rfl, sq_of g6, fun q7 G7 m7 f7 g7 => ?_⟩
    have F7 := ((F4.trans f5).trans f6).trans f7
    refine ⟨_, rfl, (by show 1 ≤ sizeLine; decide), fun q8 G8 m8 f8 g8 => ?_⟩
    refine ⟨_, rfl, (by show 8 ≤ sizeLine; decide), fun q9 G9 m9 f9 g9 => ?_⟩
    have F9 := (F7.trans f8).trans f9
    have hxG : ∀ x ∈ xs, Bt K s G9 x := fun x h => (hx9 x h).ex F9
    have hoG := hodd9.ex F9
    have i7 := f8.trans f9
    have i3 := ((((f4.trans f5).trans f6).trans f7).trans f8).trans f9
    have i2 := f3.trans i3
    have i1 := f2.trans i2
    have hall : ∀ u ∈ [V.ref q1, .ref q2, .ref q3, .ref q7, .non, .str "", .ref q8, .int (xs.length : Int)], ∃ f, Rw K G9 u f := by
      intro u hu
      simp only [List.mem_cons, List.not_mem_nil, or_false] at hu
      rcases hu with rfl | rfl | rfl | rfl | rfl | rfl | rfl | rfl
      · exact rw_bts (i1 _ _ g1) hxG (by omega)
      · exact ⟨_, .oth (k := .lst) ⟨tyL (sq_of (i2 _ _ g2)), fun z => by cases z⟩ (by decide)⟩
      · refine rw_bts (s := s) (i3 _ _ g3) (fun y hy => ?_) (by simp only [List.length_append, List.length_cons, List.length_nil]; omega)
        simp only [List.mem_append, List.mem_cons, List.not_mem_nil, or_false] at hy
        rcases hy with (hy | rfl) | hy
        · exact hxG _ (cut_mem hy)
        · exact hoG
        · exact hxG _ (cut_mem hy)
      · refine rw_bts (s := s) (i7 _ _ g7) (fun y hy => ?_) (by rw [List.length_append]; omega)
        rcases List.mem_append.mp hy with hy | hy
        · exact hxG _ (cut_mem hy)
        · exact hxG _ (cut_mem hy)
      · exact ⟨_, .oth (k := .non) ⟨.base .non, fun z => by cases z⟩ (by decide)⟩
      · exact ⟨_, .oth (k := .str) ⟨.base (.str _), fun z => by cases z⟩ (by decide)⟩
      · refine ⟨_, .tup (st_of (f9 _ _ g8)) (.cons (.oth (k := .lst) ⟨tyL (sq_of (F9 _ _ hD9)), fun z => by cases z⟩ (by decide)) .nil) (by show 1 ≤ 100; decide)⟩
      · exact ⟨_, .oth (k := .int) ⟨.base (.int _), fun _ => ⟨_, rfl⟩⟩ (by decide)⟩
    have RG := (R3.trans R9).trans (Dr.ex R9.st F9)
    refine ⟨q9, rfl, ⟨_, sq_of g9⟩, for_list (K := K) (a := q9) (xs := [.ref q1, .ref q2, .ref q3, .ref q7, .non, .str "", .ref q8, .int (xs.length : Int)]) (fun i σ H' => ∃ o6 o7, σ = [some (.ref s), some (.ref d0), some (.int (xs.length : Int)), some (.int at_), some odd, some (.ref p5), o6, o7] ∧ Ex G9 H') ⟨none, none, rfl, Ex.refl _⟩ (fun i σ H' _ ⟨_, _, _, e⟩ => sq_of (e _ _ g9)) ?_ ?_⟩
    · rintro i u σ H' hi ⟨o6, o7, rfl, e⟩
      obtain ⟨f, hf⟩ := hall u (List.mem_of_getElem? hi)
      have hf' := rw_ex e hf
      refine ⟨_, rfl, _, rfl, _, _, rfl, rfl, _, rfl, _, _, rfl, rfl, 0, _, rfl, (by show 3 ≤ sizeLine; decide), fun l H2 nl el hl => ?_⟩
      refine ⟨l, rfl, ⟨_, sq_of hl⟩, for_list (K := K) (a := l) (xs := [.int (xs.length : Int), .int ((xs.length : Int) + 1), .int (if (xs.length : Int) - 1 > 0 then (xs.length : Int) - 1 else 0)]) (fun i σ H3 => ∃ o7, σ = [some (.ref s), some (.ref d0), some (.int (xs.length : Int)), some (.int at_), some odd, some (.ref p5), some u, o7] ∧ Ex H2 H3) ⟨o7, rfl, Ex.refl _⟩ (fun i σ H3 _ ⟨_, _, e⟩ => sq_of (e _ _ hl)) ?_ ?_⟩
      · rintro j y σ H3 hj ⟨o7, rfl, e3⟩
        have hy : ∃ k : Int, y = .int k := by
          have hm := List.mem_of_getElem? hj
          simp only [List.mem_cons, List.not_mem_nil, or_false] at hm
          rcases hm with rfl | rfl | rfl <;> exact ⟨_, rfl⟩
        obtain ⟨k, rfl⟩ := hy
        have hf3 := rw_ex (el.trans e3) hf'
        refine ⟨_, rfl, _, rfl, u, k, f, rfl, hf3, fun H4 e4 => ?_⟩
        refine ⟨_, rfl, _, rfl, u, k, f, rfl, rw_ex e4 hf3, fun H5 e5 => ⟨_, rfl, _, rfl, iteF ?_⟩⟩
        exact ⟨_, rfl, (e3.trans e4).trans e5⟩
      · rintro σ H3 ⟨o7, rfl, e3⟩
        exact ⟨_, _, rfl, (e.trans el).trans e3⟩
    · rintro σ H' ⟨o6, o7, rfl, e⟩
      exact q _ (RG.trans (Dr.ex RG.st e))
end

end K01
end
section
set_option maxRecDepth 100000
set_option maxHeartbeats 400000
namespace K01
open PySem Evl Nc PyProof.Rows
open L2 hiding spCell
section
variable {P : Program} {w : World} {K : PySem.W.Frag} {mg : Str → Option Value} {base : Heap}
structure Defs (P : Program) (w : World) (K : PySem.W.Frag) (mg : Str → Option Value) (base : Heap) : Prop where
  stream : Ok P w K mg base 1 "_law_stream" ["_law_cell_here"] spStream
  cell : Ok P w K mg base 1 "_law_cell" ["_law_script", "_law_k"] (spCell K)
  take : Ok P w K mg base 1 "_law_take" ["_law_stream_here", "_law_many"] spTake
  drawn : Ok P w K mg base 3 "_law_drawn" ["_law_stream_here"] (spNum K 100 100)
  bent : Ok P w K mg base 2 "_law_bent" ["_law_stream_here", "_law_one"] (spBent K)
  thing : GO P w K mg base 3 "_law_thing_right" ["_law_thing"] (spThing K)
  rr : Ok P w K mg base 4 "_law_row_right" ["_law_stream_here", "_law_row"] (spRR K)
  isrow : Ok P w K mg base 3 "is_row" ["thing", "many"] (spIsRw K)
def FrS (K : PySem.W.Frag) (H : Hp) (x : V) : Prop := ∃ r, FrV K H x r ∧ Sz 100 100 r
def FrU (K : PySem.W.Frag) (H : Hp) (x : V) : Prop := ∃ t a, x = .ref t ∧ SqT K H t [.int a, .int 1] ∧ a.natAbs < 100
theorem fr_bt {K : PySem.W.Frag} {H : Hp} {s t : Addr} {r : Rat} (q : SqT K H t [.int r.num, .int (r.den : Int)]) (z : Sz 100 100 r) : Bt K s H (.ref t) := bt2 q (.int _ (lt_mono z.1 (by decide))) (.int _ (lt_mono z.den (by decide)))
theorem frs_bt {K : PySem.W.Frag} {H : Hp} {s : Addr} {x : V} (h : FrS K H x) : Bt K s H x := by
  obtain ⟨r, ⟨t, rfl, q⟩, z⟩ := h
  exact fr_bt q z
theorem fru_bt {K : PySem.W.Frag} {H : Hp} {s : Addr} {x : V} (h : FrU K H x) : Bt K s H x := by
  obtain ⟨t, a, rfl, q, z⟩ := h
  exact bt2 q (.int _ (lt_mono (n := 7) (by omega) (by decide))) (.int _ (by decide))
theorem fru_th {K : PySem.W.Frag} {H : Hp} {x : V} (h : FrU K H x) : Th K H x true := by
  obtain ⟨t, a, rfl, q, z⟩ := h
  have := Th.nums q
  have e : (decide ((0 : Int) < 1) && decide (Nat.gcd a.natAbs (1 : Int).natAbs = 1)) = true := Bool.and_eq_true_iff.mpr ⟨rfl, decide_eq_true (Nat.gcd_one_right _)⟩
  rwa [e] at this
theorem paired_true {K : PySem.W.Frag} {H : Hp} : ∀ {ys : List V}, (∀ y ∈ ys, Th K H y true) → Paired (Th K H) ys (List.replicate ys.length true)
  | [], _ => .nil
  | y :: ys, h => .cons (h y (by simp)) (paired_true fun z hz => h z (by simp [hz]))
theorem rwB_true (n : Nat) (k : Int) : rwB (some (List.replicate n true)) k = decide ((n : Int) = k) := by
  show (decide (((List.replicate n true).length : Int) = k) && (List.replicate n true).all id) = _
  rw [List.length_replicate]
  have : (List.replicate n true).all id = true := by
    rw [List.all_eq_true]
    intro x hx
    exact (List.mem_replicate.mp hx).2
  rw [this, Bool.and_true]
theorem ex_dr {H H1 H2 : Hp} {s : Addr} (hs : H s = none) (e : Ex H H1) (d : Dr s H1 H2) : Ex H H2 := fun a o ha => d.keep a o (fun z => by
  rw [z, hs] at ha
  cases ha) (e a o ha)
theorem fn_law {f : Addr} {fd : FuncData} (F : Fun K "law" "law" s_law f fd) (G : Defs P w K mg base) (mrange : mg "range" = none) (mmax : mg "max" = none) (mmin : mg "min" = none) (mlen : mg "len" = none) (mtuple : mg "tuple" = none) : GOk P w K mg base 5 f fd ["_law_script"] (spLaw K) := by
  refine gok F sc_law (fun vs H Q E h => ?_) (fun cdv A outer s H vs Q hG hr h => ?_)
  · obtain ⟨a, ns, rfl, _⟩ := h
    rfl
  · obtain ⟨a, ns, rfl, hS, hn, q⟩ := h
    have hr1 : Room 1 _ := hr.mono (by decide)
    have hr2 : Room 2 _ := hr.mono (by decide)
    have hr3 : Room 3 _ := hr.mono (by decide)
    have hr4 : Room 4 _ := hr.mono (by decide)
    have hG2 : (A.deeper (envOfC "law" (defScope s_law) s.heap.objs.size f cdv)).guards = some [] := hG
    refine ⟨_, (pss_cons (ps_for PassesOwn.never rfl (pi_range1 (by rfl) mrange (pa_cons (pe_callB (call_max2 rfl) (by rfl) mmax (by decide +kernel) (pa_cons pe_int (pa_cons (pe_callB (call_min2 rfl) (by rfl) mmin (by decide +kernel) (pa_cons (pe_callB call_len_seq (by rfl) mlen PySem.boot_len (pa_cons (pv 0) pa_nil)) (pa_cons pe_int pa_nil))) pa_nil))) pa_nil)) (pg_name (i := 1) sc_law.nd rfl (.inl rfl)) (pss_cons (ps_set (i := 2) sc_law.nd rfl (.inr rfl) (cl G.stream hr1 (pa_cons (cl G.cell hr1 (pa_cons (pv 0) (pa_cons (pv 1) pa_nil))) pa_nil)))
      (pss_cons (ps_set (i := 3) sc_law.nd rfl (.inl rfl) (cl G.drawn hr3 (pa_cons (pv 2) pa_nil)))
      (pss_cons (ps_if (PW.pt (pw_or (pt_not (pt_val (clg G.thing hG2 hr3 (pa_cons (pv 3) pa_nil)))) (pw_or1 (pt_not (pt_val (clg G.thing hG2 hr3 (pa_cons (pe_ix ix_tup (pv 3) pe_int (fun _ _ => rfl)) pa_nil))))))) (pss_one (ps_ret pe_bl)) pss_nil)
      (pss_cons (ps_for PassesOwn.never rfl (pi_range1 (by rfl) mrange (pa_cons pe_int pa_nil)) (pg_name (i := 4) sc_law.nd rfl (.inl rfl)) (pss_one (ps_if (pt_not (pt_val (clg G.thing hG2 hr3 (pa_cons (cl G.bent hr2 (pa_cons (pv 2) (pa_cons (pv 3) pa_nil))) pa_nil)))) (pss_one (ps_ret pe_bl)) pss_nil)))
      (pss_one (ps_if (pt_not (pt_val (cl G.rr hr4 (pa_cons (pv 2) (pa_cons (pe_lc (own := [("_law_j", 7)]) (g := gName 7) (tt := tYes) rfl sc_law.nd (pi_range1 (by rfl) mrange (pa_cons (cl G.take hr1 (pa_cons (pv 2) (pa_cons pe_int pa_nil))) pa_nil)) (blkOk_by (N := ["_law_script", "_law_k", "_law_stream_here", "_law_one", "_law_turn", "_law_row", "_law_at", "_law_j"]) (sc := defScope s_law) (by decide +kernel)) (fun _ _ _ _ _ => (pg_name (i := 7) sc_law.nd rfl (.inl rfl))) (fun _ _ _ _ _ => pts_nil) (fun _ _ _ _ _ => cl G.drawn hr3 (pa_cons (pv 2) pa_nil))) pa_nil))))) (pss_one (ps_ret pe_bl)) pss_nil)))))))
      (pss_cons (ps_setLc (i := 5) (own := [("_law_at", 6)]) (g := gName 6) (tt := tYes) rfl sc_law.nd rfl rfl (sw_true rfl rfl rfl (by decide +kernel)) (pi_range1 (by rfl) mrange (pa_cons pe_int pa_nil)) (blkOk_by (N := ["_law_script", "_law_k", "_law_stream_here", "_law_one", "_law_turn", "_law_row", "_law_at", "_law_j"]) (sc := defScope s_law) (by decide +kernel)) (fun _ _ _ _ _ => (pg_name (i := 6) sc_law.nd rfl (.inl rfl))) (fun _ _ _ _ _ => pts_nil) (fun _ _ _ _ _ => (pe_tupE (pa_cons (pv 6) (pa_cons pe_int pa_nil)))))
      (pss_cons (ps_if (PW.pt (pw_or (pt_cmpR op_isnot_bl (cl G.isrow hr3 (pa_cons (pe_callTy call_tupE (by rfl) mtuple (by decide +kernel) (pa_cons (pe_op op_catE (pv 5) (pe_lstE (pa_cons (pe_tupE (pa_cons pe_int (pa_cons pe_int pa_nil))) pa_nil))) pa_nil)) (pa_cons pe_int pa_nil))) pe_bl (nomark _)) (pw_or1 (pt_cmpR op_isnot_bl (cl G.isrow hr3 (pa_cons (pe_callTy call_tupE (by rfl) mtuple (by decide +kernel) (pa_cons (pe_op op_catE (pv 5) (pe_slice sl_listE (pv 5) po_none (po_some pe_int))) pa_nil)) (pa_cons pe_int pa_nil))) pe_bl (nomark _))))) (pss_one (ps_ret pe_bl)) pss_nil)
      (pss_one (ps_ret (pe_and (cl G.rr hr4 (pa_cons (cl G.stream hr1 (pa_cons (cl G.cell hr1 (pa_cons (pv 0) (pa_cons pe_int pa_nil))) pa_nil)) (pa_cons (pv 5) pa_nil))) (pe_one (pe_cmpR op_is_bl (cl G.isrow hr3 (pa_cons (pe_tupE pa_nil) (pa_cons pe_int pa_nil))) pe_bl (nomark _))))))))), ?_⟩
    refine ⟨_, rfl, a, _, rfl, .inl hS, _, _, rfl, _, _, rfl, ?_⟩
    rw [List.length_map]
    generalize hm : (if (if (30 : Int) < ((ns.length : Nat) : Int) then (30 : Int) else ((ns.length : Nat) : Int)) > 2 then (if (30 : Int) < ((ns.length : Nat) : Int) then (30 : Int) else ((ns.length : Nat) : Int)) else 2) = m
    have hm1 : 2 ≤ m ∧ m ≤ 30 := by
      rw [← hm]
      split <;> split <;> omega
    refine ⟨m, rfl, by omega, by omega, for_range (lo := 0) (n := m.toNat) (fun i σ H' => ∃ o1 o2 o3 o4 o5 o6 o7, σ = [some (.ref a), o1, o2, o3, o4, o5, o6, o7] ∧ Ex H H') ⟨none, none, none, none, none, none, none, rfl, Ex.refl H⟩ ?_ ?_⟩
    · rintro i σ H1 hi ⟨o1, o2, o3, o4, o5, o6, o7, rfl, e1⟩
      rw [show (0 : Int) + (i : Int) = (i : Int) by omega]
      refine ⟨_, rfl, _, rfl, a, ns, i, rfl, ex_l e1 hS, by omega, fun c => ?_⟩
      refine ⟨c, rfl, fun s0 x y z hs => ?_⟩
      have es : Ex H1 (upd H1 s0 (.lst [.int x, .int y, .int z])) := Ex.new hs
      have st : Stm s0 (upd H1 s0 (.lst [.int x, .int y, .int z])) := ⟨x, y, z, upd_same⟩
      generalize upd H1 s0 (.lst [.int x, .int y, .int z]) = H2 at es st ⊢
      refine ⟨_, rfl, s0, rfl, st, fun v r H3 r3 fr sz => ?_⟩
      obtain ⟨t, rfl, qt⟩ := fr
      refine ⟨_, rfl, s0, _, rfl, fr_bt qt sz, _, rfl, iteF ?_⟩
      refine ⟨_, rfl, _, _, _, _, rfl, rfl, qt, at0, s0, _, rfl, .leaf (.int _ (lt_mono sz.1 (by decide))), _, rfl, iteF ?_⟩
      refine ⟨(4 : Int), rfl, by decide, by decide, for_range (lo := 0) (n := (4 : Int).toNat) (fun j σ H' => ∃ o4, σ = [some (.ref a), some (.int (i : Int)), some (.ref s0), some (.ref t), o4, o5, o6, o7] ∧ Dr s0 H3 H') ⟨o4, rfl, Dr.refl r3.st⟩ ?_ ?_⟩
      · rintro j σ H4 hj ⟨o4, rfl, r4⟩
        refine ⟨_, rfl, _, rfl, s0, t, _, _, rfl, r4.st, sqt_dr r3.st r4 qt, lt_mono sz.1 (by decide), lt_mono sz.den (by decide), fun u H5 r5 hu => ⟨s0, u, rfl, hu, _, rfl, iteF ?_⟩⟩
        exact ⟨_, rfl, r4.trans r5⟩
      · rintro σ H4 ⟨o4, rfl, r4⟩
        refine ⟨_, rfl, _, rfl, s0, _, rfl, r4.st, by decide, by decide, fun d H5 d0 d1 r5 => ?_⟩
        refine ⟨d, rfl, by omega, by omega, fun D hD => ?_⟩
        have hsD := r5.st.ne hD
        refine lc_range (lo := 0) (n := d.toNat) (fun i H' => ∃ xs, H' D = some (.lst xs) ∧ xs.length = i ∧ (∀ x ∈ xs, FrS K H' x) ∧ Dr s0 H5 H') ⟨[], upd_same, rfl, (fun x h => by cases h), Dr.new r5.st hD⟩ ?_ ?_
        · rintro i H6 hi ⟨xs, hx, hl, hb, r6⟩
          refine ⟨rfl, ?_⟩
          refine ⟨_, rfl, s0, rfl, r6.st, fun v r H7 r7 fr sz => ?_⟩
          have h7 := r7.keep D _ (Ne.symm hsD) hx
          refine ⟨xs, h7, sz_lt (by omega), xs ++ [v], upd_same, by simp [hl], fun x h => ?_, (r6.trans r7).mut hD hsD⟩
          rcases List.mem_append.mp h with h | h
          · obtain ⟨r, f1, z1⟩ := hb x h
            exact ⟨r, FrV.mut h7 (FrV.dr r6.st r7 f1), z1⟩
          · simp only [List.mem_cons, List.not_mem_nil, or_false] at h
            subst h
            exact ⟨r, FrV.mut h7 fr, sz⟩
        · rintro H6 ⟨xs, hx, hl, hb, r6⟩
          refine ⟨s0, D, xs, rfl, r6.st, Ne.symm hsD, hx, fun x h => frs_bt (hb x h), by omega, fun H7 r7 => ⟨_, rfl, iteF ?_⟩⟩
          exact ⟨_, _, _, _, _, _, _, rfl, e1.trans (ex_dr hs es ((((r3.trans r4).trans r5).trans r6).trans r7))⟩
    · rintro σ H1 ⟨o1, o2, o3, o4, o5, o6, o7, rfl, e1⟩
      refine ⟨(30 : Int), rfl, by decide, by decide, fun D hD => ?_⟩
      refine lc_range (lo := 0) (n := (30 : Int).toNat) (fun i H' => Ex H1 H' ∧ ∃ xs, H' D = some (.lst xs) ∧ xs.length = i ∧ ∀ x ∈ xs, FrU K H' x) ⟨Ex.new hD, [], upd_same, rfl, (fun x h => by cases h)⟩ ?_ ?_
      · rintro i H3 hi ⟨e3, xs, hx, hl, hb⟩
        have hi2 : i < 30 := hi
        refine ⟨rfl, ?_⟩
        refine ⟨_, rfl, (by show 2 ≤ sizeLine; decide), fun p H4 np ep hp => ?_⟩
        have h4 := ep _ _ hx
        refine ⟨xs, h4, sz_lt (by omega), Ex.mut (e3.trans ep) hD, xs ++ [.ref p], upd_same, by simp [hl], fun x h => ?_⟩
        rcases List.mem_append.mp h with h | h
        · obtain ⟨t, b, e, q1, z1⟩ := hb x h
          exact ⟨t, b, e, sqt_mut h4 (ex_t ep q1), z1⟩
        · simp only [List.mem_cons, List.not_mem_nil, or_false] at h
          subst h
          exact ⟨p, _, rfl, sqt_mut h4 (st_of hp), by omega⟩
      · rintro H2 ⟨e2, xs, hx, hl, hb⟩
        have hl' : xs.length = 30 := hl
        have E2 := e1.trans e2
        have z0 : 1000 ≤ sizeLine := by decide
        have thx : ∀ {H'}, Ex H2 H' → ∀ x ∈ xs, Th K H' x true := fun e x h => th_exx e (fru_th (hb x h))
        -- thirty-one
        refine ⟨_, rfl, (by show 2 ≤ sizeLine; decide), fun p1 H3 n1 f1 h1 => ?_⟩
        refine ⟨(by show 1 ≤ sizeLine; decide), fun p2 H4 n2 f2 h2 => ?_⟩
        refine ⟨D, p2, xs, [.ref p1], rfl, rfl, (f1.trans f2) _ _ hx, h2, (by show _ + 1 ≤ sizeLine; omega), fun p3 H5 n3 f3 h3 => ?_⟩
        refine ⟨p3, _, rfl, sq_of h3, fun p4 H6 n4 f4 h4 => ?_⟩
        have F4 := ((f1.trans f2).trans f3).trans f4
        have t1 : ∀ y ∈ xs ++ [.ref p1], Th K H6 y true := by
          intro y hy
          rcases List.mem_append.mp hy with h | h
          · exact thx F4 y h
          · simp only [List.mem_cons, List.not_mem_nil, or_false] at h
            subst h
            exact Th.nums (st_of (((f2.trans f3).trans f4) _ _ h1))
        refine ⟨_, 31, _, rfl, .tup (st_of h4) (paired_true t1) (by rw [List.length_append]; show _ + 1 ≤ 100; omega), fun H7 f7 => ⟨_, _, rfl, rfl, _, rfl, ?_⟩⟩
        rw [rwB_true, List.length_append, hl']
        refine iteF ?_
        -- thirty-two
        have F7 := F4.trans f7
        have hx7 := F7 _ _ hx
        refine ⟨_, rfl, _, rfl, (2 : Int), rfl, D, xs, rfl, sq_of hx7, fun p5 H8 n5 f5 h5 => ?_⟩
        have cl2 : (cutV xs none (some 2)).length = 2 := by
          unfold cutV
          rw [List.length_take, List.length_drop, hl']
          decide
        refine ⟨D, p5, xs, _, rfl, rfl, f5 _ _ hx7, h5, (by omega), fun p6 H9 n6 f6 h6 => ?_⟩
        refine ⟨p6, _, rfl, sq_of h6, fun p7 HA n7 f7' h7 => ?_⟩
        have FA := ((F7.trans f5).trans f6).trans f7'
        have t2 : ∀ y ∈ xs ++ cutV xs none (some 2), Th K HA y true := by
          intro y hy
          rcases List.mem_append.mp hy with h | h
          · exact thx FA y h
          · exact thx FA y (cut_mem h)
        refine ⟨_, 31, _, rfl, .tup (st_of h7) (paired_true t2) (by rw [List.length_append]; omega), fun HB fB => ⟨_, _, rfl, rfl, _, rfl, ?_⟩⟩
        rw [rwB_true, List.length_append, hl', cl2]
        refine iteF ?_
        have FB := FA.trans fB
        -- the last row
        refine ⟨_, rfl, a, ns, 0, rfl, ex_l (E2.trans FB) hS, by decide, fun c => ?_⟩
        refine ⟨c, rfl, fun s0 x y z hs => ?_⟩
        have es : Ex HB (upd HB s0 (.lst [.int x, .int y, .int z])) := Ex.new hs
        have st : Stm s0 (upd HB s0 (.lst [.int x, .int y, .int z])) := ⟨x, y, z, upd_same⟩
        have hxB := FB _ _ hx
        have hDs : D ≠ s0 := fun z => by
          rw [z, hs] at hxB
          cases hxB
        generalize upd HB s0 (.lst [.int x, .int y, .int z]) = HC at es st ⊢
        refine ⟨_, rfl, s0, D, xs, rfl, st, hDs, es _ _ hxB, fun x h => (fru_bt (hb x h)).ex (FB.trans es), by omega, fun HD rD => ⟨_, rfl, iteT ?_⟩⟩
        refine ⟨(by show 0 ≤ sizeLine; decide), fun p9 HE n9 e9 h9 => ⟨_, 0, some [], rfl, .tup (st_of h9) .nil (by show 0 ≤ 100; decide), fun HF eF => ⟨_, _, rfl, rfl, ?_⟩⟩⟩
        exact q_bl (q HF) (by decide)
end

end K01
end
set_option maxRecDepth 100000
set_option maxHeartbeats 400000
namespace K01
open PySem Evl Nc PyProof.Rows
open L2 hiding spCell
/-! ### what the top has written; the law's own head -/
theorem all_mk {l : PySem.W.OpenLaw} {w : World} {K : PySem.W.Frag} {h : Heap} {mg : Str → Option Value} {fa : Addr} (X : K.In h) (G : h.Ns mainGlobals mg) (hfa : mg "law" = some (.ref fa))
    {od0 an0 : Option Addr} {sl0 : Array (Option Value)} {oc0 kV0 dc0 pm0 cd0 ct0 : Value} {f0 : Addr}
    {od1 an1 : Option Addr} {sl1 : Array (Option Value)} {oc1 kV1 dc1 pm1 cd1 ct1 : Value} {f1 : Addr}
    {od2 an2 : Option Addr} {sl2 : Array (Option Value)} {oc2 kV2 dc2 pm2 cd2 ct2 : Value} {f2 : Addr}
    {od3 an3 : Option Addr} {sl3 : Array (Option Value)} {oc3 kV3 dc3 pm3 cd3 ct3 : Value} {f3 : Addr}
    {od4 an4 : Option Addr} {sl4 : Array (Option Value)} {oc4 kV4 dc4 pm4 cd4 ct4 : Value} {f4 : Addr}
    {od5 an5 : Option Addr} {sl5 : Array (Option Value)} {oc5 kV5 dc5 pm5 cd5 ct5 : Value} {f5 : Addr}
    {od6 an6 : Option Addr} {sl6 : Array (Option Value)} {oc6 kV6 dc6 pm6 cd6 ct6 : Value} {f6 : Addr}
    {od7 an7 : Option Addr} {sl7 : Array (Option Value)} {oc7 kV7 dc7 pm7 cd7 ct7 : Value} {f7 : Addr}
    {od8 an8 : Option Addr} {sl8 : Array (Option Value)} {oc8 kV8 dc8 pm8 cd8 ct8 : Value} {f8 : Addr}
    {od9 an9 : Option Addr} {sl9 : Array (Option Value)} {oc9 kV9 dc9 pm9 cd9 ct9 : Value} {f9 : Addr}
    {od10 an10 : Option Addr} {sl10 : Array (Option Value)} {oc10 kV10 dc10 pm10 cd10 ct10 : Value} {f10 : Addr}
    {od11 an11 : Option Addr} {sl11 : Array (Option Value)} {oc11 kV11 dc11 pm11 cd11 ct11 : Value} {f11 : Addr}
    {od12 an12 : Option Addr} {sl12 : Array (Option Value)} {oc12 kV12 dc12 pm12 cd12 ct12 : Value} {f12 : Addr}
    {od13 an13 : Option Addr} {sl13 : Array (Option Value)} {oc13 kV13 dc13 pm13 cd13 ct13 : Value} {f13 : Addr}
    {od14 an14 : Option Addr} {sl14 : Array (Option Value)} {oc14 kV14 dc14 pm14 cd14 ct14 : Value} {f14 : Addr}
    {od15 an15 : Option Addr} {sl15 : Array (Option Value)} {oc15 kV15 dc15 pm15 cd15 ct15 : Value} {f15 : Addr}
    {od16 an16 : Option Addr} {sl16 : Array (Option Value)} {oc16 kV16 dc16 pm16 cd16 ct16 : Value} {f16 : Addr}
    (a0 : PySem.W.nsIn K mainGlobals "is_whole" = some (some (.ref f0)))
    (l0 : K.lookup f0 = some ⟨oc0, od0, .func (PySem.W.fnOf "is_whole" "is_whole" (defArgs s_is_whole) (defBody s_is_whole) (defScope s_is_whole) .none kV0 dc0 pm0 an0 cd0 ct0), sl0⟩)
    (c0 : PySem.W.codeIn K cd0 "is_whole" = true)
    (k0 : PySem.W.keepIn K (.ref f0) = true)
    (a1 : PySem.W.nsIn K mainGlobals "is_fraction" = some (some (.ref f1)))
    (l1 : K.lookup f1 = some ⟨oc1, od1, .func (PySem.W.fnOf "is_fraction" "is_fraction" (defArgs s_is_fraction) (defBody s_is_fraction) (defScope s_is_fraction) .none kV1 dc1 pm1 an1 cd1 ct1), sl1⟩)
    (c1 : PySem.W.codeIn K cd1 "is_fraction" = true)
    (k1 : PySem.W.keepIn K (.ref f1) = true)
    (a2 : PySem.W.nsIn K mainGlobals "is_row" = some (some (.ref f2)))
    (l2 : K.lookup f2 = some ⟨oc2, od2, .func (PySem.W.fnOf "is_row" "is_row" (defArgs s_is_row) (defBody s_is_row) (defScope s_is_row) .none kV2 dc2 pm2 an2 cd2 ct2), sl2⟩)
    (c2 : PySem.W.codeIn K cd2 "is_row" = true)
    (k2 : PySem.W.keepIn K (.ref f2) = true)
    (a3 : PySem.W.nsIn K mainGlobals "_law_cell" = some (some (.ref f3)))
    (l3 : K.lookup f3 = some ⟨oc3, od3, .func (PySem.W.fnOf "_law_cell" "_law_cell" (defArgs s__law_cell) (defBody s__law_cell) (defScope s__law_cell) .none kV3 dc3 pm3 an3 cd3 ct3), sl3⟩)
    (c3 : PySem.W.codeIn K cd3 "_law_cell" = true)
    (k3 : PySem.W.keepIn K (.ref f3) = true)
    (a4 : PySem.W.nsIn K mainGlobals "_law_stream" = some (some (.ref f4)))
    (l4 : K.lookup f4 = some ⟨oc4, od4, .func (PySem.W.fnOf "_law_stream" "_law_stream" (defArgs s__law_stream) (defBody s__law_stream) (defScope s__law_stream) .none kV4 dc4 pm4 an4 cd4 ct4), sl4⟩)
    (c4 : PySem.W.codeIn K cd4 "_law_stream" = true)
    (k4 : PySem.W.keepIn K (.ref f4) = true)
    (a5 : PySem.W.nsIn K mainGlobals "_law_take" = some (some (.ref f5)))
    (l5 : K.lookup f5 = some ⟨oc5, od5, .func (PySem.W.fnOf "_law_take" "_law_take" (defArgs s__law_take) (defBody s__law_take) (defScope s__law_take) .none kV5 dc5 pm5 an5 cd5 ct5), sl5⟩)
    (c5 : PySem.W.codeIn K cd5 "_law_take" = true)
    (k5 : PySem.W.keepIn K (.ref f5) = true)
    (a6 : PySem.W.nsIn K mainGlobals "_law_common" = some (some (.ref f6)))
    (l6 : K.lookup f6 = some ⟨oc6, od6, .func (PySem.W.fnOf "_law_common" "_law_common" (defArgs s__law_common) (defBody s__law_common) (defScope s__law_common) .none kV6 dc6 pm6 an6 cd6 ct6), sl6⟩)
    (c6 : PySem.W.codeIn K cd6 "_law_common" = true)
    (k6 : PySem.W.keepIn K (.ref f6) = true)
    (a7 : PySem.W.nsIn K mainGlobals "_law_fraction" = some (some (.ref f7)))
    (l7 : K.lookup f7 = some ⟨oc7, od7, .func (PySem.W.fnOf "_law_fraction" "_law_fraction" (defArgs s__law_fraction) (defBody s__law_fraction) (defScope s__law_fraction) .none kV7 dc7 pm7 an7 cd7 ct7), sl7⟩)
    (c7 : PySem.W.codeIn K cd7 "_law_fraction" = true)
    (k7 : PySem.W.keepIn K (.ref f7) = true)
    (a8 : PySem.W.nsIn K mainGlobals "_law_drawn" = some (some (.ref f8)))
    (l8 : K.lookup f8 = some ⟨oc8, od8, .func (PySem.W.fnOf "_law_drawn" "_law_drawn" (defArgs s__law_drawn) (defBody s__law_drawn) (defScope s__law_drawn) .none kV8 dc8 pm8 an8 cd8 ct8), sl8⟩)
    (c8 : PySem.W.codeIn K cd8 "_law_drawn" = true)
    (k8 : PySem.W.keepIn K (.ref f8) = true)
    (a9 : PySem.W.nsIn K mainGlobals "_law_bent" = some (some (.ref f9)))
    (l9 : K.lookup f9 = some ⟨oc9, od9, .func (PySem.W.fnOf "_law_bent" "_law_bent" (defArgs s__law_bent) (defBody s__law_bent) (defScope s__law_bent) .none kV9 dc9 pm9 an9 cd9 ct9), sl9⟩)
    (c9 : PySem.W.codeIn K cd9 "_law_bent" = true)
    (k9 : PySem.W.keepIn K (.ref f9) = true)
    (a10 : PySem.W.nsIn K mainGlobals "_law_is_whole" = some (some (.ref f10)))
    (l10 : K.lookup f10 = some ⟨oc10, od10, .func (PySem.W.fnOf "_law_is_whole" "_law_is_whole" (defArgs s__law_is_whole) (defBody s__law_is_whole) (defScope s__law_is_whole) .none kV10 dc10 pm10 an10 cd10 ct10), sl10⟩)
    (c10 : PySem.W.codeIn K cd10 "_law_is_whole" = true)
    (k10 : PySem.W.keepIn K (.ref f10) = true)
    (a11 : PySem.W.nsIn K mainGlobals "_law_is_fraction" = some (some (.ref f11)))
    (l11 : K.lookup f11 = some ⟨oc11, od11, .func (PySem.W.fnOf "_law_is_fraction" "_law_is_fraction" (defArgs s__law_is_fraction) (defBody s__law_is_fraction) (defScope s__law_is_fraction) .none kV11 dc11 pm11 an11 cd11 ct11), sl11⟩)
    (c11 : PySem.W.codeIn K cd11 "_law_is_fraction" = true)
    (k11 : PySem.W.keepIn K (.ref f11) = true)
    (a12 : PySem.W.nsIn K mainGlobals "_law_is_row" = some (some (.ref f12)))
    (l12 : K.lookup f12 = some ⟨oc12, od12, .func (PySem.W.fnOf "_law_is_row" "_law_is_row" (defArgs s__law_is_row) (defBody s__law_is_row) (defScope s__law_is_row) .none kV12 dc12 pm12 an12 cd12 ct12), sl12⟩)
    (c12 : PySem.W.codeIn K cd12 "_law_is_row" = true)
    (k12 : PySem.W.keepIn K (.ref f12) = true)
    (a13 : PySem.W.nsIn K mainGlobals "_law_told" = some (some (.ref f13)))
    (l13 : K.lookup f13 = some ⟨oc13, od13, .func (PySem.W.fnOf "_law_told" "_law_told" (defArgs s__law_told) (defBody s__law_told) (defScope s__law_told) .none kV13 dc13 pm13 an13 cd13 ct13), sl13⟩)
    (c13 : PySem.W.codeIn K cd13 "_law_told" = true)
    (k13 : PySem.W.keepIn K (.ref f13) = true)
    (a14 : PySem.W.nsIn K mainGlobals "_law_thing_right" = some (some (.ref f14)))
    (l14 : K.lookup f14 = some ⟨oc14, od14, .func (PySem.W.fnOf "_law_thing_right" "_law_thing_right" (defArgs s__law_thing_right) (defBody s__law_thing_right) (defScope s__law_thing_right) .none kV14 dc14 pm14 an14 cd14 ct14), sl14⟩)
    (c14 : PySem.W.codeIn K cd14 "_law_thing_right" = true)
    (k14 : PySem.W.keepIn K (.ref f14) = true)
    (a15 : PySem.W.nsIn K mainGlobals "_law_row_right" = some (some (.ref f15)))
    (l15 : K.lookup f15 = some ⟨oc15, od15, .func (PySem.W.fnOf "_law_row_right" "_law_row_right" (defArgs s__law_row_right) (defBody s__law_row_right) (defScope s__law_row_right) .none kV15 dc15 pm15 an15 cd15 ct15), sl15⟩)
    (c15 : PySem.W.codeIn K cd15 "_law_row_right" = true)
    (k15 : PySem.W.keepIn K (.ref f15) = true)
    (a16 : PySem.W.nsIn K mainGlobals "law" = some (some (.ref f16)))
    (l16 : K.lookup f16 = some ⟨oc16, od16, .func (PySem.W.fnOf "law" "law" (defArgs s_law) (defBody s_law) (defScope s_law) .none kV16 dc16 pm16 an16 cd16 ct16), sl16⟩)
    (c16 : PySem.W.codeIn K cd16 "law" = true)
    (k16 : PySem.W.keepIn K (.ref f16) = true)
    (z_len : PySem.W.nsIn K mainGlobals "len" = some none)
    (z_range : PySem.W.nsIn K mainGlobals "range" = some none)
    (z_tuple : PySem.W.nsIn K mainGlobals "tuple" = some none)
    (z_list : PySem.W.nsIn K mainGlobals "list" = some none)
    (z_int : PySem.W.nsIn K mainGlobals "int" = some none)
    (z_abs : PySem.W.nsIn K mainGlobals "abs" = some none)
    (z_isinstance : PySem.W.nsIn K mainGlobals "isinstance" = some none)
    (z_bool : PySem.W.nsIn K mainGlobals "bool" = some none)
    (z_max : PySem.W.nsIn K mainGlobals "max" = some none)
    (z_min : PySem.W.nsIn K mainGlobals "min" = some none)
    (z_all : PySem.W.nsIn K mainGlobals "all" = some none)
    (z_repr : PySem.W.nsIn K mainGlobals "repr" = some none)
    (zgcd : PySem.W.nsIn K mainGlobals "gcd" = some (some (.builtin "math.gcd")))
    : ∃ fd : FuncData, (∀ (s : Shared) (v : Value), BindsTo s fd ⟨[v], []⟩ [("_law_script", v)]) ∧ ∀ base : Heap, K.In base → base.Ns mainGlobals mg → GOk l.prog w K mg base 5 fa fd ["_law_script"] (spLaw K) := by
  have e := hfa.symm.trans (PySem.W.mg_of X G a16)
  cases e
  have D_is_whole : Df K mg "is_whole" s_is_whole ["thing"] := Df.of X G a0 l0 c0 k0 fun _ _ _ _ _ _ us hl => match us, hl with | [_], _ => rfl
  have D_is_fraction : Df K mg "is_fraction" s_is_fraction ["thing"] := Df.of X G a1 l1 c1 k1 fun _ _ _ _ _ _ us hl => match us, hl with | [_], _ => rfl
  have D_is_row : Df K mg "is_row" s_is_row ["thing", "many"] := Df.of X G a2 l2 c2 k2 fun _ _ _ _ _ _ us hl => match us, hl with | [_, _], _ => rfl
  have D__law_cell : Df K mg "_law_cell" s__law_cell ["_law_script", "_law_k"] := Df.of X G a3 l3 c3 k3 fun _ _ _ _ _ _ us hl => match us, hl with | [_, _], _ => rfl
  have D__law_stream : Df K mg "_law_stream" s__law_stream ["_law_cell_here"] := Df.of X G a4 l4 c4 k4 fun _ _ _ _ _ _ us hl => match us, hl with | [_], _ => rfl
  have D__law_take : Df K mg "_law_take" s__law_take ["_law_stream_here", "_law_many"] := Df.of X G a5 l5 c5 k5 fun _ _ _ _ _ _ us hl => match us, hl with | [_, _], _ => rfl
  have D__law_common : Df K mg "_law_common" s__law_common ["_law_one", "_law_other"] := Df.of X G a6 l6 c6 k6 fun _ _ _ _ _ _ us hl => match us, hl with | [_, _], _ => rfl
  have D__law_fraction : Df K mg "_law_fraction" s__law_fraction ["_law_top", "_law_bottom"] := Df.of X G a7 l7 c7 k7 fun _ _ _ _ _ _ us hl => match us, hl with | [_, _], _ => rfl
  have D__law_drawn : Df K mg "_law_drawn" s__law_drawn ["_law_stream_here"] := Df.of X G a8 l8 c8 k8 fun _ _ _ _ _ _ us hl => match us, hl with | [_], _ => rfl
  have D__law_bent : Df K mg "_law_bent" s__law_bent ["_law_stream_here", "_law_one"] := Df.of X G a9 l9 c9 k9 fun _ _ _ _ _ _ us hl => match us, hl with | [_, _], _ => rfl
  have D__law_is_whole : Df K mg "_law_is_whole" s__law_is_whole ["_law_thing"] := Df.of X G a10 l10 c10 k10 fun _ _ _ _ _ _ us hl => match us, hl with | [_], _ => rfl
  have D__law_is_fraction : Df K mg "_law_is_fraction" s__law_is_fraction ["_law_thing"] := Df.of X G a11 l11 c11 k11 fun _ _ _ _ _ _ us hl => match us, hl with | [_], _ => rfl
  have D__law_is_row : Df K mg "_law_is_row" s__law_is_row ["_law_thing", "_law_many"] := Df.of X G a12 l12 c12 k12 fun _ _ _ _ _ _ us hl => match us, hl with | [_, _], _ => rfl
  have D__law_told : Df K mg "_law_told" s__law_told ["_law_found", "_law_due"] := Df.of X G a13 l13 c13 k13 fun _ _ _ _ _ _ us hl => match us, hl with | [_, _], _ => rfl
  have D__law_thing_right : Df K mg "_law_thing_right" s__law_thing_right ["_law_thing"] := Df.of X G a14 l14 c14 k14 fun _ _ _ _ _ _ us hl => match us, hl with | [_], _ => rfl
  have D__law_row_right : Df K mg "_law_row_right" s__law_row_right ["_law_stream_here", "_law_row"] := Df.of X G a15 l15 c15 k15 fun _ _ _ _ _ _ us hl => match us, hl with | [_, _], _ => rfl
  have mlen := PySem.W.mg_none_of X G z_len
  have mrange := PySem.W.mg_none_of X G z_range
  have mtuple := PySem.W.mg_none_of X G z_tuple
  have mlist := PySem.W.mg_none_of X G z_list
  have mint := PySem.W.mg_none_of X G z_int
  have mabs := PySem.W.mg_none_of X G z_abs
  have misinstance := PySem.W.mg_none_of X G z_isinstance
  have mbool := PySem.W.mg_none_of X G z_bool
  have mmax := PySem.W.mg_none_of X G z_max
  have mmin := PySem.W.mg_none_of X G z_min
  have mall := PySem.W.mg_none_of X G z_all
  have mrepr := PySem.W.mg_none_of X G z_repr
  have mgcd := PySem.W.mg_of X G zgcd
  have F_law := fun_mk (st := s_law) l16 c16 k16
  refine ⟨PySem.W.fnOf "law" "law" (defArgs s_law) (defBody s_law) (defScope s_law) .none kV16 dc16 pm16 an16 cd16 ct16, fun s v => .of_eq rfl, fun base _ _ => ?_⟩
  have g1 := ok_is_whole (P := l.prog) (w := w) (base := base) D_is_whole misinstance mint mbool
  have g2 := ok_is_fraction D_is_fraction g1 misinstance mtuple mlen mgcd
  have g3 := ok_is_row D_is_row g2 misinstance mtuple mlen mall
  have h1 := ok__law_cell (P := l.prog) (w := w) (base := base) D__law_cell mlen
  have h2 := ok__law_stream (P := l.prog) (w := w) (base := base) D__law_stream mint
  have h3 := ok__law_take (P := l.prog) (w := w) (base := base) D__law_take
  have h4 := ok__law_common (P := l.prog) (w := w) (base := base) D__law_common
  have h5 := ok__law_fraction D__law_fraction h4 mabs
  have h6 := ok__law_drawn D__law_drawn h3 h5
  have h7 := ok__law_bent D__law_bent h3
  have i1 := ok__law_is_whole (P := l.prog) (w := w) (base := base) D__law_is_whole misinstance mint mbool
  have i2 := ok__law_is_fraction D__law_is_fraction i1 h4 misinstance mtuple mlen mabs
  have i3 := ok__law_is_row D__law_is_row i2 misinstance mtuple mlen
  have i4 := ok__law_told (P := l.prog) (w := w) (base := base) D__law_told misinstance mbool
  have i5 := go__law_thing_right D__law_thing_right i4 g2 i2 g1 i1 mrepr mrange
  have i6 := ok__law_row_right D__law_row_right h3 h7 h6 i4 g3 i3 mlen mtuple mlist mmax
  exact fn_law F_law ⟨h2, h1, h3, h6, h7, i5, i6, g3⟩ mrange mmax mmin mlen mtuple
end K01
open PySem PySem.W PyProof.Rows
set_option maxRecDepth 100000 in
set_option maxHeartbeats 0 in
theorem PySem.Challenge.cw_noughtcut_k01_kinds_of_things_holds : PySem.Challenge.rw_noughtcut_k01_kinds_of_things.Holds := by
  w_on; o_law; k_head; (case hw => w_witness2)
  k_fill
  refine Nc.gwalk (l := PySem.Challenge.rw_noughtcut_k01_kinds_of_things) (n := 63) (k := 5) (x := "_law_script") (sp := fun K => Nc.spLaw K) rfl (by decide) rfl ⟨rfl, by decide, by decide⟩ (fun w h Y => PySem.W.kIn_of Y) ?F (fun K H a ns hl hS => ⟨a, ns, rfl, hS, hl, fun _ => rfl⟩)
  case F =>
    intro w mg fa h KX G hmg
    refine' K01.all_mk KX G hmg ?a0 ?l0 ?c0 ?k0 ?a1 ?l1 ?c1 ?k1 ?a2 ?l2 ?c2 ?k2 ?a3 ?l3 ?c3 ?k3 ?a4 ?l4 ?c4 ?k4 ?a5 ?l5 ?c5 ?k5 ?a6 ?l6 ?c6 ?k6 ?a7 ?l7 ?c7 ?k7 ?a8 ?l8 ?c8 ?k8 ?a9 ?l9 ?c9 ?k9 ?a10 ?l10 ?c10 ?k10 ?a11 ?l11 ?c11 ?k11 ?a12 ?l12 ?c12 ?k12 ?a13 ?l13 ?c13 ?k13 ?a14 ?l14 ?c14 ?k14 ?a15 ?l15 ?c15 ?k15 ?a16 ?l16 ?c16 ?k16 ?z_len ?z_range ?z_tuple ?z_list ?z_int ?z_abs ?z_isinstance ?z_bool ?z_max ?z_min ?z_all ?z_repr ?zgcd
    (case a0 => k_is)
    (case l0 => k_is)
    (case c0 => k_is)
    (case k0 => k_is)
    (case a1 => k_is)
    (case l1 => k_is)
    (case c1 => k_is)
    (case k1 => k_is)
    (case a2 => k_is)
    (case l2 => k_is)
    (case c2 => k_is)
    (case k2 => k_is)
    (case a3 => k_is)
    (case l3 => k_is)
    (case c3 => k_is)
    (case k3 => k_is)
    (case a4 => k_is)
    (case l4 => k_is)
    (case c4 => k_is)
    (case k4 => k_is)
    (case a5 => k_is)
    (case l5 => k_is)
    (case c5 => k_is)
    (case k5 => k_is)
    (case a6 => k_is)
    (case l6 => k_is)
    (case c6 => k_is)
    (case k6 => k_is)
    (case a7 => k_is)
    (case l7 => k_is)
    (case c7 => k_is)
    (case k7 => k_is)
    (case a8 => k_is)
    (case l8 => k_is)
    (case c8 => k_is)
    (case k8 => k_is)
    (case a9 => k_is)
    (case l9 => k_is)
    (case c9 => k_is)
    (case k9 => k_is)
    (case a10 => k_is)
    (case l10 => k_is)
    (case c10 => k_is)
    (case k10 => k_is)
    (case a11 => k_is)
    (case l11 => k_is)
    (case c11 => k_is)
    (case k11 => k_is)
    (case a12 => k_is)
    (case l12 => k_is)
    (case c12 => k_is)
    (case k12 => k_is)
    (case a13 => k_is)
    (case l13 => k_is)
    (case c13 => k_is)
    (case k13 => k_is)
    (case a14 => k_is)
    (case l14 => k_is)
    (case c14 => k_is)
    (case k14 => k_is)
    (case a15 => k_is)
    (case l15 => k_is)
    (case c15 => k_is)
    (case k15 => k_is)
    (case a16 => k_is)
    (case l16 => k_is)
    (case c16 => k_is)
    (case k16 => k_is)
    (case z_len => k_is)
    (case z_range => k_is)
    (case z_tuple => k_is)
    (case z_list => k_is)
    (case z_int => k_is)
    (case z_abs => k_is)
    (case z_isinstance => k_is)
    (case z_bool => k_is)
    (case z_max => k_is)
    (case z_min => k_is)
    (case z_all => k_is)
    (case z_repr => k_is)
    (case zgcd => k_is)
