import PyProof.Rows.All
import Wide.All
import OpenK.AllK
import Wide.FinOn
import HandS.Base
import HandS.Call
import HandS.List
import HandS.Comp
import HandS.Iter
import HandS.Ends
import HandS.Words
import HandS.Evl
import HandS.WordsList
import HandS.Zip
import HandS.Wide
import HandS.Gcd
import HandS.IsInst
import HandS.TupMul
import HandS.Text
import HandS.ForMost
import PySem.Challenge.RW_noughtcut_k02_fractions_reckoned
set_option Elab.async false
set_option linter.all false
section
namespace Nc
/-! ### fractions: Rat's own top and bottom -/
def Sz (n d : Nat) (r : Rat) : Prop := r.num.natAbs < 2 ^ n ∧ r.den < 2 ^ d
theorem den_pos (r : Rat) : (0 : Int) < (r.den : Int) := by
  have := r.den_nz
  omega
theorem num_div {t b : Int} (hb : 0 < b) : t / ((Nat.gcd t.natAbs b.natAbs : Nat) : Int) = (Rat.divInt t b).num := by
  rw [Rat.num_divInt, Int.sign_eq_one_of_pos hb, Int.one_mul, Int.gcd_comm]
  rfl
theorem den_div {t b : Int} (hb : 0 < b) : b / ((Nat.gcd t.natAbs b.natAbs : Nat) : Int) = ((Rat.divInt t b).den : Int) := by
  rw [Rat.den_divInt, if_neg (by omega), Int.gcd_comm]
  have e : b = ((b.natAbs : Nat) : Int) := by omega
  conv => lhs; rw [e]
  rfl
theorem gcd_pos {t b : Int} (hb : 0 < b) : (0 : Int) < ((Nat.gcd t.natAbs b.natAbs : Nat) : Int) := by
  have := Nat.gcd_pos_of_pos_right t.natAbs (n := b.natAbs) (by omega)
  omega
theorem gcd_le {t b : Int} (hb : 0 < b) : ((Nat.gcd t.natAbs b.natAbs : Nat) : Int) ≤ b := by
  have := Nat.gcd_le_right t.natAbs (n := b.natAbs) (by omega)
  omega
theorem add_is (r s : Rat) : Rat.divInt (r.num * (s.den : Int) + s.num * (r.den : Int)) ((r.den : Int) * (s.den : Int)) = r + s := by
  have h1 := den_pos r
  have h2 := den_pos s
  rw [← Rat.divInt_add_divInt r.num s.num (by omega) (by omega), Rat.num_divInt_den, Rat.num_divInt_den]
theorem mul_is (r s : Rat) : Rat.divInt (r.num * s.num) ((r.den : Int) * (s.den : Int)) = r * s := by
  rw [← Rat.divInt_mul_divInt r.num s.num, Rat.num_divInt_den, Rat.num_divInt_den]
theorem natAbs_ediv_le (a b : Int) : (a / b).natAbs ≤ a.natAbs := Int.natAbs_ediv_le_natAbs a b
/-- the size of a quotient by the shared part -/
theorem sz_div {t b : Int} {n d : Nat} (hb : 0 < b) (ht : t.natAbs < 2 ^ n) (hz : b.natAbs < 2 ^ d) : Sz n d (Rat.divInt t b) := by
  constructor
  · rw [← num_div hb]
    exact Nat.lt_of_le_of_lt (natAbs_ediv_le _ _) ht
  · have h := den_div (t := t) hb
    have h2 := natAbs_ediv_le b ((Nat.gcd t.natAbs b.natAbs : Nat) : Int)
    rw [h] at h2
    have : ((Rat.divInt t b).den : Int).natAbs = (Rat.divInt t b).den := Int.natAbs_natCast _
    omega
theorem lt_mul {a b : Nat} {i j : Int} (ha : i.natAbs < 2 ^ a) (hb : j.natAbs < 2 ^ b) : (i * j).natAbs < 2 ^ (a + b) := by
  rw [Int.natAbs_mul, Nat.pow_add]
  exact Nat.mul_lt_mul'' ha hb
theorem lt_add {n : Nat} {i j : Int} (ha : i.natAbs < 2 ^ n) (hb : j.natAbs < 2 ^ n) : (i + j).natAbs < 2 ^ (n + 1) := by
  have := Int.natAbs_add_le i j
  rw [Nat.pow_succ]
  omega
theorem lt_mono {n m : Nat} {i : Nat} (h : i < 2 ^ n) (hm : n ≤ m) : i < 2 ^ m := Nat.lt_of_lt_of_le h (Nat.pow_le_pow_right (by decide) hm)
theorem Sz.mono {n m d e : Nat} {r : Rat} (h : Sz n d r) (hm : n ≤ m) (he : d ≤ e) : Sz m e r := ⟨lt_mono h.1 hm, lt_mono h.2 he⟩
theorem Sz.den {n d : Nat} {r : Rat} (h : Sz n d r) : ((r.den : Int)).natAbs < 2 ^ d := by
  rw [Int.natAbs_natCast]
  exact h.2
theorem sz_add {n d m e N : Nat} {r s : Rat} (hr : Sz n d r) (hs : Sz m e s) (h1 : n + e ≤ N := by omega) (h2 : m + d ≤ N := by omega) : Sz (N + 1) (d + e) (r + s) := by
  rw [← add_is]
  have k1 := lt_mono (lt_mul hr.1 hs.den) h1
  have k2 := lt_mono (lt_mul hs.1 hr.den) h2
  have k3 := lt_mul hr.den hs.den
  exact sz_div (Int.mul_pos (den_pos r) (den_pos s)) (lt_add k1 k2) k3
theorem sz_mul {n d m e : Nat} {r s : Rat} (hr : Sz n d r) (hs : Sz m e s) : Sz (n + m) (d + e) (r * s) := by
  rw [← mul_is]
  exact sz_div (Int.mul_pos (den_pos r) (den_pos s)) (lt_mul hr.1 hs.1) (lt_mul hr.den hs.den)
theorem sz_zero : Sz 1 1 (0 : Rat) := ⟨by decide, by decide⟩
theorem sz_one : Sz 1 1 (1 : Rat) := ⟨by decide, by decide⟩
/-! ### rows -/
/-- what a row weighs another one -/
def weighs (l : List (Rat × Rat)) : Rat := l.foldl (fun t p => t + p.1 * p.2) 0
theorem foldl_weigh : ∀ (l : List (Rat × Rat)) (t : Rat), l.foldl (fun t p => t + p.1 * p.2) t = t + weighs l
  | [], t => by simp [weighs, Rat.add_zero]
  | p :: r, t => by
    unfold weighs
    simp only [List.foldl_cons]
    rw [foldl_weigh r, foldl_weigh r (0 + p.1 * p.2)]
    grind
theorem weighs_cons (p : Rat × Rat) (r : List (Rat × Rat)) : weighs (p :: r) = p.1 * p.2 + weighs r := by
  unfold weighs
  simp only [List.foldl_cons]
  rw [foldl_weigh r]
  unfold weighs
  grind
theorem weighs_take {l : List (Rat × Rat)} {i : Nat} {p : Rat × Rat} (h : l[i]? = some p) : weighs (l.take (i + 1)) = weighs (l.take i) + p.1 * p.2 := by
  unfold weighs
  rw [List.take_add_one, h, List.foldl_append]
  rfl
theorem weighs_add : ∀ (a b c : List Rat), a.length = b.length → weighs (((a.zip b).map fun p => p.1 + p.2).zip c) = weighs (a.zip c) + weighs (b.zip c)
  | [], [], c, _ => by simp [weighs, Rat.add_zero]
  | x :: a, y :: b, [], _ => by simp [weighs, Rat.add_zero]
  | x :: a, y :: b, z :: c, h => by
    have ih := weighs_add a b c (by simpa using h)
    simp only [List.zip_cons_cons, List.map_cons, weighs_cons]
    rw [ih]
    grind
theorem weighs_mul (by_ : Rat) : ∀ (a c : List Rat), weighs ((a.map fun x => by_ * x).zip c) = by_ * weighs (a.zip c)
  | [], c => by simp [weighs, Rat.mul_zero]
  | x :: a, [] => by simp [weighs, Rat.mul_zero]
  | x :: a, z :: c => by
    have ih := weighs_mul by_ a c
    simp only [List.zip_cons_cons, List.map_cons, weighs_cons]
    rw [ih]
    grind
/-! ### sums: a row and a number -/
abbrev Sum2 := List Rat × Rat
def tells (s : Sum2) (row : List Rat) : Rat := weighs (s.1.zip row) + s.2
def splus (s t : Sum2) : Sum2 := ((s.1.zip t.1).map fun p => p.1 + p.2, s.2 + t.2)
def stimes (q : Rat) (s : Sum2) : Sum2 := (s.1.map fun x => q * x, q * s.2)
theorem tells_splus (s t : Sum2) (row : List Rat) (h : s.1.length = t.1.length) : tells (splus s t) row = tells s row + tells t row := by
  unfold tells splus
  simp only
  rw [weighs_add _ _ _ h]
  grind
theorem tells_stimes (q : Rat) (s : Sum2) (row : List Rat) : tells (stimes q s) row = q * tells s row := by
  unfold tells stimes
  simp only
  rw [weighs_mul]
  grind
theorem splus_comm (s t : Sum2) : splus s t = splus t s := by
  unfold splus
  have : (s.1.zip t.1).map (fun p => p.1 + p.2) = (t.1.zip s.1).map fun p => p.1 + p.2 := by
    apply List.ext_getElem
    · simp [Nat.min_comm]
    · intro i h1 h2
      simp only [List.getElem_map, List.getElem_zip]
      exact Rat.add_comm _ _
  rw [this, Rat.add_comm]
/-- all of a row below a size -/
def SzL (n d : Nat) (l : List Rat) : Prop := ∀ r ∈ l, Sz n d r
theorem sz_weighs {n d m e : Nat} (hn : d ≤ n) (hm : e ≤ m) : ∀ (i : Nat) (l : List (Rat × Rat)), i ≤ l.length → (∀ p ∈ l, Sz n d p.1 ∧ Sz m e p.2) → Sz (1 + i * (n + m + 1)) (1 + i * (d + e)) (weighs (l.take i))
  | 0, l, _, _ => by simpa [weighs] using sz_zero
  | i + 1, l, h, hl => by
    have ih := sz_weighs hn hm i l (by omega) hl
    have e1 : l[i]? = some l[i] := List.getElem?_eq_getElem (by omega)
    rw [weighs_take e1]
    have hp := hl l[i] (List.getElem_mem _)
    have le : i * (d + e) ≤ i * (n + m + 1) := Nat.mul_le_mul_left i (by omega)
    have := sz_add (N := i * (n + m + 1) + (n + m + 1)) ih (sz_mul hp.1 hp.2) (by omega) (by omega)
    exact this.mono (by rw [Nat.add_mul]; omega) (by rw [Nat.add_mul]; omega)
theorem sz_of_weighs {n d m e : Nat} {a b : List Rat} (hn : d ≤ n) (hm : e ≤ m) (ha : SzL n d a) (hb : SzL m e b) (hl : a.length = b.length) : Sz (1 + a.length * (n + m + 1)) (1 + a.length * (d + e)) (weighs (a.zip b)) := by
  have h := sz_weighs hn hm a.length (a.zip b) (by rw [List.length_zip]; omega) (fun p hp => ⟨ha _ (List.of_mem_zip hp).1, hb _ (List.of_mem_zip hp).2⟩)
  rwa [List.take_of_length_le (by rw [List.length_zip]; omega)] at h
/-! ### the greatest shared divisor, step by step -/
theorem gcd_step {a b : Int} (ha : 0 ≤ a) (hb : 0 < b) : Nat.gcd b.natAbs (a % b).natAbs = Nat.gcd a.natAbs b.natAbs := by
  have e : (a % b).natAbs = a.natAbs % b.natAbs := by
    rw [Int.natAbs_emod_of_nonneg ha]
  rw [e, Nat.gcd_comm a.natAbs, Nat.gcd_rec b.natAbs a.natAbs, Nat.gcd_comm]
end Nc
end
section
set_option maxRecDepth 100000
set_option maxHeartbeats 4000000
namespace Nc
open PySem L2 Evl PyProof.Rows
/-! ### what stands for a fraction, a row, a sum -/
def FrV (K : PySem.W.Frag) (H : Hp) (v : V) (r : Rat) : Prop := ∃ t, v = .ref t ∧ SqT K H t [.int r.num, .int (r.den : Int)]
abbrev FrL (K : PySem.W.Frag) (H : Hp) : List V → List Rat → Prop := Paired (FrV K H)
def RowV (K : PySem.W.Frag) (H : Hp) (v : V) (rs : List Rat) : Prop := ∃ t xs, v = .ref t ∧ SqT K H t xs ∧ FrL K H xs rs
def SumV (K : PySem.W.Frag) (H : Hp) (v : V) (s : Sum2) : Prop := ∃ t a b, v = .ref t ∧ SqT K H t [a, b] ∧ RowV K H a s.1 ∧ FrV K H b s.2
variable {K : PySem.W.Frag} {H H' : Hp}
theorem FrV.ex {v : V} {r : Rat} (e : Ex H H') (h : FrV K H v r) : FrV K H' v r := by
  obtain ⟨t, rfl, q⟩ := h
  exact ⟨t, rfl, ex_t e q⟩
theorem pmono {α β : Type} {F G : α → β → Prop} (h : ∀ a b, F a b → G a b) : ∀ {xs : List α} {ys : List β}, Paired F xs ys → Paired G xs ys
  | _, _, .nil => .nil
  | _, _, .cons a t => .cons (h _ _ a) (pmono h t)
theorem FrL.ex {xs : List V} {rs : List Rat} (e : Ex H H') (h : FrL K H xs rs) : FrL K H' xs rs := pmono (fun _ _ => FrV.ex e) h
theorem RowV.ex {v : V} {rs : List Rat} (e : Ex H H') (h : RowV K H v rs) : RowV K H' v rs := by
  obtain ⟨t, xs, rfl, q, l⟩ := h
  exact ⟨t, xs, rfl, ex_t e q, FrL.ex e l⟩
theorem SumV.ex {v : V} {s : Sum2} (e : Ex H H') (h : SumV K H v s) : SumV K H' v s := by
  obtain ⟨t, a, b, rfl, q, l, n⟩ := h
  exact ⟨t, a, b, rfl, ex_t e q, l.ex e, n.ex e⟩
theorem pget {α β : Type} {F : α → β → Prop} : ∀ {xs : List α} {ys : List β} {i : Nat} {x : α}, Paired F xs ys → xs[i]? = some x → ∃ y, ys[i]? = some y ∧ F x y
  | _, _, _, _, .nil, e => by simp at e
  | _, _, 0, _, .cons r _, e => by simp at e; subst e; exact ⟨_, rfl, r⟩
  | _, _, i + 1, x, .cons _ t, e => by
    obtain ⟨u, h1, h2⟩ := pget (i := i) (x := x) t (by simpa using e)
    exact ⟨u, by simpa using h1, h2⟩
theorem pget' {α β : Type} {F : α → β → Prop} : ∀ {xs : List α} {ys : List β} {i : Nat} {y : β}, Paired F xs ys → ys[i]? = some y → ∃ x, xs[i]? = some x ∧ F x y
  | _, _, _, _, .nil, e => by simp at e
  | _, _, 0, _, .cons r _, e => by simp at e; subst e; exact ⟨_, rfl, r⟩
  | _, _, i + 1, y, .cons _ t, e => by
    obtain ⟨u, h1, h2⟩ := pget' (i := i) (y := y) t (by simpa using e)
    exact ⟨u, by simpa using h1, h2⟩
/-! ### data -/
def fd (r : Rat) : PyData := .tuple [.int r.num, .int (r.den : Int)]
def sd (s : Sum2) : PyData := .tuple [.tuple (s.1.map fd), fd s.2]
theorem FrV.dp {v : V} {r : Rat} (h : FrV K H v r) : Dp K H v (fd r) := by
  obtain ⟨t, rfl, q⟩ := h
  exact .tup q (.cons (.int _) (.cons (.int _) .nil))
theorem FrL.dp : ∀ {xs : List V} {rs : List Rat}, FrL K H xs rs → DpAll K H xs (rs.map fd)
  | _, _, .nil => .nil
  | _, _, .cons a t => .cons a.dp (FrL.dp t)
theorem RowV.dp {v : V} {rs : List Rat} (h : RowV K H v rs) : Dp K H v (.tuple (rs.map fd)) := by
  obtain ⟨t, xs, rfl, q, l⟩ := h
  exact .tup q (FrL.dp l)
theorem SumV.dp {v : V} {s : Sum2} (h : SumV K H v s) : Dp K H v (sd s) := by
  obtain ⟨t, a, b, rfl, q, l, n⟩ := h
  exact .tup q (.cons l.dp (.cons n.dp .nil))
/-! ### shapes -/
theorem lay_fd (r : Rat) : (fd r).canLay0 = true := rfl
theorem layAll_fd : ∀ rs : List Rat, PyData.canLayAll0 (rs.map fd) = true
  | [] => rfl
  | r :: rs => by
    show ((fd r).canLay0 && PyData.canLayAll0 (rs.map fd)) = true
    rw [layAll_fd rs]
    rfl
end Nc
end
section
set_option maxRecDepth 100000
set_option maxHeartbeats 4000000
namespace Nc
open PySem L2 Evl PyProof.Rows
/-! ### a def of the top, with and without its promise -/
structure Df (K : PySem.W.Frag) (mg : Str → Option Value) (x : Str) (st : Stmt) (ps : List Str) : Prop where
  ex : ∃ f fd, mg x = some (.ref f) ∧ Fun K x x st f fd ∧ Binds K fd ps []
structure Ok (P : Program) (w : World) (K : PySem.W.Frag) (mg : Str → Option Value) (base : Heap) (k : Nat) (x : Str) (ps : List Str) (sp : Sp) : Prop where
  ex : ∃ f fd, mg x = some (.ref f) ∧ PySem.W.keepIn K (.ref f) = true ∧ FnOk P w K mg base CX0 k f fd ps sp ∧ Binds K fd ps []
theorem Df.ok {P : Program} {w : World} {K : PySem.W.Frag} {mg : Str → Option Value} {base : Heap} {k : Nat} {x : Str} {st : Stmt} {ps : List Str} {sp : Sp} (D : Df K mg x st ps)
    (h : ∀ f fd, Fun K x x st f fd → FnOk P w K mg base CX0 k f fd ps sp) : Ok P w K mg base k x ps sp := by
  obtain ⟨f, fd, g, F, b⟩ := D.ex
  exact ⟨f, fd, g, F.kp, h f fd F, b⟩
theorem Ok.mono {P : Program} {w : World} {K : PySem.W.Frag} {mg : Str → Option Value} {base : Heap} {j k : Nat} {x : Str} {ps : List Str} {sp : Sp} (D : Ok P w K mg base j x ps sp) (h : j ≤ k) : Ok P w K mg base k x ps sp := by
  obtain ⟨f, fd, g, kp, F, b⟩ := D.ex
  exact ⟨f, fd, g, kp, F.mono h, b⟩
theorem Df.of {K : PySem.W.Frag} {h : Heap} {mg : Str → Option Value} (X : K.In h) (G : h.Ns mainGlobals mg) {x : Str} {st : Stmt} {ps : List Str} {f : Addr} {oc : Value} {od an : Option Addr} {osl : Array (Option Value)} {kV doc pm cdv ct : Value}
    (a : PySem.W.nsIn K mainGlobals x = some (some (.ref f))) (l : K.lookup f = some ⟨oc, od, .func (PySem.W.fnOf x x (defArgs st) (defBody st) (defScope st) .none kV doc pm an cdv ct), osl⟩)
    (c : PySem.W.codeIn K cdv x = true) (k : PySem.W.keepIn K (.ref f) = true)
    (hb : ∀ (kV doc pm : Value) (an : Option Addr) (cdv ct : Value) (us : List Value), us.length = ps.length → bindArgs (PySem.W.fnOf x x (defArgs st) (defBody st) (defScope st) .none kV doc pm an cdv ct) ⟨us, []⟩ = pure (ps.zip us)) : Df K mg x st ps :=
  have F := fun_mk (st := st) l c k
  ⟨f, _, PySem.W.mg_of X G a, F, F.binds hb⟩
section
variable {X : Cx} {k : Nat} {x : Str} {ps : List Str} {sp : Sp} {e : Expr} {es : List Expr} {t : TA} {p pos : Pos}
/-- a call of such a def -/
theorem cl (D : Ok X.prog X.w X.K X.mg X.base k x ps sp) (hr : Room k X.A) (ha : PA X (e :: es) t) (hg : Gl X x := by rfl) (hdb : (x == ("__debug__" : Str)) = false := by decide)
    (he : starEach (e :: es) X.env = (false, eval e X.env) :: starEach es X.env := by rfl) (hpl : (backTo pos (starEach es X.env)).any (·.1) = false := by rfl) : PE X (.Call (.Name x p) (e :: es) [] pos) (tCall sp [] E0 t) := by
  obtain ⟨f, fd, g, kp, F, b⟩ := D.ex
  exact pe_call F hr hg g kp b .nil pass0 ha hdb he hpl
end
/-! ### small facts -/
theorem at0 {a : V} {l : List V} : atI (a :: l) 0 = some a := atI_nat (j := 0) rfl
theorem at1 {a b : V} {l : List V} : atI (a :: b :: l) 1 = some b := atI_nat (j := 1) rfl
theorem at2 {a b c : V} {l : List V} : atI (a :: b :: c :: l) 2 = some c := atI_nat (j := 2) rfl
theorem at3 {a b c d : V} {l : List V} : atI (a :: b :: c :: d :: l) 3 = some d := atI_nat (j := 3) rfl
theorem at_mem {xs : List V} {d : Int} (h0 : 0 ≤ d) (h1 : d < xs.length) : ∃ v, atI xs d = some v ∧ v ∈ xs := by
  have h : d.toNat < xs.length := by omega
  refine ⟨xs[d.toNat], ?_, List.getElem_mem _⟩
  have e : d = (d.toNat : Int) := by omega
  have q : atI xs (d.toNat : Int) = some xs[d.toNat] := atI_nat (List.getElem?_eq_getElem h)
  rw [← e] at q
  exact q
theorem mulOk {i j : Int} {a b : Nat} (ha : i.natAbs < 2 ^ a) (hb : j.natAbs < 2 ^ b) (h0 : 0 < a := by omega) (h1 : 0 < b := by omega) (h : a + b ≤ 1000000 := by omega) : CMulW i j := wide_mul ha hb h0 h1 h
section
variable {K : PySem.W.Frag} {σ : L2.St} {H : Hp}
/-- an item of a tuple that stands in a slot -/
theorem ix0 {i : Nat} {t : Addr} {a : V} {l : List V} (hs : σ[i]? = some (some (.ref t))) (q : SqT K H t (a :: l)) : Ev (tOp (rIxT K) (tVar i) (tC (.int 0))) σ H a := ev_op (ev_var hs) ev_c (rv_ixT q at0)
theorem ix1 {i : Nat} {t : Addr} {a b : V} {l : List V} (hs : σ[i]? = some (some (.ref t))) (q : SqT K H t (a :: b :: l)) : Ev (tOp (rIxT K) (tVar i) (tC (.int 1))) σ H b := ev_op (ev_var hs) ev_c (rv_ixT q at1)
end
theorem ix_tK {X : Cx} (K : PySem.W.Frag) (h : X.K = K := by rfl) : IxR X (rIxT K) := by
  subst h
  exact ix_tup
theorem ix_lK {X : Cx} (K : PySem.W.Frag) (h : X.K = K := by rfl) : IxR X (rIxL K) := by
  subst h
  exact ix_list
/-! ### promises of the fractions' defs -/
/-- a fraction of two whole numbers, the bottom above nought -/
def spPart (K : PySem.W.Frag) : Sp := fun vs H Q _ => ∃ (t b : Int) (n : Nat), vs = [.int t, .int b] ∧ 0 < b ∧ b.natAbs < 2 ^ n ∧ 0 < n ∧ n ≤ 9000 ∧ ∀ v H', Ex H H' → FrV K H' v (Rat.divInt t b) → Q v H'
/-- two fractions, a third one of them -/
def sp2 (g : Rat → Rat → Rat) (K : PySem.W.Frag) : Sp := fun vs H Q _ => ∃ (x y : V) (r s : Rat) (n d m e : Nat), vs = [x, y] ∧ FrV K H x r ∧ FrV K H y s ∧ Sz n d r ∧ Sz m e s ∧ (0 < n ∧ 0 < d ∧ 0 < m ∧ 0 < e ∧ d + e ≤ 8900 ∧ n + m + d + e ≤ 900000) ∧ ∀ v H', Ex H H' → FrV K H' v (g r s) → Q v H'
abbrev spPlus := sp2 (· + ·)
abbrev spTimes := sp2 (· * ·)
/-- a made pair is a fraction -/
theorem made {K : PySem.W.Frag} {H : Hp} {p : Addr} {a b : Int} {r : Rat} (e1 : a = r.num) (e2 : b = (r.den : Int)) : FrV K (upd H p (.tup [.int a, .int b])) (.ref p) r := ⟨p, rfl, by rw [e1, e2]; exact st_of upd_same⟩
/-- what one row weighs another -/
def spWeigh (K : PySem.W.Frag) : Sp := fun vs H Q _ => ∃ (x y : V) (rs ss : List Rat) (n d m e : Nat), vs = [x, y] ∧ RowV K H x rs ∧ RowV K H y ss ∧ rs.length = ss.length ∧ SzL n d rs ∧ SzL m e ss ∧
  (0 < d ∧ 0 < e ∧ d ≤ n ∧ e ≤ m ∧ 1 + rs.length * (d + e) ≤ 8900 ∧ 1 + rs.length * (n + m + 1) ≤ 400000) ∧ ∀ v H', Ex H H' → FrV K H' v (weighs (rs.zip ss)) → Q v H'
/-- what a sum tells at a row -/
def spTells (K : PySem.W.Frag) : Sp := fun vs H Q _ => ∃ (x y : V) (s : Sum2) (ss : List Rat) (n d m e : Nat), vs = [x, y] ∧ SumV K H x s ∧ RowV K H y ss ∧ s.1.length = ss.length ∧ SzL n d s.1 ∧ Sz n d s.2 ∧ SzL m e ss ∧
  (0 < d ∧ 0 < e ∧ d ≤ n ∧ e ≤ m ∧ 1 + s.1.length * (d + e) + d ≤ 8900 ∧ 1 + s.1.length * (n + m + 1) ≤ 400000 ∧ n ≤ 400000) ∧ ∀ v H', Ex H H' → FrV K H' v (tells s ss) → Q v H'
/-- a module's constant that is a fraction -/
structure Cst (K : PySem.W.Frag) (mg : Str → Option Value) (x : Str) (r : Rat) : Prop where
  ex : ∃ a, mg x = some (.ref a) ∧ ∀ H, FrV K H (.ref a) r
end Nc
end
section
set_option maxRecDepth 100000
set_option maxHeartbeats 4000000
namespace Nc
open PySem PySem.Spec PyProof.Rows L2
theorem tuple_mul1 (l : Addr) (items : Array Value) (n : Nat) (dd : Option Addr) (sl : Array (Option Value)) (u : Tok) :
    Meets (Builtin.«tuple.__mul__» ⟨[.ref l, .int 1 u], []⟩) (fun _ R s => s.heap.get? l = some { cls := .type "tuple", dict := dd, data := .seq items n, slots := sl } ∧
      R (.ok (.ret (Value.ref l))) s) :=
  .of_wp fun prog w A R s h => by
    obtain ⟨hp, g, d, tk, os⟩ := s
    obtain ⟨hl, h⟩ := h
    have f1 := AutoSeq1.idx_int
    wp_walk using wpAny_loadPart' hl
    repeat (first
      | (refine wpAny_ite_true (by simp) ?_; wp_walk using wpAny_loadPart' hl)
      | (refine wpAny_ite_false (by simp) ?_; wp_walk using wpAny_loadPart' hl))
    exact ⟨_, rfl, h⟩
theorem tuple_mul0 (l : Addr) (items : Array Value) (n : Nat) (dd : Option Addr) (sl : Array (Option Value)) (u : Tok) (c1 : items.isEmpty = false) :
    Meets (Builtin.«tuple.__mul__» ⟨[.ref l, .int 0 u], []⟩) (fun _ R s => s.heap.get? l = some { cls := .type "tuple", dict := dd, data := .seq items n, slots := sl } ∧
      R (.ok (.ret (Value.ref s.heap.objs.size))) { s with heap := s.heap.push { cls := Value.type "tuple", data := Data.seq #[] }, toks := s.toks }) :=
  .of_wp fun prog w A R s h => by
    obtain ⟨hp, g, d, tk, os⟩ := s
    obtain ⟨hl, h⟩ := h
    have f1 := AutoSeq1.idx_int
    wp_walk using wpAny_loadPart' hl
    repeat (first
      | (refine wpAny_ite_true (by simp) ?_; wp_walk using wpAny_loadPart' hl)
      | (refine wpAny_ite_false (by simp [c1]) ?_; wp_walk using wpAny_loadPart' hl))
    exact ⟨_, rfl, h⟩
def rRepA (K : PySem.W.Frag) : R2 := fun x y H Q => ∃ l k xs, x = .ref l ∧ y = .int k ∧ SqT K H l xs ∧ xs ≠ [] ∧ 0 ≤ k ∧ k ≤ 1000 ∧ xs.length ≤ 1000 ∧ ∀ p H', Evl.Ex H H' → SqT K H' p (List.replicate k.toNat xs).flatten → Q (.ref p) H'
theorem op_repA {X : Cx} : OpR X (binaryOp .Mult) (rRepA X.K) := by
  intro pins s σ H x y v u Q I rx ry h
  obtain ⟨l, k, xs, rfl, rfl, hT, hne, h1, h2, hz, q⟩ := h
  by_cases h3 : 2 ≤ k
  · exact op_repT pins s σ H _ _ v u Q I rx ry ⟨l, k, xs, rfl, rfl, hT, hne, h3, h2, hz, fun p hp => q p _ (Evl.Ex.new hp) (Evl.st_of upd_same)⟩
  cases rx
  obtain ⟨t, rfl⟩ := ry
  obtain ⟨its, r, ⟨⟨cls, dd, data, sl⟩, ho, hc, n, hd⟩, hs⟩ := I.tuple hT
  simp only at hc hd
  subst hc hd
  have hle : its.length = xs.length := r.length.symm
  have hn : its ≠ [] := fun e => hne (by
    rw [e] at hle
    exact List.eq_nil_of_length_eq_zero hle.symm)
  have hi : its.toArray.isEmpty = false := by
    cases its with
    | nil => exact absurd rfl hn
    | cons a b => rfl
  by_cases h4 : k = 1
  · subst h4
    refine wpAny_binaryOp_repeat_ref (T := "tuple") (U := "int") (by decide) ⟨_, ho, rfl⟩ (fun s' => typeIs_int s' 1 t) noFill_tuple_mul F.fills_int_mul F.slot_int_rmul repeat_tuple F.slot_int_index.lookup
      (call_meets F.slot_int_rmul (typeIs_int s 1 t) F.entry_int_rmul (F.args_int_rmul_2 _ _) (int_rmul_tuple 1 t l its.toArray n dd sl)
        ⟨ho, rfl, ⟨_, ho, rfl⟩, call_meets F.slot_tuple_mul ⟨_, ho, rfl⟩ F.entry_tuple_mul (F.args_tuple_mul_2 _ _) (tuple_mul1 l its.toArray n dd sl t) ⟨ho, ?_⟩⟩)
    refine ⟨.ref l, H, I, rfl, q l H (Evl.Ex.refl H) ?_⟩
    have e : (List.replicate (1 : Int).toNat xs).flatten = xs := by simp
    rw [e]
    exact hT
  · have h5 : k = 0 := by omega
    subst h5
    refine wpAny_binaryOp_repeat_ref (T := "tuple") (U := "int") (by decide) ⟨_, ho, rfl⟩ (fun s' => typeIs_int s' 0 t) noFill_tuple_mul F.fills_int_mul F.slot_int_rmul repeat_tuple F.slot_int_index.lookup
      (call_meets F.slot_int_rmul (typeIs_int s 0 t) F.entry_int_rmul (F.args_int_rmul_2 _ _) (int_rmul_tuple 0 t l its.toArray n dd sl)
        ⟨ho, rfl, ⟨_, ho, rfl⟩, call_meets F.slot_tuple_mul ⟨_, ho, rfl⟩ F.entry_tuple_mul (F.args_tuple_mul_2 _ _) (tuple_mul0 l its.toArray n dd sl t hi) ⟨ho, ?_⟩⟩)
    refine ⟨.ref s.heap.objs.size, _, I.laid (t' := s.toks) (o := .tup []) (fun b ob q => Heap.get?_push_of_some _ q) (Nat.le_refl _) ?_, rfl, q _ _ (Evl.Ex.new (I.hok.fresh (Nat.le_refl _))) (Evl.st_of upd_same)⟩
    exact ⟨Nat.zero_le _, [], .nil, IsTup.new _ _⟩
end Nc
end
section
set_option maxRecDepth 100000
set_option maxHeartbeats 4000000
namespace Nc
open PySem PySem.Spec PyProof.Rows L2 Evl
/-- a comprehension over zip of two tuples of one length -/
theorem lc_zipT {K : PySem.W.Frag} {a b : Addr} {xs ys : List V} {g : TG} {tt : TT} {te : TE} {vs : List Nat} {σ : L2.St} {H1 : Hp} {D : Addr} {Qd : Hp → Prop} (hl : xs.length = ys.length) (Pv : Nat → Hp → Prop) (h0 : Pv 0 (upd H1 D (.lst []))) (hq : ∀ i H, Pv i H → SqT K H a xs ∧ SqT K H b ys)
    (hs : ∀ (i : Nat) (x y : V) (T : Addr) (H : Hp), xs[i]? = some x → ys[i]? = some y → Pv i H → H T = none → g (.ref T) (wipe σ vs) (upd H T (.tup [x, y])) fun σ2 H2 => wipe σ2 vs = wipe σ vs ∧ tt σ2 H2 fun b H3 =>
      if b = true then te σ2 H3 fun y H4 => ∃ acc, H4 D = some (.lst acc) ∧ acc.length < sizeLine ∧ Pv (i + 1) (upd H4 D (.lst (acc ++ [y]))) else Pv (i + 1) H3) (hd : ∀ H, Pv xs.length H → Qd H) :
    ∃ W : Nat → Nat → Hp → Prop, (∃ m, W 0 m (upd H1 D (.lst []))) ∧ ∀ i m H, W i m H →
      ((RZ.ItzT K a b).stop i H ∧ Qd H) ∨ ((RZ.ItzT K a b).go i H ∧ ∃ Nx : Hp → Prop, (∀ H', Nx H' → ∃ m', m' < m ∧ W (i + 1) m' H') ∧ ∀ x H', (RZ.ItzT K a b).yld i H x H' → g x (wipe σ vs) H' fun σ2 H2 => wipe σ2 vs = wipe σ vs ∧ tt σ2 H2 fun b H3 =>
        if b = true then te σ2 H3 fun y H4 => ∃ acc, H4 D = some (.lst acc) ∧ acc.length < sizeLine ∧ Nx (upd H4 D (.lst (acc ++ [y]))) else Nx H3) := by
  refine ⟨fun i m H => m = xs.length - i ∧ i ≤ xs.length ∧ Pv i H, ⟨xs.length, rfl, Nat.zero_le _, h0⟩, ?_⟩
  rintro i m H ⟨rfl, hi, p⟩
  obtain ⟨qx, qy⟩ := hq i H p
  by_cases hlt : i < xs.length
  · have hx : xs[i]? = some xs[i] := List.getElem?_eq_getElem hlt
    have hlt2 : i < ys.length := by omega
    have hy : ys[i]? = some ys[i] := List.getElem?_eq_getElem hlt2
    refine .inr ⟨⟨xs, ys, _, _, qx, qy, hx, hy⟩, Pv (i + 1), fun H' p' => ⟨xs.length - (i + 1), by omega, rfl, hlt, p'⟩, fun v H' y => ?_⟩
    obtain ⟨T, x', y', rfl, hT, rfl, f1, f2⟩ := y
    exact hs i x' y' T H (f1 xs qx) (f2 ys qy) p hT
  · have e : i = xs.length := by omega
    subst e
    exact .inl ⟨⟨xs, ys, qx, qy, Or.inl (Nat.le_refl _)⟩, hd H p⟩
section
variable {K : PySem.W.Frag} {H H' H1 H4 : Hp} {D : Addr}
/-- a tuple stands as it stood where a list changes -/
theorem sqt_mut {t : Addr} {xs ys : List V} {o : HO} (hD : H D = some (.lst xs)) (h : SqT K H t ys) : SqT K (upd H D o) t ys := by
  rcases h with (h | ⟨ob, h⟩) | h
  · exact .inl (.inl (by rw [upd_ne (ne_of h hD (by intro z; cases z))]; exact h))
  · exact .inl (.inr ⟨ob, by rw [upd_ne (ne_of h hD (by intro z; cases z))]; exact h⟩)
  · exact .inr h
theorem FrV.mut {xs : List V} {o : HO} {v : V} {r : Rat} (hD : H D = some (.lst xs)) (h : FrV K H v r) : FrV K (upd H D o) v r := by
  obtain ⟨t, rfl, q⟩ := h
  exact ⟨t, rfl, sqt_mut hD q⟩
theorem RowV.mut {xs : List V} {o : HO} {v : V} {r : List Rat} (hD : H D = some (.lst xs)) (h : RowV K H v r) : RowV K (upd H D o) v r := by
  obtain ⟨t, ys, rfl, q, l⟩ := h
  exact ⟨t, ys, rfl, sqt_mut hD q, pmono (fun _ _ => FrV.mut hD) l⟩
theorem SumV.mut {xs : List V} {o : HO} {v : V} {s : Sum2} (hD : H D = some (.lst xs)) (h : SumV K H v s) : SumV K (upd H D o) v s := by
  obtain ⟨t, a, b, rfl, q, l, n⟩ := h
  exact ⟨t, a, b, rfl, sqt_mut hD q, l.mut hD, n.mut hD⟩
/-- what a comprehension has built of things of a kind R behind i turns -/
def Bld {α : Type} (R : Hp → V → α → Prop) (H1 : Hp) (D : Addr) (L : List α) (i : Nat) (H' : Hp) : Prop := Ex H1 H' ∧ ∃ xs, H' D = some (.lst xs) ∧ xs.length = i ∧ Paired (R H') xs (L.take i)
/-- a kind of things that stay as they are where the heap grows, where a list changes -/
structure Stays {α : Type} (R : Hp → V → α → Prop) : Prop where
  ex : ∀ {H H' v a}, Ex H H' → R H v a → R H' v a
  mt : ∀ {H D xs o v a}, H D = some (.lst xs) → R H v a → R (upd H D o) v a
theorem stF : Stays (FrV K) := ⟨FrV.ex, FrV.mut⟩
theorem stR : Stays (RowV K) := ⟨RowV.ex, RowV.mut⟩
theorem stS : Stays (SumV K) := ⟨SumV.ex, SumV.mut⟩
theorem bld0 {α : Type} {R : Hp → V → α → Prop} {L : List α} (hD : H1 D = none) : Bld R H1 D L 0 (upd H1 D (.lst [])) := ⟨Ex.new hD, [], upd_same, rfl, .nil⟩
theorem bld_step {α : Type} {R : Hp → V → α → Prop} (S : Stays R) {L : List α} {i : Nat} {v : V} {a : α} (hD : H1 D = none) (b : Bld R H1 D L i H') (e : Ex H' H4) (hi : L[i]? = some a) (hz : i < 100000) (hv : R H4 v a) :
    ∃ acc, H4 D = some (.lst acc) ∧ acc.length < sizeLine ∧ Bld R H1 D L (i + 1) (upd H4 D (.lst (acc ++ [v]))) := by
  obtain ⟨e1, xs, hx, hl, p⟩ := b
  have h4 := e D _ hx
  refine ⟨xs, h4, sz_lt (by omega), Ex.mut (e1.trans e) hD, xs ++ [v], upd_same, by simp [hl], ?_⟩
  rw [List.take_add_one, hi]
  exact Paired.snoc (pmono (fun _ _ q => S.mt h4 (S.ex e q)) p) (S.mt h4 hv)
theorem bld_end {α : Type} {R : Hp → V → α → Prop} {L : List α} {n : Nat} (hn : n = L.length) (b : Bld R H1 D L n H') : Ex H1 H' ∧ ∃ xs, H' D = some (.lst xs) ∧ Paired (R H') xs L := by
  obtain ⟨e1, xs, hx, hl, p⟩ := b
  refine ⟨e1, xs, hx, ?_⟩
  rwa [hn, List.take_length] at p
/-- the tuple made of what was built -/
theorem bld_row {L : List Rat} {n : Nat} {l : Addr} {xs : List V} (hx : H' D = some (.lst xs)) (p : FrL K H' xs L) (hl : H' l = none) : RowV K (upd H' l (.tup xs)) (.ref l) L :=
  ⟨l, xs, rfl, st_of upd_same, FrL.ex (Ex.new hl) p⟩
end
/-! ### promises of the sums' defs -/
def spSumP (K : PySem.W.Frag) : Sp := fun vs H Q _ => ∃ (x y : V) (s t : Sum2) (n d m e : Nat), vs = [x, y] ∧ SumV K H x s ∧ SumV K H y t ∧ s.1.length = t.1.length ∧ s.1.length ≤ 100 ∧ SzL n d s.1 ∧ Sz n d s.2 ∧ SzL m e t.1 ∧ Sz m e t.2 ∧
  (0 < n ∧ 0 < d ∧ 0 < m ∧ 0 < e ∧ d + e ≤ 8900 ∧ n + m + d + e ≤ 900000) ∧ ∀ v H', Ex H H' → SumV K H' v (splus s t) → Q v H'
def spSumT (K : PySem.W.Frag) : Sp := fun vs H Q _ => ∃ (x y : V) (r : Rat) (t : Sum2) (n d m e : Nat), vs = [x, y] ∧ FrV K H x r ∧ SumV K H y t ∧ t.1.length ≤ 100 ∧ Sz n d r ∧ SzL m e t.1 ∧ Sz m e t.2 ∧
  (0 < n ∧ 0 < d ∧ 0 < m ∧ 0 < e ∧ d + e ≤ 8900 ∧ n + m + d + e ≤ 900000) ∧ ∀ v H', Ex H H' → SumV K H' v (stimes r t) → Q v H'
def spFlat (K : PySem.W.Frag) : Sp := fun vs H Q _ => ∃ (k : Nat) (y : V) (r : Rat), vs = [.int (k : Int), y] ∧ FrV K H y r ∧ k ≤ 100 ∧ ∀ v H', Ex H H' → SumV K H' v (List.replicate k 0, r) → Q v H'
/-- the row with 1 at a place -/
def unit (k p : Nat) : List Rat := (List.range k).map fun i => if i = p then 1 else 0
def spPlace (K : PySem.W.Frag) : Sp := fun vs H Q _ => ∃ (k p : Nat), vs = [.int (k : Int), .int (p : Int)] ∧ k ≤ 100 ∧ ∀ v H', Ex H H' → SumV K H' v (unit k p, 0) → Q v H'
end Nc
end
section
set_option maxRecDepth 100000
set_option maxHeartbeats 4000000
namespace Nc
open PySem PySem.Spec PyProof.Rows L2 Evl
/-! ### the stream: a list of three whole numbers at s, that alone changes -/
def Stm (s : Addr) (H : Hp) : Prop := ∃ a b c : Int, H s = some (.lst [.int a, .int b, .int c])
structure Dr (s : Addr) (H H' : Hp) : Prop where
  keep : ∀ a o, a ≠ s → H a = some o → H' a = some o
  st : Stm s H'
section
variable {K : PySem.W.Frag} {s p : Addr} {H H' H2 : Hp}
theorem Dr.refl (h : Stm s H) : Dr s H H := ⟨fun _ _ _ q => q, h⟩
theorem Dr.trans (a : Dr s H H') (b : Dr s H' H2) : Dr s H H2 := ⟨fun x o hx q => b.keep x o hx (a.keep x o hx q), b.st⟩
theorem Stm.ne (h : Stm s H) (hp : H p = none) : s ≠ p := by
  obtain ⟨a, b, c, e⟩ := h
  exact ne_of_none e hp
theorem Dr.new {o : HO} (h : Stm s H) (hp : H p = none) : Dr s H (upd H p o) := ⟨fun a u ha q => by rw [upd_ne (ne_of_none q hp)]; exact q, by
  obtain ⟨a, b, c, e⟩ := id h
  exact ⟨a, b, c, by rw [upd_ne (h.ne hp)]; exact e⟩⟩
/-- another list changes -/
theorem Dr.mut {o : HO} (d : Dr s H H') (hp : H p = none) (hs : s ≠ p) : Dr s H (upd H' p o) := ⟨fun a u ha q => by rw [upd_ne (ne_of_none q hp)]; exact d.keep a u ha q, by
  obtain ⟨a, b, c, e⟩ := d.st
  exact ⟨a, b, c, by rw [upd_ne hs]; exact e⟩⟩
theorem Dr.ex (h : Stm s H) (e : Ex H H') : Dr s H H' := ⟨fun a o _ q => e a o q, by
  obtain ⟨a, b, c, q⟩ := h
  exact ⟨a, b, c, e _ _ q⟩⟩
theorem sqt_dr {t : Addr} {xs : List V} (h : Stm s H) (d : Dr s H H') (q : SqT K H t xs) : SqT K H' t xs := by
  obtain ⟨a, b, c, e⟩ := h
  rcases q with (q | ⟨o, q⟩) | q
  · exact .inl (.inl (d.keep _ _ (ne_of q e (by intro z; cases z)) q))
  · exact .inl (.inr ⟨o, d.keep _ _ (ne_of q e (by intro z; cases z)) q⟩)
  · exact .inr q
theorem FrV.dr {v : V} {r : Rat} (h : Stm s H) (d : Dr s H H') (q : FrV K H v r) : FrV K H' v r := by
  obtain ⟨t, rfl, q⟩ := q
  exact ⟨t, rfl, sqt_dr h d q⟩
theorem FrL.dr {xs : List V} {rs : List Rat} (h : Stm s H) (d : Dr s H H') (q : FrL K H xs rs) : FrL K H' xs rs := pmono (fun _ _ => FrV.dr h d) q
theorem RowV.dr {v : V} {rs : List Rat} (h : Stm s H) (d : Dr s H H') (q : RowV K H v rs) : RowV K H' v rs := by
  obtain ⟨t, xs, rfl, q, l⟩ := q
  exact ⟨t, xs, rfl, sqt_dr h d q, FrL.dr h d l⟩
theorem SumV.dr {v : V} {z : Sum2} (h : Stm s H) (d : Dr s H H') (q : SumV K H v z) : SumV K H' v z := by
  obtain ⟨t, a, b, rfl, q, l, n⟩ := q
  exact ⟨t, a, b, rfl, sqt_dr h d q, l.dr h d, n.dr h d⟩
/-- the stream's list changes -/
theorem Dr.put {xs : List V} {a b c : Int} (h : H s = some (.lst xs)) : Dr s H (upd H s (.lst [.int a, .int b, .int c])) := ⟨fun x o hx q => by rw [upd_ne hx]; exact q, ⟨a, b, c, upd_same⟩⟩
end
theorem b01 (k : Bool) : -(2 ^ 64) < (if k = true then (1 : Int) else 0) ∧ (if k = true then (1 : Int) else 0) < 2 ^ 64 := by
  cases k <;> decide
theorem modb (x : Int) {m : Int} (h : 0 < m) (hm : m ≤ 2 ^ 64) : -(2 ^ 64) < x % m ∧ x % m < 2 ^ 64 := by
  have h1 := Int.emod_nonneg x (b := m) (by omega)
  have h2 := Int.emod_lt_of_pos x h
  omega
theorem cdivT {i m : Int} (h : 0 < m) (hm : m < 2 ^ 200) : CDivW i m := wide_div (b := 200) h (by omega) (by decide) (by decide)
/-! ### promises of what is drawn -/
def spCell (K : PySem.W.Frag) : Sp := fun vs H Q _ => ∃ (a : Addr) (ns : List Int) (k : Nat), vs = [.ref a, .int (k : Int)] ∧ SqL K H a (ns.map V.int) ∧ k ≤ 100 ∧ ∀ c : Int, Q (.int c) H
def spStream : Sp := fun vs H Q _ => ∃ c : Int, vs = [.int c] ∧ ∀ s a b d, H s = none → Q (.ref s) (upd H s (.lst [.int a, .int b, .int d]))
def spTake : Sp := fun vs H Q _ => ∃ (s : Addr) (m : Int), vs = [.ref s, .int m] ∧ Stm s H ∧ 0 < m ∧ m < 2 ^ 200 ∧ ∀ d H', 0 ≤ d → d < m → Dr s H H' → Q (.int d) H'
/-- a whole number above nought, below a bound -/
def spDraw (n : Nat) : Sp := fun vs H Q _ => ∃ s : Addr, vs = [.ref s] ∧ Stm s H ∧ ∀ d H', 0 < d → d.natAbs < 2 ^ n → Dr s H H' → Q (.int d) H'
/-- a fraction of that size -/
def spNum (K : PySem.W.Frag) (n d : Nat) : Sp := fun vs H Q _ => ∃ s : Addr, vs = [.ref s] ∧ Stm s H ∧ ∀ v r H', Dr s H H' → FrV K H' v r → Sz n d r → Q v H'
/-- a row of so many -/
def spRow (K : PySem.W.Frag) (n d : Nat) : Sp := fun vs H Q _ => ∃ (s : Addr) (k : Nat), vs = [.ref s, .int (k : Int)] ∧ Stm s H ∧ k ≤ 100 ∧ ∀ v L H', Dr s H H' → RowV K H' v L → L.length = k → SzL n d L → Q v H'
end Nc
end
section
set_option maxRecDepth 100000
set_option maxHeartbeats 4000000
namespace Nc
open PySem PySem.Spec PyProof.Rows L2 Evl
theorem depthAll_fd : ∀ rs : List Rat, PyData.depthAll (rs.map fd) ≤ 1
  | [] => Nat.zero_le _
  | r :: rs => by
    have ih := depthAll_fd rs
    show max (PyData.depth (fd r)) (PyData.depthAll (rs.map fd)) ≤ 1
    have : PyData.depth (fd r) = 1 := rfl
    omega
theorem lay_row (rs : List Rat) : (PyData.tuple (rs.map fd)).canLay0 = true := layAll_fd rs
theorem shaped_row (rs : List Rat) : SeqAt.shaped (.tuple (rs.map fd)) = true := by
  unfold SeqAt.shaped
  rw [lay_row, Bool.true_and]
  refine decide_eq_true ?_
  have := depthAll_fd rs
  show PyData.depthAll (rs.map fd) + 1 ≤ 64
  omega
theorem shaped_list (rs : List Rat) : SeqAt.shaped (.list (rs.map fd)) = true := by
  unfold SeqAt.shaped
  have h : (PyData.list (rs.map fd)).canLay0 = true := layAll_fd rs
  rw [h, Bool.true_and]
  refine decide_eq_true ?_
  have := depthAll_fd rs
  show PyData.depthAll (rs.map fd) + 1 ≤ 64
  omega
theorem shaped_fd (r : Rat) : SeqAt.shaped (fd r) = true := rfl
theorem lay_sd (s : Sum2) : (sd s).canLay0 = true := by
  show ((PyData.tuple (s.1.map fd)).canLay0 && ((fd s.2).canLay0 && true)) = true
  rw [lay_row]
  rfl
theorem shaped_sd (s : Sum2) : SeqAt.shaped (sd s) = true := by
  unfold SeqAt.shaped
  rw [lay_sd, Bool.true_and]
  refine decide_eq_true ?_
  have h1 := depthAll_fd s.1
  have h2 : PyData.depth (fd s.2) = 1 := rfl
  show max (PyData.depthAll (s.1.map fd) + 1) (max (PyData.depth (fd s.2)) 0) + 1 ≤ 64
  omega
theorem eqv_sd (s : Sum2) : PyData.eqv (sd s) (sd s) = true := SeqAt.eqv_refl _ (lay_sd s)
theorem eqv_fd (r : Rat) : PyData.eqv (fd r) (fd r) = true := SeqAt.eqv_refl _ rfl
theorem eqv_row (rs : List Rat) : PyData.eqv (.tuple (rs.map fd)) (.tuple (rs.map fd)) = true := SeqAt.eqv_refl _ (lay_row rs)
theorem eqv_list (rs : List Rat) : PyData.eqv (.list (rs.map fd)) (.list (rs.map fd)) = true := SeqAt.eqv_refl _ (layAll_fd rs)
/-- a tuple's type -/
theorem tyT {K : PySem.W.Frag} {H : Hp} {t : Addr} {xs : List V} (q : SqT K H t xs) : TyX K H (.ref t) (.type "tuple") := by
  rcases q with (q | ⟨o, q⟩) | ⟨o, its, n, h, hc, _⟩
  · exact .base (.tup q)
  · exact .fTuple q
  · exact .kTuple h hc
theorem tyI {K : PySem.W.Frag} {H : Hp} (i : Int) : TyX K H (.int i) (.type "int") := .base (.int i)
theorem sz_tells {n d m e : Nat} {s : Sum2} {row : List Rat} (hn : d ≤ n) (hm : e ≤ m) (ha : SzL n d s.1) (hb : SzL m e row) (hc : Sz n d s.2) (hl : s.1.length = row.length) : Sz (1 + s.1.length * (n + m + 1) + n + 1) (1 + s.1.length * (d + e) + d) (tells s row) := by
  have h := sz_of_weighs hn hm ha hb hl
  have le : s.1.length * (d + e) ≤ s.1.length * (n + m + 1) := Nat.mul_le_mul_left _ (by omega)
  exact sz_add (N := 1 + s.1.length * (n + m + 1) + n) h hc (by omega) (by omega)
theorem len_splus (s t : Sum2) (h : s.1.length = t.1.length) : (splus s t).1.length = s.1.length := by
  unfold splus
  simp
  omega
theorem len_stimes (q : Rat) (s : Sum2) : (stimes q s).1.length = s.1.length := by
  unfold stimes
  simp
theorem szl_splus {n d m e N : Nat} {s t : Sum2} (h1 : SzL n d s.1) (h2 : SzL m e t.1) (k1 : n + e ≤ N := by omega) (k2 : m + d ≤ N := by omega) : SzL (N + 1) (d + e) (splus s t).1 := by
  intro r hr
  unfold splus at hr
  obtain ⟨p, hp, rfl⟩ := List.mem_map.mp hr
  have := List.of_mem_zip hp
  exact sz_add (h1 _ this.1) (h2 _ this.2)
theorem szl_stimes {n d m e : Nat} {q : Rat} {s : Sum2} (h1 : Sz n d q) (h2 : SzL m e s.1) : SzL (n + m) (d + e) (stimes q s).1 := by
  intro r hr
  unfold stimes at hr
  obtain ⟨p, hp, rfl⟩ := List.mem_map.mp hr
  exact sz_mul h1 (h2 _ hp)
/-- the found sum is the due one, by its own kinds -/
def spWhole (K : PySem.W.Frag) : Sp := fun vs H Q _ => ∃ (x y : V) (s : Sum2), vs = [x, y] ∧ SumV K H x s ∧ SumV K H y s ∧ s.1.length ≤ 100 ∧ ∀ H', Ex H H' → Q (.bl true) H'
def spPlaces : Sp := fun vs H Q _ => ∃ k : Nat, vs = [.int (k : Int)] ∧ k ≤ 100 ∧ ∀ H', Ex H H' → Q (.bl true) H'
/-- all goes well, the stream alone changes -/
def spRight : Sp := fun vs H Q _ => ∃ s : Addr, vs = [.ref s] ∧ Stm s H ∧ ∀ H', (∀ a o, a ≠ s → H a = some o → H' a = some o) → Q (.bl true) H'
def spLaw (K : PySem.W.Frag) : Sp := fun vs H Q _ => ∃ (a : Addr) (ns : List Int), vs = [.ref a] ∧ SqL K H a (ns.map V.int) ∧ ns.length ≤ 63 ∧ ∀ H', Q (.bl true) H'
end Nc
end
section
set_option maxRecDepth 100000
set_option maxHeartbeats 4000000
namespace Nc
open PySem PySem.Spec PyProof.Rows L2 Evl
/-! ### bottoms of either sign -/
theorem gcdI_dvd_left (t b : Int) : ((Nat.gcd t.natAbs b.natAbs : Nat) : Int) ∣ t := Int.ofNat_dvd_left.mpr (Nat.gcd_dvd_left _ _)
theorem gcdI_dvd_right (t b : Int) : ((Nat.gcd t.natAbs b.natAbs : Nat) : Int) ∣ b := Int.ofNat_dvd_left.mpr (Nat.gcd_dvd_right _ _)
theorem gcd_posZ {t b : Int} (hb : b ≠ 0) : (0 : Int) < ((Nat.gcd t.natAbs b.natAbs : Nat) : Int) := by
  have := Nat.gcd_pos_of_pos_right t.natAbs (n := b.natAbs) (by omega)
  omega
theorem gcd_leZ {t b : Int} (hb : b ≠ 0) : ((Nat.gcd t.natAbs b.natAbs : Nat) : Int).natAbs ≤ b.natAbs := by
  rw [Int.natAbs_natCast]
  exact Nat.gcd_le_right t.natAbs (n := b.natAbs) (by omega)
theorem num_neg {t b : Int} (hb : b < 0) : t.fdiv (-((Nat.gcd t.natAbs b.natAbs : Nat) : Int)) = (Rat.divInt t b).num := by
  rw [Int.fdiv_eq_ediv_of_dvd (Int.neg_dvd.mpr (gcdI_dvd_left t b)), Int.ediv_neg, Rat.num_divInt, Int.sign_eq_neg_one_of_neg hb, Int.gcd_comm]
  have : -1 * t = -t := by omega
  rw [this]
  exact (Int.neg_ediv_of_dvd (gcdI_dvd_left t b)).symm
theorem den_neg {t b : Int} (hb : b < 0) : b.fdiv (-((Nat.gcd t.natAbs b.natAbs : Nat) : Int)) = ((Rat.divInt t b).den : Int) := by
  rw [Int.fdiv_eq_ediv_of_dvd (Int.neg_dvd.mpr (gcdI_dvd_right t b)), Int.ediv_neg, Rat.den_divInt, if_neg (by omega), Int.gcd_comm]
  have e : ((b.natAbs : Nat) : Int) = -b := by omega
  rw [Int.natCast_ediv, e]
  exact (Int.neg_ediv_of_dvd (gcdI_dvd_right t b)).symm
theorem num_pos {t b : Int} (hb : 0 < b) : t.fdiv ((Nat.gcd t.natAbs b.natAbs : Nat) : Int) = (Rat.divInt t b).num := by
  rw [Int.fdiv_eq_ediv_of_dvd (gcdI_dvd_left t b)]
  exact num_div hb
theorem den_posI {t b : Int} (hb : 0 < b) : b.fdiv ((Nat.gcd t.natAbs b.natAbs : Nat) : Int) = ((Rat.divInt t b).den : Int) := by
  rw [Int.fdiv_eq_ediv_of_dvd (gcdI_dvd_right t b)]
  exact den_div hb
theorem sz_divZ {t b : Int} {n d : Nat} (hb : b ≠ 0) (ht : t.natAbs < 2 ^ n) (hz : b.natAbs < 2 ^ d) : Sz n d (Rat.divInt t b) := by
  by_cases h : 0 < b
  · exact sz_div h ht hz
  · have h2 : (0 : Int) < -b := by omega
    have e : Rat.divInt t b = Rat.divInt (-t) (-b) := by
      rw [Rat.divInt_eq_divInt_iff hb (by omega)]
      rw [Int.mul_neg, Int.neg_mul]
    rw [e]
    exact sz_div h2 (by omega) (by omega)
theorem cross {t b : Int} (hb : b ≠ 0) : (Rat.divInt t b).num * b = t * ((Rat.divInt t b).den : Int) := by
  have h := Rat.num_divInt_den (Rat.divInt t b)
  have hd := den_pos (Rat.divInt t b)
  rwa [Rat.divInt_eq_divInt_iff (by omega) hb] at h
theorem sub_is (r s : Rat) : Rat.divInt (r.num * (s.den : Int) - s.num * (r.den : Int)) ((r.den : Int) * (s.den : Int)) = r - s := by
  have h1 := den_pos r
  have h2 := den_pos s
  rw [← Rat.divInt_sub_divInt r.num s.num (by omega) (by omega), Rat.num_divInt_den, Rat.num_divInt_den]
theorem lt_sub {n : Nat} {i j : Int} (ha : i.natAbs < 2 ^ n) (hb : j.natAbs < 2 ^ n) : (i - j).natAbs < 2 ^ (n + 1) := by
  rw [Nat.pow_succ]
  omega
theorem weighs_comm : ∀ (a b : List Rat), weighs (a.zip b) = weighs (b.zip a)
  | [], b => by cases b <;> rfl
  | x :: a, [] => rfl
  | x :: a, y :: b => by
    simp only [List.zip_cons_cons, weighs_cons]
    rw [weighs_comm a b, Rat.mul_comm]
/-! ### // by any divisor below 2 ^ 9000; a text so many times -/
def CDivZ (_ j : Int) : Prop := j ≠ 0 ∧ j.natAbs.log2 < 9000
theorem op_fdivZ {X : Cx} : OpR X (binaryOp .FloorDiv) (rI CDivZ fun i j => .int (i.fdiv j)) := opI fun i j _ _ _ _ _ hc q => floordiv_int hc.1 q (.inl (PyProof.noPylong_of_log2 hc.2))
theorem cdivZ {i j : Int} {b : Nat} (h : j ≠ 0) (hb : j.natAbs < 2 ^ b) (h0 : 0 < b) (h9 : b ≤ 9000) : CDivZ i j := ⟨h, Nat.lt_of_lt_of_le (PySem.Flt.log2_lt_of h0 hb) h9⟩
theorem op_mulStr {X : Cx} {x : Str} {n : Int} (hr : (decide (n < -(2 ^ 63 : Int)) || decide (n ≥ 2 ^ 63)) = false) (h1 : ¬ n < 1) (h2 : (n == 1 || x.length == 0) = false)
    (hb : ¬ ((x.length : Int) > (2 ^ 63 - 1) / n)) (hl : Builtin.Str.tooLong (x.length * n.toNat) = false) :
    OpR X (binaryOp .Mult) (fun a b H Q => a = .str x ∧ b = .int n ∧ (⟨(List.replicate n.toNat x.cps).foldl (· ++ ·) #[]⟩ : Str).length ≤ sizeLine ∧ Q (.str ⟨(List.replicate n.toNat x.cps).foldl (· ++ ·) #[]⟩) H) := by
  intro pins s σ H a b v u Q I ra rb h
  obtain ⟨rfl, rfl, hz, q⟩ := h
  obtain ⟨t, rfl⟩ := ra
  obtain ⟨t2, rfl⟩ := rb
  refine PySem.P.mul_str hr (fun _ _ => hb) (fun _ _ => hl) ?_
  rw [if_neg h1, if_neg (by rw [h2]; decide)]
  exact ⟨hz, ⟨.str _, H, I.tok _, ⟨_, rfl⟩, q⟩⟩
end Nc
end
section
set_option maxRecDepth 100000
set_option maxHeartbeats 4000000
namespace Nc
open PySem PySem.Spec PyProof.Rows L2 Evl
/-! ### promises of k02's defs -/
def spPartZ (K : PySem.W.Frag) : Sp := fun vs H Q _ => ∃ (t b : Int) (n : Nat), vs = [.int t, .int b] ∧ b ≠ 0 ∧ b.natAbs < 2 ^ n ∧ 0 < n ∧ n ≤ 9000 ∧ ∀ v H', Ex H H' → FrV K H' v (Rat.divInt t b) → Q v H'
theorem Ok.imp {P : Program} {w : World} {K : PySem.W.Frag} {mg : Str → Option Value} {base : Heap} {k : Nat} {x : Str} {ps : List Str} {sp sp' : Sp} (D : Ok P w K mg base k x ps sp) (h : ∀ vs H Q E, sp' vs H Q E → sp vs H Q E) : Ok P w K mg base k x ps sp' := by
  obtain ⟨f, fd, g, kp, F, b⟩ := D.ex
  exact ⟨f, fd, g, kp, F.imp h, b⟩
theorem part_imp {K : PySem.W.Frag} : ∀ vs H Q E, spPart K vs H Q E → spPartZ K vs H Q E := by
  rintro vs H Q E ⟨t, b, n, h1, h2, h3, h4, h5, q⟩
  exact ⟨t, b, n, h1, by omega, h3, h4, h5, q⟩
abbrev spMinus := sp2 (· - ·)
def spRatio (K : PySem.W.Frag) : Sp := fun vs H Q _ => ∃ (x y : V) (r s : Rat) (n d m e : Nat), vs = [x, y] ∧ FrV K H x r ∧ FrV K H y s ∧ Sz n d r ∧ Sz m e s ∧ s.num ≠ 0 ∧ (0 < n ∧ 0 < d ∧ 0 < m ∧ 0 < e ∧ d + m ≤ 8900 ∧ n + m + d + e ≤ 900000) ∧
  ∀ v H', Ex H H' → FrV K H' v (Rat.divInt (r.num * (s.den : Int)) ((r.den : Int) * s.num)) → Q v H'
def spLess (K : PySem.W.Frag) : Sp := fun vs H Q _ => ∃ (x y : V) (r s : Rat) (n d m e : Nat), vs = [x, y] ∧ FrV K H x r ∧ FrV K H y s ∧ Sz n d r ∧ Sz m e s ∧ (0 < n ∧ 0 < d ∧ 0 < m ∧ 0 < e ∧ n + m + d + e ≤ 900000) ∧ Q (.bl (decide (r.num * (s.den : Int) < s.num * (r.den : Int)))) H
/-- the greatest shared divisor -/
def spCommon : Sp := fun vs H Q _ => ∃ a b : Int, vs = [.int a, .int b] ∧ 0 ≤ a ∧ 0 < b ∧ Q (.int ((Nat.gcd a.natAbs b.natAbs : Nat) : Int)) H
/-- a whole number of so many bits at most -/
def spInt (n : Nat) : Sp := fun vs H Q _ => ∃ s : Addr, vs = [.ref s] ∧ Stm s H ∧ ∀ d H', d.natAbs < 2 ^ n → Dr s H H' → Q (.int d) H'
/-- the found fraction is that of a top and a bottom -/
def spIs (K : PySem.W.Frag) : Sp := fun vs H Q _ => ∃ (x : V) (t b : Int) (n : Nat), vs = [x, .int t, .int b] ∧ b ≠ 0 ∧ FrV K H x (Rat.divInt t b) ∧ t.natAbs < 2 ^ n ∧ b.natAbs < 2 ^ n ∧ 0 < n ∧ n ≤ 400000 ∧ ∀ H', Ex H H' → Q (.bl true) H'
def spPair (K : PySem.W.Frag) : Sp := fun vs H Q _ => ∃ (x y : V) (r s : Rat), vs = [x, y] ∧ FrV K H x r ∧ FrV K H y s ∧ Sz 2700 200 r ∧ Sz 2700 200 s ∧ ∀ H', Ex H H' → Q (.bl true) H'
/-- a row of at most six long ones, or of at most thirty-one short ones -/
def SzR (L : List Rat) : Prop := (L.length ≤ 6 ∧ SzL 1330 100 L) ∨ (L.length ≤ 31 ∧ SzL 4 4 L)
def spRow2 (K : PySem.W.Frag) : Sp := fun vs H Q _ => ∃ (s : Addr) (k : Nat), vs = [.ref s, .int (k : Int)] ∧ Stm s H ∧ k ≤ 31 ∧ ∀ v L H', Dr s H H' → RowV K H' v L → L.length = k → SzR L → (6 < k → SzL 4 4 L) → Q v H'
/-- what two rows come to, not divided -/
def spDue (K : PySem.W.Frag) : Sp := fun vs H Q _ => ∃ (x y : V) (a b : List Rat), vs = [x, y] ∧ RowV K H x a ∧ RowV K H y b ∧ a.length = b.length ∧ SzR a ∧ SzR b ∧ a.length ≤ 31 ∧
  ∀ (p : Addr) (t u : Int) H', Ex H H' → SqT K H' p [.int t, .int u] → 0 < u → weighs (a.zip b) = Rat.divInt t u → t.natAbs < 2 ^ 90000 → u.natAbs < 2 ^ 90000 → Q (.ref p) H'
end Nc
end
section
set_option maxRecDepth 100000
set_option maxHeartbeats 400000
namespace K02
open PySem L2 Evl Nc PyProof.Rows
/-! ### the text -/
def topS (i : Nat) : Stmt := PySem.Challenge.pw_noughtcut_k02_fractions_reckoned.main.body.getD i (.Pass ⟨0, 0, 0, 0⟩)
abbrev s_fraction_of : Stmt := topS 3
theorem sc_fraction_of : FnScope ["top", "bottom", "shared"] ["top", "bottom"] (defScope s_fraction_of) := ⟨rfl, rfl, rfl, by decide +kernel, rfl, by decide +kernel, by decide +kernel⟩
abbrev s_plus : Stmt := topS 4
theorem sc_plus : FnScope ["one", "other"] ["one", "other"] (defScope s_plus) := ⟨rfl, rfl, rfl, by decide +kernel, rfl, by decide +kernel, by decide +kernel⟩
abbrev s_minus : Stmt := topS 5
theorem sc_minus : FnScope ["one", "other"] ["one", "other"] (defScope s_minus) := ⟨rfl, rfl, rfl, by decide +kernel, rfl, by decide +kernel, by decide +kernel⟩
abbrev s_times : Stmt := topS 6
theorem sc_times : FnScope ["one", "other"] ["one", "other"] (defScope s_times) := ⟨rfl, rfl, rfl, by decide +kernel, rfl, by decide +kernel, by decide +kernel⟩
abbrev s_ratio : Stmt := topS 7
theorem sc_ratio : FnScope ["one", "other"] ["one", "other"] (defScope s_ratio) := ⟨rfl, rfl, rfl, by decide +kernel, rfl, by decide +kernel, by decide +kernel⟩
abbrev s_is_less : Stmt := topS 8
theorem sc_is_less : FnScope ["one", "other"] ["one", "other"] (defScope s_is_less) := ⟨rfl, rfl, rfl, by decide +kernel, rfl, by decide +kernel, by decide +kernel⟩
abbrev s_weigh : Stmt := topS 9
theorem sc_weigh : FnScope ["row", "other", "total", "one", "by"] ["row", "other"] (defScope s_weigh) := ⟨rfl, rfl, rfl, by decide +kernel, rfl, by decide +kernel, by decide +kernel⟩
abbrev s__law_cell : Stmt := topS 11
theorem sc__law_cell : FnScope ["_law_script", "_law_k"] ["_law_script", "_law_k"] (defScope s__law_cell) := ⟨rfl, rfl, rfl, by decide +kernel, rfl, by decide +kernel, by decide +kernel⟩
abbrev s__law_stream : Stmt := topS 12
theorem sc__law_stream : FnScope ["_law_cell_here"] ["_law_cell_here"] (defScope s__law_stream) := ⟨rfl, rfl, rfl, by decide +kernel, rfl, by decide +kernel, by decide +kernel⟩
abbrev s__law_take : Stmt := topS 13
theorem sc__law_take : FnScope ["_law_stream_here", "_law_many", "_law_digit", "_law_number", "_law_high"] ["_law_stream_here", "_law_many"] (defScope s__law_take) := ⟨rfl, rfl, rfl, by decide +kernel, rfl, by decide +kernel, by decide +kernel⟩
abbrev s__law_common : Stmt := topS 14
theorem sc__law_common : FnScope ["_law_one", "_law_other"] ["_law_one", "_law_other"] (defScope s__law_common) := ⟨rfl, rfl, rfl, by decide +kernel, rfl, by decide +kernel, by decide +kernel⟩
abbrev s__law_fraction : Stmt := topS 15
theorem sc__law_fraction : FnScope ["_law_top", "_law_bottom", "_law_by"] ["_law_top", "_law_bottom"] (defScope s__law_fraction) := ⟨rfl, rfl, rfl, by decide +kernel, rfl, by decide +kernel, by decide +kernel⟩
abbrev s__law_whole : Stmt := topS 16
theorem sc__law_whole : FnScope ["_law_stream_here", "_law_some"] ["_law_stream_here"] (defScope s__law_whole) := ⟨rfl, rfl, rfl, by decide +kernel, rfl, by decide +kernel, by decide +kernel⟩
abbrev s__law_drawn : Stmt := topS 17
theorem sc__law_drawn : FnScope ["_law_stream_here", "_law_bottom"] ["_law_stream_here"] (defScope s__law_drawn) := ⟨rfl, rfl, rfl, by decide +kernel, rfl, by decide +kernel, by decide +kernel⟩
abbrev s__law_is : Stmt := topS 18
theorem sc__law_is : FnScope ["_law_found", "_law_top", "_law_bottom", "_law_one"] ["_law_found", "_law_top", "_law_bottom"] (defScope s__law_is) := ⟨rfl, rfl, rfl, by decide +kernel, rfl, by decide +kernel, by decide +kernel⟩
abbrev s__law_pair_right : Stmt := topS 19
theorem sc__law_pair_right : FnScope ["_law_one", "_law_other", "_law_a", "_law_b", "_law_c", "_law_d", "_law_found"] ["_law_one", "_law_other"] (defScope s__law_pair_right) := ⟨rfl, rfl, rfl, by decide +kernel, rfl, by decide +kernel, by decide +kernel⟩
abbrev s__law_row : Stmt := topS 20
theorem sc__law_row : FnScope ["_law_stream_here", "_law_many", "_law_k"] ["_law_stream_here", "_law_many"] (defScope s__law_row) := ⟨rfl, rfl, rfl, by decide +kernel, rfl, by decide +kernel, by decide +kernel⟩
abbrev s__law_weighed : Stmt := topS 21
theorem sc__law_weighed : FnScope ["_law_row_here", "_law_other", "_law_top", "_law_bottom", "_law_one", "_law_two"] ["_law_row_here", "_law_other"] (defScope s__law_weighed) := ⟨rfl, rfl, rfl, by decide +kernel, rfl, by decide +kernel, by decide +kernel⟩
abbrev s_law : Stmt := topS 22
theorem sc_law : FnScope ["_law_script", "_law_k", "_law_stream_here", "_law_one", "_law_other", "_law_turn", "_law_some", "_law_pair", "_law_top", "_law_bottom", "_law_many", "_law_row_here", "_law_more", "_law_due"] ["_law_script"] (defScope s_law) := ⟨rfl, rfl, rfl, by decide +kernel, rfl, by decide +kernel, by decide +kernel⟩

end K02
end
section
set_option maxRecDepth 100000
set_option maxHeartbeats 400000
namespace K02
open PySem L2 Evl Nc PyProof.Rows
section
variable {P : Program} {w : World} {K : PySem.W.Frag} {mg : Str → Option Value} {base : Heap}
theorem ok_fraction_of (D : Df K mg "fraction_of" s_fraction_of ["top", "bottom"]) (mgcd : mg "gcd" = some (.builtin "math.gcd")) : Ok P w K mg base 1 "fraction_of" ["top", "bottom"] (spPartZ K) := by
  refine D.ok fun f fd F => F.ok sc_fraction_of (fun vs H Q E h => ?_) (fun cdv A outer s H vs Q E hr h => ?_)
  · obtain ⟨t, b, n, rfl, _⟩ := h
    rfl
  · obtain ⟨t, b, n, rfl, hb, hn, h0, h9, q⟩ := h
    refine ⟨_, pss_cons (ps_set (i := 2) sc_fraction_of.nd rfl (.inl rfl) (pe_callBfun cr_gcd (by rfl) mgcd (pa_cons (pv 0) (pa_cons (pv 1) pa_nil))))
      (pss_cons (ps_if (pt_cmpR op_lt (pv 1) pe_int (nomark _)) (pss_one (ps_set (i := 2) sc_fraction_of.nd rfl (.inl rfl) (pe_un un_neg (pv 2)))) pss_nil)
      (pss_one (ps_ret (pe_tup (pa_cons (pe_op op_fdivZ (pv 0) (pv 2)) (pa_cons (pe_op op_fdivZ (pv 1) (pv 2)) pa_nil)))))), ?_⟩
    have g1 := gcd_posZ (t := t) hb
    have g2 := gcd_leZ (t := t) hb
    have dv : CDivZ 0 ((Nat.gcd t.natAbs b.natAbs : Nat) : Int) := cdivZ (by omega) (Nat.lt_of_le_of_lt g2 hn) h0 h9
    refine ⟨_, rfl, _, rfl, t, b, rfl, _, rfl, b, 0, rfl, rfl, _, rfl, ite2 (fun hd => ?_) (fun hd => ?_)⟩
    · have hneg : b < 0 := of_decide_eq_true hd
      have dv2 : CDivZ 0 (-((Nat.gcd t.natAbs b.natAbs : Nat) : Int)) := cdivZ (by omega) (by rw [Int.natAbs_neg]; exact Nat.lt_of_le_of_lt g2 hn) h0 h9
      refine ⟨_, rfl, _, rfl, _, rfl, _, rfl, t, _, rfl, rfl, dv2, _, rfl, _, rfl, b, _, rfl, rfl, dv2, (by show 2 ≤ sizeLine; decide), fun p hp => ?_⟩
      exact q _ _ (Ex.new hp) (made (num_neg hneg) (den_neg hneg))
    · have hpos : 0 < b := by
        have : ¬ b < 0 := fun z => hd (decide_eq_true z)
        omega
      refine ⟨_, rfl, _, rfl, t, _, rfl, rfl, dv, _, rfl, _, rfl, b, _, rfl, rfl, dv, (by show 2 ≤ sizeLine; decide), fun p hp => ?_⟩
      exact q _ _ (Ex.new hp) (made (num_pos hpos) (den_posI hpos))
theorem ok_plus (D : Df K mg "plus" s_plus ["one", "other"]) (G : Ok P w K mg base 1 "fraction_of" ["top", "bottom"] (spPart K)) : Ok P w K mg base 2 "plus" ["one", "other"] (spPlus K) := by
  refine D.ok fun f fd F => F.ok sc_plus (fun vs H Q E h => ?_) (fun cdv A outer s H vs Q E hr h => ?_)
  · obtain ⟨x, y, r, s, n, d, m, e, rfl, _⟩ := h
    rfl
  · obtain ⟨x, y, r, s, n, d, m, e, rfl, hx, hy, ha, hb, ⟨n0, d0, m0, e0, hde, hnm⟩, q⟩ := h
    refine ⟨_, pss_one (ps_ret (cl G hr (pa_cons (pe_op op_add (pe_op op_mulW (pe_ix ix_tup (pv 0) pe_int (fun _ _ => rfl)) (pe_ix ix_tup (pv 1) pe_int (fun _ _ => rfl))) (pe_op op_mulW (pe_ix ix_tup (pv 1) pe_int (fun _ _ => rfl)) (pe_ix ix_tup (pv 0) pe_int (fun _ _ => rfl)))) (pa_cons (pe_op op_mulW (pe_ix ix_tup (pv 0) pe_int (fun _ _ => rfl)) (pe_ix ix_tup (pv 1) pe_int (fun _ _ => rfl))) pa_nil)))), ?_⟩
    obtain ⟨t, rfl, h1⟩ := hx
    obtain ⟨u, rfl, h2⟩ := hy
    have hm1 := mulOk ha.1 hb.den
    have hm2 := mulOk hb.1 ha.den
    have hm3 := mulOk ha.den hb.den
    refine ⟨_, rfl, _, _, _, _, rfl, rfl, h1, at0, _, rfl, _, _, _, _, rfl, rfl, h2, at1, _, _, rfl, rfl, hm1, _, rfl, _, _, _, _, rfl, rfl, h2, at0, _, rfl, _, _, _, _, rfl, rfl, h1, at1, _, _, rfl, rfl, hm2, _, _, rfl, rfl, _, rfl, _, _, _, _, rfl, rfl, h1, at1, _, rfl, _, _, _, _, rfl, rfl, h2, at1, _, _, rfl, rfl, hm3, ?_⟩
    refine ⟨_, _, d + e, rfl, Int.mul_pos (den_pos r) (den_pos s), lt_mul ha.den hb.den, by omega, by omega, fun v H' e hv => ?_⟩
    rw [add_is] at hv
    exact q v H' e hv
theorem ok_times (D : Df K mg "times" s_times ["one", "other"]) (G : Ok P w K mg base 1 "fraction_of" ["top", "bottom"] (spPart K)) : Ok P w K mg base 2 "times" ["one", "other"] (spTimes K) := by
  refine D.ok fun f fd F => F.ok sc_times (fun vs H Q E h => ?_) (fun cdv A outer s H vs Q E hr h => ?_)
  · obtain ⟨x, y, r, s, n, d, m, e, rfl, _⟩ := h
    rfl
  · obtain ⟨x, y, r, s, n, d, m, e, rfl, hx, hy, ha, hb, ⟨n0, d0, m0, e0, hde, hnm⟩, q⟩ := h
    refine ⟨_, pss_one (ps_ret (cl G hr (pa_cons (pe_op op_mulW (pe_ix ix_tup (pv 0) pe_int (fun _ _ => rfl)) (pe_ix ix_tup (pv 1) pe_int (fun _ _ => rfl))) (pa_cons (pe_op op_mulW (pe_ix ix_tup (pv 0) pe_int (fun _ _ => rfl)) (pe_ix ix_tup (pv 1) pe_int (fun _ _ => rfl))) pa_nil)))), ?_⟩
    obtain ⟨t, rfl, h1⟩ := hx
    obtain ⟨u, rfl, h2⟩ := hy
    have hm1 := mulOk ha.1 hb.1
    have hm3 := mulOk ha.den hb.den
    refine ⟨_, rfl, _, _, _, _, rfl, rfl, h1, at0, _, rfl, _, _, _, _, rfl, rfl, h2, at0, _, _, rfl, rfl, hm1, _, rfl, _, _, _, _, rfl, rfl, h1, at1, _, rfl, _, _, _, _, rfl, rfl, h2, at1, _, _, rfl, rfl, hm3, ?_⟩
    refine ⟨_, _, d + e, rfl, Int.mul_pos (den_pos r) (den_pos s), lt_mul ha.den hb.den, by omega, by omega, fun v H' e hv => ?_⟩
    rw [mul_is] at hv
    exact q v H' e hv
theorem ok_minus (D : Df K mg "minus" s_minus ["one", "other"]) (G : Ok P w K mg base 1 "fraction_of" ["top", "bottom"] (spPart K)) : Ok P w K mg base 2 "minus" ["one", "other"] (spMinus K) := by
  refine D.ok fun f fd F => F.ok sc_minus (fun vs H Q E h => ?_) (fun cdv A outer s H vs Q E hr h => ?_)
  · obtain ⟨x, y, r, s, n, d, m, e, rfl, _⟩ := h
    rfl
  · obtain ⟨x, y, r, s, n, d, m, e, rfl, hx, hy, ha, hb, ⟨n0, d0, m0, e0, hde, hnm⟩, q⟩ := h
    refine ⟨_, pss_one (ps_ret (cl G hr (pa_cons (pe_op op_sub (pe_op op_mulW (pe_ix ix_tup (pv 0) pe_int (fun _ _ => rfl)) (pe_ix ix_tup (pv 1) pe_int (fun _ _ => rfl))) (pe_op op_mulW (pe_ix ix_tup (pv 1) pe_int (fun _ _ => rfl)) (pe_ix ix_tup (pv 0) pe_int (fun _ _ => rfl)))) (pa_cons (pe_op op_mulW (pe_ix ix_tup (pv 0) pe_int (fun _ _ => rfl)) (pe_ix ix_tup (pv 1) pe_int (fun _ _ => rfl))) pa_nil)))), ?_⟩
    obtain ⟨t, rfl, h1⟩ := hx
    obtain ⟨u, rfl, h2⟩ := hy
    have hm1 := mulOk ha.1 hb.den
    have hm2 := mulOk hb.1 ha.den
    have hm3 := mulOk ha.den hb.den
    refine ⟨_, rfl, _, _, _, _, rfl, rfl, h1, at0, _, rfl, _, _, _, _, rfl, rfl, h2, at1, _, _, rfl, rfl, hm1, _, rfl, _, _, _, _, rfl, rfl, h2, at0, _, rfl, _, _, _, _, rfl, rfl, h1, at1, _, _, rfl, rfl, hm2, _, _, rfl, rfl, _, rfl, _, _, _, _, rfl, rfl, h1, at1, _, rfl, _, _, _, _, rfl, rfl, h2, at1, _, _, rfl, rfl, hm3, ?_⟩
    refine ⟨_, _, d + e, rfl, Int.mul_pos (den_pos r) (den_pos s), lt_mul ha.den hb.den, by omega, by omega, fun v H' e hv => ?_⟩
    rw [sub_is] at hv
    exact q v H' e hv
theorem ok_ratio (D : Df K mg "ratio" s_ratio ["one", "other"]) (G : Ok P w K mg base 1 "fraction_of" ["top", "bottom"] (spPartZ K)) : Ok P w K mg base 2 "ratio" ["one", "other"] (spRatio K) := by
  refine D.ok fun f fd F => F.ok sc_ratio (fun vs H Q E h => ?_) (fun cdv A outer s H vs Q E hr h => ?_)
  · obtain ⟨x, y, r, s, n, d, m, e, rfl, _⟩ := h
    rfl
  · obtain ⟨x, y, r, s, n, d, m, e, rfl, hx, hy, ha, hb, hs, ⟨n0, d0, m0, e0, hdm, hnm⟩, q⟩ := h
    refine ⟨_, pss_one (ps_ret (cl G hr (pa_cons (pe_op op_mulW (pe_ix ix_tup (pv 0) pe_int (fun _ _ => rfl)) (pe_ix ix_tup (pv 1) pe_int (fun _ _ => rfl))) (pa_cons (pe_op op_mulW (pe_ix ix_tup (pv 0) pe_int (fun _ _ => rfl)) (pe_ix ix_tup (pv 1) pe_int (fun _ _ => rfl))) pa_nil)))), ?_⟩
    obtain ⟨t, rfl, h1⟩ := hx
    obtain ⟨u, rfl, h2⟩ := hy
    refine ⟨_, rfl, _, _, _, _, rfl, rfl, h1, at0, _, rfl, _, _, _, _, rfl, rfl, h2, at1, _, _, rfl, rfl, mulOk ha.1 hb.den, _, rfl, _, _, _, _, rfl, rfl, h1, at1, _, rfl, _, _, _, _, rfl, rfl, h2, at0, _, _, rfl, rfl, mulOk ha.den hb.1, ?_⟩
    have d1 := den_pos r
    exact ⟨_, _, d + m, rfl, Int.mul_ne_zero (by omega) hs, lt_mul ha.den hb.1, by omega, by omega, q⟩
theorem ok_is_less (D : Df K mg "is_less" s_is_less ["one", "other"]) : Ok P w K mg base 1 "is_less" ["one", "other"] (spLess K) := by
  refine D.ok fun f fd F => F.ok sc_is_less (fun vs H Q E h => ?_) (fun cdv A outer s H vs Q E hr h => ?_)
  · obtain ⟨x, y, r, s, n, d, m, e, rfl, _⟩ := h
    rfl
  · obtain ⟨x, y, r, s, n, d, m, e, rfl, hx, hy, ha, hb, ⟨n0, d0, m0, e0, hnm⟩, q⟩ := h
    refine ⟨_, pss_one (ps_ret (pe_cmpR op_lt (pe_op op_mulW (pe_ix ix_tup (pv 0) pe_int (fun _ _ => rfl)) (pe_ix ix_tup (pv 1) pe_int (fun _ _ => rfl))) (pe_op op_mulW (pe_ix ix_tup (pv 1) pe_int (fun _ _ => rfl)) (pe_ix ix_tup (pv 0) pe_int (fun _ _ => rfl))) (nomark _))), ?_⟩
    obtain ⟨t, rfl, h1⟩ := hx
    obtain ⟨u, rfl, h2⟩ := hy
    exact ⟨_, rfl, _, _, _, _, rfl, rfl, h1, at0, _, rfl, _, _, _, _, rfl, rfl, h2, at1, _, _, rfl, rfl, mulOk ha.1 hb.den, _, rfl, _, _, _, _, rfl, rfl, h2, at0, _, rfl, _, _, _, _, rfl, rfl, h1, at1, _, _, rfl, rfl, mulOk hb.1 ha.den, _, _, rfl, rfl, q⟩
theorem ok_weigh (D : Df K mg "weigh" s_weigh ["row", "other"]) (CN : Cst K mg "NOUGHT" 0) (mzip : mg "zip" = none) (GP : Ok P w K mg base 2 "plus" ["one", "other"] (spPlus K)) (GT : Ok P w K mg base 2 "times" ["one", "other"] (spTimes K)) : Ok P w K mg base 3 "weigh" ["row", "other"] (spWeigh K) := by
  refine D.ok fun f fd F => F.ok sc_weigh (fun vs H Q E h => ?_) (fun cdv A outer s H vs Q E hr h => ?_)
  · obtain ⟨x, y, rs, ss, n, d, m, e, rfl, _⟩ := h
    rfl
  · obtain ⟨x, y, rs, ss, n, d, m, e, rfl, ⟨tx, xs, rfl, qx, lx⟩, ⟨ty, ys, rfl, qy, ly⟩, hl, hn, hm, ⟨d0, e0', hdn, hem, hz1, hz2⟩, q⟩ := h
    obtain ⟨aN, gN, hN⟩ := CN.ex
    refine ⟨_, pss_cons (ps_set (i := 2) sc_weigh.nd rfl (.inl rfl) (pe_glob (v := .ref aN) (by rfl) gN rfl))
      (pss_cons (ps_for PassesOwn.never rfl (RZ.pi_zipA (by rfl) mzip (pa_cons (pv 0) (pa_cons (pv 1) pa_nil))) (pg_tup rfl (pgs_cons (pg_name (i := 3) sc_weigh.nd rfl (.inl rfl)) (pgs_cons (pg_name (i := 4) sc_weigh.nd rfl (.inl rfl)) pgs_nil)))
        (pss_one (ps_set (i := 2) sc_weigh.nd rfl (.inl rfl) (cl GP hr (pa_cons (pv 2) (pa_cons (cl GT hr (pa_cons (pv 3) (pa_cons (pv 4) pa_nil))) pa_nil))))))
      (pss_one (ps_ret (pv 2)))), ?_⟩
    have e0 := Ex.refl H
    have z0 : FrV K H (.ref aN) (weighs ((rs.zip ss).take 0)) := hN H
    have lx' := Paired.length lx
    have ly' := Paired.length ly
    refine ⟨_, rfl, _, rfl, tx, ty, xs, ys, rfl, .inr ⟨ex_t e0 qx, ex_t e0 qy, RZ.for_zipT (by omega) (fun i σ H' => ∃ (v : V) (o3 o4 : Option V), σ = [some (.ref tx), some (.ref ty), some v, o3, o4] ∧ Ex H H' ∧ FrV K H' v (weighs ((rs.zip ss).take i)))
      ⟨_, none, none, rfl, e0, z0⟩ (fun i σ H' ⟨_, _, _, _, e1, _⟩ => ⟨ex_t e1 qx, ex_t e1 qy⟩) ?_ ?_⟩⟩
    · rintro i x y T σ H' hx hy ⟨v, o3, o4, rfl, e1, hv⟩ hT
      obtain ⟨r, hr1, fr⟩ := pget lx hx
      obtain ⟨u, hu1, fu⟩ := pget ly hy
      have hzip : (rs.zip ss)[i]? = some (r, u) := by
        rw [List.getElem?_zip_eq_some]
        exact ⟨hr1, hu1⟩
      have hi : i < rs.length := (List.getElem?_eq_some_iff.mp hr1).1
      have szr := hn r (List.mem_of_getElem? hr1)
      have szu := hm u (List.mem_of_getElem? hu1)
      have szt := sz_weighs hdn hem i (rs.zip ss) (by rw [List.length_zip]; omega) (fun p hp => ⟨hn _ (List.of_mem_zip hp).1, hm _ (List.of_mem_zip hp).2⟩)
      have b1 : (i + 1) * (d + e) ≤ rs.length * (d + e) := Nat.mul_le_mul_right _ hi
      have b2 : (i + 1) * (n + m + 1) ≤ rs.length * (n + m + 1) := Nat.mul_le_mul_right _ hi
      rw [Nat.succ_mul] at b1 b2
      have eT : Ex H' (upd H' T (.tup [x, y])) := Ex.new hT
      refine ⟨T, [x, y], rfl, st_of upd_same, rfl, x, [y], rfl, y, [], rfl, rfl, ?_⟩
      refine ⟨_, rfl, _, rfl, _, rfl, x, y, r, u, n, d, m, e, rfl, fr.ex (e1.trans eT), fu.ex (e1.trans eT), szr, szu, ⟨by omega, by omega, by omega, by omega, by omega, by omega⟩, fun v2 H2 e2 hv2 => ?_⟩
      refine ⟨v, v2, _, _, _, _, _, _, rfl, hv.ex (eT.trans e2), hv2, szt, sz_mul szr szu, ⟨by omega, by omega, by omega, by omega, by omega, by omega⟩, fun v3 H3 e3 hv3 => ?_⟩
      refine ⟨v3, some x, some y, rfl, ((e1.trans eT).trans e2).trans e3, ?_⟩
      rw [weighs_take hzip]
      exact hv3
    · rintro σ H' ⟨v, o3, o4, rfl, e1, hv⟩
      refine ⟨_, rfl, q v H' e1 ?_⟩
      rwa [List.take_of_length_le (by rw [List.length_zip]; omega)] at hv
theorem ok__law_common (D : Df K mg "_law_common" s__law_common ["_law_one", "_law_other"]) : Ok P w K mg base 1 "_law_common" ["_law_one", "_law_other"] spCommon := by
  refine D.ok fun f fd F => F.ok sc__law_common (fun vs H Q E h => ?_) (fun cdv A outer s H vs Q E hr h => ?_)
  · obtain ⟨t, b, rfl, _⟩ := h
    rfl
  · obtain ⟨t, b, rfl, ht, hb, q⟩ := h
    refine ⟨_, pss_cons (ps_while PassesOwn.never (pt_cmpR op_ne (pv 1) pe_int (nomark _)) (pss_one (ps_par (i := 0) (j := 1) rfl sc__law_common.nd rfl rfl (by decide) rfl rfl (pa_cons (pv 1) (pa_cons (pe_op op_mod (pv 0) (pv 1)) pa_nil)) (by rfl))))
      (pss_one (ps_ret (pv 0))), ?_⟩
    refine ⟨fun m σ H' => ∃ a c : Int, σ = [some (.int a), some (.int c)] ∧ 0 ≤ a ∧ 0 ≤ c ∧ m = c.toNat ∧ Nat.gcd a.natAbs c.natAbs = Nat.gcd t.natAbs b.natAbs ∧ H' = H,
      ⟨b.toNat, t, b, rfl, ht, by omega, rfl, rfl, rfl⟩, ?_⟩
    rintro m σ H' ⟨a, c, rfl, ha, hc, rfl, hg, rfl⟩
    refine ⟨_, rfl, rfl, _, rfl, ?_⟩
    by_cases hc0 : c = 0
    · subst hc0
      rw [decide_eq_true rfl]
      refine iteF ?_
      have ea : a = ((Nat.gcd t.natAbs b.natAbs : Nat) : Int) := by
        rw [← hg]
        simp
        omega
      subst ea
      exact ⟨_, rfl, q⟩
    · rw [decide_eq_false (fun z => hc0 (V.int.inj z))]
      refine iteT ?_
      have hc1 : 0 < c := by omega
      refine ⟨fun σ' H'' => σ' = [some (.int c), some (.int (a % c))] ∧ H'' = H', ?_, ?_⟩
      · rintro σ' H'' ⟨rfl, rfl⟩
        have z1 := Int.emod_nonneg a (b := c) (by omega)
        have z2 := Int.emod_lt_of_pos a hc1
        exact ⟨(a % c).toNat, by omega, c, a % c, rfl, by omega, z1, rfl, (gcd_step ha hc1).trans hg, rfl⟩
      · exact ⟨_, rfl, _, rfl, _, rfl, a, c, rfl, rfl, hc1, _, _, rfl, rfl, rfl⟩
theorem ok__law_fraction (D : Df K mg "_law_fraction" s__law_fraction ["_law_top", "_law_bottom"]) (GC : Ok P w K mg base 1 "_law_common" ["_law_one", "_law_other"] spCommon) (mabs : mg "abs" = none) : Ok P w K mg base 2 "_law_fraction" ["_law_top", "_law_bottom"] (spPart K) := by
  refine D.ok fun f fd F => F.ok sc__law_fraction (fun vs H Q E h => ?_) (fun cdv A outer s H vs Q E hr h => ?_)
  · obtain ⟨t, b, n, rfl, _⟩ := h
    rfl
  · obtain ⟨t, b, n, rfl, hb, hn, h0, h9, q⟩ := h
    refine ⟨_, pss_cons (ps_set (i := 2) sc__law_fraction.nd rfl (.inl rfl) (cl GC hr (pa_cons (pe_callB call_abs (by rfl) mabs (by decide +kernel) (pa_cons (pv 0) pa_nil)) (pa_cons (pv 1) pa_nil))))
      (pss_one (ps_ret (pe_tup (pa_cons (pe_op op_fdivW (pv 0) (pv 2)) (pa_cons (pe_op op_fdivW (pv 1) (pv 2)) pa_nil))))), ?_⟩
    have g1 := gcd_pos (t := t) hb
    have g2 := gcd_le (t := t) hb
    have dv : ∀ i : Int, CDivW i ((Nat.gcd t.natAbs b.natAbs : Nat) : Int) := fun i => wide_div g1 (wide_le (by omega) g2 hn) h0 h9
    have ea : Nat.gcd (if t < 0 then -t else t).natAbs b.natAbs = Nat.gcd t.natAbs b.natAbs := by
      split
      · rw [Int.natAbs_neg]
      · rfl
    refine ⟨_, rfl, t, rfl, _, rfl, _, b, rfl, by split <;> omega, hb, ?_⟩
    rw [ea]
    refine ⟨_, rfl, _, rfl, t, _, rfl, rfl, dv _, _, rfl, _, rfl, b, _, rfl, rfl, dv _, (by show 2 ≤ sizeLine; decide), fun p hp => ?_⟩
    exact q _ _ (Ex.new hp) (made (num_div hb) (den_div hb))
theorem ok__law_cell (D : Df K mg "_law_cell" s__law_cell ["_law_script", "_law_k"]) (mlen : mg "len" = none) : Ok P w K mg base 1 "_law_cell" ["_law_script", "_law_k"] (spCell K) := by
  refine D.ok fun f fd F => F.ok sc__law_cell (fun vs H Q E h => ?_) (fun cdv A outer s H vs Q E hr h => ?_)
  · obtain ⟨a, ns, k, rfl, _⟩ := h
    rfl
  · obtain ⟨a, ns, k, rfl, hS, hk, q⟩ := h
    refine ⟨_, pss_cons (ps_if (pt_cmpR op_lt (pv 1) (pe_callB call_len_seq (by rfl) mlen PySem.boot_len (pa_cons (pv 0) pa_nil)) (nomark _)) (pss_one (ps_ret (pe_ix ix_list (pv 0) (pv 1) (fun _ _ => rfl)))) pss_nil)
      (pss_one (ps_ret (pe_op op_add (pe_op op_mul pe_int (pv 1)) pe_int))), ?_⟩
    refine ⟨_, rfl, _, rfl, a, _, rfl, .inl hS, _, _, rfl, rfl, _, rfl, ite2 (fun hd => ?_) (fun hd => ?_)⟩
    · have hlt := of_decide_eq_true hd
      rw [List.length_map] at hlt
      have hn : k < ns.length := by omega
      refine ⟨_, rfl, _, rfl, a, _, _, .int ns[k], rfl, rfl, hS, atI_nat ?_, q _⟩
      rw [List.getElem?_map, List.getElem?_eq_getElem hn]
      rfl
    · exact ⟨_, rfl, _, _, rfl, rfl, .inl ⟨by decide, by decide⟩, _, _, rfl, rfl, q _⟩
theorem ok__law_stream (D : Df K mg "_law_stream" s__law_stream ["_law_cell_here"]) (mint : mg "int" = none) : Ok P w K mg base 1 "_law_stream" ["_law_cell_here"] spStream := by
  refine D.ok fun f fd F => F.ok sc__law_stream (fun vs H Q E h => ?_) (fun cdv A outer s H vs Q E hr h => ?_)
  · obtain ⟨c, rfl, _⟩ := h
    rfl
  · obtain ⟨c, rfl, q⟩ := h
    refine ⟨_, pss_one (ps_ret (pe_lst (pa_cons (pe_op op_mul (pv 0) (pe_callTy call_int1 (by rfl) mint (by decide +kernel) (pa_cons (pe_cmpR op_ge (pv 0) (pe_op op_pow pe_int pe_int) (nomark _)) pa_nil))) (pa_cons (pe_op op_mod (pv 0) pe_int) (pa_cons pe_int pa_nil))))), ?_⟩
    refine ⟨_, rfl, _, rfl, _, _, rfl, rfl, ⟨by decide, by decide, by decide⟩, _, _, rfl, rfl, .inr ⟨_, rfl, _, _, rfl, rfl, .inr (b01 _), _, rfl, _, _, rfl, rfl, (by show (0 : Int) < _; decide), (by show 3 ≤ sizeLine; decide), fun p hp => ?_⟩⟩
    exact q _ _ _ _ hp
theorem ok__law_take (D : Df K mg "_law_take" s__law_take ["_law_stream_here", "_law_many"]) : Ok P w K mg base 1 "_law_take" ["_law_stream_here", "_law_many"] spTake := by
  refine D.ok fun f fd F => F.ok sc__law_take (fun vs H Q E h => ?_) (fun cdv A outer s H vs Q E hr h => ?_)
  · obtain ⟨s, m, rfl, _⟩ := h
    rfl
  · obtain ⟨s, m, rfl, ⟨a, b, c, hS⟩, m0, m1, q⟩ := h
    refine ⟨_, pss_cons (ps_if (pt_cmpR op_gt (pe_ix ix_list (pv 0) pe_int (fun _ _ => rfl)) pe_int (nomark _)) (pss_cons (ps_set (i := 2) sc__law_take.nd rfl (.inl rfl) (pe_op op_mod (pe_ix ix_list (pv 0) pe_int (fun _ _ => rfl)) (pv 1))) (pss_cons (ps_asg (pe_op op_fdivW (pe_ix ix_list (pv 0) pe_int (fun _ _ => rfl)) (pv 1)) (pg_sub (pv 0) pe_int set_list)) (pss_one (ps_ret (pv 2))))) pss_nil)
      (pss_cons (ps_asg (pe_op op_add (pe_ix ix_list (pv 0) pe_int (fun _ _ => rfl)) pe_int) (pg_sub (pv 0) pe_int set_list))
      (pss_cons (ps_set (i := 3) sc__law_take.nd rfl (.inl rfl) (pe_op op_mod (pe_op op_add (pe_op op_add (pe_op op_mul (pe_ix ix_list (pv 0) pe_int (fun _ _ => rfl)) pe_int) (pe_op op_mul pe_int (pe_ix ix_list (pv 0) pe_int (fun _ _ => rfl)))) pe_int) pe_int))
      (pss_cons (ps_set (i := 3) sc__law_take.nd rfl (.inl rfl) (pe_op op_mod (pe_op op_mul (pv 3) (pv 3)) pe_int))
      (pss_cons (ps_set (i := 4) sc__law_take.nd rfl (.inl rfl) (pe_op op_mod (pe_op op_add (pe_op op_mul (pv 3) pe_int) (pe_op op_mul pe_int (pe_ix ix_list (pv 0) pe_int (fun _ _ => rfl)))) pe_int))
      (pss_one (ps_ret (pe_op op_mod (pe_op op_fdiv (pe_op op_mod (pe_op op_mul (pv 4) (pv 3)) pe_int) pe_int) (pv 1)))))))), ?_⟩
    have hL : SqL K H s [.int a, .int b, .int c] := sq_of hS
    refine ⟨_, rfl, _, _, _, _, rfl, rfl, hL, at0, _, _, rfl, rfl, _, rfl, ite2 (fun hd => ?_) (fun hd => ?_)⟩
    · refine ⟨_, rfl, _, _, _, _, rfl, rfl, hL, at0, _, rfl, _, _, rfl, rfl, m0, _, rfl, _, _, _, _, rfl, rfl, hL, at0, _, rfl, _, _, rfl, rfl, cdivT m0 m1, _, rfl, s, _, _, 0, rfl, rfl, hS, rfl, _, rfl, ?_⟩
      exact q _ _ (Int.emod_nonneg _ (by omega)) (Int.emod_lt_of_pos _ m0) (Dr.put hS)
    · refine ⟨_, rfl, _, _, _, _, rfl, rfl, hL, at2, _, _, rfl, rfl, _, rfl, s, _, _, 2, rfl, rfl, hS, rfl, ?_⟩
      have d1 : Dr s H (upd H s (.lst [.int a, .int b, .int (c + 1)])) := Dr.put hS
      have hL2 : SqL K (upd H s (.lst [.int a, .int b, .int (c + 1)])) s [.int a, .int b, .int (c + 1)] := sq_of upd_same
      refine ⟨_, rfl, _, _, _, _, rfl, rfl, hL2, at1, _, _, rfl, rfl, .inr ⟨by decide, by decide⟩, _, rfl, _, _, _, _, rfl, rfl, hL2, at2, _, _, rfl, rfl, .inl ⟨by decide, by decide⟩, _, _, rfl, rfl, _, _, rfl, rfl, _, _, rfl, rfl, (by show (0 : Int) < _; decide), ?_⟩
      refine ⟨_, rfl, _, rfl, _, _, rfl, rfl, .inl (modb _ (by decide) (by decide)), _, _, rfl, rfl, (by show (0 : Int) < _; decide), ?_⟩
      refine ⟨_, rfl, _, _, rfl, rfl, .inr ⟨by decide, by decide⟩, _, rfl, _, _, _, _, rfl, rfl, hL2, at2, _, _, rfl, rfl, .inl ⟨by decide, by decide⟩, _, _, rfl, rfl, _, _, rfl, rfl, (by show (0 : Int) < _; decide), ?_⟩
      refine ⟨_, rfl, _, rfl, _, _, rfl, rfl, .inl (modb _ (by decide) (by decide)), _, _, rfl, rfl, (by show (0 : Int) < _; decide), _, _, rfl, rfl, ⟨by decide, by decide⟩, _, rfl, _, _, rfl, rfl, m0, ?_⟩
      exact q _ _ (Int.emod_nonneg _ (by omega)) (Int.emod_lt_of_pos _ m0) d1
end

end K02
end
section
set_option maxRecDepth 100000
set_option maxHeartbeats 400000
namespace K02
open PySem L2 Evl Nc PyProof.Rows
section
variable {P : Program} {w : World} {K : PySem.W.Frag} {mg : Str → Option Value} {base : Heap}
def big : Int := 888888888888888888888888888888888888888888888888888888888888888888888888888888888888888888888888888888888888888888888888888888888888888888888888888888888888888888888888888888888888888888888888888888888888888888888888888888888888888888888888888888888888888888888888888888888888888888888888888888888888888888888888888888888888888888888888888888888888888888888888888888888888888888888888888888888888888
theorem ok__law_whole (D : Df K mg "_law_whole" s__law_whole ["_law_stream_here"]) (GT : Ok P w K mg base 1 "_law_take" ["_law_stream_here", "_law_many"] spTake) (mint : mg "int" = none) : Ok P w K mg base 2 "_law_whole" ["_law_stream_here"] (spInt 1330) := by
  refine D.ok fun f fd F => F.ok sc__law_whole (fun vs H Q E h => ?_) (fun cdv A outer s H vs Q E hr h => ?_)
  · obtain ⟨s, rfl, _⟩ := h
    rfl
  · obtain ⟨s, rfl, hS, q⟩ := h
    refine ⟨_, pss_cons (ps_set (i := 1) sc__law_whole.nd rfl (.inl rfl) (pe_lst (pa_cons (pe_op op_sub (cl GT hr (pa_cons (pv 0) (pa_cons pe_int pa_nil))) pe_int) (pa_cons (pe_op op_add (pe_op op_sub (cl GT hr (pa_cons (pv 0) (pa_cons (pe_op op_sub (pe_op op_mul pe_int (pe_op op_pow pe_int pe_int)) pe_int) pa_nil))) (pe_op op_pow pe_int pe_int)) pe_int) pa_nil))))
      (pss_cons (ps_expr (pe_bm PySem.F.plainAttrs_list PySem.F.slot_list_append PySem.F.type_list_append mt_append (pv 1) (pa_cons (pe_op op_add (pe_callTy call_int_str (by rfl) mint (by decide +kernel) (pa_cons (pe_op (op_mulStr (x := "8") (n := 399) (by decide) (by decide) (by decide) (by decide) (by decide)) pe_str pe_int) pa_nil)) (cl GT hr (pa_cons (pv 0) (pa_cons (pe_op op_pow pe_int pe_int) pa_nil)))) pa_nil)))
      (pss_one (ps_ret (pe_ix ix_list (pv 1) (pe_ix ix_list (pe_lst (pa_cons pe_int (pa_cons pe_int (pa_cons pe_int (pa_cons pe_int (pa_cons pe_int (pa_cons pe_int (pa_cons pe_int (pa_cons pe_int pa_nil))))))))) (cl GT hr (pa_cons (pv 0) (pa_cons pe_int pa_nil))) (fun _ _ => rfl)) (fun _ _ => rfl))))), ?_⟩
    refine ⟨_, rfl, s, _, rfl, hS, by decide, by decide, fun d1 H1 a0 a1 r1 => ?_⟩
    refine ⟨_, _, rfl, rfl, _, rfl, _, _, rfl, rfl, ⟨by decide, by decide, by decide⟩, _, _, rfl, rfl, .inl ⟨by decide, by decide⟩, _, _, rfl, rfl, s, _, rfl, r1.st, by decide, by decide, fun d2 H2 b0 b1 r2 => ?_⟩
    refine ⟨_, _, rfl, rfl, ⟨by decide, by decide, by decide⟩, _, _, rfl, rfl, _, _, rfl, rfl, (by show 2 ≤ sizeLine; decide), fun p hp => ?_⟩
    have r3 := (r1.trans r2).trans (Dr.new (o := .lst [.int (d1 - 9), .int (d2 - 10 ^ (30 : Int).toNat + 1)]) r2.st hp)
    have hsp := (r1.trans r2).st.ne hp
    refine ⟨_, rfl, .inl ⟨rfl, _, sq_of upd_same⟩, rfl, rfl, (by decide +kernel), _, big, rfl, (by decide +kernel), (by decide +kernel), ?_⟩
    refine ⟨_, rfl, _, _, rfl, rfl, ⟨by decide, by decide, by decide⟩, s, _, rfl, r3.st, by decide, by decide, fun d3 H3 c0 c1 r4 => ?_⟩
    have hp4 := r4.keep p _ (Ne.symm hsp) upd_same
    refine ⟨_, _, rfl, rfl, p, _, _, rfl, rfl, hp4, (by show 2 < sizeLine; decide), ?_⟩
    have hp0 : H p = none := by
      cases e : H p with
      | none => rfl
      | some o =>
        have := (r1.trans r2).keep p o (Ne.symm hsp) e
        rw [hp] at this
        cases this
    have r5 := (r3.trans r4).mut (p := p) (o := .lst ([.int (d1 - 9), .int (d2 - 10 ^ (30 : Int).toNat + 1)] ++ [.int (big + d3)])) hp0 hsp
    refine ⟨_, rfl, (by show 8 ≤ sizeLine; decide), fun p2 hp2 => ?_⟩
    have r6 := r5.trans (Dr.new (o := .lst [.int 0, .int 1, .int 0, .int 1, .int 0, .int 1, .int 0, .int 2]) r5.st hp2)
    refine ⟨_, rfl, s, _, rfl, r6.st, by decide, by decide, fun d4 H4 e0 e1 r7 => ?_⟩
    obtain ⟨v, hv, hm⟩ := at_mem (xs := [.int 0, .int 1, .int 0, .int 1, .int 0, .int 1, .int 0, .int 2]) e0 (by simpa using e1)
    have hpp2 : p ≠ p2 := fun z => by
      rw [← z, upd_same] at hp2
      cases hp2
    have k1 := r7.keep p2 _ (Ne.symm (r5.st.ne hp2)) upd_same
    have k2 := r7.keep p _ (Ne.symm hsp) (by rw [upd_ne hpp2]; exact upd_same)
    refine ⟨p2, _, d4, _, rfl, rfl, sq_of k1, hv, ?_⟩
    have R := r6.trans r7
    have e30 : ((10 : Int) ^ (30 : Int).toNat) = 1000000000000000000000000000000 := by decide
    have b1' : d2 < 2 * (10 : Int) ^ (30 : Int).toNat - 1 := b1
    rw [e30] at b1'
    have hbig : big.natAbs < 2 ^ 1329 := by decide +kernel
    have c1' : d3 < 1000000000 := c1
    have hm2 : v = .int 0 ∨ v = .int 1 ∨ v = .int 2 := by
      simp only [List.mem_cons, List.not_mem_nil, or_false] at hm
      rcases hm with h | h | h | h | h | h | h | h
      · exact .inl h
      · exact .inr (.inl h)
      · exact .inl h
      · exact .inr (.inl h)
      · exact .inl h
      · exact .inr (.inl h)
      · exact .inl h
      · exact .inr (.inr h)
    rcases hm2 with rfl | rfl | rfl
    · exact ⟨p, _, 0, _, rfl, rfl, sq_of k2, at0, q _ _ (lt_mono (n := 10) (by omega) (by decide)) R⟩
    · refine ⟨p, _, 1, _, rfl, rfl, sq_of k2, at1, q _ _ (lt_mono (n := 120) ?_ (by decide)) R⟩
      rw [e30]
      omega
    · refine ⟨p, _, 2, _, rfl, rfl, sq_of k2, at2, q _ _ ?_ R⟩
      have h3 : d3.natAbs < 2 ^ 1329 := lt_mono (n := 40) (by omega) (by decide)
      exact lt_add hbig h3
end

end K02
end
section
set_option maxRecDepth 100000
set_option maxHeartbeats 400000
namespace K02
open PySem L2 Evl Nc PyProof.Rows
theorem q_bl {Q : VK} {b : Bool} {H : Hp} (h : Q (.bl true) H) (hb : b = true) : Q (.bl b) H := by
  rw [hb]
  exact h
section
variable {P : Program} {w : World} {K : PySem.W.Frag} {mg : Str → Option Value} {base : Heap}
theorem ok__law_drawn (D : Df K mg "_law_drawn" s__law_drawn ["_law_stream_here"]) (GT : Ok P w K mg base 1 "_law_take" ["_law_stream_here", "_law_many"] spTake) (GF : Ok P w K mg base 2 "_law_fraction" ["_law_top", "_law_bottom"] (spPart K)) (GW : Ok P w K mg base 2 "_law_whole" ["_law_stream_here"] (spInt 1330)) :
    Ok P w K mg base 3 "_law_drawn" ["_law_stream_here"] (spNum K 1330 100) := by
  refine D.ok fun f fd F => F.ok sc__law_drawn (fun vs H Q E h => ?_) (fun cdv A outer s H vs Q E hr h => ?_)
  · obtain ⟨s, rfl, _⟩ := h
    rfl
  · obtain ⟨s, rfl, hS, q⟩ := h
    have hr1 : Room 1 _ := hr.mono (by decide)
    refine ⟨_, pss_cons (ps_set (i := 1) sc__law_drawn.nd rfl (.inl rfl) (pe_ix ix_list (pe_lst (pa_cons (pe_op op_add pe_int (cl GT hr1 (pa_cons (pv 0) (pa_cons pe_int pa_nil)))) (pa_cons (pe_op op_add pe_int (cl GT hr1 (pa_cons (pv 0) (pa_cons (pe_op op_sub (pe_op op_pow pe_int pe_int) pe_int) pa_nil)))) pa_nil))) (cl GT hr1 (pa_cons (pv 0) (pa_cons pe_int pa_nil))) (fun _ _ => rfl)))
      (pss_one (ps_ret (cl GF hr (pa_cons (cl GW hr (pa_cons (pv 0) pa_nil)) (pa_cons (pv 1) pa_nil))))), ?_⟩
    refine ⟨_, rfl, s, _, rfl, hS, by decide, by decide, fun d1 H1 a0 a1 r1 => ?_⟩
    refine ⟨_, _, rfl, rfl, _, rfl, _, _, rfl, rfl, ⟨by decide, by decide, by decide⟩, _, _, rfl, rfl, s, _, rfl, r1.st, by decide, by decide, fun d2 H2 b0 b1 r2 => ?_⟩
    refine ⟨_, _, rfl, rfl, (by show 2 ≤ sizeLine; decide), fun p hp => ?_⟩
    have r3 := (r1.trans r2).trans (Dr.new (o := .lst [.int (1 + d1), .int (1 + d2)]) r2.st hp)
    refine ⟨_, rfl, s, _, rfl, r3.st, by decide, by decide, fun d3 H3 c0 c1 r4 => ?_⟩
    obtain ⟨v, hv, hm⟩ := at_mem (xs := [.int (1 + d1), .int (1 + d2)]) c0 (by simpa using c1)
    have e30 : ((10 : Int) ^ (30 : Int).toNat) = 1000000000000000000000000000000 := by decide
    have b1' : d2 < (10 : Int) ^ (30 : Int).toNat - 1 := b1
    rw [e30] at b1'
    have hv2 : ∃ z : Int, v = .int z ∧ 0 < z ∧ z.natAbs < 2 ^ 100 := by
      simp only [List.mem_cons, List.not_mem_nil, or_false] at hm
      rcases hm with rfl | rfl
      · exact ⟨_, rfl, by omega, by omega⟩
      · exact ⟨_, rfl, by omega, by omega⟩
    obtain ⟨z, rfl, z0, z1⟩ := hv2
    refine ⟨p, _, d3, _, rfl, rfl, sq_of (r4.keep p _ (Ne.symm (r2.st.ne hp)) upd_same), hv, ?_⟩
    refine ⟨_, rfl, s, rfl, r4.st, fun t H4 ht r5 => ?_⟩
    refine ⟨_, rfl, t, z, 100, rfl, z0, z1, by decide, by decide, fun v H' e hv => ?_⟩
    exact q v _ H' (((r3.trans r4).trans r5).trans (Dr.ex r5.st e)) hv (sz_div z0 ht z1)
theorem ok__law_is (D : Df K mg "_law_is" s__law_is ["_law_found", "_law_top", "_law_bottom"]) (GC : Ok P w K mg base 1 "_law_common" ["_law_one", "_law_other"] spCommon) (misi : mg "isinstance" = none) (mtuple : mg "tuple" = none) (mlen : mg "len" = none) (mint : mg "int" = none) (mbool : mg "bool" = none) (mabs : mg "abs" = none) :
    Ok P w K mg base 2 "_law_is" ["_law_found", "_law_top", "_law_bottom"] (spIs K) := by
  refine D.ok fun f fd F => F.ok sc__law_is (fun vs H Q E h => ?_) (fun cdv A outer s H vs Q E hr h => ?_)
  · obtain ⟨x, t, b, n, rfl, _⟩ := h
    rfl
  · obtain ⟨x, t, b, n, rfl, hb, ⟨a, rfl, qa⟩, ht, hz, n0, n9, q⟩ := h
    refine ⟨_, (pss_cons (ps_if (PW.pt (pw_or (pt_not (pt_val (pe_callB call_isi (by rfl) misi (by decide +kernel) (pa_cons (pv 0) (pa_cons (pe_bltn (v := .ty "tuple") (by rfl) mtuple (by decide +kernel) rfl) pa_nil))))) (pw_or1 (pt_cmpR op_ne (pe_callB call_len_seq (by rfl) mlen PySem.boot_len (pa_cons (pv 0) pa_nil)) pe_int (nomark _))))) (pss_one (ps_ret pe_bl)) pss_nil)
      (pss_cons (ps_if (pt_cmpR (op_neD hr.units) (pe_lc (own := [("_law_one", 3)]) (g := gName 3) (tt := tOr (tNot (tB (tCB (rIsi K) (tCons (tVar 3) (tCons (tC (.ty "int")) tNil))))) (tB (tCB (rIsi K) (tCons (tVar 3) (tCons (tC (.ty "bool")) tNil))))) rfl sc__law_is.nd (pi_tup (pv 0)) (blkOk_by (N := ["_law_found", "_law_top", "_law_bottom", "_law_one"]) (sc := defScope s__law_is) (by decide +kernel)) (fun _ _ _ _ _ => (pg_name (i := 3) sc__law_is.nd rfl (.inl rfl))) (fun _ _ _ _ _ => pts_one (PW.pt (pw_or (pt_not (pt_val (pe_callB call_isi (by rfl) misi (by decide +kernel) (pa_cons (pv 3) (pa_cons (pe_bltn (v := .ty "int") (by rfl) mint (by decide +kernel) rfl) pa_nil))))) (pw_or1 (pt_val (pe_callB call_isi (by rfl) misi (by decide +kernel) (pa_cons (pv 3) (pa_cons (pe_bltn (v := .ty "bool") (by rfl) mbool (by decide +kernel) rfl) pa_nil)))))))) (fun _ _ _ _ _ => (pv 3))) (pe_lst pa_nil) (nomark _)) (pss_one (ps_ret pe_bl)) pss_nil)
      (pss_cons (ps_if (PW.pt (pw_or (pt_cmpR op_lt (pe_ix ix_tup (pv 0) pe_int (fun _ _ => rfl)) pe_int (nomark _)) (pw_or1 (pt_cmpR op_ne (cl GC hr (pa_cons (pe_callB call_abs (by rfl) mabs (by decide +kernel) (pa_cons (pe_ix ix_tup (pv 0) pe_int (fun _ _ => rfl)) pa_nil)) (pa_cons (pe_ix ix_tup (pv 0) pe_int (fun _ _ => rfl)) pa_nil))) pe_int (nomark _))))) (pss_one (ps_ret pe_bl)) pss_nil)
      (pss_one (ps_ret (pe_cmpR op_eq (pe_op op_mulW (pe_ix ix_tup (pv 0) pe_int (fun _ _ => rfl)) (pv 2)) (pe_op op_mulW (pv 1) (pe_ix ix_tup (pv 0) pe_int (fun _ _ => rfl))) (nomark _))))))), ?_⟩
    generalize hR : Rat.divInt t b = R at qa
    have sR : Sz n n R := by
      rw [← hR]
      exact sz_divZ hb ht hz
    have hd := den_pos R
    refine ⟨_, rfl, _, _, _, _, _, rfl, .ty _, tyT qa, kit_ty (r := true) (by decide +kernel), _, rfl, ?_⟩
    refine iteF ?_
    refine ⟨_, rfl, a, _, rfl, .inr qa, rfl, _, rfl, ?_⟩
    refine iteNS rfl ?_
    -- none of its parts is of another kind
    refine ⟨_, rfl, a, rfl, ⟨_, qa⟩, fun D hD => ?_⟩
    refine lc_tup (xs := [.int R.num, .int (R.den : Int)]) (fun i H' => Ex H H' ∧ H' D = some (.lst [])) ⟨Ex.new hD, upd_same⟩ (fun i H' _ b => ex_t b.1 qa) ?_ ?_
    · rintro i y H' hy ⟨e1, k1⟩
      have hy2 : ∃ z : Int, y = .int z := by
        have hm := List.mem_of_getElem? hy
        simp only [List.mem_cons, List.not_mem_nil, or_false] at hm
        rcases hm with rfl | rfl <;> exact ⟨_, rfl⟩
      obtain ⟨z, rfl⟩ := hy2
      refine ⟨rfl, ?_⟩
      refine ⟨_, rfl, _, _, _, _, _, rfl, .ty _, tyI _, kit_ty (r := true) (by decide +kernel), _, rfl, ?_⟩
      refine iteF ?_
      refine ⟨_, rfl, _, _, _, _, _, rfl, .ty _, tyI _, kit_ty (r := false) (by decide +kernel), _, rfl, ?_⟩
      refine iteF ?_
      exact ⟨e1, k1⟩
    · rintro H1 ⟨e1, k1⟩
      refine ⟨(by show 0 ≤ sizeLine; decide), fun p hp => ?_⟩
      have e2 : Ex H1 (upd H1 p (.lst [])) := Ex.new hp
      refine ⟨.list [], .list [], .lst (sq_of (e2 _ _ k1)) .nil, .lst (sq_of upd_same) .nil, rfl, rfl, _, rfl, ?_⟩
      refine iteF ?_
      have E2 := e1.trans e2
      have qa2 := ex_t E2 qa
      refine ⟨_, rfl, _, _, _, _, rfl, rfl, qa2, at1, _, _, rfl, rfl, _, rfl, ?_⟩
      rw [decide_eq_false (by omega)]
      refine iteF ?_
      refine ⟨_, rfl, _, _, _, _, rfl, rfl, qa2, at0, _, rfl, _, rfl, _, _, _, _, rfl, rfl, qa2, at1, _, _, rfl, by split <;> omega, hd, ?_⟩
      have eg : Nat.gcd (if R.num < 0 then -R.num else R.num).natAbs (R.den : Int).natAbs = 1 := by
        have h1 : (if R.num < 0 then -R.num else R.num).natAbs = R.num.natAbs := by
          split
          · rw [Int.natAbs_neg]
          · rfl
        rw [h1, Int.natAbs_natCast]
        exact R.reduced
      rw [eg]
      refine ⟨rfl, _, rfl, ?_⟩
      refine iteNS rfl ?_
      refine ⟨_, rfl, _, _, _, _, rfl, rfl, qa2, at0, _, rfl, _, _, rfl, rfl, mulOk sR.1 hz, _, rfl, _, rfl, _, _, _, _, rfl, rfl, qa2, at1, _, _, rfl, rfl, mulOk ht sR.den, rfl, ?_⟩
      have hc := cross (t := t) hb
      rw [hR] at hc
      exact q_bl (q _ E2) (decide_eq_true (congrArg V.int hc))
theorem ok__law_pair_right (D : Df K mg "_law_pair_right" s__law_pair_right ["_law_one", "_law_other"]) (GI : Ok P w K mg base 2 "_law_is" ["_law_found", "_law_top", "_law_bottom"] (spIs K)) (GP : Ok P w K mg base 2 "plus" ["one", "other"] (spPlus K)) (GM : Ok P w K mg base 2 "minus" ["one", "other"] (spMinus K))
    (GT : Ok P w K mg base 2 "times" ["one", "other"] (spTimes K)) (GR : Ok P w K mg base 2 "ratio" ["one", "other"] (spRatio K)) (GL : Ok P w K mg base 1 "is_less" ["one", "other"] (spLess K)) (misi : mg "isinstance" = none) (mbool : mg "bool" = none) : Ok P w K mg base 3 "_law_pair_right" ["_law_one", "_law_other"] (spPair K) := by
  refine D.ok fun f fd F => F.ok sc__law_pair_right (fun vs H Q E h => ?_) (fun cdv A outer s H vs Q E hr h => ?_)
  · obtain ⟨x, y, r, s, rfl, _⟩ := h
    rfl
  · obtain ⟨x, y, r, s, rfl, hx, hy, zr, zs, q⟩ := h
    have hr1 : Room 1 _ := hr.mono (by decide)
    refine ⟨_, (pss_cons (ps_asg (pv 0) (pg_tup rfl (pgs_cons (pg_name (i := 2) sc__law_pair_right.nd rfl (.inl rfl)) (pgs_cons (pg_name (i := 3) sc__law_pair_right.nd rfl (.inl rfl)) pgs_nil))))
      (pss_cons (ps_asg (pv 1) (pg_tup rfl (pgs_cons (pg_name (i := 4) sc__law_pair_right.nd rfl (.inl rfl)) (pgs_cons (pg_name (i := 5) sc__law_pair_right.nd rfl (.inl rfl)) pgs_nil))))
      (pss_cons (ps_if (PW.pt (pw_or (pt_not (pt_val (cl GI hr (pa_cons (cl GP hr (pa_cons (pv 0) (pa_cons (pv 1) pa_nil))) (pa_cons (pe_op op_add (pe_op op_mulW (pv 2) (pv 5)) (pe_op op_mulW (pv 4) (pv 3))) (pa_cons (pe_op op_mulW (pv 3) (pv 5)) pa_nil)))))) (pw_or1 (pt_not (pt_val (cl GI hr (pa_cons (cl GM hr (pa_cons (pv 0) (pa_cons (pv 1) pa_nil))) (pa_cons (pe_op op_sub (pe_op op_mulW (pv 2) (pv 5)) (pe_op op_mulW (pv 4) (pv 3))) (pa_cons (pe_op op_mulW (pv 3) (pv 5)) pa_nil))))))))) (pss_one (ps_ret pe_bl)) pss_nil)
      (pss_cons (ps_if (pt_not (pt_val (cl GI hr (pa_cons (cl GT hr (pa_cons (pv 0) (pa_cons (pv 1) pa_nil))) (pa_cons (pe_op op_mulW (pv 2) (pv 4)) (pa_cons (pe_op op_mulW (pv 3) (pv 5)) pa_nil)))))) (pss_one (ps_ret pe_bl)) pss_nil)
      (pss_cut (ps_if (PW.pt (pw_and (pt_cmpR op_ne (pv 4) pe_int (nomark _)) (pw_and1 (pt_not (pt_val (cl GI hr (pa_cons (cl GR hr (pa_cons (pv 0) (pa_cons (pv 1) pa_nil))) (pa_cons (pe_op op_mulW (pv 2) (pv 5)) (pa_cons (pe_op op_mulW (pv 3) (pv 4)) pa_nil))))))))) (pss_one (ps_ret pe_bl)) pss_nil)
      (pss_cons (ps_set (i := 6) sc__law_pair_right.nd rfl (.inl rfl) (cl GL hr1 (pa_cons (pv 0) (pa_cons (pv 1) pa_nil))))
      (pss_one (ps_ret (pe_and (pe_callB call_isi (by rfl) misi (by decide +kernel) (pa_cons (pv 6) (pa_cons (pe_bltn (v := .ty "bool") (by rfl) mbool (by decide +kernel) rfl) pa_nil))) (pe_one (pe_cmpR op_eq (pv 6) (pe_cmpR op_lt (pe_op op_mulW (pv 2) (pv 5)) (pe_op op_mulW (pv 4) (pv 3)) (nomark _)) (nomark _)))))))))))), ?_⟩
    have fx := hx
    have fy := hy
    obtain ⟨t, rfl, qx⟩ := hx
    obtain ⟨u, rfl, qy⟩ := hy
    have dr := den_pos r
    have ds := den_pos s
    have z1 := lt_mul zr.1 zs.den
    have z2 := lt_mul zs.1 zr.den
    have z3 := lt_mul zr.den zs.den
    have z4 := lt_mul zr.1 zs.1
    have z5 := lt_mul zr.den zs.1
    have m1 := mulOk zr.1 zs.den
    have m2 := mulOk zs.1 zr.den
    have m3 := mulOk zr.den zs.den
    have m4 := mulOk zr.1 zs.1
    have m5 := mulOk zr.den zs.1
    have nz : (r.den : Int) * (s.den : Int) ≠ 0 := Int.mul_ne_zero (by omega) (by omega)
    refine ⟨_, rfl, t, _, rfl, qx, rfl, _, _, rfl, _, _, rfl, rfl, ?_⟩
    refine ⟨_, rfl, u, _, rfl, qy, rfl, _, _, rfl, _, _, rfl, rfl, ?_⟩
    refine ⟨_, rfl, _, rfl, _, _, r, s, 2700, 200, 2700, 200, rfl, fx, fy, zr, zs, by decide, fun v1 H1 e1 h1 => ?_⟩
    refine ⟨_, rfl, _, rfl, _, _, rfl, rfl, m1, _, rfl, _, rfl, _, _, rfl, rfl, m2, _, _, rfl, rfl, _, rfl, _, rfl, _, _, rfl, rfl, m3, v1, _, _, 6000, rfl, nz, ?_, lt_mono (n := 2901) (lt_add z1 z2) (by decide), lt_mono z3 (by decide), by decide, by decide, fun H2 e2 => ⟨_, rfl, ?_⟩⟩
    · rw [add_is]
      exact h1
    refine iteF ?_
    have E2 := e1.trans e2
    refine ⟨_, rfl, _, rfl, _, _, r, s, 2700, 200, 2700, 200, rfl, fx.ex E2, fy.ex E2, zr, zs, by decide, fun v3 H3 e3 h3 => ?_⟩
    refine ⟨_, rfl, _, rfl, _, _, rfl, rfl, m1, _, rfl, _, rfl, _, _, rfl, rfl, m2, _, _, rfl, rfl, _, rfl, _, rfl, _, _, rfl, rfl, m3, v3, _, _, 6000, rfl, nz, ?_, lt_mono (n := 2901) (lt_sub z1 z2) (by decide), lt_mono z3 (by decide), by decide, by decide, fun H4 e4 => ⟨_, rfl, ?_⟩⟩
    · rw [sub_is]
      exact h3
    refine iteF ?_
    have E4 := (E2.trans e3).trans e4
    refine ⟨_, rfl, _, rfl, _, _, r, s, 2700, 200, 2700, 200, rfl, fx.ex E4, fy.ex E4, zr, zs, by decide, fun v5 H5 e5 h5 => ?_⟩
    refine ⟨_, rfl, _, rfl, _, _, rfl, rfl, m4, _, rfl, _, rfl, _, _, rfl, rfl, m3, v5, _, _, 6000, rfl, nz, ?_, lt_mono z4 (by decide), lt_mono z3 (by decide), by decide, by decide, fun H6 e6 => ⟨_, rfl, ?_⟩⟩
    · rw [mul_is]
      exact h5
    refine iteF ?_
    have E6 := (E4.trans e5).trans e6
    refine ⟨fun σ H7 => σ = [some (.ref t), some (.ref u), some (.int r.num), some (.int (r.den : Int)), some (.int s.num), some (.int (s.den : Int)), none] ∧ Ex H H7, ?_, ?_⟩
    · refine ⟨_, rfl, rfl, _, rfl, ?_⟩
      by_cases h0 : s.num = 0
      · rw [h0, decide_eq_true rfl]
        refine iteF ?_
        exact ⟨rfl, E6⟩
      · rw [decide_eq_false (fun z => h0 (V.int.inj z))]
        refine iteT ?_
        refine ⟨_, rfl, _, rfl, _, _, r, s, 2700, 200, 2700, 200, rfl, fx.ex E6, fy.ex E6, zr, zs, h0, by decide, fun v7 H7 e7 h7 => ?_⟩
        refine ⟨_, rfl, _, rfl, _, _, rfl, rfl, m1, _, rfl, _, rfl, _, _, rfl, rfl, m5, v7, _, _, 6000, rfl, Int.mul_ne_zero (by omega) h0, h7, lt_mono z1 (by decide), lt_mono z5 (by decide), by decide, by decide, fun H8 e8 => ⟨_, rfl, ?_⟩⟩
        refine iteF ?_
        exact ⟨rfl, (E6.trans e7).trans e8⟩
    · rintro σ7 H7 ⟨rfl, e7⟩
      refine ⟨_, rfl, _, rfl, _, _, r, s, 2700, 200, 2700, 200, rfl, fx.ex e7, fy.ex e7, zr, zs, by decide, ?_⟩
      refine ⟨_, rfl, _, _, _, _, _, rfl, .ty _, .base (.bl _), kit_ty (r := true) (by decide +kernel), _, rfl, ?_⟩
      refine iteT ?_
      refine ⟨_, rfl, _, rfl, _, rfl, _, _, rfl, rfl, m1, _, rfl, _, rfl, _, _, rfl, rfl, m2, _, _, rfl, rfl, rfl, ?_⟩
      exact q_bl (q _ e7) (decide_eq_true rfl)
end

end K02
end
section
set_option maxRecDepth 100000
set_option maxHeartbeats 400000
namespace K02
open PySem L2 Evl Nc PyProof.Rows
section
variable {P : Program} {w : World} {K : PySem.W.Frag} {mg : Str → Option Value} {base : Heap}
theorem row_done {K : PySem.W.Frag} {s D : Addr} {H H' : Hp} {Q : VK} {k n d : Nat} (h : ∃ L xs, H' D = some (.lst xs) ∧ FrL K H' xs L ∧ L.length = ((k : Int)).toNat ∧ SzL n d L ∧ Dr s H H') (q : ∀ v L H', Dr s H H' → RowV K H' v L → L.length = k → SzL n d L → Q v H') :
    ∃ p ys, [V.ref D] = [V.ref p] ∧ ((SqL K H' p ys ∧ ∀ l, H' l = none → Q (.ref l) (upd H' l (.tup ys))) ∨ (SqT K H' p ys ∧ Q (.ref p) H')) := by
  obtain ⟨L, xs, hx, hl, hn, hz, r1⟩ := h
  rw [Int.toNat_natCast] at hn
  exact ⟨D, xs, rfl, .inl ⟨sq_of hx, fun l hl' => q _ L _ (r1.trans (Dr.new r1.st hl')) ⟨l, xs, rfl, st_of upd_same, FrL.ex (Ex.new hl') hl⟩ hn hz⟩⟩
theorem row_turn {K : PySem.W.Frag} {s D : Addr} {H H' H4 : Hp} {i n d : Nat} {v : V} {r : Rat} (hS : Stm s H) (hD : H D = none) (hi : i < 1000) (h : ∃ L xs, H' D = some (.lst xs) ∧ FrL K H' xs L ∧ L.length = i ∧ SzL n d L ∧ Dr s H H') (r4 : Dr s H' H4) (hv : FrV K H4 v r) (hs : Sz n d r) :
    ∃ acc, H4 D = some (.lst acc) ∧ acc.length < sizeLine ∧ ∃ L xs, upd H4 D (.lst (acc ++ [v])) D = some (.lst xs) ∧ FrL K (upd H4 D (.lst (acc ++ [v]))) xs L ∧ L.length = i + 1 ∧ SzL n d L ∧ Dr s H (upd H4 D (.lst (acc ++ [v]))) := by
  obtain ⟨L, xs, hx, hl, hn, hz, r1⟩ := h
  have h4 := r4.keep D _ (Ne.symm (hS.ne hD)) hx
  have hln := Paired.length hl
  refine ⟨xs, h4, sz_lt (by omega), L ++ [r], xs ++ [v], upd_same, ?_, by simp [hn], ?_, (r1.trans r4).mut hD (hS.ne hD)⟩
  · exact Paired.snoc (pmono (fun _ _ q => FrV.mut h4 (FrV.dr r1.st r4 q)) hl) (FrV.mut h4 hv)
  · intro a ha
    rcases List.mem_append.mp ha with ha | ha
    · exact hz a ha
    · rw [List.mem_singleton.mp ha]
      exact hs
theorem ok__law_row (D : Df K mg "_law_row" s__law_row ["_law_stream_here", "_law_many"]) (GT : Ok P w K mg base 1 "_law_take" ["_law_stream_here", "_law_many"] spTake) (GF : Ok P w K mg base 2 "_law_fraction" ["_law_top", "_law_bottom"] (spPart K)) (GD : Ok P w K mg base 3 "_law_drawn" ["_law_stream_here"] (spNum K 1330 100))
    (mtuple : mg "tuple" = none) (mrange : mg "range" = none) : Ok P w K mg base 4 "_law_row" ["_law_stream_here", "_law_many"] (spRow2 K) := by
  refine D.ok fun f fd F => F.ok sc__law_row (fun vs H Q E h => ?_) (fun cdv A outer s H vs Q E hr h => ?_)
  · obtain ⟨s, k, rfl, _⟩ := h
    rfl
  · obtain ⟨s, k, rfl, hS, hk, q⟩ := h
    have hr1 : Room 1 _ := hr.mono (by decide)
    have hr2 : Room 2 _ := hr.mono (by decide)
    refine ⟨_, (pss_cons (ps_if (pt_cmpR op_gt (pv 1) pe_int (nomark _)) (pss_one (ps_ret (pe_callTy call_tuple_of (by rfl) mtuple (by decide +kernel) (pa_cons (pe_lc (own := [("_law_k", 2)]) (g := gName 2) (tt := tYes) rfl sc__law_row.nd (pi_range1 (by rfl) mrange (pa_cons (pv 1) pa_nil)) (blkOk_by (N := ["_law_stream_here", "_law_many", "_law_k"]) (sc := defScope s__law_row) (by decide +kernel)) (fun _ _ _ _ _ => (pg_name (i := 2) sc__law_row.nd rfl (.inl rfl))) (fun _ _ _ _ _ => pts_nil) (fun _ _ _ _ _ => cl GF hr2 (pa_cons (pe_op op_sub (cl GT hr1 (pa_cons (pv 0) (pa_cons pe_int pa_nil))) pe_int) (pa_cons (pe_op op_add pe_int (cl GT hr1 (pa_cons (pv 0) (pa_cons pe_int pa_nil)))) pa_nil)))) pa_nil)))) pss_nil)
      (pss_one (ps_ret (pe_callTy call_tuple_of (by rfl) mtuple (by decide +kernel) (pa_cons (pe_lc (own := [("_law_k", 2)]) (g := gName 2) (tt := tYes) rfl sc__law_row.nd (pi_range1 (by rfl) mrange (pa_cons (pv 1) pa_nil)) (blkOk_by (N := ["_law_stream_here", "_law_many", "_law_k"]) (sc := defScope s__law_row) (by decide +kernel)) (fun _ _ _ _ _ => (pg_name (i := 2) sc__law_row.nd rfl (.inl rfl))) (fun _ _ _ _ _ => pts_nil) (fun _ _ _ _ _ => cl GD hr (pa_cons (pv 0) pa_nil))) pa_nil))))), ?_⟩
    refine ⟨_, rfl, _, _, rfl, rfl, _, rfl, ite2 (fun hd => ?_) (fun hd => ?_)⟩
    · refine ⟨_, rfl, (k : Int), rfl, by omega, by omega, fun D hD => ?_⟩
      refine lc_range (lo := 0) (n := ((k : Int)).toNat) (fun i H' => ∃ L xs, H' D = some (.lst xs) ∧ FrL K H' xs L ∧ L.length = i ∧ SzL 4 4 L ∧ Dr s H H')
        ⟨[], [], upd_same, .nil, rfl, (fun _ z => by cases z), Dr.new hS hD⟩ ?_ (fun H' h => row_done h fun v L H2 r2 h1 h2 h3 => q v L H2 r2 h1 h2 (.inr ⟨by omega, h3⟩) fun _ => h3)
      intro i H' hi h
      rw [Int.toNat_natCast] at hi
      have hst : Stm s H' := by
        obtain ⟨L, xs, _, _, _, _, r1⟩ := h
        exact r1.st
      refine ⟨rfl, ?_⟩
      refine ⟨_, rfl, s, _, rfl, hst, by decide, by decide, fun d1 H1 a0 a1 r1 => ?_⟩
      refine ⟨_, _, rfl, rfl, _, rfl, s, _, rfl, r1.st, by decide, by decide, fun d2 H2 b0 b1 r2 => ?_⟩
      refine ⟨_, _, rfl, rfl, _, _, 4, rfl, by omega, by omega, by decide, by decide, fun v H4 e4 hv => ?_⟩
      exact row_turn hS hD (by omega) h ((r1.trans r2).trans (Dr.ex r2.st e4)) hv (sz_div (by omega) (by omega) (by omega))
    · refine ⟨_, rfl, (k : Int), rfl, by omega, by omega, fun D hD => ?_⟩
      have hk6 : k ≤ 6 := by
        have : ¬ (6 : Int) < (k : Int) := fun z => hd (decide_eq_true z)
        omega
      refine lc_range (lo := 0) (n := ((k : Int)).toNat) (fun i H' => ∃ L xs, H' D = some (.lst xs) ∧ FrL K H' xs L ∧ L.length = i ∧ SzL 1330 100 L ∧ Dr s H H')
        ⟨[], [], upd_same, .nil, rfl, (fun _ z => by cases z), Dr.new hS hD⟩ ?_ (fun H' h => row_done h fun v L H2 r2 h1 h2 h3 => q v L H2 r2 h1 h2 (.inl ⟨by omega, h3⟩) fun z => by omega)
      intro i H' hi h
      rw [Int.toNat_natCast] at hi
      have hst : Stm s H' := by
        obtain ⟨L, xs, _, _, _, _, r1⟩ := h
        exact r1.st
      refine ⟨rfl, ?_⟩
      refine ⟨_, rfl, s, rfl, hst, fun v r H4 r4 hv hs => ?_⟩
      exact row_turn hS hD (by omega) h r4 hv hs
theorem szr_two {a b : List Rat} (h : a.length = b.length) (ha : SzR a) (hb : SzR b) : ∃ n d, d ≤ n ∧ SzL n d a ∧ SzL n d b ∧ a.length * (n + n + 1) ≤ 20000 ∧ a.length * (d + d) ≤ 2000 ∧ n ≤ 1330 ∧ 0 < d := by
  have up : ∀ {l : List Rat}, SzL 4 4 l → SzL 1330 100 l := fun h r hr => (h r hr).mono (by decide) (by decide)
  rcases ha with ⟨l1, z1⟩ | ⟨l1, z1⟩
  · rcases hb with ⟨l2, z2⟩ | ⟨l2, z2⟩
    · exact ⟨1330, 100, by decide, z1, z2, by omega, by omega, by decide, by decide⟩
    · exact ⟨1330, 100, by decide, z1, up z2, by omega, by omega, by decide, by decide⟩
  · rcases hb with ⟨l2, z2⟩ | ⟨l2, z2⟩
    · exact ⟨1330, 100, by decide, up z1, z2, by omega, by omega, by decide, by decide⟩
    · exact ⟨4, 4, by decide, z1, z2, by omega, by omega, by decide, by decide⟩
theorem ok__law_weighed (D : Df K mg "_law_weighed" s__law_weighed ["_law_row_here", "_law_other"]) (mzip : mg "zip" = none) : Ok P w K mg base 1 "_law_weighed" ["_law_row_here", "_law_other"] (spDue K) := by
  refine D.ok fun f fd F => F.ok sc__law_weighed (fun vs H Q E h => ?_) (fun cdv A outer s H vs Q E hr h => ?_)
  · obtain ⟨x, y, a, b, rfl, _⟩ := h
    rfl
  · obtain ⟨x, y, rs, ss, rfl, ⟨tx, xs, rfl, qx, lx⟩, ⟨ty, ys, rfl, qy, ly⟩, hl, za, zb, h31, q⟩ := h
    obtain ⟨n, d, hdn, ha, hb, hz1, hz2, hn, hd0⟩ := szr_two hl za zb
    refine ⟨_, (pss_cons (ps_set (i := 2) sc__law_weighed.nd rfl (.inl rfl) pe_int)
      (pss_cons (ps_set (i := 3) sc__law_weighed.nd rfl (.inl rfl) pe_int)
      (pss_cons (ps_for PassesOwn.never rfl (RZ.pi_zipA (by rfl) mzip (pa_cons (pv 0) (pa_cons (pv 1) pa_nil))) (pg_tup rfl (pgs_cons (pg_name (i := 4) sc__law_weighed.nd rfl (.inl rfl)) (pgs_cons (pg_name (i := 5) sc__law_weighed.nd rfl (.inl rfl)) pgs_nil))) (pss_cons (ps_set (i := 2) sc__law_weighed.nd rfl (.inl rfl) (pe_op op_add (pe_op op_mulW (pe_op op_mulW (pv 2) (pe_ix ix_tup (pv 4) pe_int (fun _ _ => rfl))) (pe_ix ix_tup (pv 5) pe_int (fun _ _ => rfl))) (pe_op op_mulW (pe_op op_mulW (pe_ix ix_tup (pv 4) pe_int (fun _ _ => rfl)) (pe_ix ix_tup (pv 5) pe_int (fun _ _ => rfl))) (pv 3))))
      (pss_one (ps_set (i := 3) sc__law_weighed.nd rfl (.inl rfl) (pe_op op_mulW (pe_op op_mulW (pv 3) (pe_ix ix_tup (pv 4) pe_int (fun _ _ => rfl))) (pe_ix ix_tup (pv 5) pe_int (fun _ _ => rfl)))))))
      (pss_one (ps_ret (pe_tup (pa_cons (pv 2) (pa_cons (pv 3) pa_nil)))))))), ?_⟩
    have lx' := Paired.length lx
    have ly' := Paired.length ly
    refine ⟨_, rfl, _, rfl, tx, ty, xs, ys, rfl, .inr ⟨qx, qy, RZ.for_zipT (by omega) (fun i σ H' => ∃ (T B : Int) (o4 o5 : Option V), σ = [some (.ref tx), some (.ref ty), some (.int T), some (.int B), o4, o5] ∧ Ex H H' ∧ 0 < B ∧ weighs ((rs.zip ss).take i) = Rat.divInt T B ∧
        T.natAbs < 2 ^ (1 + i * (n + n + 1)) ∧ B.natAbs < 2 ^ (1 + i * (d + d)))
      ⟨0, 1, none, none, rfl, Ex.refl H, by decide, by simp [weighs], by simp, by simp⟩ (fun i σ H' ⟨_, _, _, _, _, e1, _⟩ => ⟨ex_t e1 qx, ex_t e1 qy⟩) ?_ ?_⟩⟩
    · rintro i x y T' σ H' hx hy ⟨T, B, o4, o5, rfl, e1, hB, hw, bT, bB⟩ hT'
      obtain ⟨r, hr1, fr⟩ := pget lx hx
      obtain ⟨u, hu1, fu⟩ := pget ly hy
      have hzip : (rs.zip ss)[i]? = some (r, u) := by
        rw [List.getElem?_zip_eq_some]
        exact ⟨hr1, hu1⟩
      have hi : i < rs.length := (List.getElem?_eq_some_iff.mp hr1).1
      have szr := ha r (List.mem_of_getElem? hr1)
      have szu := hb u (List.mem_of_getElem? hu1)
      have b1 : (i + 1) * (d + d) ≤ rs.length * (d + d) := Nat.mul_le_mul_right _ hi
      have b2 : (i + 1) * (n + n + 1) ≤ rs.length * (n + n + 1) := Nat.mul_le_mul_right _ hi
      have b3 : i * (d + d) ≤ i * (n + n + 1) := Nat.mul_le_mul_left _ (by omega)
      rw [Nat.succ_mul] at b1 b2
      have eT : Ex H' (upd H' T' (.tup [x, y])) := Ex.new hT'
      obtain ⟨tr, rfl, qr⟩ := fr.ex (e1.trans eT)
      obtain ⟨tu, rfl, qu⟩ := fu.ex (e1.trans eT)
      have dr := den_pos r
      have du := den_pos u
      have p1 := lt_mul bT szr.den
      have p2 := lt_mul p1 szu.den
      have p3 := lt_mul szr.1 szu.1
      have p4 := lt_mul p3 bB
      have p5 := lt_mul bB szr.den
      have p6 := lt_mul p5 szu.den
      refine ⟨T', _, rfl, st_of upd_same, rfl, _, _, rfl, _, _, rfl, rfl, ?_⟩
      refine ⟨_, rfl, _, rfl, _, _, _, _, rfl, rfl, qr, at1, _, _, rfl, rfl, mulOk bT szr.den, _, rfl, _, _, _, _, rfl, rfl, qu, at1, _, _, rfl, rfl, mulOk p1 szu.den, _, rfl, _, _, _, _, rfl, rfl, qr, at0, _, rfl, _, _, _, _, rfl, rfl, qu, at0, _, _, rfl, rfl, mulOk szr.1 szu.1, _, rfl, _, _, rfl, rfl, mulOk p3 bB, _, _, rfl, rfl, ?_⟩
      refine ⟨_, rfl, _, rfl, _, _, _, _, rfl, rfl, qr, at1, _, _, rfl, rfl, mulOk bB szr.den, _, rfl, _, _, _, _, rfl, rfl, qu, at1, _, _, rfl, rfl, mulOk p5 szu.den, ?_⟩
      refine ⟨_, _, _, _, rfl, e1.trans eT, Int.mul_pos (Int.mul_pos hB dr) du, ?_, ?_, ?_⟩
      · show weighs _ = Rat.divInt (T * (r.den : Int) * (u.den : Int) + r.num * u.num * B) (B * (r.den : Int) * (u.den : Int))
        rw [Int.mul_assoc T, Int.mul_assoc B, weighs_take hzip, hw, ← mul_is r u, Rat.divInt_add_divInt _ _ (by omega) (by have := Int.mul_pos dr du; omega)]
      · refine lt_mono (lt_add (n := 1 + i * (n + n + 1) + (n + n)) (lt_mono p2 (by omega)) (lt_mono p4 (by omega))) ?_
        rw [Nat.succ_mul]
        omega
      · refine lt_mono p6 ?_
        rw [Nat.succ_mul]
        omega
    · rintro σ H' ⟨T, B, o4, o5, rfl, e1, hB, hw, bT, bB⟩
      rw [List.take_of_length_le (by rw [List.length_zip]; omega)] at hw
      rw [lx'] at bT bB
      refine ⟨_, rfl, _, rfl, (by show 2 ≤ sizeLine; decide), fun p hp => ?_⟩
      exact q p T B _ (e1.trans (Ex.new hp)) (st_of upd_same) hB hw (lt_mono bT (by omega)) (lt_mono bB (by omega))
end

end K02
end
section
set_option maxRecDepth 100000
set_option maxHeartbeats 400000
namespace K02
open PySem L2 Evl Nc PyProof.Rows
section
variable {P : Program} {w : World} {K : PySem.W.Frag} {mg : Str → Option Value} {base : Heap}
structure Defs (P : Program) (w : World) (K : PySem.W.Frag) (mg : Str → Option Value) (base : Heap) : Prop where
  stream : Ok P w K mg base 1 "_law_stream" ["_law_cell_here"] spStream
  cell : Ok P w K mg base 1 "_law_cell" ["_law_script", "_law_k"] (spCell K)
  take : Ok P w K mg base 1 "_law_take" ["_law_stream_here", "_law_many"] spTake
  drawn : Ok P w K mg base 3 "_law_drawn" ["_law_stream_here"] (spNum K 1330 100)
  whole : Ok P w K mg base 2 "_law_whole" ["_law_stream_here"] (spInt 1330)
  row : Ok P w K mg base 4 "_law_row" ["_law_stream_here", "_law_many"] (spRow2 K)
  weighed : Ok P w K mg base 1 "_law_weighed" ["_law_row_here", "_law_other"] (spDue K)
  is : Ok P w K mg base 2 "_law_is" ["_law_found", "_law_top", "_law_bottom"] (spIs K)
  pair : Ok P w K mg base 3 "_law_pair_right" ["_law_one", "_law_other"] (spPair K)
  plus : Ok P w K mg base 2 "plus" ["one", "other"] (spPlus K)
  times : Ok P w K mg base 2 "times" ["one", "other"] (spTimes K)
  frac : Ok P w K mg base 1 "fraction_of" ["top", "bottom"] (spPartZ K)
  weigh : Ok P w K mg base 3 "weigh" ["row", "other"] (spWeigh K)
def PairV (K : PySem.W.Frag) (H : Hp) (v : V) : Prop := ∃ t x y r u, v = .ref t ∧ SqT K H t [x, y] ∧ FrV K H x r ∧ FrV K H y u ∧ Sz 2700 200 r ∧ Sz 2700 200 u
theorem PairV.ex {K : PySem.W.Frag} {H H' : Hp} {v : V} (e : Ex H H') (h : PairV K H v) : PairV K H' v := by
  obtain ⟨t, x, y, r, u, rfl, q, f, g, z1, z2⟩ := h
  exact ⟨t, x, y, r, u, rfl, ex_t e q, f.ex e, g.ex e, z1, z2⟩
theorem pairV_new {K : PySem.W.Frag} {H : Hp} {p : Addr} {x y : V} {r u : Rat} (hp : H p = none) (f : FrV K H x r) (g : FrV K H y u) (z1 : Sz 2700 200 r) (z2 : Sz 2700 200 u) : Ex H (upd H p (.tup [x, y])) ∧ PairV K (upd H p (.tup [x, y])) (.ref p) :=
  ⟨Ex.new hp, p, x, y, r, u, rfl, st_of upd_same, f.ex (Ex.new hp), g.ex (Ex.new hp), z1, z2⟩
theorem zero_new {K : PySem.W.Frag} {H : Hp} {p : Addr} (hp : H p = none) : Ex H (upd H p (.tup [.int 0, .int 1])) ∧ FrV K (upd H p (.tup [.int 0, .int 1])) (.ref p) 0 := ⟨Ex.new hp, made rfl rfl⟩
theorem divInt_zero {b : Int} (hb : b ≠ 0) : Rat.divInt 0 b = Rat.divInt 0 1 := (Rat.divInt_eq_divInt_iff hb (by decide)).mpr (by simp)
theorem fn_law {f : Addr} {fd : FuncData} (F : Fun K "law" "law" s_law f fd) (G : Defs P w K mg base) (mrange : mg "range" = none) (mmax : mg "max" = none) (mmin : mg "min" = none) (mlen : mg "len" = none) (mint : mg "int" = none) : FnOk P w K mg base CX0 5 f fd ["_law_script"] (spLaw K) := by
  refine F.ok sc_law (fun vs H Q E h => ?_) (fun cdv A outer s H vs Q E hr h => ?_)
  · obtain ⟨a, ns, rfl, _⟩ := h
    rfl
  · obtain ⟨a, ns, rfl, hS, hn, q⟩ := h
    have hr1 : Room 1 _ := hr.mono (by decide)
    have hr2 : Room 2 _ := hr.mono (by decide)
    have hr3 : Room 3 _ := hr.mono (by decide)
    refine ⟨_, (pss_cons (ps_for PassesOwn.never rfl (pi_range1 (by rfl) mrange (pa_cons (pe_callB (call_max2 rfl) (by rfl) mmax (by decide +kernel) (pa_cons pe_int (pa_cons (pe_callB (call_min2 rfl) (by rfl) mmin (by decide +kernel) (pa_cons (pe_callB call_len_seq (by rfl) mlen PySem.boot_len (pa_cons (pv 0) pa_nil)) (pa_cons pe_int pa_nil))) pa_nil))) pa_nil)) (pg_name (i := 1) sc_law.nd rfl (.inl rfl)) (pss_cons (ps_set (i := 2) sc_law.nd rfl (.inl rfl) (cl G.stream hr1 (pa_cons (cl G.cell hr1 (pa_cons (pv 0) (pa_cons (pv 1) pa_nil))) pa_nil)))
      (pss_cons (ps_set (i := 3) sc_law.nd rfl (.inl rfl) (cl G.drawn hr3 (pa_cons (pv 2) pa_nil)))
      (pss_cons (ps_set (i := 4) sc_law.nd rfl (.inl rfl) (cl G.drawn hr3 (pa_cons (pv 2) pa_nil)))
      (pss_cons (ps_for PassesOwn.never rfl (pi_range1 (by rfl) mrange (pa_cons pe_int pa_nil)) (pg_name (i := 5) sc_law.nd rfl (.inl rfl)) (pss_cons (ps_set (i := 6) sc_law.nd rfl (.inl rfl) (pe_lst (pa_cons (pe_tup (pa_cons (pv 3) (pa_cons (pv 4) pa_nil))) (pa_cons (pe_tup (pa_cons (pv 4) (pa_cons (pv 3) pa_nil))) (pa_cons (pe_tup (pa_cons (pv 3) (pa_cons (pv 3) pa_nil))) (pa_cons (pe_tup (pa_cons (pv 3) (pa_cons (pe_tup (pa_cons pe_int (pa_cons pe_int pa_nil))) pa_nil))) (pa_cons (pe_tup (pa_cons (pe_tup (pa_cons pe_int (pa_cons pe_int pa_nil))) (pa_cons (pv 3) pa_nil))) pa_nil)))))))
      (pss_one (ps_for PassesOwn.never rfl (pi_list (pe_op op_cat (pv 6) (pe_lst (pa_cons (pe_tup (pa_cons (cl G.plus hr2 (pa_cons (pv 3) (pa_cons (pv 4) pa_nil))) (pa_cons (cl G.times hr2 (pa_cons (pv 4) (pa_cons (pv 3) pa_nil))) pa_nil))) pa_nil)))) (pg_name (i := 7) sc_law.nd rfl (.inl rfl)) (pss_one (ps_if (pt_not (pt_val (cl G.pair hr3 (pa_cons (pe_ix ix_tup (pv 7) pe_int (fun _ _ => rfl)) (pa_cons (pe_ix ix_tup (pv 7) pe_int (fun _ _ => rfl)) pa_nil))))) (pss_one (ps_ret pe_bl)) pss_nil))))))
      (pss_cons (ps_set (i := 8) sc_law.nd rfl (.inl rfl) (cl G.whole hr2 (pa_cons (pv 2) pa_nil)))
      (pss_cons (ps_set (i := 9) sc_law.nd rfl (.inl rfl) (cl G.whole hr2 (pa_cons (pv 2) pa_nil)))
      (pss_cut (ps_if (PW.pt (pw_and (pt_cmpR op_ne (pv 9) pe_int (nomark _)) (pw_and1 (pt_not (pt_val (cl G.is hr2 (pa_cons (cl G.frac hr1 (pa_cons (pv 8) (pa_cons (pv 9) pa_nil))) (pa_cons (pv 8) (pa_cons (pv 9) pa_nil))))))))) (pss_one (ps_ret pe_bl)) pss_nil)
      (pss_cut (ps_if (PW.pt (pw_and (pt_cmpR op_ne (pv 8) pe_int (nomark _)) (pw_and1 (pt_not (pt_val (cl G.is hr2 (pa_cons (cl G.frac hr1 (pa_cons pe_int (pa_cons (pv 8) pa_nil))) (pa_cons pe_int (pa_cons pe_int pa_nil))))))))) (pss_one (ps_ret pe_bl)) pss_nil)
      (pss_cons (ps_set (i := 10) sc_law.nd rfl (.inl rfl) (pe_ix ix_list (pe_lst (pa_cons (cl G.take hr1 (pa_cons (pv 2) (pa_cons pe_int pa_nil))) (pa_cons pe_int pa_nil))) (pe_callTy call_int1 (by rfl) mint (by decide +kernel) (pa_cons (pe_cmpR op_eq (cl G.take hr1 (pa_cons (pv 2) (pa_cons pe_int pa_nil))) pe_int (nomark _)) pa_nil)) (fun _ _ => rfl)))
      (pss_cons (ps_set (i := 11) sc_law.nd rfl (.inl rfl) (cl G.row hr (pa_cons (pv 2) (pa_cons (pv 10) pa_nil))))
      (pss_cons (ps_set (i := 12) sc_law.nd rfl (.inl rfl) (cl G.row hr (pa_cons (pv 2) (pa_cons (pv 10) pa_nil))))
      (pss_cons (ps_set (i := 13) sc_law.nd rfl (.inl rfl) (cl G.weighed hr1 (pa_cons (pv 11) (pa_cons (pv 12) pa_nil))))
      (pss_one (ps_if (PW.pt (pw_or (pt_not (pt_val (cl G.is hr2 (pa_cons (cl G.weigh hr3 (pa_cons (pv 11) (pa_cons (pv 12) pa_nil))) (pa_cons (pe_ix ix_tup (pv 13) pe_int (fun _ _ => rfl)) (pa_cons (pe_ix ix_tup (pv 13) pe_int (fun _ _ => rfl)) pa_nil)))))) (pw_or1 (pt_not (pt_val (cl G.is hr2 (pa_cons (cl G.weigh hr3 (pa_cons (pv 12) (pa_cons (pv 11) pa_nil))) (pa_cons (pe_ix ix_tup (pv 13) pe_int (fun _ _ => rfl)) (pa_cons (pe_ix ix_tup (pv 13) pe_int (fun _ _ => rfl)) pa_nil))))))))) (pss_one (ps_ret pe_bl)) pss_nil)))))))))))))))
      (pss_one (ps_ret (cl G.is hr2 (pa_cons (cl G.weigh hr3 (pa_cons (pe_tup pa_nil) (pa_cons (pe_tup pa_nil) pa_nil))) (pa_cons pe_int (pa_cons pe_int pa_nil))))))), ?_⟩
    refine ⟨_, rfl, a, _, rfl, .inl hS, _, _, rfl, _, _, rfl, ?_⟩
    rw [List.length_map]
    generalize hm : (if (if (20 : Int) < ((ns.length : Nat) : Int) then (20 : Int) else ((ns.length : Nat) : Int)) > 2 then (if (20 : Int) < ((ns.length : Nat) : Int) then (20 : Int) else ((ns.length : Nat) : Int)) else 2) = m
    have hm1 : 2 ≤ m ∧ m ≤ 20 := by
      rw [← hm]
      split <;> split <;> omega
    refine ⟨m, rfl, by omega, by omega, for_range (lo := 0) (n := m.toNat) (fun i σ H' => ∃ o1 o2 o3 o4 o5 o6 o7 o8 o9 o10 o11 o12 o13, σ = [some (.ref a), o1, o2, o3, o4, o5, o6, o7, o8, o9, o10, o11, o12, o13] ∧ Ex H H') ⟨none, none, none, none, none, none, none, none, none, none, none, none, none, rfl, Ex.refl H⟩ ?_ ?_⟩
    · rintro i σ H' hi ⟨o1, o2, o3, o4, o5, o6, o7, o8, o9, o10, o11, o12, o13, rfl, e0⟩
      rw [show (0 : Int) + (i : Int) = (i : Int) by omega]
      refine ⟨_, rfl, _, rfl, a, ns, i, rfl, ex_l e0 hS, by omega, fun c => ?_⟩
      refine ⟨c, rfl, fun s x y z hs => ?_⟩
      have hst : Stm s (upd H' s (.lst [.int x, .int y, .int z])) := ⟨x, y, z, upd_same⟩
      have hfree : ∀ b o, H b = some o → b ≠ s := fun b o hb => ne_of_none (e0 b o hb) hs
      have es : Ex H (upd H' s (.lst [.int x, .int y, .int z])) := e0.trans (Ex.new hs)
      generalize upd H' s (.lst [.int x, .int y, .int z]) = Hs at hst es ⊢
      have toEx : ∀ {H2}, Dr s Hs H2 → Ex H H2 := fun d b o hb => d.keep b o (hfree b o hb) (es b o hb)
      refine ⟨_, rfl, s, rfl, hst, fun v1 r1 H1 d1 f1 z1 => ?_⟩
      refine ⟨_, rfl, s, rfl, d1.st, fun v2 r2 H2 d2 f2 z2 => ?_⟩
      have D2 := d1.trans d2
      have f1' := f1.dr d1.st d2
      have y1 := z1.mono (m := 2700) (e := 200) (by decide) (by decide)
      have y2 := z2.mono (m := 2700) (e := 200) (by decide) (by decide)
      -- the pairs, twice
      refine ⟨2, rfl, by decide, by decide, for_range (lo := 0) (n := (2 : Int).toNat) (fun j σ H' => ∃ p5 p6 p7, σ = [some (.ref a), some (.int (i : Int)), some (.ref s), some v1, some v2, p5, p6, p7, o8, o9, o10, o11, o12, o13] ∧ Ex H2 H') ⟨o5, o6, o7, rfl, Ex.refl _⟩ ?_ ?_⟩
      · rintro j σ H3 hj ⟨p5, p6, p7, rfl, e3⟩
        have g1 := f1'.ex e3
        have g2 := f2.ex e3
        refine ⟨_, rfl, _, rfl, (by show 2 ≤ sizeLine; decide), fun t1 ht1 => ?_⟩
        obtain ⟨ea, P1⟩ := pairV_new ht1 g1 g2 y1 y2
        generalize upd H3 t1 (.tup [v1, v2]) = Ha at ea P1 ⊢
        refine ⟨_, rfl, _, rfl, (by show 2 ≤ sizeLine; decide), fun t2 ht2 => ?_⟩
        obtain ⟨eb, P2⟩ := pairV_new ht2 (g2.ex ea) (g1.ex ea) y2 y1
        generalize upd Ha t2 (.tup [v2, v1]) = Hb at eb P2 ⊢
        have eb' := ea.trans eb
        refine ⟨_, rfl, _, rfl, (by show 2 ≤ sizeLine; decide), fun t3 ht3 => ?_⟩
        obtain ⟨ec, P3⟩ := pairV_new ht3 (g1.ex eb') (g1.ex eb') y1 y1
        generalize upd Hb t3 (.tup [v1, v1]) = Hc at ec P3 ⊢
        have ec' := eb'.trans ec
        refine ⟨_, rfl, (by show 2 ≤ sizeLine; decide), fun q4 hq4 => ⟨(by show 2 ≤ sizeLine; decide), fun t4 ht4 => ?_⟩⟩
        obtain ⟨ed, Z4⟩ := zero_new (K := K) hq4
        generalize upd Hc q4 (.tup [.int 0, .int 1]) = Hd at ed Z4 ht4 ⊢
        have ed' := ec'.trans ed
        obtain ⟨ee, P4⟩ := pairV_new ht4 (g1.ex ed') Z4 y1 (sz_zero.mono (by decide) (by decide))
        generalize upd Hd t4 (.tup [v1, .ref q4]) = He at ee P4 ⊢
        have ee' := ed'.trans ee
        refine ⟨(by show 2 ≤ sizeLine; decide), fun q5 hq5 => ?_⟩
        obtain ⟨ef, Z5⟩ := zero_new (K := K) hq5
        generalize upd He q5 (.tup [.int 0, .int 1]) = Hf at ef Z5 ⊢
        have ef' := ee'.trans ef
        refine ⟨_, rfl, (by show 2 ≤ sizeLine; decide), fun t5 ht5 => ?_⟩
        obtain ⟨eg, P5⟩ := pairV_new ht5 Z5 (g1.ex ef') (sz_zero.mono (by decide) (by decide)) y1
        generalize upd Hf t5 (.tup [.ref q5, v1]) = Hg at eg P5 ⊢
        have eg' := ef'.trans eg
        refine ⟨(by show 5 ≤ sizeLine; decide), fun ps hps => ?_⟩
        have eh : Ex Hg (upd Hg ps (.lst [.ref t1, .ref t2, .ref t3, .ref t4, .ref t5])) := Ex.new hps
        have kps : upd Hg ps (.lst [.ref t1, .ref t2, .ref t3, .ref t4, .ref t5]) ps = some (.lst [.ref t1, .ref t2, .ref t3, .ref t4, .ref t5]) := upd_same
        generalize upd Hg ps (.lst [.ref t1, .ref t2, .ref t3, .ref t4, .ref t5]) = Hh at eh kps ⊢
        have eh' := eg'.trans eh
        refine ⟨_, rfl, _, rfl, _, rfl, _, _, r1, r2, 1330, 100, 1330, 100, rfl, g1.ex eh', g2.ex eh', z1, z2, by decide, fun vp Hi ei hvp => ?_⟩
        refine ⟨_, rfl, _, rfl, _, _, r2, r1, 1330, 100, 1330, 100, rfl, (g2.ex eh').ex ei, (g1.ex eh').ex ei, z2, z1, by decide, fun vt Hj ej hvt => ⟨(by show 2 ≤ sizeLine; decide), fun t6 ht6 => ?_⟩⟩
        obtain ⟨ek, P6⟩ := pairV_new ht6 (hvp.ex ej) hvt ((sz_add (N := 1430) z1 z2).mono (by decide) (by decide)) ((sz_mul z2 z1).mono (by decide) (by decide))
        generalize upd Hj t6 (.tup [vp, vt]) = Hk at ek P6 ⊢
        refine ⟨(by show 1 ≤ sizeLine; decide), fun l2 hl2 => ?_⟩
        have el : Ex Hk (upd Hk l2 (.lst [.ref t6])) := Ex.new hl2
        have kl : upd Hk l2 (.lst [.ref t6]) l2 = some (.lst [.ref t6]) := upd_same
        generalize upd Hk l2 (.lst [.ref t6]) = Hl at el kl ⊢
        have el' := ((ei.trans ej).trans ek).trans el
        refine ⟨ps, l2, _, _, rfl, rfl, el' _ _ kps, kl, (by show 6 ≤ sizeLine; decide), fun pc hpc => ?_⟩
        have em : Ex Hl (upd Hl pc (.lst ([.ref t1, .ref t2, .ref t3, .ref t4, .ref t5] ++ [.ref t6]))) := Ex.new hpc
        have km : upd Hl pc (.lst ([.ref t1, .ref t2, .ref t3, .ref t4, .ref t5] ++ [.ref t6])) pc = some (.lst ([.ref t1, .ref t2, .ref t3, .ref t4, .ref t5] ++ [.ref t6])) := upd_same
        generalize upd Hl pc (.lst ([.ref t1, .ref t2, .ref t3, .ref t4, .ref t5] ++ [.ref t6])) = Hm at em km ⊢
        have em' := el'.trans em
        have all : ∀ x ∈ ([.ref t1, .ref t2, .ref t3, .ref t4, .ref t5] ++ [.ref t6] : List V), PairV K Hm x := by
          intro x hx
          simp only [List.cons_append, List.nil_append, List.mem_cons, List.not_mem_nil, or_false] at hx
          rcases hx with rfl | rfl | rfl | rfl | rfl | rfl
          · exact P1.ex ((((((eb.trans ec).trans ed).trans ee).trans ef).trans eg).trans (eh.trans em'))
          · exact P2.ex (((((ec.trans ed).trans ee).trans ef).trans eg).trans (eh.trans em'))
          · exact P3.ex ((((ed.trans ee).trans ef).trans eg).trans (eh.trans em'))
          · exact P4.ex ((ef.trans eg).trans (eh.trans em'))
          · exact P5.ex (eh.trans em')
          · exact P6.ex (el.trans em)
        refine ⟨pc, rfl, ⟨_, sq_of km⟩, for_list (K := K) (a := pc) (xs := [.ref t1, .ref t2, .ref t3, .ref t4, .ref t5] ++ [.ref t6]) (fun n σ H' => ∃ p7, σ = [some (.ref a), some (.int (i : Int)), some (.ref s), some v1, some v2, some (.int (0 + (j : Int))), some (.ref ps), p7, o8, o9, o10, o11, o12, o13] ∧ Ex Hm H') ⟨p7, rfl, Ex.refl _⟩ (fun n σ H' _ ⟨_, _, e⟩ => sq_of (e _ _ km)) ?_ ?_⟩
        · rintro n x σ H' hx ⟨p7, rfl, en⟩
          obtain ⟨tx, u1, u2, ra, rb, rfl, qx, k1, k2, w1, w2⟩ := (all x (List.mem_of_getElem? hx)).ex en
          refine ⟨_, rfl, _, _, _, _, rfl, rfl, qx, at0, _, rfl, _, _, _, _, rfl, rfl, qx, at1, u1, u2, ra, rb, rfl, k1, k2, w1, w2, fun H9 e9 => ⟨_, rfl, ?_⟩⟩
          refine iteF ?_
          exact ⟨_, rfl, en.trans e9⟩
        · rintro σ H' ⟨p7, rfl, en⟩
          exact ⟨_, _, p7, rfl, ((e3.trans eh').trans em').trans en⟩
      · rintro σ H3 ⟨p5, p6, p7, rfl, e3⟩
        have D3 := D2.trans (Dr.ex D2.st e3)
        refine ⟨_, rfl, s, rfl, D3.st, fun t H4 ht d4 => ?_⟩
        refine ⟨_, rfl, s, rfl, d4.st, fun b H5 hb d5 => ?_⟩
        have D5 := (D3.trans d4).trans d5
        refine ⟨fun σ H' => σ = [some (.ref a), some (.int (i : Int)), some (.ref s), some v1, some v2, p5, p6, p7, some (.int t), some (.int b), o10, o11, o12, o13] ∧ Dr s Hs H', ?_, ?_⟩
        · refine ⟨_, rfl, rfl, _, rfl, ?_⟩
          by_cases h0 : b = 0
          · subst h0
            rw [decide_eq_true rfl]
            refine iteF ?_
            exact ⟨rfl, D5⟩
          · rw [decide_eq_false (fun z => h0 (V.int.inj z))]
            refine iteT ?_
            refine ⟨_, rfl, _, rfl, t, b, 1330, rfl, h0, hb, by decide, by decide, fun v H6 e6 hv => ?_⟩
            refine ⟨_, rfl, _, rfl, v, t, b, 1330, rfl, h0, hv, ht, hb, by decide, by decide, fun H7 e7 => ⟨_, rfl, ?_⟩⟩
            refine iteF ?_
            exact ⟨rfl, D5.trans (Dr.ex D5.st (e6.trans e7))⟩
        rintro σ H6 ⟨rfl, D6⟩
        refine ⟨fun σ H' => σ = [some (.ref a), some (.int (i : Int)), some (.ref s), some v1, some v2, p5, p6, p7, some (.int t), some (.int b), o10, o11, o12, o13] ∧ Dr s Hs H', ?_, ?_⟩
        · refine ⟨_, rfl, rfl, _, rfl, ?_⟩
          by_cases h0 : t = 0
          · subst h0
            rw [decide_eq_true rfl]
            refine iteF ?_
            exact ⟨rfl, D6⟩
          · rw [decide_eq_false (fun z => h0 (V.int.inj z))]
            refine iteT ?_
            refine ⟨_, rfl, 0, t, 1330, rfl, h0, ht, by decide, by decide, fun v H7 e7 hv => ?_⟩
            rw [divInt_zero h0] at hv
            refine ⟨v, 0, 1, 1330, rfl, by decide, hv, lt_mono (n := 1) (by decide) (by decide), lt_mono (n := 1) (by decide) (by decide), by decide, by decide, fun H8 e8 => ⟨_, rfl, ?_⟩⟩
            refine iteF ?_
            exact ⟨rfl, D6.trans (Dr.ex D6.st (e7.trans e8))⟩
        rintro σ H7 ⟨rfl, D7⟩
        -- how many
        refine ⟨_, rfl, s, _, rfl, D7.st, by decide, by decide, fun k1 H8 a0 a1 d8 => ⟨(by show 2 ≤ sizeLine; decide), fun p hp => ?_⟩⟩
        have D8 := (D7.trans d8).trans (Dr.new (o := .lst [.int k1, .int 31]) d8.st hp)
        refine ⟨_, rfl, s, _, rfl, D8.st, by decide, by decide, fun k2 H9 b0 b1 d9 => ?_⟩
        have hp9 := d9.keep p _ (Ne.symm (d8.st.ne hp)) upd_same
        obtain ⟨v, hv, hmm⟩ := at_mem (xs := [.int k1, .int 31]) (d := if decide (V.int k2 = V.int 0) = true then 1 else 0) (by split <;> decide) (by
          show (if decide (V.int k2 = V.int 0) = true then (1 : Int) else 0) < 2
          split <;> decide)
        have hv2 : ∃ k : Nat, v = .int (k : Int) ∧ k ≤ 31 := by
          simp only [List.mem_cons, List.not_mem_nil, or_false] at hmm
          rcases hmm with rfl | rfl
          · exact ⟨k1.toNat, by rw [Int.toNat_of_nonneg a0], by omega⟩
          · exact ⟨31, rfl, by decide⟩
        obtain ⟨k, rfl, hk⟩ := hv2
        refine ⟨rfl, .inr ⟨_, rfl, p, _, _, _, rfl, rfl, sq_of hp9, hv, ?_⟩⟩
        have D9 := D8.trans d9
        refine ⟨_, rfl, _, rfl, s, k, rfl, D9.st, hk, fun vr Lr HA dA fr nr zr _ => ?_⟩
        refine ⟨_, rfl, _, rfl, s, k, rfl, dA.st, hk, fun vm Lm HB dB fm nm zm _ => ?_⟩
        have fr' := fr.dr dA.st dB
        have DB := (D9.trans dA).trans dB
        refine ⟨_, rfl, _, rfl, vr, vm, Lr, Lm, rfl, fr', fm, by rw [nr, nm], zr, zm, by omega, fun pd T U HC eC qd hU hw bT bU => ?_⟩
        obtain ⟨n, d, hdn, ha, hb2, hz1, hz2, hn2, hd0⟩ := szr_two (by rw [nr, nm]) zr zm
        have hlen : Lr.length = Lm.length := by rw [nr, nm]
        refine ⟨_, rfl, _, rfl, vr, vm, Lr, Lm, n, d, n, d, rfl, fr'.ex eC, fm.ex eC, hlen, ha, hb2, ⟨hd0, hd0, hdn, hdn, by omega, by omega⟩, fun vw HD eD hvw => ?_⟩
        rw [hw] at hvw
        have qd2 := ex_t eD qd
        refine ⟨_, rfl, _, _, _, _, rfl, rfl, qd2, at0, _, rfl, _, _, _, _, rfl, rfl, qd2, at1, vw, T, U, 90000, rfl, by omega, hvw, bT, bU, by decide, by decide, fun HE eE => ⟨_, rfl, ?_⟩⟩
        refine iteF ?_
        have EE := (eC.trans eD).trans eE
        refine ⟨_, rfl, _, rfl, vm, vr, Lm, Lr, n, d, n, d, rfl, fm.ex EE, fr'.ex EE, hlen.symm, hb2, ha, ⟨hd0, hd0, hdn, hdn, by rw [← hlen]; omega, by rw [← hlen]; omega⟩, fun vx HF eF hvx => ?_⟩
        rw [weighs_comm, hw] at hvx
        have qd3 := ex_t ((eD.trans eE).trans eF) qd
        refine ⟨_, rfl, _, _, _, _, rfl, rfl, qd3, at0, _, rfl, _, _, _, _, rfl, rfl, qd3, at1, vx, T, U, 90000, rfl, by omega, hvx, bT, bU, by decide, by decide, fun HG eG => ⟨_, rfl, ?_⟩⟩
        refine iteF ?_
        exact ⟨_, _, _, _, _, _, _, _, _, _, _, _, _, rfl, toEx (DB.trans (Dr.ex DB.st ((EE.trans eF).trans eG)))⟩
    · rintro σ H' ⟨o1, o2, o3, o4, o5, o6, o7, o8, o9, o10, o11, o12, o13, rfl, e0⟩
      refine ⟨(by show 0 ≤ sizeLine; decide), fun p hp => ⟨(by show 0 ≤ sizeLine; decide), fun p2 hp2 => ?_⟩⟩
      have q1 : SqT K (upd (upd H' p (.tup [])) p2 (.tup [])) p [] := ex_t (Ex.new hp2) (st_of upd_same)
      refine ⟨.ref p, .ref p2, [], [], 1, 1, 1, 1, rfl, ⟨p, [], rfl, q1, .nil⟩, ⟨p2, [], rfl, st_of upd_same, .nil⟩, rfl, (fun _ z => by cases z), (fun _ z => by cases z), by decide, fun v H3 e3 hv => ?_⟩
      exact ⟨v, 0, 1, 10, rfl, by decide, hv, by decide, by decide, by decide, by decide, fun H4 e4 => q H4⟩
end

end K02
end
set_option maxRecDepth 100000
set_option maxHeartbeats 400000
namespace K02
open PySem L2 Evl Nc PyProof.Rows
/-! ### what the top has written; the law's own head -/
theorem all_mk {l : PySem.W.OpenLaw} {w : World} {K : PySem.W.Frag} {h : Heap} {mg : Str → Option Value} {fa : Addr} (X : K.In h) (G : h.Ns mainGlobals mg) (hfa : mg "law" = some (.ref fa))
    {od0 an0 : Option Addr} {sl0 : Array (Option Value)} {oc0 kV0 dc0 pm0 cd0 ct0 : Value} {f0 : Addr}
    {od1 an1 : Option Addr} {sl1 : Array (Option Value)} {oc1 kV1 dc1 pm1 cd1 ct1 : Value} {f1 : Addr}
    {od2 an2 : Option Addr} {sl2 : Array (Option Value)} {oc2 kV2 dc2 pm2 cd2 ct2 : Value} {f2 : Addr}
    {od3 an3 : Option Addr} {sl3 : Array (Option Value)} {oc3 kV3 dc3 pm3 cd3 ct3 : Value} {f3 : Addr}
    {od4 an4 : Option Addr} {sl4 : Array (Option Value)} {oc4 kV4 dc4 pm4 cd4 ct4 : Value} {f4 : Addr}
    {od5 an5 : Option Addr} {sl5 : Array (Option Value)} {oc5 kV5 dc5 pm5 cd5 ct5 : Value} {f5 : Addr}
    {od6 an6 : Option Addr} {sl6 : Array (Option Value)} {oc6 kV6 dc6 pm6 cd6 ct6 : Value} {f6 : Addr}
    {od7 an7 : Option Addr} {sl7 : Array (Option Value)} {oc7 kV7 dc7 pm7 cd7 ct7 : Value} {f7 : Addr}
    {od8 an8 : Option Addr} {sl8 : Array (Option Value)} {oc8 kV8 dc8 pm8 cd8 ct8 : Value} {f8 : Addr}
    {od9 an9 : Option Addr} {sl9 : Array (Option Value)} {oc9 kV9 dc9 pm9 cd9 ct9 : Value} {f9 : Addr}
    {od10 an10 : Option Addr} {sl10 : Array (Option Value)} {oc10 kV10 dc10 pm10 cd10 ct10 : Value} {f10 : Addr}
    {od11 an11 : Option Addr} {sl11 : Array (Option Value)} {oc11 kV11 dc11 pm11 cd11 ct11 : Value} {f11 : Addr}
    {od12 an12 : Option Addr} {sl12 : Array (Option Value)} {oc12 kV12 dc12 pm12 cd12 ct12 : Value} {f12 : Addr}
    {od13 an13 : Option Addr} {sl13 : Array (Option Value)} {oc13 kV13 dc13 pm13 cd13 ct13 : Value} {f13 : Addr}
    {od14 an14 : Option Addr} {sl14 : Array (Option Value)} {oc14 kV14 dc14 pm14 cd14 ct14 : Value} {f14 : Addr}
    {od15 an15 : Option Addr} {sl15 : Array (Option Value)} {oc15 kV15 dc15 pm15 cd15 ct15 : Value} {f15 : Addr}
    {od16 an16 : Option Addr} {sl16 : Array (Option Value)} {oc16 kV16 dc16 pm16 cd16 ct16 : Value} {f16 : Addr}
    {od17 an17 : Option Addr} {sl17 : Array (Option Value)} {oc17 kV17 dc17 pm17 cd17 ct17 : Value} {f17 : Addr}
    {od18 an18 : Option Addr} {sl18 : Array (Option Value)} {oc18 kV18 dc18 pm18 cd18 ct18 : Value} {f18 : Addr}
    {aCNOUGHT : Addr} {dCNOUGHT : Option Addr} {nCNOUGHT : Nat} {slCNOUGHT : Array (Option Value)} {t1NOUGHT t2NOUGHT : Tok}
    (a0 : PySem.W.nsIn K mainGlobals "fraction_of" = some (some (.ref f0)))
    (l0 : K.lookup f0 = some ⟨oc0, od0, .func (PySem.W.fnOf "fraction_of" "fraction_of" (defArgs s_fraction_of) (defBody s_fraction_of) (defScope s_fraction_of) .none kV0 dc0 pm0 an0 cd0 ct0), sl0⟩)
    (c0 : PySem.W.codeIn K cd0 "fraction_of" = true)
    (k0 : PySem.W.keepIn K (.ref f0) = true)
    (a1 : PySem.W.nsIn K mainGlobals "plus" = some (some (.ref f1)))
    (l1 : K.lookup f1 = some ⟨oc1, od1, .func (PySem.W.fnOf "plus" "plus" (defArgs s_plus) (defBody s_plus) (defScope s_plus) .none kV1 dc1 pm1 an1 cd1 ct1), sl1⟩)
    (c1 : PySem.W.codeIn K cd1 "plus" = true)
    (k1 : PySem.W.keepIn K (.ref f1) = true)
    (a2 : PySem.W.nsIn K mainGlobals "minus" = some (some (.ref f2)))
    (l2 : K.lookup f2 = some ⟨oc2, od2, .func (PySem.W.fnOf "minus" "minus" (defArgs s_minus) (defBody s_minus) (defScope s_minus) .none kV2 dc2 pm2 an2 cd2 ct2), sl2⟩)
    (c2 : PySem.W.codeIn K cd2 "minus" = true)
    (k2 : PySem.W.keepIn K (.ref f2) = true)
    (a3 : PySem.W.nsIn K mainGlobals "times" = some (some (.ref f3)))
    (l3 : K.lookup f3 = some ⟨oc3, od3, .func (PySem.W.fnOf "times" "times" (defArgs s_times) (defBody s_times) (defScope s_times) .none kV3 dc3 pm3 an3 cd3 ct3), sl3⟩)
    (c3 : PySem.W.codeIn K cd3 "times" = true)
    (k3 : PySem.W.keepIn K (.ref f3) = true)
    (a4 : PySem.W.nsIn K mainGlobals "ratio" = some (some (.ref f4)))
    (l4 : K.lookup f4 = some ⟨oc4, od4, .func (PySem.W.fnOf "ratio" "ratio" (defArgs s_ratio) (defBody s_ratio) (defScope s_ratio) .none kV4 dc4 pm4 an4 cd4 ct4), sl4⟩)
    (c4 : PySem.W.codeIn K cd4 "ratio" = true)
    (k4 : PySem.W.keepIn K (.ref f4) = true)
    (a5 : PySem.W.nsIn K mainGlobals "is_less" = some (some (.ref f5)))
    (l5 : K.lookup f5 = some ⟨oc5, od5, .func (PySem.W.fnOf "is_less" "is_less" (defArgs s_is_less) (defBody s_is_less) (defScope s_is_less) .none kV5 dc5 pm5 an5 cd5 ct5), sl5⟩)
    (c5 : PySem.W.codeIn K cd5 "is_less" = true)
    (k5 : PySem.W.keepIn K (.ref f5) = true)
    (a6 : PySem.W.nsIn K mainGlobals "weigh" = some (some (.ref f6)))
    (l6 : K.lookup f6 = some ⟨oc6, od6, .func (PySem.W.fnOf "weigh" "weigh" (defArgs s_weigh) (defBody s_weigh) (defScope s_weigh) .none kV6 dc6 pm6 an6 cd6 ct6), sl6⟩)
    (c6 : PySem.W.codeIn K cd6 "weigh" = true)
    (k6 : PySem.W.keepIn K (.ref f6) = true)
    (a7 : PySem.W.nsIn K mainGlobals "_law_cell" = some (some (.ref f7)))
    (l7 : K.lookup f7 = some ⟨oc7, od7, .func (PySem.W.fnOf "_law_cell" "_law_cell" (defArgs s__law_cell) (defBody s__law_cell) (defScope s__law_cell) .none kV7 dc7 pm7 an7 cd7 ct7), sl7⟩)
    (c7 : PySem.W.codeIn K cd7 "_law_cell" = true)
    (k7 : PySem.W.keepIn K (.ref f7) = true)
    (a8 : PySem.W.nsIn K mainGlobals "_law_stream" = some (some (.ref f8)))
    (l8 : K.lookup f8 = some ⟨oc8, od8, .func (PySem.W.fnOf "_law_stream" "_law_stream" (defArgs s__law_stream) (defBody s__law_stream) (defScope s__law_stream) .none kV8 dc8 pm8 an8 cd8 ct8), sl8⟩)
    (c8 : PySem.W.codeIn K cd8 "_law_stream" = true)
    (k8 : PySem.W.keepIn K (.ref f8) = true)
    (a9 : PySem.W.nsIn K mainGlobals "_law_take" = some (some (.ref f9)))
    (l9 : K.lookup f9 = some ⟨oc9, od9, .func (PySem.W.fnOf "_law_take" "_law_take" (defArgs s__law_take) (defBody s__law_take) (defScope s__law_take) .none kV9 dc9 pm9 an9 cd9 ct9), sl9⟩)
    (c9 : PySem.W.codeIn K cd9 "_law_take" = true)
    (k9 : PySem.W.keepIn K (.ref f9) = true)
    (a10 : PySem.W.nsIn K mainGlobals "_law_common" = some (some (.ref f10)))
    (l10 : K.lookup f10 = some ⟨oc10, od10, .func (PySem.W.fnOf "_law_common" "_law_common" (defArgs s__law_common) (defBody s__law_common) (defScope s__law_common) .none kV10 dc10 pm10 an10 cd10 ct10), sl10⟩)
    (c10 : PySem.W.codeIn K cd10 "_law_common" = true)
    (k10 : PySem.W.keepIn K (.ref f10) = true)
    (a11 : PySem.W.nsIn K mainGlobals "_law_fraction" = some (some (.ref f11)))
    (l11 : K.lookup f11 = some ⟨oc11, od11, .func (PySem.W.fnOf "_law_fraction" "_law_fraction" (defArgs s__law_fraction) (defBody s__law_fraction) (defScope s__law_fraction) .none kV11 dc11 pm11 an11 cd11 ct11), sl11⟩)
    (c11 : PySem.W.codeIn K cd11 "_law_fraction" = true)
    (k11 : PySem.W.keepIn K (.ref f11) = true)
    (a12 : PySem.W.nsIn K mainGlobals "_law_whole" = some (some (.ref f12)))
    (l12 : K.lookup f12 = some ⟨oc12, od12, .func (PySem.W.fnOf "_law_whole" "_law_whole" (defArgs s__law_whole) (defBody s__law_whole) (defScope s__law_whole) .none kV12 dc12 pm12 an12 cd12 ct12), sl12⟩)
    (c12 : PySem.W.codeIn K cd12 "_law_whole" = true)
    (k12 : PySem.W.keepIn K (.ref f12) = true)
    (a13 : PySem.W.nsIn K mainGlobals "_law_drawn" = some (some (.ref f13)))
    (l13 : K.lookup f13 = some ⟨oc13, od13, .func (PySem.W.fnOf "_law_drawn" "_law_drawn" (defArgs s__law_drawn) (defBody s__law_drawn) (defScope s__law_drawn) .none kV13 dc13 pm13 an13 cd13 ct13), sl13⟩)
    (c13 : PySem.W.codeIn K cd13 "_law_drawn" = true)
    (k13 : PySem.W.keepIn K (.ref f13) = true)
    (a14 : PySem.W.nsIn K mainGlobals "_law_is" = some (some (.ref f14)))
    (l14 : K.lookup f14 = some ⟨oc14, od14, .func (PySem.W.fnOf "_law_is" "_law_is" (defArgs s__law_is) (defBody s__law_is) (defScope s__law_is) .none kV14 dc14 pm14 an14 cd14 ct14), sl14⟩)
    (c14 : PySem.W.codeIn K cd14 "_law_is" = true)
    (k14 : PySem.W.keepIn K (.ref f14) = true)
    (a15 : PySem.W.nsIn K mainGlobals "_law_pair_right" = some (some (.ref f15)))
    (l15 : K.lookup f15 = some ⟨oc15, od15, .func (PySem.W.fnOf "_law_pair_right" "_law_pair_right" (defArgs s__law_pair_right) (defBody s__law_pair_right) (defScope s__law_pair_right) .none kV15 dc15 pm15 an15 cd15 ct15), sl15⟩)
    (c15 : PySem.W.codeIn K cd15 "_law_pair_right" = true)
    (k15 : PySem.W.keepIn K (.ref f15) = true)
    (a16 : PySem.W.nsIn K mainGlobals "_law_row" = some (some (.ref f16)))
    (l16 : K.lookup f16 = some ⟨oc16, od16, .func (PySem.W.fnOf "_law_row" "_law_row" (defArgs s__law_row) (defBody s__law_row) (defScope s__law_row) .none kV16 dc16 pm16 an16 cd16 ct16), sl16⟩)
    (c16 : PySem.W.codeIn K cd16 "_law_row" = true)
    (k16 : PySem.W.keepIn K (.ref f16) = true)
    (a17 : PySem.W.nsIn K mainGlobals "_law_weighed" = some (some (.ref f17)))
    (l17 : K.lookup f17 = some ⟨oc17, od17, .func (PySem.W.fnOf "_law_weighed" "_law_weighed" (defArgs s__law_weighed) (defBody s__law_weighed) (defScope s__law_weighed) .none kV17 dc17 pm17 an17 cd17 ct17), sl17⟩)
    (c17 : PySem.W.codeIn K cd17 "_law_weighed" = true)
    (k17 : PySem.W.keepIn K (.ref f17) = true)
    (a18 : PySem.W.nsIn K mainGlobals "law" = some (some (.ref f18)))
    (l18 : K.lookup f18 = some ⟨oc18, od18, .func (PySem.W.fnOf "law" "law" (defArgs s_law) (defBody s_law) (defScope s_law) .none kV18 dc18 pm18 an18 cd18 ct18), sl18⟩)
    (c18 : PySem.W.codeIn K cd18 "law" = true)
    (k18 : PySem.W.keepIn K (.ref f18) = true)
    (z_len : PySem.W.nsIn K mainGlobals "len" = some none)
    (z_range : PySem.W.nsIn K mainGlobals "range" = some none)
    (z_zip : PySem.W.nsIn K mainGlobals "zip" = some none)
    (z_tuple : PySem.W.nsIn K mainGlobals "tuple" = some none)
    (z_int : PySem.W.nsIn K mainGlobals "int" = some none)
    (z_abs : PySem.W.nsIn K mainGlobals "abs" = some none)
    (z_isinstance : PySem.W.nsIn K mainGlobals "isinstance" = some none)
    (z_bool : PySem.W.nsIn K mainGlobals "bool" = some none)
    (z_max : PySem.W.nsIn K mainGlobals "max" = some none)
    (z_min : PySem.W.nsIn K mainGlobals "min" = some none)
    (zgcd : PySem.W.nsIn K mainGlobals "gcd" = some (some (.builtin "math.gcd")))
    (nNOUGHT : PySem.W.nsIn K mainGlobals "NOUGHT" = some (some (.ref aCNOUGHT)))
    (vNOUGHT : K.lookup aCNOUGHT = some ⟨.type "tuple", dCNOUGHT, .seq #[.int 0 t1NOUGHT, .int 1 t2NOUGHT] nCNOUGHT, slCNOUGHT⟩)
    : ∃ fd : FuncData, (∀ (s : Shared) (v : Value), BindsTo s fd ⟨[v], []⟩ [("_law_script", v)]) ∧ ∀ base : Heap, K.In base → base.Ns mainGlobals mg → FnOk l.prog w K mg base CX0 5 fa fd ["_law_script"] (spLaw K) := by
  have e := hfa.symm.trans (PySem.W.mg_of X G a18)
  cases e
  have D_fraction_of : Df K mg "fraction_of" s_fraction_of ["top", "bottom"] := Df.of X G a0 l0 c0 k0 fun _ _ _ _ _ _ us hl => match us, hl with | [_, _], _ => rfl
  have D_plus : Df K mg "plus" s_plus ["one", "other"] := Df.of X G a1 l1 c1 k1 fun _ _ _ _ _ _ us hl => match us, hl with | [_, _], _ => rfl
  have D_minus : Df K mg "minus" s_minus ["one", "other"] := Df.of X G a2 l2 c2 k2 fun _ _ _ _ _ _ us hl => match us, hl with | [_, _], _ => rfl
  have D_times : Df K mg "times" s_times ["one", "other"] := Df.of X G a3 l3 c3 k3 fun _ _ _ _ _ _ us hl => match us, hl with | [_, _], _ => rfl
  have D_ratio : Df K mg "ratio" s_ratio ["one", "other"] := Df.of X G a4 l4 c4 k4 fun _ _ _ _ _ _ us hl => match us, hl with | [_, _], _ => rfl
  have D_is_less : Df K mg "is_less" s_is_less ["one", "other"] := Df.of X G a5 l5 c5 k5 fun _ _ _ _ _ _ us hl => match us, hl with | [_, _], _ => rfl
  have D_weigh : Df K mg "weigh" s_weigh ["row", "other"] := Df.of X G a6 l6 c6 k6 fun _ _ _ _ _ _ us hl => match us, hl with | [_, _], _ => rfl
  have D__law_cell : Df K mg "_law_cell" s__law_cell ["_law_script", "_law_k"] := Df.of X G a7 l7 c7 k7 fun _ _ _ _ _ _ us hl => match us, hl with | [_, _], _ => rfl
  have D__law_stream : Df K mg "_law_stream" s__law_stream ["_law_cell_here"] := Df.of X G a8 l8 c8 k8 fun _ _ _ _ _ _ us hl => match us, hl with | [_], _ => rfl
  have D__law_take : Df K mg "_law_take" s__law_take ["_law_stream_here", "_law_many"] := Df.of X G a9 l9 c9 k9 fun _ _ _ _ _ _ us hl => match us, hl with | [_, _], _ => rfl
  have D__law_common : Df K mg "_law_common" s__law_common ["_law_one", "_law_other"] := Df.of X G a10 l10 c10 k10 fun _ _ _ _ _ _ us hl => match us, hl with | [_, _], _ => rfl
  have D__law_fraction : Df K mg "_law_fraction" s__law_fraction ["_law_top", "_law_bottom"] := Df.of X G a11 l11 c11 k11 fun _ _ _ _ _ _ us hl => match us, hl with | [_, _], _ => rfl
  have D__law_whole : Df K mg "_law_whole" s__law_whole ["_law_stream_here"] := Df.of X G a12 l12 c12 k12 fun _ _ _ _ _ _ us hl => match us, hl with | [_], _ => rfl
  have D__law_drawn : Df K mg "_law_drawn" s__law_drawn ["_law_stream_here"] := Df.of X G a13 l13 c13 k13 fun _ _ _ _ _ _ us hl => match us, hl with | [_], _ => rfl
  have D__law_is : Df K mg "_law_is" s__law_is ["_law_found", "_law_top", "_law_bottom"] := Df.of X G a14 l14 c14 k14 fun _ _ _ _ _ _ us hl => match us, hl with | [_, _, _], _ => rfl
  have D__law_pair_right : Df K mg "_law_pair_right" s__law_pair_right ["_law_one", "_law_other"] := Df.of X G a15 l15 c15 k15 fun _ _ _ _ _ _ us hl => match us, hl with | [_, _], _ => rfl
  have D__law_row : Df K mg "_law_row" s__law_row ["_law_stream_here", "_law_many"] := Df.of X G a16 l16 c16 k16 fun _ _ _ _ _ _ us hl => match us, hl with | [_, _], _ => rfl
  have D__law_weighed : Df K mg "_law_weighed" s__law_weighed ["_law_row_here", "_law_other"] := Df.of X G a17 l17 c17 k17 fun _ _ _ _ _ _ us hl => match us, hl with | [_, _], _ => rfl
  have mlen := PySem.W.mg_none_of X G z_len
  have mrange := PySem.W.mg_none_of X G z_range
  have mzip := PySem.W.mg_none_of X G z_zip
  have mtuple := PySem.W.mg_none_of X G z_tuple
  have mint := PySem.W.mg_none_of X G z_int
  have mabs := PySem.W.mg_none_of X G z_abs
  have misinstance := PySem.W.mg_none_of X G z_isinstance
  have mbool := PySem.W.mg_none_of X G z_bool
  have mmax := PySem.W.mg_none_of X G z_max
  have mmin := PySem.W.mg_none_of X G z_min
  have mgcd := PySem.W.mg_of X G zgcd
  have C_NOUGHT : Cst K mg "NOUGHT" 0 := ⟨aCNOUGHT, PySem.W.mg_of X G nNOUGHT, fun H => ⟨aCNOUGHT, rfl, .inr ⟨_, _, _, vNOUGHT, rfl, rfl, (by show 2 ≤ sizeLine; decide), .cons ⟨_, rfl⟩ (.cons ⟨_, rfl⟩ .nil)⟩⟩⟩
  have F_law := fun_mk (st := s_law) l18 c18 k18
  refine ⟨PySem.W.fnOf "law" "law" (defArgs s_law) (defBody s_law) (defScope s_law) .none kV18 dc18 pm18 an18 cd18 ct18, fun s v => .of_eq rfl, fun base _ _ => ?_⟩
  have gz := ok_fraction_of (P := l.prog) (w := w) (base := base) D_fraction_of mgcd
  have g1 := gz.imp part_imp
  have g2 := ok_plus D_plus g1
  have g3 := ok_times D_times g1
  have g4 := ok_minus D_minus g1
  have g5 := ok_ratio D_ratio gz
  have g6 := ok_is_less (P := l.prog) (w := w) (base := base) D_is_less
  have g7 := ok_weigh D_weigh C_NOUGHT mzip g2 g3
  have h1 := ok__law_cell (P := l.prog) (w := w) (base := base) D__law_cell mlen
  have h2 := ok__law_stream (P := l.prog) (w := w) (base := base) D__law_stream mint
  have h3 := ok__law_take (P := l.prog) (w := w) (base := base) D__law_take
  have h4 := ok__law_common (P := l.prog) (w := w) (base := base) D__law_common
  have h5 := ok__law_fraction D__law_fraction h4 mabs
  have h6 := ok__law_whole D__law_whole h3 mint
  have h7 := ok__law_drawn D__law_drawn h3 h5 h6
  have h8 := ok__law_is D__law_is h4 misinstance mtuple mlen mint mbool mabs
  have h9 := ok__law_pair_right D__law_pair_right h8 g2 g4 g3 g5 g6 misinstance mbool
  have i1 := ok__law_row D__law_row h3 h5 h7 mtuple mrange
  have i2 := ok__law_weighed (P := l.prog) (w := w) (base := base) D__law_weighed mzip
  exact fn_law F_law ⟨h2, h1, h3, h7, h6, i1, i2, h8, h9, g2, g3, gz, g7⟩ mrange mmax mmin mlen mint
end K02
open PySem PySem.W PyProof.Rows
set_option maxRecDepth 100000 in
set_option maxHeartbeats 0 in
theorem PySem.Challenge.cw_noughtcut_k02_fractions_reckoned_holds : PySem.Challenge.rw_noughtcut_k02_fractions_reckoned.Holds := by
  w_on; o_law; k_head; (case hw => w_witness2)
  k_fill
  refine L2.walk_of (l := PySem.Challenge.rw_noughtcut_k02_fractions_reckoned) (n := 63) (k := 5) (x := "_law_script") (CX := fun _ => L2.CX0) (sp := fun w => Nc.spLaw _) rfl (by decide) rfl ⟨rfl, by decide, by decide⟩ (fun w h Y => PySem.W.kIn_of Y) ?F (fun _ _ a ns hl _ hS => ⟨a, ns, rfl, hS, hl, fun _ => rfl⟩) (fun _ _ _ _ _ h => h)
  case F =>
    intro w mg fa h KX G hmg
    refine' K02.all_mk KX G hmg ?a0 ?l0 ?c0 ?k0 ?a1 ?l1 ?c1 ?k1 ?a2 ?l2 ?c2 ?k2 ?a3 ?l3 ?c3 ?k3 ?a4 ?l4 ?c4 ?k4 ?a5 ?l5 ?c5 ?k5 ?a6 ?l6 ?c6 ?k6 ?a7 ?l7 ?c7 ?k7 ?a8 ?l8 ?c8 ?k8 ?a9 ?l9 ?c9 ?k9 ?a10 ?l10 ?c10 ?k10 ?a11 ?l11 ?c11 ?k11 ?a12 ?l12 ?c12 ?k12 ?a13 ?l13 ?c13 ?k13 ?a14 ?l14 ?c14 ?k14 ?a15 ?l15 ?c15 ?k15 ?a16 ?l16 ?c16 ?k16 ?a17 ?l17 ?c17 ?k17 ?a18 ?l18 ?c18 ?k18 ?z_len ?z_range ?z_zip ?z_tuple ?z_int ?z_abs ?z_isinstance ?z_bool ?z_max ?z_min ?zgcd ?nNOUGHT ?vNOUGHT
    (case a0 => k_is)
    (case l0 => k_is)
    (case c0 => k_is)
    (case k0 => k_is)
    (case a1 => k_is)
    (case l1 => k_is)
    (case c1 => k_is)
    (case k1 => k_is)
    (case a2 => k_is)
    (case l2 => k_is)
    (case c2 => k_is)
    (case k2 => k_is)
    (case a3 => k_is)
    (case l3 => k_is)
    (case c3 => k_is)
    (case k3 => k_is)
    (case a4 => k_is)
    (case l4 => k_is)
    (case c4 => k_is)
    (case k4 => k_is)
    (case a5 => k_is)
    (case l5 => k_is)
    (case c5 => k_is)
    (case k5 => k_is)
    (case a6 => k_is)
    (case l6 => k_is)
    (case c6 => k_is)
    (case k6 => k_is)
    (case a7 => k_is)
    (case l7 => k_is)
    (case c7 => k_is)
    (case k7 => k_is)
    (case a8 => k_is)
    (case l8 => k_is)
    (case c8 => k_is)
    (case k8 => k_is)
    (case a9 => k_is)
    (case l9 => k_is)
    (case c9 => k_is)
    (case k9 => k_is)
    (case a10 => k_is)
    (case l10 => k_is)
    (case c10 => k_is)
    (case k10 => k_is)
    (case a11 => k_is)
    (case l11 => k_is)
    (case c11 => k_is)
    (case k11 => k_is)
    (case a12 => k_is)
    (case l12 => k_is)
    (case c12 => k_is)
    (case k12 => k_is)
    (case a13 => k_is)
    (case l13 => k_is)
    (case c13 => k_is)
    (case k13 => k_is)
    (case a14 => k_is)
    (case l14 => k_is)
    (case c14 => k_is)
    (case k14 => k_is)
    (case a15 => k_is)
    (case l15 => k_is)
    (case c15 => k_is)
    (case k15 => k_is)
    (case a16 => k_is)
    (case l16 => k_is)
    (case c16 => k_is)
    (case k16 => k_is)
    (case a17 => k_is)
    (case l17 => k_is)
    (case c17 => k_is)
    (case k17 => k_is)
    (case a18 => k_is)
    (case l18 => k_is)
    (case c18 => k_is)
    (case k18 => k_is)
    (case z_len => k_is)
    (case z_range => k_is)
    (case z_zip => k_is)
    (case z_tuple => k_is)
    (case z_int => k_is)
    (case z_abs => k_is)
    (case z_isinstance => k_is)
    (case z_bool => k_is)
    (case z_max => k_is)
    (case z_min => k_is)
    (case zgcd => k_is)
    (case nNOUGHT => k_is)
    (case vNOUGHT => k_is)
