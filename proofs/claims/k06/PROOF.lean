import PyProof.Rows.All
import Wide.All
import OpenK.AllK
import Wide.FinOn
import HandS.Base
import HandS.Call
import HandS.List
import HandS.Comp
import HandS.Iter
import HandS.Ends
import HandS.Words
import HandS.Evl
import HandS.WordsList
import HandS.Zip
import HandS.Wide
import HandS.Gcd
import HandS.IsInst
import HandS.TupMul
import HandS.Codes
import HandS.ForMost
import PySem.Challenge.RW_noughtcut_k06_layers
set_option Elab.async false
set_option linter.all false
section
namespace Nc
/-! ### fractions: Rat's own top and bottom -/
def Sz (n d : Nat) (r : Rat) : Prop := r.num.natAbs < 2 ^ n ∧ r.den < 2 ^ d
theorem den_pos (r : Rat) : (0 : Int) < (r.den : Int) := by
  have := r.den_nz
  omega
theorem num_div {t b : Int} (hb : 0 < b) : t / ((Nat.gcd t.natAbs b.natAbs : Nat) : Int) = (Rat.divInt t b).num := by
  rw [Rat.num_divInt, Int.sign_eq_one_of_pos hb, Int.one_mul, Int.gcd_comm]
  rfl
theorem den_div {t b : Int} (hb : 0 < b) : b / ((Nat.gcd t.natAbs b.natAbs : Nat) : Int) = ((Rat.divInt t b).den : Int) := by
  rw [Rat.den_divInt, if_neg (by omega), Int.gcd_comm]
  have e : b = ((b.natAbs : Nat) : Int) := by omega
  conv => lhs; rw [e]
  rfl
theorem gcd_pos {t b : Int} (hb : 0 < b) : (0 : Int) < ((Nat.gcd t.natAbs b.natAbs : Nat) : Int) := by
  have := Nat.gcd_pos_of_pos_right t.natAbs (n := b.natAbs) (by omega)
  omega
theorem gcd_le {t b : Int} (hb : 0 < b) : ((Nat.gcd t.natAbs b.natAbs : Nat) : Int) ≤ b := by
  have := Nat.gcd_le_right t.natAbs (n := b.natAbs) (by omega)
  omega
theorem add_is (r s : Rat) : Rat.divInt (r.num * (s.den : Int) + s.num * (r.den : Int)) ((r.den : Int) * (s.den : Int)) = r + s := by
  have h1 := den_pos r
  have h2 := den_pos s
  rw [← Rat.divInt_add_divInt r.num s.num (by omega) (by omega), Rat.num_divInt_den, Rat.num_divInt_den]
theorem mul_is (r s : Rat) : Rat.divInt (r.num * s.num) ((r.den : Int) * (s.den : Int)) = r * s := by
  rw [← Rat.divInt_mul_divInt r.num s.num, Rat.num_divInt_den, Rat.num_divInt_den]
theorem natAbs_ediv_le (a b : Int) : (a / b).natAbs ≤ a.natAbs := Int.natAbs_ediv_le_natAbs a b
/-- the size of a quotient by the shared part -/
theorem sz_div {t b : Int} {n d : Nat} (hb : 0 < b) (ht : t.natAbs < 2 ^ n) (hz : b.natAbs < 2 ^ d) : Sz n d (Rat.divInt t b) := by
  constructor
  · rw [← num_div hb]
    exact Nat.lt_of_le_of_lt (natAbs_ediv_le _ _) ht
  · have h := den_div (t := t) hb
    have h2 := natAbs_ediv_le b ((Nat.gcd t.natAbs b.natAbs : Nat) : Int)
    rw [h] at h2
    have : ((Rat.divInt t b).den : Int).natAbs = (Rat.divInt t b).den := Int.natAbs_natCast _
    omega
theorem lt_mul {a b : Nat} {i j : Int} (ha : i.natAbs < 2 ^ a) (hb : j.natAbs < 2 ^ b) : (i * j).natAbs < 2 ^ (a + b) := by
  rw [Int.natAbs_mul, Nat.pow_add]
  exact Nat.mul_lt_mul'' ha hb
theorem lt_add {n : Nat} {i j : Int} (ha : i.natAbs < 2 ^ n) (hb : j.natAbs < 2 ^ n) : (i + j).natAbs < 2 ^ (n + 1) := by
  have := Int.natAbs_add_le i j
  rw [Nat.pow_succ]
  omega
theorem lt_mono {n m : Nat} {i : Nat} (h : i < 2 ^ n) (hm : n ≤ m) : i < 2 ^ m := Nat.lt_of_lt_of_le h (Nat.pow_le_pow_right (by decide) hm)
theorem Sz.mono {n m d e : Nat} {r : Rat} (h : Sz n d r) (hm : n ≤ m) (he : d ≤ e) : Sz m e r := ⟨lt_mono h.1 hm, lt_mono h.2 he⟩
theorem Sz.den {n d : Nat} {r : Rat} (h : Sz n d r) : ((r.den : Int)).natAbs < 2 ^ d := by
  rw [Int.natAbs_natCast]
  exact h.2
theorem sz_add {n d m e N : Nat} {r s : Rat} (hr : Sz n d r) (hs : Sz m e s) (h1 : n + e ≤ N := by omega) (h2 : m + d ≤ N := by omega) : Sz (N + 1) (d + e) (r + s) := by
  rw [← add_is]
  have k1 := lt_mono (lt_mul hr.1 hs.den) h1
  have k2 := lt_mono (lt_mul hs.1 hr.den) h2
  have k3 := lt_mul hr.den hs.den
  exact sz_div (Int.mul_pos (den_pos r) (den_pos s)) (lt_add k1 k2) k3
theorem sz_mul {n d m e : Nat} {r s : Rat} (hr : Sz n d r) (hs : Sz m e s) : Sz (n + m) (d + e) (r * s) := by
  rw [← mul_is]
  exact sz_div (Int.mul_pos (den_pos r) (den_pos s)) (lt_mul hr.1 hs.1) (lt_mul hr.den hs.den)
theorem sz_zero : Sz 1 1 (0 : Rat) := ⟨by decide, by decide⟩
theorem sz_one : Sz 1 1 (1 : Rat) := ⟨by decide, by decide⟩
/-! ### rows -/
/-- what a row weighs another one -/
def weighs (l : List (Rat × Rat)) : Rat := l.foldl (fun t p => t + p.1 * p.2) 0
theorem foldl_weigh : ∀ (l : List (Rat × Rat)) (t : Rat), l.foldl (fun t p => t + p.1 * p.2) t = t + weighs l
  | [], t => by simp [weighs, Rat.add_zero]
  | p :: r, t => by
    unfold weighs
    simp only [List.foldl_cons]
    rw [foldl_weigh r, foldl_weigh r (0 + p.1 * p.2)]
    grind
theorem weighs_cons (p : Rat × Rat) (r : List (Rat × Rat)) : weighs (p :: r) = p.1 * p.2 + weighs r := by
  unfold weighs
  simp only [List.foldl_cons]
  rw [foldl_weigh r]
  unfold weighs
  grind
theorem weighs_take {l : List (Rat × Rat)} {i : Nat} {p : Rat × Rat} (h : l[i]? = some p) : weighs (l.take (i + 1)) = weighs (l.take i) + p.1 * p.2 := by
  unfold weighs
  rw [List.take_add_one, h, List.foldl_append]
  rfl
theorem weighs_add : ∀ (a b c : List Rat), a.length = b.length → weighs (((a.zip b).map fun p => p.1 + p.2).zip c) = weighs (a.zip c) + weighs (b.zip c)
  | [], [], c, _ => by simp [weighs, Rat.add_zero]
  | x :: a, y :: b, [], _ => by simp [weighs, Rat.add_zero]
  | x :: a, y :: b, z :: c, h => by
    have ih := weighs_add a b c (by simpa using h)
    simp only [List.zip_cons_cons, List.map_cons, weighs_cons]
    rw [ih]
    grind
theorem weighs_mul (by_ : Rat) : ∀ (a c : List Rat), weighs ((a.map fun x => by_ * x).zip c) = by_ * weighs (a.zip c)
  | [], c => by simp [weighs, Rat.mul_zero]
  | x :: a, [] => by simp [weighs, Rat.mul_zero]
  | x :: a, z :: c => by
    have ih := weighs_mul by_ a c
    simp only [List.zip_cons_cons, List.map_cons, weighs_cons]
    rw [ih]
    grind
/-! ### sums: a row and a number -/
abbrev Sum2 := List Rat × Rat
def tells (s : Sum2) (row : List Rat) : Rat := weighs (s.1.zip row) + s.2
def splus (s t : Sum2) : Sum2 := ((s.1.zip t.1).map fun p => p.1 + p.2, s.2 + t.2)
def stimes (q : Rat) (s : Sum2) : Sum2 := (s.1.map fun x => q * x, q * s.2)
theorem tells_splus (s t : Sum2) (row : List Rat) (h : s.1.length = t.1.length) : tells (splus s t) row = tells s row + tells t row := by
  unfold tells splus
  simp only
  rw [weighs_add _ _ _ h]
  grind
theorem tells_stimes (q : Rat) (s : Sum2) (row : List Rat) : tells (stimes q s) row = q * tells s row := by
  unfold tells stimes
  simp only
  rw [weighs_mul]
  grind
theorem splus_comm (s t : Sum2) : splus s t = splus t s := by
  unfold splus
  have : (s.1.zip t.1).map (fun p => p.1 + p.2) = (t.1.zip s.1).map fun p => p.1 + p.2 := by
    apply List.ext_getElem
    · simp [Nat.min_comm]
    · intro i h1 h2
      simp only [List.getElem_map, List.getElem_zip]
      exact Rat.add_comm _ _
  rw [this, Rat.add_comm]
/-- all of a row below a size -/
def SzL (n d : Nat) (l : List Rat) : Prop := ∀ r ∈ l, Sz n d r
theorem sz_weighs {n d m e : Nat} (hn : d ≤ n) (hm : e ≤ m) : ∀ (i : Nat) (l : List (Rat × Rat)), i ≤ l.length → (∀ p ∈ l, Sz n d p.1 ∧ Sz m e p.2) → Sz (1 + i * (n + m + 1)) (1 + i * (d + e)) (weighs (l.take i))
  | 0, l, _, _ => by simpa [weighs] using sz_zero
  | i + 1, l, h, hl => by
    have ih := sz_weighs hn hm i l (by omega) hl
    have e1 : l[i]? = some l[i] := List.getElem?_eq_getElem (by omega)
    rw [weighs_take e1]
    have hp := hl l[i] (List.getElem_mem _)
    have le : i * (d + e) ≤ i * (n + m + 1) := Nat.mul_le_mul_left i (by omega)
    have := sz_add (N := i * (n + m + 1) + (n + m + 1)) ih (sz_mul hp.1 hp.2) (by omega) (by omega)
    exact this.mono (by rw [Nat.add_mul]; omega) (by rw [Nat.add_mul]; omega)
theorem sz_of_weighs {n d m e : Nat} {a b : List Rat} (hn : d ≤ n) (hm : e ≤ m) (ha : SzL n d a) (hb : SzL m e b) (hl : a.length = b.length) : Sz (1 + a.length * (n + m + 1)) (1 + a.length * (d + e)) (weighs (a.zip b)) := by
  have h := sz_weighs hn hm a.length (a.zip b) (by rw [List.length_zip]; omega) (fun p hp => ⟨ha _ (List.of_mem_zip hp).1, hb _ (List.of_mem_zip hp).2⟩)
  rwa [List.take_of_length_le (by rw [List.length_zip]; omega)] at h
/-! ### the greatest shared divisor, step by step -/
theorem gcd_step {a b : Int} (ha : 0 ≤ a) (hb : 0 < b) : Nat.gcd b.natAbs (a % b).natAbs = Nat.gcd a.natAbs b.natAbs := by
  have e : (a % b).natAbs = a.natAbs % b.natAbs := by
    rw [Int.natAbs_emod_of_nonneg ha]
  rw [e, Nat.gcd_comm a.natAbs, Nat.gcd_rec b.natAbs a.natAbs, Nat.gcd_comm]
end Nc
end
section
set_option maxRecDepth 100000
set_option maxHeartbeats 4000000
namespace Nc
open PySem L2 Evl PyProof.Rows
/-! ### what stands for a fraction, a row, a sum -/
def FrV (K : PySem.W.Frag) (H : Hp) (v : V) (r : Rat) : Prop := ∃ t, v = .ref t ∧ SqT K H t [.int r.num, .int (r.den : Int)]
abbrev FrL (K : PySem.W.Frag) (H : Hp) : List V → List Rat → Prop := Paired (FrV K H)
def RowV (K : PySem.W.Frag) (H : Hp) (v : V) (rs : List Rat) : Prop := ∃ t xs, v = .ref t ∧ SqT K H t xs ∧ FrL K H xs rs
def SumV (K : PySem.W.Frag) (H : Hp) (v : V) (s : Sum2) : Prop := ∃ t a b, v = .ref t ∧ SqT K H t [a, b] ∧ RowV K H a s.1 ∧ FrV K H b s.2
variable {K : PySem.W.Frag} {H H' : Hp}
theorem FrV.ex {v : V} {r : Rat} (e : Ex H H') (h : FrV K H v r) : FrV K H' v r := by
  obtain ⟨t, rfl, q⟩ := h
  exact ⟨t, rfl, ex_t e q⟩
theorem pmono {α β : Type} {F G : α → β → Prop} (h : ∀ a b, F a b → G a b) : ∀ {xs : List α} {ys : List β}, Paired F xs ys → Paired G xs ys
  | _, _, .nil => .nil
  | _, _, .cons a t => .cons (h _ _ a) (pmono h t)
theorem FrL.ex {xs : List V} {rs : List Rat} (e : Ex H H') (h : FrL K H xs rs) : FrL K H' xs rs := pmono (fun _ _ => FrV.ex e) h
theorem RowV.ex {v : V} {rs : List Rat} (e : Ex H H') (h : RowV K H v rs) : RowV K H' v rs := by
  obtain ⟨t, xs, rfl, q, l⟩ := h
  exact ⟨t, xs, rfl, ex_t e q, FrL.ex e l⟩
theorem SumV.ex {v : V} {s : Sum2} (e : Ex H H') (h : SumV K H v s) : SumV K H' v s := by
  obtain ⟨t, a, b, rfl, q, l, n⟩ := h
  exact ⟨t, a, b, rfl, ex_t e q, l.ex e, n.ex e⟩
theorem pget {α β : Type} {F : α → β → Prop} : ∀ {xs : List α} {ys : List β} {i : Nat} {x : α}, Paired F xs ys → xs[i]? = some x → ∃ y, ys[i]? = some y ∧ F x y
  | _, _, _, _, .nil, e => by simp at e
  | _, _, 0, _, .cons r _, e => by simp at e; subst e; exact ⟨_, rfl, r⟩
  | _, _, i + 1, x, .cons _ t, e => by
    obtain ⟨u, h1, h2⟩ := pget (i := i) (x := x) t (by simpa using e)
    exact ⟨u, by simpa using h1, h2⟩
theorem pget' {α β : Type} {F : α → β → Prop} : ∀ {xs : List α} {ys : List β} {i : Nat} {y : β}, Paired F xs ys → ys[i]? = some y → ∃ x, xs[i]? = some x ∧ F x y
  | _, _, _, _, .nil, e => by simp at e
  | _, _, 0, _, .cons r _, e => by simp at e; subst e; exact ⟨_, rfl, r⟩
  | _, _, i + 1, y, .cons _ t, e => by
    obtain ⟨u, h1, h2⟩ := pget' (i := i) (y := y) t (by simpa using e)
    exact ⟨u, by simpa using h1, h2⟩
/-! ### data -/
def fd (r : Rat) : PyData := .tuple [.int r.num, .int (r.den : Int)]
def sd (s : Sum2) : PyData := .tuple [.tuple (s.1.map fd), fd s.2]
theorem FrV.dp {v : V} {r : Rat} (h : FrV K H v r) : Dp K H v (fd r) := by
  obtain ⟨t, rfl, q⟩ := h
  exact .tup q (.cons (.int _) (.cons (.int _) .nil))
theorem FrL.dp : ∀ {xs : List V} {rs : List Rat}, FrL K H xs rs → DpAll K H xs (rs.map fd)
  | _, _, .nil => .nil
  | _, _, .cons a t => .cons a.dp (FrL.dp t)
theorem RowV.dp {v : V} {rs : List Rat} (h : RowV K H v rs) : Dp K H v (.tuple (rs.map fd)) := by
  obtain ⟨t, xs, rfl, q, l⟩ := h
  exact .tup q (FrL.dp l)
theorem SumV.dp {v : V} {s : Sum2} (h : SumV K H v s) : Dp K H v (sd s) := by
  obtain ⟨t, a, b, rfl, q, l, n⟩ := h
  exact .tup q (.cons l.dp (.cons n.dp .nil))
/-! ### shapes -/
theorem lay_fd (r : Rat) : (fd r).canLay0 = true := rfl
theorem layAll_fd : ∀ rs : List Rat, PyData.canLayAll0 (rs.map fd) = true
  | [] => rfl
  | r :: rs => by
    show ((fd r).canLay0 && PyData.canLayAll0 (rs.map fd)) = true
    rw [layAll_fd rs]
    rfl
end Nc
end
section
set_option maxRecDepth 100000
set_option maxHeartbeats 4000000
namespace Nc
open PySem L2 Evl PyProof.Rows
/-! ### a def of the top, with and without its promise -/
structure Df (K : PySem.W.Frag) (mg : Str → Option Value) (x : Str) (st : Stmt) (ps : List Str) : Prop where
  ex : ∃ f fd, mg x = some (.ref f) ∧ Fun K x x st f fd ∧ Binds K fd ps []
structure Ok (P : Program) (w : World) (K : PySem.W.Frag) (mg : Str → Option Value) (base : Heap) (k : Nat) (x : Str) (ps : List Str) (sp : Sp) : Prop where
  ex : ∃ f fd, mg x = some (.ref f) ∧ PySem.W.keepIn K (.ref f) = true ∧ FnOk P w K mg base CX0 k f fd ps sp ∧ Binds K fd ps []
theorem Df.ok {P : Program} {w : World} {K : PySem.W.Frag} {mg : Str → Option Value} {base : Heap} {k : Nat} {x : Str} {st : Stmt} {ps : List Str} {sp : Sp} (D : Df K mg x st ps)
    (h : ∀ f fd, Fun K x x st f fd → FnOk P w K mg base CX0 k f fd ps sp) : Ok P w K mg base k x ps sp := by
  obtain ⟨f, fd, g, F, b⟩ := D.ex
  exact ⟨f, fd, g, F.kp, h f fd F, b⟩
theorem Ok.mono {P : Program} {w : World} {K : PySem.W.Frag} {mg : Str → Option Value} {base : Heap} {j k : Nat} {x : Str} {ps : List Str} {sp : Sp} (D : Ok P w K mg base j x ps sp) (h : j ≤ k) : Ok P w K mg base k x ps sp := by
  obtain ⟨f, fd, g, kp, F, b⟩ := D.ex
  exact ⟨f, fd, g, kp, F.mono h, b⟩
theorem Df.of {K : PySem.W.Frag} {h : Heap} {mg : Str → Option Value} (X : K.In h) (G : h.Ns mainGlobals mg) {x : Str} {st : Stmt} {ps : List Str} {f : Addr} {oc : Value} {od an : Option Addr} {osl : Array (Option Value)} {kV doc pm cdv ct : Value}
    (a : PySem.W.nsIn K mainGlobals x = some (some (.ref f))) (l : K.lookup f = some ⟨oc, od, .func (PySem.W.fnOf x x (defArgs st) (defBody st) (defScope st) .none kV doc pm an cdv ct), osl⟩)
    (c : PySem.W.codeIn K cdv x = true) (k : PySem.W.keepIn K (.ref f) = true)
    (hb : ∀ (kV doc pm : Value) (an : Option Addr) (cdv ct : Value) (us : List Value), us.length = ps.length → bindArgs (PySem.W.fnOf x x (defArgs st) (defBody st) (defScope st) .none kV doc pm an cdv ct) ⟨us, []⟩ = pure (ps.zip us)) : Df K mg x st ps :=
  have F := fun_mk (st := st) l c k
  ⟨f, _, PySem.W.mg_of X G a, F, F.binds hb⟩
section
variable {X : Cx} {k : Nat} {x : Str} {ps : List Str} {sp : Sp} {e : Expr} {es : List Expr} {t : TA} {p pos : Pos}
/-- a call of such a def -/
theorem cl (D : Ok X.prog X.w X.K X.mg X.base k x ps sp) (hr : Room k X.A) (ha : PA X (e :: es) t) (hg : Gl X x := by rfl) (hdb : (x == ("__debug__" : Str)) = false := by decide)
    (he : starEach (e :: es) X.env = (false, eval e X.env) :: starEach es X.env := by rfl) (hpl : (backTo pos (starEach es X.env)).any (·.1) = false := by rfl) : PE X (.Call (.Name x p) (e :: es) [] pos) (tCall sp [] E0 t) := by
  obtain ⟨f, fd, g, kp, F, b⟩ := D.ex
  exact pe_call F hr hg g kp b .nil pass0 ha hdb he hpl
end
/-! ### small facts -/
theorem at0 {a : V} {l : List V} : atI (a :: l) 0 = some a := atI_nat (j := 0) rfl
theorem at1 {a b : V} {l : List V} : atI (a :: b :: l) 1 = some b := atI_nat (j := 1) rfl
theorem at2 {a b c : V} {l : List V} : atI (a :: b :: c :: l) 2 = some c := atI_nat (j := 2) rfl
theorem at3 {a b c d : V} {l : List V} : atI (a :: b :: c :: d :: l) 3 = some d := atI_nat (j := 3) rfl
theorem at_mem {xs : List V} {d : Int} (h0 : 0 ≤ d) (h1 : d < xs.length) : ∃ v, atI xs d = some v ∧ v ∈ xs := by
  have h : d.toNat < xs.length := by omega
  refine ⟨xs[d.toNat], ?_, List.getElem_mem _⟩
  have e : d = (d.toNat : Int) := by omega
  have q : atI xs (d.toNat : Int) = some xs[d.toNat] := atI_nat (List.getElem?_eq_getElem h)
  rw [← e] at q
  exact q
theorem mulOk {i j : Int} {a b : Nat} (ha : i.natAbs < 2 ^ a) (hb : j.natAbs < 2 ^ b) (h0 : 0 < a := by omega) (h1 : 0 < b := by omega) (h : a + b ≤ 1000000 := by omega) : CMulW i j := wide_mul ha hb h0 h1 h
section
variable {K : PySem.W.Frag} {σ : L2.St} {H : Hp}
/-- an item of a tuple that stands in a slot -/
theorem ix0 {i : Nat} {t : Addr} {a : V} {l : List V} (hs : σ[i]? = some (some (.ref t))) (q : SqT K H t (a :: l)) : Ev (tOp (rIxT K) (tVar i) (tC (.int 0))) σ H a := ev_op (ev_var hs) ev_c (rv_ixT q at0)
theorem ix1 {i : Nat} {t : Addr} {a b : V} {l : List V} (hs : σ[i]? = some (some (.ref t))) (q : SqT K H t (a :: b :: l)) : Ev (tOp (rIxT K) (tVar i) (tC (.int 1))) σ H b := ev_op (ev_var hs) ev_c (rv_ixT q at1)
end
theorem ix_tK {X : Cx} (K : PySem.W.Frag) (h : X.K = K := by rfl) : IxR X (rIxT K) := by
  subst h
  exact ix_tup
theorem ix_lK {X : Cx} (K : PySem.W.Frag) (h : X.K = K := by rfl) : IxR X (rIxL K) := by
  subst h
  exact ix_list
/-! ### promises of the fractions' defs -/
/-- a fraction of two whole numbers, the bottom above nought -/
def spPart (K : PySem.W.Frag) : Sp := fun vs H Q _ => ∃ (t b : Int) (n : Nat), vs = [.int t, .int b] ∧ 0 < b ∧ b.natAbs < 2 ^ n ∧ 0 < n ∧ n ≤ 9000 ∧ ∀ v H', Ex H H' → FrV K H' v (Rat.divInt t b) → Q v H'
/-- two fractions, a third one of them -/
def sp2 (g : Rat → Rat → Rat) (K : PySem.W.Frag) : Sp := fun vs H Q _ => ∃ (x y : V) (r s : Rat) (n d m e : Nat), vs = [x, y] ∧ FrV K H x r ∧ FrV K H y s ∧ Sz n d r ∧ Sz m e s ∧ (0 < n ∧ 0 < d ∧ 0 < m ∧ 0 < e ∧ d + e ≤ 8900 ∧ n + m + d + e ≤ 900000) ∧ ∀ v H', Ex H H' → FrV K H' v (g r s) → Q v H'
abbrev spPlus := sp2 (· + ·)
abbrev spTimes := sp2 (· * ·)
/-- a made pair is a fraction -/
theorem made {K : PySem.W.Frag} {H : Hp} {p : Addr} {a b : Int} {r : Rat} (e1 : a = r.num) (e2 : b = (r.den : Int)) : FrV K (upd H p (.tup [.int a, .int b])) (.ref p) r := ⟨p, rfl, by rw [e1, e2]; exact st_of upd_same⟩
/-- what one row weighs another -/
def spWeigh (K : PySem.W.Frag) : Sp := fun vs H Q _ => ∃ (x y : V) (rs ss : List Rat) (n d m e : Nat), vs = [x, y] ∧ RowV K H x rs ∧ RowV K H y ss ∧ rs.length = ss.length ∧ SzL n d rs ∧ SzL m e ss ∧
  (0 < d ∧ 0 < e ∧ d ≤ n ∧ e ≤ m ∧ 1 + rs.length * (d + e) ≤ 8900 ∧ 1 + rs.length * (n + m + 1) ≤ 400000) ∧ ∀ v H', Ex H H' → FrV K H' v (weighs (rs.zip ss)) → Q v H'
/-- what a sum tells at a row -/
def spTells (K : PySem.W.Frag) : Sp := fun vs H Q _ => ∃ (x y : V) (s : Sum2) (ss : List Rat) (n d m e : Nat), vs = [x, y] ∧ SumV K H x s ∧ RowV K H y ss ∧ s.1.length = ss.length ∧ SzL n d s.1 ∧ Sz n d s.2 ∧ SzL m e ss ∧
  (0 < d ∧ 0 < e ∧ d ≤ n ∧ e ≤ m ∧ 1 + s.1.length * (d + e) + d ≤ 8900 ∧ 1 + s.1.length * (n + m + 1) ≤ 400000 ∧ n ≤ 400000) ∧ ∀ v H', Ex H H' → FrV K H' v (tells s ss) → Q v H'
/-- a module's constant that is a fraction -/
structure Cst (K : PySem.W.Frag) (mg : Str → Option Value) (x : Str) (r : Rat) : Prop where
  ex : ∃ a, mg x = some (.ref a) ∧ ∀ H, FrV K H (.ref a) r
end Nc
end
section
set_option maxRecDepth 100000
set_option maxHeartbeats 4000000
namespace Nc
open PySem PySem.Spec PyProof.Rows L2
theorem tuple_mul1 (l : Addr) (items : Array Value) (n : Nat) (dd : Option Addr) (sl : Array (Option Value)) (u : Tok) :
    Meets (Builtin.«tuple.__mul__» ⟨[.ref l, .int 1 u], []⟩) (fun _ R s => s.heap.get? l = some { cls := .type "tuple", dict := dd, data := .seq items n, slots := sl } ∧
      R (.ok (.ret (Value.ref l))) s) :=
  .of_wp fun prog w A R s h => by
    obtain ⟨hp, g, d, tk, os⟩ := s
    obtain ⟨hl, h⟩ := h
    have f1 := AutoSeq1.idx_int
    wp_walk using wpAny_loadPart' hl
    repeat (first
      | (refine wpAny_ite_true (by simp) ?_; wp_walk using wpAny_loadPart' hl)
      | (refine wpAny_ite_false (by simp) ?_; wp_walk using wpAny_loadPart' hl))
    exact ⟨_, rfl, h⟩
theorem tuple_mul0 (l : Addr) (items : Array Value) (n : Nat) (dd : Option Addr) (sl : Array (Option Value)) (u : Tok) (c1 : items.isEmpty = false) :
    Meets (Builtin.«tuple.__mul__» ⟨[.ref l, .int 0 u], []⟩) (fun _ R s => s.heap.get? l = some { cls := .type "tuple", dict := dd, data := .seq items n, slots := sl } ∧
      R (.ok (.ret (Value.ref s.heap.objs.size))) { s with heap := s.heap.push { cls := Value.type "tuple", data := Data.seq #[] }, toks := s.toks }) :=
  .of_wp fun prog w A R s h => by
    obtain ⟨hp, g, d, tk, os⟩ := s
    obtain ⟨hl, h⟩ := h
    have f1 := AutoSeq1.idx_int
    wp_walk using wpAny_loadPart' hl
    repeat (first
      | (refine wpAny_ite_true (by simp) ?_; wp_walk using wpAny_loadPart' hl)
      | (refine wpAny_ite_false (by simp [c1]) ?_; wp_walk using wpAny_loadPart' hl))
    exact ⟨_, rfl, h⟩
def rRepA (K : PySem.W.Frag) : R2 := fun x y H Q => ∃ l k xs, x = .ref l ∧ y = .int k ∧ SqT K H l xs ∧ xs ≠ [] ∧ 0 ≤ k ∧ k ≤ 1000 ∧ xs.length ≤ 1000 ∧ ∀ p H', Evl.Ex H H' → SqT K H' p (List.replicate k.toNat xs).flatten → Q (.ref p) H'
theorem op_repA {X : Cx} : OpR X (binaryOp .Mult) (rRepA X.K) := by
  intro pins s σ H x y v u Q I rx ry h
  obtain ⟨l, k, xs, rfl, rfl, hT, hne, h1, h2, hz, q⟩ := h
  by_cases h3 : 2 ≤ k
  · exact op_repT pins s σ H _ _ v u Q I rx ry ⟨l, k, xs, rfl, rfl, hT, hne, h3, h2, hz, fun p hp => q p _ (Evl.Ex.new hp) (Evl.st_of upd_same)⟩
  cases rx
  obtain ⟨t, rfl⟩ := ry
  obtain ⟨its, r, ⟨⟨cls, dd, data, sl⟩, ho, hc, n, hd⟩, hs⟩ := I.tuple hT
  simp only at hc hd
  subst hc hd
  have hle : its.length = xs.length := r.length.symm
  have hn : its ≠ [] := fun e => hne (by
    rw [e] at hle
    exact List.eq_nil_of_length_eq_zero hle.symm)
  have hi : its.toArray.isEmpty = false := by
    cases its with
    | nil => exact absurd rfl hn
    | cons a b => rfl
  by_cases h4 : k = 1
  · subst h4
    refine wpAny_binaryOp_repeat_ref (T := "tuple") (U := "int") (by decide) ⟨_, ho, rfl⟩ (fun s' => typeIs_int s' 1 t) noFill_tuple_mul F.fills_int_mul F.slot_int_rmul repeat_tuple F.slot_int_index.lookup
      (call_meets F.slot_int_rmul (typeIs_int s 1 t) F.entry_int_rmul (F.args_int_rmul_2 _ _) (int_rmul_tuple 1 t l its.toArray n dd sl)
        ⟨ho, rfl, ⟨_, ho, rfl⟩, call_meets F.slot_tuple_mul ⟨_, ho, rfl⟩ F.entry_tuple_mul (F.args_tuple_mul_2 _ _) (tuple_mul1 l its.toArray n dd sl t) ⟨ho, ?_⟩⟩)
    refine ⟨.ref l, H, I, rfl, q l H (Evl.Ex.refl H) ?_⟩
    have e : (List.replicate (1 : Int).toNat xs).flatten = xs := by simp
    rw [e]
    exact hT
  · have h5 : k = 0 := by omega
    subst h5
    refine wpAny_binaryOp_repeat_ref (T := "tuple") (U := "int") (by decide) ⟨_, ho, rfl⟩ (fun s' => typeIs_int s' 0 t) noFill_tuple_mul F.fills_int_mul F.slot_int_rmul repeat_tuple F.slot_int_index.lookup
      (call_meets F.slot_int_rmul (typeIs_int s 0 t) F.entry_int_rmul (F.args_int_rmul_2 _ _) (int_rmul_tuple 0 t l its.toArray n dd sl)
        ⟨ho, rfl, ⟨_, ho, rfl⟩, call_meets F.slot_tuple_mul ⟨_, ho, rfl⟩ F.entry_tuple_mul (F.args_tuple_mul_2 _ _) (tuple_mul0 l its.toArray n dd sl t hi) ⟨ho, ?_⟩⟩)
    refine ⟨.ref s.heap.objs.size, _, I.laid (t' := s.toks) (o := .tup []) (fun b ob q => Heap.get?_push_of_some _ q) (Nat.le_refl _) ?_, rfl, q _ _ (Evl.Ex.new (I.hok.fresh (Nat.le_refl _))) (Evl.st_of upd_same)⟩
    exact ⟨Nat.zero_le _, [], .nil, IsTup.new _ _⟩
end Nc
end
section
set_option maxRecDepth 100000
set_option maxHeartbeats 4000000
namespace Nc
open PySem PySem.Spec PyProof.Rows L2 Evl
/-- a comprehension over zip of two tuples of one length -/
theorem lc_zipT {K : PySem.W.Frag} {a b : Addr} {xs ys : List V} {g : TG} {tt : TT} {te : TE} {vs : List Nat} {σ : L2.St} {H1 : Hp} {D : Addr} {Qd : Hp → Prop} (hl : xs.length = ys.length) (Pv : Nat → Hp → Prop) (h0 : Pv 0 (upd H1 D (.lst []))) (hq : ∀ i H, Pv i H → SqT K H a xs ∧ SqT K H b ys)
    (hs : ∀ (i : Nat) (x y : V) (T : Addr) (H : Hp), xs[i]? = some x → ys[i]? = some y → Pv i H → H T = none → g (.ref T) (wipe σ vs) (upd H T (.tup [x, y])) fun σ2 H2 => wipe σ2 vs = wipe σ vs ∧ tt σ2 H2 fun b H3 =>
      if b = true then te σ2 H3 fun y H4 => ∃ acc, H4 D = some (.lst acc) ∧ acc.length < sizeLine ∧ Pv (i + 1) (upd H4 D (.lst (acc ++ [y]))) else Pv (i + 1) H3) (hd : ∀ H, Pv xs.length H → Qd H) :
    ∃ W : Nat → Nat → Hp → Prop, (∃ m, W 0 m (upd H1 D (.lst []))) ∧ ∀ i m H, W i m H →
      ((RZ.ItzT K a b).stop i H ∧ Qd H) ∨ ((RZ.ItzT K a b).go i H ∧ ∃ Nx : Hp → Prop, (∀ H', Nx H' → ∃ m', m' < m ∧ W (i + 1) m' H') ∧ ∀ x H', (RZ.ItzT K a b).yld i H x H' → g x (wipe σ vs) H' fun σ2 H2 => wipe σ2 vs = wipe σ vs ∧ tt σ2 H2 fun b H3 =>
        if b = true then te σ2 H3 fun y H4 => ∃ acc, H4 D = some (.lst acc) ∧ acc.length < sizeLine ∧ Nx (upd H4 D (.lst (acc ++ [y]))) else Nx H3) := by
  refine ⟨fun i m H => m = xs.length - i ∧ i ≤ xs.length ∧ Pv i H, ⟨xs.length, rfl, Nat.zero_le _, h0⟩, ?_⟩
  rintro i m H ⟨rfl, hi, p⟩
  obtain ⟨qx, qy⟩ := hq i H p
  by_cases hlt : i < xs.length
  · have hx : xs[i]? = some xs[i] := List.getElem?_eq_getElem hlt
    have hlt2 : i < ys.length := by omega
    have hy : ys[i]? = some ys[i] := List.getElem?_eq_getElem hlt2
    refine .inr ⟨⟨xs, ys, _, _, qx, qy, hx, hy⟩, Pv (i + 1), fun H' p' => ⟨xs.length - (i + 1), by omega, rfl, hlt, p'⟩, fun v H' y => ?_⟩
    obtain ⟨T, x', y', rfl, hT, rfl, f1, f2⟩ := y
    exact hs i x' y' T H (f1 xs qx) (f2 ys qy) p hT
  · have e : i = xs.length := by omega
    subst e
    exact .inl ⟨⟨xs, ys, qx, qy, Or.inl (Nat.le_refl _)⟩, hd H p⟩
section
variable {K : PySem.W.Frag} {H H' H1 H4 : Hp} {D : Addr}
/-- a tuple stands as it stood where a list changes -/
theorem sqt_mut {t : Addr} {xs ys : List V} {o : HO} (hD : H D = some (.lst xs)) (h : SqT K H t ys) : SqT K (upd H D o) t ys := by
  rcases h with (h | ⟨ob, h⟩) | h
  · exact .inl (.inl (by rw [upd_ne (ne_of h hD (by intro z; cases z))]; exact h))
  · exact .inl (.inr ⟨ob, by rw [upd_ne (ne_of h hD (by intro z; cases z))]; exact h⟩)
  · exact .inr h
theorem FrV.mut {xs : List V} {o : HO} {v : V} {r : Rat} (hD : H D = some (.lst xs)) (h : FrV K H v r) : FrV K (upd H D o) v r := by
  obtain ⟨t, rfl, q⟩ := h
  exact ⟨t, rfl, sqt_mut hD q⟩
theorem RowV.mut {xs : List V} {o : HO} {v : V} {r : List Rat} (hD : H D = some (.lst xs)) (h : RowV K H v r) : RowV K (upd H D o) v r := by
  obtain ⟨t, ys, rfl, q, l⟩ := h
  exact ⟨t, ys, rfl, sqt_mut hD q, pmono (fun _ _ => FrV.mut hD) l⟩
theorem SumV.mut {xs : List V} {o : HO} {v : V} {s : Sum2} (hD : H D = some (.lst xs)) (h : SumV K H v s) : SumV K (upd H D o) v s := by
  obtain ⟨t, a, b, rfl, q, l, n⟩ := h
  exact ⟨t, a, b, rfl, sqt_mut hD q, l.mut hD, n.mut hD⟩
/-- what a comprehension has built of things of a kind R behind i turns -/
def Bld {α : Type} (R : Hp → V → α → Prop) (H1 : Hp) (D : Addr) (L : List α) (i : Nat) (H' : Hp) : Prop := Ex H1 H' ∧ ∃ xs, H' D = some (.lst xs) ∧ xs.length = i ∧ Paired (R H') xs (L.take i)
/-- a kind of things that stay as they are where the heap grows, where a list changes -/
structure Stays {α : Type} (R : Hp → V → α → Prop) : Prop where
  ex : ∀ {H H' v a}, Ex H H' → R H v a → R H' v a
  mt : ∀ {H D xs o v a}, H D = some (.lst xs) → R H v a → R (upd H D o) v a
theorem stF : Stays (FrV K) := ⟨FrV.ex, FrV.mut⟩
theorem stR : Stays (RowV K) := ⟨RowV.ex, RowV.mut⟩
theorem stS : Stays (SumV K) := ⟨SumV.ex, SumV.mut⟩
theorem bld0 {α : Type} {R : Hp → V → α → Prop} {L : List α} (hD : H1 D = none) : Bld R H1 D L 0 (upd H1 D (.lst [])) := ⟨Ex.new hD, [], upd_same, rfl, .nil⟩
theorem bld_step {α : Type} {R : Hp → V → α → Prop} (S : Stays R) {L : List α} {i : Nat} {v : V} {a : α} (hD : H1 D = none) (b : Bld R H1 D L i H') (e : Ex H' H4) (hi : L[i]? = some a) (hz : i < 100000) (hv : R H4 v a) :
    ∃ acc, H4 D = some (.lst acc) ∧ acc.length < sizeLine ∧ Bld R H1 D L (i + 1) (upd H4 D (.lst (acc ++ [v]))) := by
  obtain ⟨e1, xs, hx, hl, p⟩ := b
  have h4 := e D _ hx
  refine ⟨xs, h4, sz_lt (by omega), Ex.mut (e1.trans e) hD, xs ++ [v], upd_same, by simp [hl], ?_⟩
  rw [List.take_add_one, hi]
  exact Paired.snoc (pmono (fun _ _ q => S.mt h4 (S.ex e q)) p) (S.mt h4 hv)
theorem bld_end {α : Type} {R : Hp → V → α → Prop} {L : List α} {n : Nat} (hn : n = L.length) (b : Bld R H1 D L n H') : Ex H1 H' ∧ ∃ xs, H' D = some (.lst xs) ∧ Paired (R H') xs L := by
  obtain ⟨e1, xs, hx, hl, p⟩ := b
  refine ⟨e1, xs, hx, ?_⟩
  rwa [hn, List.take_length] at p
/-- the tuple made of what was built -/
theorem bld_row {L : List Rat} {n : Nat} {l : Addr} {xs : List V} (hx : H' D = some (.lst xs)) (p : FrL K H' xs L) (hl : H' l = none) : RowV K (upd H' l (.tup xs)) (.ref l) L :=
  ⟨l, xs, rfl, st_of upd_same, FrL.ex (Ex.new hl) p⟩
end
/-! ### promises of the sums' defs -/
def spSumP (K : PySem.W.Frag) : Sp := fun vs H Q _ => ∃ (x y : V) (s t : Sum2) (n d m e : Nat), vs = [x, y] ∧ SumV K H x s ∧ SumV K H y t ∧ s.1.length = t.1.length ∧ s.1.length ≤ 100 ∧ SzL n d s.1 ∧ Sz n d s.2 ∧ SzL m e t.1 ∧ Sz m e t.2 ∧
  (0 < n ∧ 0 < d ∧ 0 < m ∧ 0 < e ∧ d + e ≤ 8900 ∧ n + m + d + e ≤ 900000) ∧ ∀ v H', Ex H H' → SumV K H' v (splus s t) → Q v H'
def spSumT (K : PySem.W.Frag) : Sp := fun vs H Q _ => ∃ (x y : V) (r : Rat) (t : Sum2) (n d m e : Nat), vs = [x, y] ∧ FrV K H x r ∧ SumV K H y t ∧ t.1.length ≤ 100 ∧ Sz n d r ∧ SzL m e t.1 ∧ Sz m e t.2 ∧
  (0 < n ∧ 0 < d ∧ 0 < m ∧ 0 < e ∧ d + e ≤ 8900 ∧ n + m + d + e ≤ 900000) ∧ ∀ v H', Ex H H' → SumV K H' v (stimes r t) → Q v H'
def spFlat (K : PySem.W.Frag) : Sp := fun vs H Q _ => ∃ (k : Nat) (y : V) (r : Rat), vs = [.int (k : Int), y] ∧ FrV K H y r ∧ k ≤ 100 ∧ ∀ v H', Ex H H' → SumV K H' v (List.replicate k 0, r) → Q v H'
/-- the row with 1 at a place -/
def unit (k p : Nat) : List Rat := (List.range k).map fun i => if i = p then 1 else 0
def spPlace (K : PySem.W.Frag) : Sp := fun vs H Q _ => ∃ (k p : Nat), vs = [.int (k : Int), .int (p : Int)] ∧ k ≤ 100 ∧ ∀ v H', Ex H H' → SumV K H' v (unit k p, 0) → Q v H'
end Nc
end
section
set_option maxRecDepth 100000
set_option maxHeartbeats 4000000
namespace Nc
open PySem PySem.Spec PyProof.Rows L2 Evl
/-! ### the stream: a list of three whole numbers at s, that alone changes -/
def Stm (s : Addr) (H : Hp) : Prop := ∃ a b c : Int, H s = some (.lst [.int a, .int b, .int c])
structure Dr (s : Addr) (H H' : Hp) : Prop where
  keep : ∀ a o, a ≠ s → H a = some o → H' a = some o
  st : Stm s H'
section
variable {K : PySem.W.Frag} {s p : Addr} {H H' H2 : Hp}
theorem Dr.refl (h : Stm s H) : Dr s H H := ⟨fun _ _ _ q => q, h⟩
theorem Dr.trans (a : Dr s H H') (b : Dr s H' H2) : Dr s H H2 := ⟨fun x o hx q => b.keep x o hx (a.keep x o hx q), b.st⟩
theorem Stm.ne (h : Stm s H) (hp : H p = none) : s ≠ p := by
  obtain ⟨a, b, c, e⟩ := h
  exact ne_of_none e hp
theorem Dr.new {o : HO} (h : Stm s H) (hp : H p = none) : Dr s H (upd H p o) := ⟨fun a u ha q => by rw [upd_ne (ne_of_none q hp)]; exact q, by
  obtain ⟨a, b, c, e⟩ := id h
  exact ⟨a, b, c, by rw [upd_ne (h.ne hp)]; exact e⟩⟩
/-- another list changes -/
theorem Dr.mut {o : HO} (d : Dr s H H') (hp : H p = none) (hs : s ≠ p) : Dr s H (upd H' p o) := ⟨fun a u ha q => by rw [upd_ne (ne_of_none q hp)]; exact d.keep a u ha q, by
  obtain ⟨a, b, c, e⟩ := d.st
  exact ⟨a, b, c, by rw [upd_ne hs]; exact e⟩⟩
theorem Dr.ex (h : Stm s H) (e : Ex H H') : Dr s H H' := ⟨fun a o _ q => e a o q, by
  obtain ⟨a, b, c, q⟩ := h
  exact ⟨a, b, c, e _ _ q⟩⟩
theorem sqt_dr {t : Addr} {xs : List V} (h : Stm s H) (d : Dr s H H') (q : SqT K H t xs) : SqT K H' t xs := by
  obtain ⟨a, b, c, e⟩ := h
  rcases q with (q | ⟨o, q⟩) | q
  · exact .inl (.inl (d.keep _ _ (ne_of q e (by intro z; cases z)) q))
  · exact .inl (.inr ⟨o, d.keep _ _ (ne_of q e (by intro z; cases z)) q⟩)
  · exact .inr q
theorem FrV.dr {v : V} {r : Rat} (h : Stm s H) (d : Dr s H H') (q : FrV K H v r) : FrV K H' v r := by
  obtain ⟨t, rfl, q⟩ := q
  exact ⟨t, rfl, sqt_dr h d q⟩
theorem FrL.dr {xs : List V} {rs : List Rat} (h : Stm s H) (d : Dr s H H') (q : FrL K H xs rs) : FrL K H' xs rs := pmono (fun _ _ => FrV.dr h d) q
theorem RowV.dr {v : V} {rs : List Rat} (h : Stm s H) (d : Dr s H H') (q : RowV K H v rs) : RowV K H' v rs := by
  obtain ⟨t, xs, rfl, q, l⟩ := q
  exact ⟨t, xs, rfl, sqt_dr h d q, FrL.dr h d l⟩
theorem SumV.dr {v : V} {z : Sum2} (h : Stm s H) (d : Dr s H H') (q : SumV K H v z) : SumV K H' v z := by
  obtain ⟨t, a, b, rfl, q, l, n⟩ := q
  exact ⟨t, a, b, rfl, sqt_dr h d q, l.dr h d, n.dr h d⟩
/-- the stream's list changes -/
theorem Dr.put {xs : List V} {a b c : Int} (h : H s = some (.lst xs)) : Dr s H (upd H s (.lst [.int a, .int b, .int c])) := ⟨fun x o hx q => by rw [upd_ne hx]; exact q, ⟨a, b, c, upd_same⟩⟩
end
theorem b01 (k : Bool) : -(2 ^ 64) < (if k = true then (1 : Int) else 0) ∧ (if k = true then (1 : Int) else 0) < 2 ^ 64 := by
  cases k <;> decide
theorem modb (x : Int) {m : Int} (h : 0 < m) (hm : m ≤ 2 ^ 64) : -(2 ^ 64) < x % m ∧ x % m < 2 ^ 64 := by
  have h1 := Int.emod_nonneg x (b := m) (by omega)
  have h2 := Int.emod_lt_of_pos x h
  omega
theorem cdivT {i m : Int} (h : 0 < m) (hm : m < 2 ^ 200) : CDivW i m := wide_div (b := 200) h (by omega) (by decide) (by decide)
/-! ### promises of what is drawn -/
def spCell (K : PySem.W.Frag) : Sp := fun vs H Q _ => ∃ (a : Addr) (ns : List Int) (k : Nat), vs = [.ref a, .int (k : Int)] ∧ SqL K H a (ns.map V.int) ∧ k ≤ 100 ∧ ∀ c : Int, Q (.int c) H
def spStream : Sp := fun vs H Q _ => ∃ c : Int, vs = [.int c] ∧ ∀ s a b d, H s = none → Q (.ref s) (upd H s (.lst [.int a, .int b, .int d]))
def spTake : Sp := fun vs H Q _ => ∃ (s : Addr) (m : Int), vs = [.ref s, .int m] ∧ Stm s H ∧ 0 < m ∧ m < 2 ^ 200 ∧ ∀ d H', 0 ≤ d → d < m → Dr s H H' → Q (.int d) H'
/-- a whole number above nought, below a bound -/
def spDraw (n : Nat) : Sp := fun vs H Q _ => ∃ s : Addr, vs = [.ref s] ∧ Stm s H ∧ ∀ d H', 0 < d → d.natAbs < 2 ^ n → Dr s H H' → Q (.int d) H'
/-- a fraction of that size -/
def spNum (K : PySem.W.Frag) (n d : Nat) : Sp := fun vs H Q _ => ∃ s : Addr, vs = [.ref s] ∧ Stm s H ∧ ∀ v r H', Dr s H H' → FrV K H' v r → Sz n d r → Q v H'
/-- a row of so many -/
def spRow (K : PySem.W.Frag) (n d : Nat) : Sp := fun vs H Q _ => ∃ (s : Addr) (k : Nat), vs = [.ref s, .int (k : Int)] ∧ Stm s H ∧ k ≤ 100 ∧ ∀ v L H', Dr s H H' → RowV K H' v L → L.length = k → SzL n d L → Q v H'
end Nc
end
section
set_option maxRecDepth 100000
set_option maxHeartbeats 4000000
namespace Nc
open PySem PySem.Spec PyProof.Rows L2 Evl
theorem depthAll_fd : ∀ rs : List Rat, PyData.depthAll (rs.map fd) ≤ 1
  | [] => Nat.zero_le _
  | r :: rs => by
    have ih := depthAll_fd rs
    show max (PyData.depth (fd r)) (PyData.depthAll (rs.map fd)) ≤ 1
    have : PyData.depth (fd r) = 1 := rfl
    omega
theorem lay_row (rs : List Rat) : (PyData.tuple (rs.map fd)).canLay0 = true := layAll_fd rs
theorem shaped_row (rs : List Rat) : SeqAt.shaped (.tuple (rs.map fd)) = true := by
  unfold SeqAt.shaped
  rw [lay_row, Bool.true_and]
  refine decide_eq_true ?_
  have := depthAll_fd rs
  show PyData.depthAll (rs.map fd) + 1 ≤ 64
  omega
theorem shaped_list (rs : List Rat) : SeqAt.shaped (.list (rs.map fd)) = true := by
  unfold SeqAt.shaped
  have h : (PyData.list (rs.map fd)).canLay0 = true := layAll_fd rs
  rw [h, Bool.true_and]
  refine decide_eq_true ?_
  have := depthAll_fd rs
  show PyData.depthAll (rs.map fd) + 1 ≤ 64
  omega
theorem shaped_fd (r : Rat) : SeqAt.shaped (fd r) = true := rfl
theorem lay_sd (s : Sum2) : (sd s).canLay0 = true := by
  show ((PyData.tuple (s.1.map fd)).canLay0 && ((fd s.2).canLay0 && true)) = true
  rw [lay_row]
  rfl
theorem shaped_sd (s : Sum2) : SeqAt.shaped (sd s) = true := by
  unfold SeqAt.shaped
  rw [lay_sd, Bool.true_and]
  refine decide_eq_true ?_
  have h1 := depthAll_fd s.1
  have h2 : PyData.depth (fd s.2) = 1 := rfl
  show max (PyData.depthAll (s.1.map fd) + 1) (max (PyData.depth (fd s.2)) 0) + 1 ≤ 64
  omega
theorem eqv_sd (s : Sum2) : PyData.eqv (sd s) (sd s) = true := SeqAt.eqv_refl _ (lay_sd s)
theorem eqv_fd (r : Rat) : PyData.eqv (fd r) (fd r) = true := SeqAt.eqv_refl _ rfl
theorem eqv_row (rs : List Rat) : PyData.eqv (.tuple (rs.map fd)) (.tuple (rs.map fd)) = true := SeqAt.eqv_refl _ (lay_row rs)
theorem eqv_list (rs : List Rat) : PyData.eqv (.list (rs.map fd)) (.list (rs.map fd)) = true := SeqAt.eqv_refl _ (layAll_fd rs)
/-- a tuple's type -/
theorem tyT {K : PySem.W.Frag} {H : Hp} {t : Addr} {xs : List V} (q : SqT K H t xs) : TyX K H (.ref t) (.type "tuple") := by
  rcases q with (q | ⟨o, q⟩) | ⟨o, its, n, h, hc, _⟩
  · exact .base (.tup q)
  · exact .fTuple q
  · exact .kTuple h hc
theorem tyI {K : PySem.W.Frag} {H : Hp} (i : Int) : TyX K H (.int i) (.type "int") := .base (.int i)
theorem sz_tells {n d m e : Nat} {s : Sum2} {row : List Rat} (hn : d ≤ n) (hm : e ≤ m) (ha : SzL n d s.1) (hb : SzL m e row) (hc : Sz n d s.2) (hl : s.1.length = row.length) : Sz (1 + s.1.length * (n + m + 1) + n + 1) (1 + s.1.length * (d + e) + d) (tells s row) := by
  have h := sz_of_weighs hn hm ha hb hl
  have le : s.1.length * (d + e) ≤ s.1.length * (n + m + 1) := Nat.mul_le_mul_left _ (by omega)
  exact sz_add (N := 1 + s.1.length * (n + m + 1) + n) h hc (by omega) (by omega)
theorem len_splus (s t : Sum2) (h : s.1.length = t.1.length) : (splus s t).1.length = s.1.length := by
  unfold splus
  simp
  omega
theorem len_stimes (q : Rat) (s : Sum2) : (stimes q s).1.length = s.1.length := by
  unfold stimes
  simp
theorem szl_splus {n d m e N : Nat} {s t : Sum2} (h1 : SzL n d s.1) (h2 : SzL m e t.1) (k1 : n + e ≤ N := by omega) (k2 : m + d ≤ N := by omega) : SzL (N + 1) (d + e) (splus s t).1 := by
  intro r hr
  unfold splus at hr
  obtain ⟨p, hp, rfl⟩ := List.mem_map.mp hr
  have := List.of_mem_zip hp
  exact sz_add (h1 _ this.1) (h2 _ this.2)
theorem szl_stimes {n d m e : Nat} {q : Rat} {s : Sum2} (h1 : Sz n d q) (h2 : SzL m e s.1) : SzL (n + m) (d + e) (stimes q s).1 := by
  intro r hr
  unfold stimes at hr
  obtain ⟨p, hp, rfl⟩ := List.mem_map.mp hr
  exact sz_mul h1 (h2 _ hp)
/-- the found sum is the due one, by its own kinds -/
def spWhole (K : PySem.W.Frag) : Sp := fun vs H Q _ => ∃ (x y : V) (s : Sum2), vs = [x, y] ∧ SumV K H x s ∧ SumV K H y s ∧ s.1.length ≤ 100 ∧ ∀ H', Ex H H' → Q (.bl true) H'
def spPlaces : Sp := fun vs H Q _ => ∃ k : Nat, vs = [.int (k : Int)] ∧ k ≤ 100 ∧ ∀ H', Ex H H' → Q (.bl true) H'
/-- all goes well, the stream alone changes -/
def spRight : Sp := fun vs H Q _ => ∃ s : Addr, vs = [.ref s] ∧ Stm s H ∧ ∀ H', (∀ a o, a ≠ s → H a = some o → H' a = some o) → Q (.bl true) H'
def spLaw (K : PySem.W.Frag) : Sp := fun vs H Q _ => ∃ (a : Addr) (ns : List Int), vs = [.ref a] ∧ SqL K H a (ns.map V.int) ∧ ns.length ≤ 63 ∧ ∀ H', Q (.bl true) H'
end Nc
end
set_option maxRecDepth 100000
set_option maxHeartbeats 4000000
namespace Nc
open PySem PySem.Spec PyProof.Rows L2 Evl
section
variable {K : PySem.W.Frag} {H H' : Hp}
/-! ### nodes, layers -/
def NodesV (K : PySem.W.Frag) (H : Hp) (v : V) (zs : List Sum2) : Prop := ∃ t xs, v = .ref t ∧ SqT K H t xs ∧ Paired (SumV K H) xs zs
theorem NodesV.ex {v : V} {zs : List Sum2} (e : Ex H H') (h : NodesV K H v zs) : NodesV K H' v zs := by
  obtain ⟨t, xs, rfl, q, l⟩ := h
  exact ⟨t, xs, rfl, ex_t e q, pmono (fun _ _ => SumV.ex e) l⟩
def NodeOk (n : Nat) (zs : List Sum2) : Prop := ∀ z ∈ zs, z.1.length = n ∧ SzL 100 100 z.1 ∧ Sz 100 100 z.2
def LayerAt (C : Addr) (H : Hp) (p : Addr) (v : V) : Prop := ∃ dx, H p = some (.ins C dx [(("_nodes" : Str), v)])
theorem LayerAt.ex {C p : Addr} {v : V} (e : Ex H H') (h : LayerAt C H p v) : LayerAt C H' p v := by
  obtain ⟨dx, h⟩ := h
  exact ⟨dx, e _ _ h⟩
def cutR (r : Rat) : Rat := if r.num < 0 then 0 else r
def passR (c : Bool) (l : List Rat) : List Rat := if c = true then l.map cutR else l
/-! ### methods -/
structure Md (K : PySem.W.Frag) (C : Addr) (m qual : Str) (st : Stmt) (ps : List Str) : Prop where
  ex : ∃ f fd, Meth K C m f ∧ Fun K m qual st f fd ∧ Binds K fd ps []
structure MOk (P : Program) (w : World) (K : PySem.W.Frag) (mg : Str → Option Value) (base : Heap) (k : Nat) (C : Addr) (m : Str) (ps : List Str) (sp : Sp) : Prop where
  ex : ∃ f fd, Meth K C m f ∧ FnOk P w K mg base CX0 k f fd ps sp ∧ Binds K fd ps []
theorem Md.ok {P : Program} {w : World} {mg : Str → Option Value} {base : Heap} {k : Nat} {C : Addr} {m qual : Str} {st : Stmt} {ps : List Str} {sp : Sp} (D : Md K C m qual st ps)
    (h : ∀ f fd, Fun K m qual st f fd → FnOk P w K mg base CX0 k f fd ps sp) : MOk P w K mg base k C m ps sp := by
  obtain ⟨f, fd, g, F, b⟩ := D.ex
  exact ⟨f, fd, g, h f fd F, b⟩
/-! ### promises -/
def spReck (K : PySem.W.Frag) : Sp := fun vs H Q _ => ∃ (x y : V) (zs : List Sum2) (L : List Rat), vs = [x, y] ∧ NodesV K H x zs ∧ RowV K H y L ∧ NodeOk L.length zs ∧ L.length ≤ 20 ∧ zs.length ≤ 50 ∧ SzL 100 100 L ∧ ∀ v H', Ex H H' → RowV K H' v (zs.map fun z => tells z L) → Q v H'
def spCutN (K : PySem.W.Frag) : Sp := fun vs H Q _ => ∃ (x : V) (r : Rat), vs = [x] ∧ FrV K H x r ∧ ∀ v, FrV K H v (cutR r) → Q v H
def spInitL (K : PySem.W.Frag) (C : Addr) : Sp := fun vs H Q _ => ∃ (p dx a : Addr) (xs : List V) (zs : List Sum2), vs = [.ref p, .ref a] ∧ H p = some (.ins C dx []) ∧ (SqL K H a xs ∨ SqT K H a xs) ∧ Paired (SumV K H) xs zs ∧
  ∀ H' v, (∀ b o, b ≠ p → H b = some o → H' b = some o) → LayerAt C H' p v → NodesV K H' v zs → Q .non H'
def spToldL (C : Addr) : Sp := fun vs H Q _ => ∃ (p : Addr) (v : V), vs = [.ref p] ∧ LayerAt C H p v ∧ Q v H
def spPass (K : PySem.W.Frag) (C : Addr) (c : Bool) : Sp := fun vs H Q _ => ∃ (p : Addr) (v y : V) (zs : List Sum2) (L : List Rat), vs = [.ref p, y] ∧ LayerAt C H p v ∧ NodesV K H v zs ∧ RowV K H y L ∧ NodeOk L.length zs ∧ L.length ≤ 20 ∧ zs.length ≤ 50 ∧ SzL 100 100 L ∧
  ∀ v H', Ex H H' → RowV K H' v (passR c (zs.map fun z => tells z L)) → Q v H'
def spIsRow (K : PySem.W.Frag) : Sp := fun vs H Q _ => ∃ (x y : V) (L : List Rat), vs = [x, y] ∧ RowV K H x L ∧ RowV K H y L ∧ L.length ≤ 100 ∧ ∀ H', Ex H H' → Q (.bl true) H'
def spNode (K : PySem.W.Frag) : Sp := fun vs H Q _ => ∃ (s : Addr) (k : Nat), vs = [.ref s, .int (k : Int)] ∧ Stm s H ∧ k ≤ 20 ∧ ∀ v z H', Dr s H H' → SumV K H' v z → z.1.length = k → SzL 100 100 z.1 → Sz 100 100 z.2 → Q v H'
def spOne (K : PySem.W.Frag) (C : Addr) (c : Bool) : Sp := fun vs H Q _ => ∃ (p an ar : Addr) (v : V) (xs ys : List V) (zs : List Sum2) (Ls : List (List Rat)) (n : Nat), vs = [.ref p, .bl c, .ref an, .ref ar] ∧ LayerAt C H p v ∧ NodesV K H v zs ∧ SqL K H an xs ∧ Paired (SumV K H) xs zs ∧
  SqL K H ar ys ∧ Paired (RowV K H) ys Ls ∧ NodeOk n zs ∧ (∀ L ∈ Ls, L.length = n ∧ SzL 100 100 L) ∧ n ≤ 20 ∧ zs.length ≤ 50 ∧ ∀ H', Ex H H' → Q (.bl true) H'
/-! ### data of nodes -/
theorem sums_dp : ∀ {xs : List V} {zs : List Sum2}, Paired (SumV K H) xs zs → DpAll K H xs (zs.map sd)
  | _, _, .nil => .nil
  | _, _, .cons a t => .cons a.dp (sums_dp t)
end
theorem lay_sds : ∀ zs : List Sum2, PyData.canLayAll0 (zs.map sd) = true
  | [] => rfl
  | z :: zs => by
    show ((sd z).canLay0 && PyData.canLayAll0 (zs.map sd)) = true
    rw [lay_sd, lay_sds zs]
    rfl
theorem depth_sds : ∀ zs : List Sum2, PyData.depthAll (zs.map sd) ≤ 4
  | [] => Nat.zero_le _
  | z :: zs => by
    have ih := depth_sds zs
    have h1 := depthAll_fd z.1
    have h2 : PyData.depth (fd z.2) = 1 := rfl
    show max (max (PyData.depthAll (z.1.map fd) + 1) (max (PyData.depth (fd z.2)) 0) + 1) (PyData.depthAll (zs.map sd)) ≤ 4
    omega
theorem shaped_sds (zs : List Sum2) : SeqAt.shaped (.tuple (zs.map sd)) = true := by
  unfold SeqAt.shaped
  have h : (PyData.tuple (zs.map sd)).canLay0 = true := lay_sds zs
  rw [h, Bool.true_and]
  refine decide_eq_true ?_
  have := depth_sds zs
  show PyData.depthAll (zs.map sd) + 1 ≤ 64
  omega
theorem eqv_sds (zs : List Sum2) : PyData.eqv (.tuple (zs.map sd)) (.tuple (zs.map sd)) = true := SeqAt.eqv_refl _ (lay_sds zs)
theorem sz_cut {r : Rat} : cutR r = 0 ∨ cutR r = r := by
  unfold cutR
  split
  · exact .inl rfl
  · exact .inr rfl
end Nc
section
set_option maxRecDepth 100000
set_option maxHeartbeats 400000
namespace K06
open PySem L2 Evl Nc PyProof.Rows
/-! ### the text -/
def topS (i : Nat) : Stmt := PySem.Challenge.pw_noughtcut_k06_layers.main.body.getD i (.Pass ⟨0, 0, 0, 0⟩)
abbrev s_fraction_of : Stmt := topS 3
theorem sc_fraction_of : FnScope ["top", "bottom", "shared"] ["top", "bottom"] (defScope s_fraction_of) := ⟨rfl, rfl, rfl, by decide +kernel, rfl, by decide +kernel, by decide +kernel⟩
abbrev s_plus : Stmt := topS 4
theorem sc_plus : FnScope ["one", "other"] ["one", "other"] (defScope s_plus) := ⟨rfl, rfl, rfl, by decide +kernel, rfl, by decide +kernel, by decide +kernel⟩
abbrev s_times : Stmt := topS 5
theorem sc_times : FnScope ["one", "other"] ["one", "other"] (defScope s_times) := ⟨rfl, rfl, rfl, by decide +kernel, rfl, by decide +kernel, by decide +kernel⟩
abbrev s_cut_at_nought : Stmt := topS 6
theorem sc_cut_at_nought : FnScope ["one"] ["one"] (defScope s_cut_at_nought) := ⟨rfl, rfl, rfl, by decide +kernel, rfl, by decide +kernel, by decide +kernel⟩
abbrev s_weigh : Stmt := topS 7
theorem sc_weigh : FnScope ["row", "other", "total", "one", "by"] ["row", "other"] (defScope s_weigh) := ⟨rfl, rfl, rfl, by decide +kernel, rfl, by decide +kernel, by decide +kernel⟩
abbrev s_sum_at : Stmt := topS 9
theorem sc_sum_at : FnScope ["one", "row", "weights", "number"] ["one", "row"] (defScope s_sum_at) := ⟨rfl, rfl, rfl, by decide +kernel, rfl, by decide +kernel, by decide +kernel⟩
abbrev s__reckoned : Stmt := topS 13
theorem sc__reckoned : FnScope ["nodes", "ahead", "node"] ["nodes", "ahead"] (defScope s__reckoned) := ⟨rfl, rfl, rfl, by decide +kernel, rfl, by decide +kernel, by decide +kernel⟩
abbrev s__law_cell : Stmt := topS 15
theorem sc__law_cell : FnScope ["_law_script", "_law_k"] ["_law_script", "_law_k"] (defScope s__law_cell) := ⟨rfl, rfl, rfl, by decide +kernel, rfl, by decide +kernel, by decide +kernel⟩
abbrev s__law_stream : Stmt := topS 16
theorem sc__law_stream : FnScope ["_law_cell_here"] ["_law_cell_here"] (defScope s__law_stream) := ⟨rfl, rfl, rfl, by decide +kernel, rfl, by decide +kernel, by decide +kernel⟩
abbrev s__law_take : Stmt := topS 17
theorem sc__law_take : FnScope ["_law_stream_here", "_law_many", "_law_digit", "_law_number_here", "_law_more"] ["_law_stream_here", "_law_many"] (defScope s__law_take) := ⟨rfl, rfl, rfl, by decide +kernel, rfl, by decide +kernel, by decide +kernel⟩
abbrev s__law_part : Stmt := topS 18
theorem sc__law_part : FnScope ["_law_top", "_law_bottom", "_law_one", "_law_other"] ["_law_top", "_law_bottom"] (defScope s__law_part) := ⟨rfl, rfl, rfl, by decide +kernel, rfl, by decide +kernel, by decide +kernel⟩
abbrev s__law_plus : Stmt := topS 19
theorem sc__law_plus : FnScope ["_law_one", "_law_other"] ["_law_one", "_law_other"] (defScope s__law_plus) := ⟨rfl, rfl, rfl, by decide +kernel, rfl, by decide +kernel, by decide +kernel⟩
abbrev s__law_times : Stmt := topS 20
theorem sc__law_times : FnScope ["_law_one", "_law_other"] ["_law_one", "_law_other"] (defScope s__law_times) := ⟨rfl, rfl, rfl, by decide +kernel, rfl, by decide +kernel, by decide +kernel⟩
abbrev s__law_weighs : Stmt := topS 21
theorem sc__law_weighs : FnScope ["_law_one", "_law_other", "_law_total", "_law_first", "_law_second"] ["_law_one", "_law_other"] (defScope s__law_weighs) := ⟨rfl, rfl, rfl, by decide +kernel, rfl, by decide +kernel, by decide +kernel⟩
abbrev s__law_tells : Stmt := topS 22
theorem sc__law_tells : FnScope ["_law_node_here", "_law_row"] ["_law_node_here", "_law_row"] (defScope s__law_tells) := ⟨rfl, rfl, rfl, by decide +kernel, rfl, by decide +kernel, by decide +kernel⟩
abbrev s__law_long : Stmt := topS 23
theorem sc__law_long : FnScope ["_law_stream_here"] ["_law_stream_here"] (defScope s__law_long) := ⟨rfl, rfl, rfl, by decide +kernel, rfl, by decide +kernel, by decide +kernel⟩
abbrev s__law_number : Stmt := topS 24
theorem sc__law_number : FnScope ["_law_stream_here", "_law_way", "_law_top", "_law_bottom"] ["_law_stream_here"] (defScope s__law_number) := ⟨rfl, rfl, rfl, by decide +kernel, rfl, by decide +kernel, by decide +kernel⟩
abbrev s__law_node : Stmt := topS 25
theorem sc__law_node : FnScope ["_law_stream_here", "_law_many", "_law_k"] ["_law_stream_here", "_law_many"] (defScope s__law_node) := ⟨rfl, rfl, rfl, by decide +kernel, rfl, by decide +kernel, by decide +kernel⟩
abbrev s__law_is_row : Stmt := topS 26
theorem sc__law_is_row : FnScope ["_law_found", "_law_due", "_law_one"] ["_law_found", "_law_due"] (defScope s__law_is_row) := ⟨rfl, rfl, rfl, by decide +kernel, rfl, by decide +kernel, by decide +kernel⟩
abbrev s__law_one_right : Stmt := topS 27
theorem sc__law_one_right : FnScope ["_law_layer", "_law_cut", "_law_nodes", "_law_rows", "_law_row", "_law_due", "_law_low", "_law_node_here", "_law_one"] ["_law_layer", "_law_cut", "_law_nodes", "_law_rows"] (defScope s__law_one_right) := ⟨rfl, rfl, rfl, by decide +kernel, rfl, by decide +kernel, by decide +kernel⟩
abbrev s__law_right : Stmt := topS 28
theorem sc__law_right : FnScope ["_law_stream_here", "_law_many", "_law_nodes", "_law_rows", "_law_some", "_law_plain", "_law_cut", "_law_turn", "_law_k", "_law_j"] ["_law_stream_here"] (defScope s__law_right) := ⟨rfl, rfl, rfl, by decide +kernel, rfl, by decide +kernel, by decide +kernel⟩
abbrev s_law : Stmt := topS 29
theorem sc_law : FnScope ["_law_script", "_law_k"] ["_law_script"] (defScope s_law) := ⟨rfl, rfl, rfl, by decide +kernel, rfl, by decide +kernel, by decide +kernel⟩
abbrev s_Layer___init__ : Stmt := inClass (topS 11) 0
theorem sc_Layer___init__ : FnScope ["self", "nodes"] ["self", "nodes"] (defScope s_Layer___init__) := ⟨rfl, rfl, rfl, by decide +kernel, rfl, by decide +kernel, by decide +kernel⟩
abbrev s_Layer_told : Stmt := inClass (topS 11) 1
theorem sc_Layer_told : FnScope ["self"] ["self"] (defScope s_Layer_told) := ⟨rfl, rfl, rfl, by decide +kernel, rfl, by decide +kernel, by decide +kernel⟩
abbrev s_Layer_sums : Stmt := inClass (topS 11) 2
theorem sc_Layer_sums : FnScope ["self", "ahead"] ["self", "ahead"] (defScope s_Layer_sums) := ⟨rfl, rfl, rfl, by decide +kernel, rfl, by decide +kernel, by decide +kernel⟩
abbrev s_Layer_passed : Stmt := inClass (topS 11) 3
theorem sc_Layer_passed : FnScope ["self", "ahead"] ["self", "ahead"] (defScope s_Layer_passed) := ⟨rfl, rfl, rfl, by decide +kernel, rfl, by decide +kernel, by decide +kernel⟩
abbrev s_CutLayer_told : Stmt := inClass (topS 12) 0
theorem sc_CutLayer_told : FnScope ["self"] ["self"] (defScope s_CutLayer_told) := ⟨rfl, rfl, rfl, by decide +kernel, rfl, by decide +kernel, by decide +kernel⟩
abbrev s_CutLayer_sums : Stmt := inClass (topS 12) 1
theorem sc_CutLayer_sums : FnScope ["self", "ahead"] ["self", "ahead"] (defScope s_CutLayer_sums) := ⟨rfl, rfl, rfl, by decide +kernel, rfl, by decide +kernel, by decide +kernel⟩
abbrev s_CutLayer_passed : Stmt := inClass (topS 12) 2
theorem sc_CutLayer_passed : FnScope ["self", "ahead", "one"] ["self", "ahead"] (defScope s_CutLayer_passed) := ⟨rfl, rfl, rfl, by decide +kernel, rfl, by decide +kernel, by decide +kernel⟩

end K06
end
section
set_option maxRecDepth 100000
set_option maxHeartbeats 400000
namespace K06
open PySem L2 Evl Nc PyProof.Rows
section
variable {P : Program} {w : World} {K : PySem.W.Frag} {mg : Str → Option Value} {base : Heap}
theorem ok_fraction_of (D : Df K mg "fraction_of" s_fraction_of ["top", "bottom"]) (mgcd : mg "gcd" = some (.builtin "math.gcd")) : Ok P w K mg base 1 "fraction_of" ["top", "bottom"] (spPart K) := by
  refine D.ok fun f fd F => F.ok sc_fraction_of (fun vs H Q E h => ?_) (fun cdv A outer s H vs Q E hr h => ?_)
  · obtain ⟨t, b, n, rfl, _⟩ := h
    rfl
  · obtain ⟨t, b, n, rfl, hb, hn, h0, h9, q⟩ := h
    refine ⟨_, pss_cons (ps_set (i := 2) sc_fraction_of.nd rfl (.inl rfl) (pe_callBfun cr_gcd (by rfl) mgcd (pa_cons (pv 0) (pa_cons (pv 1) pa_nil))))
      (pss_cons (ps_if (pt_cmpR op_lt (pv 1) pe_int (nomark _)) (pss_one (ps_set (i := 2) sc_fraction_of.nd rfl (.inl rfl) (pe_un un_neg (pv 2)))) pss_nil)
      (pss_one (ps_ret (pe_tup (pa_cons (pe_op op_fdivW (pv 0) (pv 2)) (pa_cons (pe_op op_fdivW (pv 1) (pv 2)) pa_nil)))))), ?_⟩
    have g1 := gcd_pos (t := t) hb
    have g2 := gcd_le (t := t) hb
    have dv : ∀ i : Int, CDivW i ((Nat.gcd t.natAbs b.natAbs : Nat) : Int) := fun i => wide_div g1 (wide_le (by omega) g2 hn) h0 h9
    refine ⟨_, rfl, _, rfl, t, b, rfl, _, rfl, b, 0, rfl, rfl, _, rfl, ?_⟩
    rw [decide_eq_false (by omega : ¬ b < 0)]
    refine iteF ⟨_, rfl, _, rfl, t, _, rfl, rfl, dv _, _, rfl, _, rfl, b, _, rfl, rfl, dv _, (by show 2 ≤ sizeLine; decide), fun p hp => ?_⟩
    exact q _ _ (Ex.new hp) (made (num_div hb) (den_div hb))
theorem ok__law_part (D : Df K mg "_law_part" s__law_part ["_law_top", "_law_bottom"]) (mabs : mg "abs" = none) : Ok P w K mg base 1 "_law_part" ["_law_top", "_law_bottom"] (spPart K) := by
  refine D.ok fun f fd F => F.ok sc__law_part (fun vs H Q E h => ?_) (fun cdv A outer s H vs Q E hr h => ?_)
  · obtain ⟨t, b, n, rfl, _⟩ := h
    rfl
  · obtain ⟨t, b, n, rfl, hb, hn, h0, h9, q⟩ := h
    refine ⟨_, pss_cons (ps_set (i := 2) sc__law_part.nd rfl (.inl rfl) (pe_callB call_abs (by rfl) mabs (by decide +kernel) (pa_cons (pv 0) pa_nil)))
      (pss_cons (ps_set (i := 3) sc__law_part.nd rfl (.inl rfl) (pv 1))
      (pss_cons (ps_while PassesOwn.never (pt_cmpR op_gt (pv 3) pe_int (nomark _)) (pss_one (ps_par (i := 2) (j := 3) rfl sc__law_part.nd rfl rfl (by decide) rfl rfl (pa_cons (pv 3) (pa_cons (pe_op op_mod (pv 2) (pv 3)) pa_nil)) (by rfl))))
      (pss_one (ps_ret (pe_tup (pa_cons (pe_op op_fdivW (pv 0) (pv 2)) (pa_cons (pe_op op_fdivW (pv 1) (pv 2)) pa_nil))))))), ?_⟩
    have g1 := gcd_pos (t := t) hb
    have g2 := gcd_le (t := t) hb
    have dv : ∀ i : Int, CDivW i ((Nat.gcd t.natAbs b.natAbs : Nat) : Int) := fun i => wide_div g1 (wide_le (by omega) g2 hn) h0 h9
    refine ⟨_, rfl, t, rfl, _, rfl, ?_⟩
    refine ⟨fun m σ H' => ∃ a c : Int, σ = [some (.int t), some (.int b), some (.int a), some (.int c)] ∧ 0 ≤ a ∧ 0 ≤ c ∧ m = c.toNat ∧ Nat.gcd a.natAbs c.natAbs = Nat.gcd t.natAbs b.natAbs ∧ H' = H,
      ⟨b.toNat, _, b, rfl, by split <;> omega, by omega, rfl, ?_, rfl⟩, ?_⟩
    · split
      · rw [Int.natAbs_neg]
      · rfl
    · rintro m σ H' ⟨a, c, rfl, ha, hc, rfl, hg, rfl⟩
      refine ⟨_, rfl, c, 0, rfl, rfl, _, rfl, ite2 (fun hd => ?_) (fun hd => ?_)⟩
      · have hc1 : 0 < c := of_decide_eq_true hd
        refine ⟨fun σ' H'' => σ' = [some (.int t), some (.int b), some (.int c), some (.int (a % c))] ∧ H'' = H', ?_, ?_⟩
        · rintro σ' H'' ⟨rfl, rfl⟩
          have z1 := Int.emod_nonneg a (b := c) (by omega)
          have z2 := Int.emod_lt_of_pos a hc1
          exact ⟨(a % c).toNat, by omega, c, a % c, rfl, by omega, z1, rfl, (gcd_step ha hc1).trans hg, rfl⟩
        · exact ⟨_, rfl, _, rfl, _, rfl, a, c, rfl, rfl, hc1, _, _, rfl, rfl, rfl⟩
      · have hc1 : ¬ 0 < c := fun z => hd (decide_eq_true z)
        have hc0 : c = 0 := by omega
        subst hc0
        have ea : a = ((Nat.gcd t.natAbs b.natAbs : Nat) : Int) := by
          rw [← hg]
          simp
          omega
        subst ea
        refine ⟨_, rfl, _, rfl, t, _, rfl, rfl, dv _, _, rfl, _, rfl, b, _, rfl, rfl, dv _, (by show 2 ≤ sizeLine; decide), fun p hp => ?_⟩
        exact q _ _ (Ex.new hp) (made (num_div hb) (den_div hb))
theorem ok_plus (D : Df K mg "plus" s_plus ["one", "other"]) (G : Ok P w K mg base 1 "fraction_of" ["top", "bottom"] (spPart K)) : Ok P w K mg base 2 "plus" ["one", "other"] (spPlus K) := by
  refine D.ok fun f fd F => F.ok sc_plus (fun vs H Q E h => ?_) (fun cdv A outer s H vs Q E hr h => ?_)
  · obtain ⟨x, y, r, s, n, d, m, e, rfl, _⟩ := h
    rfl
  · obtain ⟨x, y, r, s, n, d, m, e, rfl, hx, hy, ha, hb, ⟨n0, d0, m0, e0, hde, hnm⟩, q⟩ := h
    refine ⟨_, pss_one (ps_ret (cl G hr (pa_cons (pe_op op_add (pe_op op_mulW (pe_ix ix_tup (pv 0) pe_int (fun _ _ => rfl)) (pe_ix ix_tup (pv 1) pe_int (fun _ _ => rfl))) (pe_op op_mulW (pe_ix ix_tup (pv 1) pe_int (fun _ _ => rfl)) (pe_ix ix_tup (pv 0) pe_int (fun _ _ => rfl)))) (pa_cons (pe_op op_mulW (pe_ix ix_tup (pv 0) pe_int (fun _ _ => rfl)) (pe_ix ix_tup (pv 1) pe_int (fun _ _ => rfl))) pa_nil)))), ?_⟩
    obtain ⟨t, rfl, h1⟩ := hx
    obtain ⟨u, rfl, h2⟩ := hy
    have hm1 := mulOk ha.1 hb.den
    have hm2 := mulOk hb.1 ha.den
    have hm3 := mulOk ha.den hb.den
    refine ⟨_, rfl, _, _, _, _, rfl, rfl, h1, at0, _, rfl, _, _, _, _, rfl, rfl, h2, at1, _, _, rfl, rfl, hm1, _, rfl, _, _, _, _, rfl, rfl, h2, at0, _, rfl, _, _, _, _, rfl, rfl, h1, at1, _, _, rfl, rfl, hm2, _, _, rfl, rfl, _, rfl, _, _, _, _, rfl, rfl, h1, at1, _, rfl, _, _, _, _, rfl, rfl, h2, at1, _, _, rfl, rfl, hm3, ?_⟩
    refine ⟨_, _, d + e, rfl, Int.mul_pos (den_pos r) (den_pos s), lt_mul ha.den hb.den, by omega, by omega, fun v H' e hv => ?_⟩
    rw [add_is] at hv
    exact q v H' e hv
theorem ok_times (D : Df K mg "times" s_times ["one", "other"]) (G : Ok P w K mg base 1 "fraction_of" ["top", "bottom"] (spPart K)) : Ok P w K mg base 2 "times" ["one", "other"] (spTimes K) := by
  refine D.ok fun f fd F => F.ok sc_times (fun vs H Q E h => ?_) (fun cdv A outer s H vs Q E hr h => ?_)
  · obtain ⟨x, y, r, s, n, d, m, e, rfl, _⟩ := h
    rfl
  · obtain ⟨x, y, r, s, n, d, m, e, rfl, hx, hy, ha, hb, ⟨n0, d0, m0, e0, hde, hnm⟩, q⟩ := h
    refine ⟨_, pss_one (ps_ret (cl G hr (pa_cons (pe_op op_mulW (pe_ix ix_tup (pv 0) pe_int (fun _ _ => rfl)) (pe_ix ix_tup (pv 1) pe_int (fun _ _ => rfl))) (pa_cons (pe_op op_mulW (pe_ix ix_tup (pv 0) pe_int (fun _ _ => rfl)) (pe_ix ix_tup (pv 1) pe_int (fun _ _ => rfl))) pa_nil)))), ?_⟩
    obtain ⟨t, rfl, h1⟩ := hx
    obtain ⟨u, rfl, h2⟩ := hy
    have hm1 := mulOk ha.1 hb.1
    have hm3 := mulOk ha.den hb.den
    refine ⟨_, rfl, _, _, _, _, rfl, rfl, h1, at0, _, rfl, _, _, _, _, rfl, rfl, h2, at0, _, _, rfl, rfl, hm1, _, rfl, _, _, _, _, rfl, rfl, h1, at1, _, rfl, _, _, _, _, rfl, rfl, h2, at1, _, _, rfl, rfl, hm3, ?_⟩
    refine ⟨_, _, d + e, rfl, Int.mul_pos (den_pos r) (den_pos s), lt_mul ha.den hb.den, by omega, by omega, fun v H' e hv => ?_⟩
    rw [mul_is] at hv
    exact q v H' e hv
theorem ok__law_plus (D : Df K mg "_law_plus" s__law_plus ["_law_one", "_law_other"]) (G : Ok P w K mg base 1 "_law_part" ["_law_top", "_law_bottom"] (spPart K)) : Ok P w K mg base 2 "_law_plus" ["_law_one", "_law_other"] (spPlus K) := by
  refine D.ok fun f fd F => F.ok sc__law_plus (fun vs H Q E h => ?_) (fun cdv A outer s H vs Q E hr h => ?_)
  · obtain ⟨x, y, r, s, n, d, m, e, rfl, _⟩ := h
    rfl
  · obtain ⟨x, y, r, s, n, d, m, e, rfl, hx, hy, ha, hb, ⟨n0, d0, m0, e0, hde, hnm⟩, q⟩ := h
    refine ⟨_, pss_one (ps_ret (cl G hr (pa_cons (pe_op op_add (pe_op op_mulW (pe_ix ix_tup (pv 0) pe_int (fun _ _ => rfl)) (pe_ix ix_tup (pv 1) pe_int (fun _ _ => rfl))) (pe_op op_mulW (pe_ix ix_tup (pv 1) pe_int (fun _ _ => rfl)) (pe_ix ix_tup (pv 0) pe_int (fun _ _ => rfl)))) (pa_cons (pe_op op_mulW (pe_ix ix_tup (pv 0) pe_int (fun _ _ => rfl)) (pe_ix ix_tup (pv 1) pe_int (fun _ _ => rfl))) pa_nil)))), ?_⟩
    obtain ⟨t, rfl, h1⟩ := hx
    obtain ⟨u, rfl, h2⟩ := hy
    have hm1 := mulOk ha.1 hb.den
    have hm2 := mulOk hb.1 ha.den
    have hm3 := mulOk ha.den hb.den
    refine ⟨_, rfl, _, _, _, _, rfl, rfl, h1, at0, _, rfl, _, _, _, _, rfl, rfl, h2, at1, _, _, rfl, rfl, hm1, _, rfl, _, _, _, _, rfl, rfl, h2, at0, _, rfl, _, _, _, _, rfl, rfl, h1, at1, _, _, rfl, rfl, hm2, _, _, rfl, rfl, _, rfl, _, _, _, _, rfl, rfl, h1, at1, _, rfl, _, _, _, _, rfl, rfl, h2, at1, _, _, rfl, rfl, hm3, ?_⟩
    refine ⟨_, _, d + e, rfl, Int.mul_pos (den_pos r) (den_pos s), lt_mul ha.den hb.den, by omega, by omega, fun v H' e hv => ?_⟩
    rw [add_is] at hv
    exact q v H' e hv
theorem ok__law_times (D : Df K mg "_law_times" s__law_times ["_law_one", "_law_other"]) (G : Ok P w K mg base 1 "_law_part" ["_law_top", "_law_bottom"] (spPart K)) : Ok P w K mg base 2 "_law_times" ["_law_one", "_law_other"] (spTimes K) := by
  refine D.ok fun f fd F => F.ok sc__law_times (fun vs H Q E h => ?_) (fun cdv A outer s H vs Q E hr h => ?_)
  · obtain ⟨x, y, r, s, n, d, m, e, rfl, _⟩ := h
    rfl
  · obtain ⟨x, y, r, s, n, d, m, e, rfl, hx, hy, ha, hb, ⟨n0, d0, m0, e0, hde, hnm⟩, q⟩ := h
    refine ⟨_, pss_one (ps_ret (cl G hr (pa_cons (pe_op op_mulW (pe_ix ix_tup (pv 0) pe_int (fun _ _ => rfl)) (pe_ix ix_tup (pv 1) pe_int (fun _ _ => rfl))) (pa_cons (pe_op op_mulW (pe_ix ix_tup (pv 0) pe_int (fun _ _ => rfl)) (pe_ix ix_tup (pv 1) pe_int (fun _ _ => rfl))) pa_nil)))), ?_⟩
    obtain ⟨t, rfl, h1⟩ := hx
    obtain ⟨u, rfl, h2⟩ := hy
    have hm1 := mulOk ha.1 hb.1
    have hm3 := mulOk ha.den hb.den
    refine ⟨_, rfl, _, _, _, _, rfl, rfl, h1, at0, _, rfl, _, _, _, _, rfl, rfl, h2, at0, _, _, rfl, rfl, hm1, _, rfl, _, _, _, _, rfl, rfl, h1, at1, _, rfl, _, _, _, _, rfl, rfl, h2, at1, _, _, rfl, rfl, hm3, ?_⟩
    refine ⟨_, _, d + e, rfl, Int.mul_pos (den_pos r) (den_pos s), lt_mul ha.den hb.den, by omega, by omega, fun v H' e hv => ?_⟩
    rw [mul_is] at hv
    exact q v H' e hv
theorem ok_weigh (D : Df K mg "weigh" s_weigh ["row", "other"]) (CN : Cst K mg "NOUGHT" 0) (mzip : mg "zip" = none) (GP : Ok P w K mg base 2 "plus" ["one", "other"] (spPlus K)) (GT : Ok P w K mg base 2 "times" ["one", "other"] (spTimes K)) : Ok P w K mg base 3 "weigh" ["row", "other"] (spWeigh K) := by
  refine D.ok fun f fd F => F.ok sc_weigh (fun vs H Q E h => ?_) (fun cdv A outer s H vs Q E hr h => ?_)
  · obtain ⟨x, y, rs, ss, n, d, m, e, rfl, _⟩ := h
    rfl
  · obtain ⟨x, y, rs, ss, n, d, m, e, rfl, ⟨tx, xs, rfl, qx, lx⟩, ⟨ty, ys, rfl, qy, ly⟩, hl, hn, hm, ⟨d0, e0', hdn, hem, hz1, hz2⟩, q⟩ := h
    obtain ⟨aN, gN, hN⟩ := CN.ex
    refine ⟨_, pss_cons (ps_set (i := 2) sc_weigh.nd rfl (.inl rfl) (pe_glob (v := .ref aN) (by rfl) gN rfl))
      (pss_cons (ps_for PassesOwn.never rfl (RZ.pi_zipA (by rfl) mzip (pa_cons (pv 0) (pa_cons (pv 1) pa_nil))) (pg_tup rfl (pgs_cons (pg_name (i := 3) sc_weigh.nd rfl (.inl rfl)) (pgs_cons (pg_name (i := 4) sc_weigh.nd rfl (.inl rfl)) pgs_nil)))
        (pss_one (ps_set (i := 2) sc_weigh.nd rfl (.inl rfl) (cl GP hr (pa_cons (pv 2) (pa_cons (cl GT hr (pa_cons (pv 3) (pa_cons (pv 4) pa_nil))) pa_nil))))))
      (pss_one (ps_ret (pv 2)))), ?_⟩
    have e0 := Ex.refl H
    have z0 : FrV K H (.ref aN) (weighs ((rs.zip ss).take 0)) := hN H
    have lx' := Paired.length lx
    have ly' := Paired.length ly
    refine ⟨_, rfl, _, rfl, tx, ty, xs, ys, rfl, .inr ⟨ex_t e0 qx, ex_t e0 qy, RZ.for_zipT (by omega) (fun i σ H' => ∃ (v : V) (o3 o4 : Option V), σ = [some (.ref tx), some (.ref ty), some v, o3, o4] ∧ Ex H H' ∧ FrV K H' v (weighs ((rs.zip ss).take i)))
      ⟨_, none, none, rfl, e0, z0⟩ (fun i σ H' ⟨_, _, _, _, e1, _⟩ => ⟨ex_t e1 qx, ex_t e1 qy⟩) ?_ ?_⟩⟩
    · rintro i x y T σ H' hx hy ⟨v, o3, o4, rfl, e1, hv⟩ hT
      obtain ⟨r, hr1, fr⟩ := pget lx hx
      obtain ⟨u, hu1, fu⟩ := pget ly hy
      have hzip : (rs.zip ss)[i]? = some (r, u) := by
        rw [List.getElem?_zip_eq_some]
        exact ⟨hr1, hu1⟩
      have hi : i < rs.length := (List.getElem?_eq_some_iff.mp hr1).1
      have szr := hn r (List.mem_of_getElem? hr1)
      have szu := hm u (List.mem_of_getElem? hu1)
      have szt := sz_weighs hdn hem i (rs.zip ss) (by rw [List.length_zip]; omega) (fun p hp => ⟨hn _ (List.of_mem_zip hp).1, hm _ (List.of_mem_zip hp).2⟩)
      have b1 : (i + 1) * (d + e) ≤ rs.length * (d + e) := Nat.mul_le_mul_right _ hi
      have b2 : (i + 1) * (n + m + 1) ≤ rs.length * (n + m + 1) := Nat.mul_le_mul_right _ hi
      rw [Nat.succ_mul] at b1 b2
      have eT : Ex H' (upd H' T (.tup [x, y])) := Ex.new hT
      refine ⟨T, [x, y], rfl, st_of upd_same, rfl, x, [y], rfl, y, [], rfl, rfl, ?_⟩
      refine ⟨_, rfl, _, rfl, _, rfl, x, y, r, u, n, d, m, e, rfl, fr.ex (e1.trans eT), fu.ex (e1.trans eT), szr, szu, ⟨by omega, by omega, by omega, by omega, by omega, by omega⟩, fun v2 H2 e2 hv2 => ?_⟩
      refine ⟨v, v2, _, _, _, _, _, _, rfl, hv.ex (eT.trans e2), hv2, szt, sz_mul szr szu, ⟨by omega, by omega, by omega, by omega, by omega, by omega⟩, fun v3 H3 e3 hv3 => ?_⟩
      refine ⟨v3, some x, some y, rfl, ((e1.trans eT).trans e2).trans e3, ?_⟩
      rw [weighs_take hzip]
      exact hv3
    · rintro σ H' ⟨v, o3, o4, rfl, e1, hv⟩
      refine ⟨_, rfl, q v H' e1 ?_⟩
      rwa [List.take_of_length_le (by rw [List.length_zip]; omega)] at hv
theorem ok__law_weighs (D : Df K mg "_law_weighs" s__law_weighs ["_law_one", "_law_other"]) (mzip : mg "zip" = none) (GP : Ok P w K mg base 2 "_law_plus" ["_law_one", "_law_other"] (spPlus K)) (GT : Ok P w K mg base 2 "_law_times" ["_law_one", "_law_other"] (spTimes K)) : Ok P w K mg base 3 "_law_weighs" ["_law_one", "_law_other"] (spWeigh K) := by
  refine D.ok fun f fd F => F.ok sc__law_weighs (fun vs H Q E h => ?_) (fun cdv A outer s H vs Q E hr h => ?_)
  · obtain ⟨x, y, rs, ss, n, d, m, e, rfl, _⟩ := h
    rfl
  · obtain ⟨x, y, rs, ss, n, d, m, e, rfl, ⟨tx, xs, rfl, qx, lx⟩, ⟨ty, ys, rfl, qy, ly⟩, hl, hn, hm, ⟨d0, e0', hdn, hem, hz1, hz2⟩, q⟩ := h
    refine ⟨_, pss_cons (ps_set (i := 2) sc__law_weighs.nd rfl (.inl rfl) (pe_tup (pa_cons pe_int (pa_cons pe_int pa_nil))))
      (pss_cons (ps_for PassesOwn.never rfl (RZ.pi_zipA (by rfl) mzip (pa_cons (pv 0) (pa_cons (pv 1) pa_nil))) (pg_tup rfl (pgs_cons (pg_name (i := 3) sc__law_weighs.nd rfl (.inl rfl)) (pgs_cons (pg_name (i := 4) sc__law_weighs.nd rfl (.inl rfl)) pgs_nil)))
        (pss_one (ps_set (i := 2) sc__law_weighs.nd rfl (.inl rfl) (cl GP hr (pa_cons (pv 2) (pa_cons (cl GT hr (pa_cons (pv 3) (pa_cons (pv 4) pa_nil))) pa_nil))))))
      (pss_one (ps_ret (pv 2)))), ?_⟩
    refine ⟨(by show 2 ≤ sizeLine; decide), fun pz hpz => ?_⟩
    have e0 : Ex H (upd H pz (.tup [.int 0, .int 1])) := Ex.new hpz
    have z0 : FrV K (upd H pz (.tup [.int 0, .int 1])) (.ref pz) (weighs ((rs.zip ss).take 0)) := made rfl rfl
    have lx' := Paired.length lx
    have ly' := Paired.length ly
    refine ⟨_, rfl, _, rfl, tx, ty, xs, ys, rfl, .inr ⟨ex_t e0 qx, ex_t e0 qy, RZ.for_zipT (by omega) (fun i σ H' => ∃ (v : V) (o3 o4 : Option V), σ = [some (.ref tx), some (.ref ty), some v, o3, o4] ∧ Ex H H' ∧ FrV K H' v (weighs ((rs.zip ss).take i)))
      ⟨_, none, none, rfl, e0, z0⟩ (fun i σ H' ⟨_, _, _, _, e1, _⟩ => ⟨ex_t e1 qx, ex_t e1 qy⟩) ?_ ?_⟩⟩
    · rintro i x y T σ H' hx hy ⟨v, o3, o4, rfl, e1, hv⟩ hT
      obtain ⟨r, hr1, fr⟩ := pget lx hx
      obtain ⟨u, hu1, fu⟩ := pget ly hy
      have hzip : (rs.zip ss)[i]? = some (r, u) := by
        rw [List.getElem?_zip_eq_some]
        exact ⟨hr1, hu1⟩
      have hi : i < rs.length := (List.getElem?_eq_some_iff.mp hr1).1
      have szr := hn r (List.mem_of_getElem? hr1)
      have szu := hm u (List.mem_of_getElem? hu1)
      have szt := sz_weighs hdn hem i (rs.zip ss) (by rw [List.length_zip]; omega) (fun p hp => ⟨hn _ (List.of_mem_zip hp).1, hm _ (List.of_mem_zip hp).2⟩)
      have b1 : (i + 1) * (d + e) ≤ rs.length * (d + e) := Nat.mul_le_mul_right _ hi
      have b2 : (i + 1) * (n + m + 1) ≤ rs.length * (n + m + 1) := Nat.mul_le_mul_right _ hi
      rw [Nat.succ_mul] at b1 b2
      have eT : Ex H' (upd H' T (.tup [x, y])) := Ex.new hT
      refine ⟨T, [x, y], rfl, st_of upd_same, rfl, x, [y], rfl, y, [], rfl, rfl, ?_⟩
      refine ⟨_, rfl, _, rfl, _, rfl, x, y, r, u, n, d, m, e, rfl, fr.ex (e1.trans eT), fu.ex (e1.trans eT), szr, szu, ⟨by omega, by omega, by omega, by omega, by omega, by omega⟩, fun v2 H2 e2 hv2 => ?_⟩
      refine ⟨v, v2, _, _, _, _, _, _, rfl, hv.ex (eT.trans e2), hv2, szt, sz_mul szr szu, ⟨by omega, by omega, by omega, by omega, by omega, by omega⟩, fun v3 H3 e3 hv3 => ?_⟩
      refine ⟨v3, some x, some y, rfl, ((e1.trans eT).trans e2).trans e3, ?_⟩
      rw [weighs_take hzip]
      exact hv3
    · rintro σ H' ⟨v, o3, o4, rfl, e1, hv⟩
      refine ⟨_, rfl, q v H' e1 ?_⟩
      rwa [List.take_of_length_le (by rw [List.length_zip]; omega)] at hv
theorem ok_sum_at (D : Df K mg "sum_at" s_sum_at ["one", "row"]) (GP : Ok P w K mg base 2 "plus" ["one", "other"] (spPlus K)) (GW : Ok P w K mg base 3 "weigh" ["row", "other"] (spWeigh K)) : Ok P w K mg base 4 "sum_at" ["one", "row"] (spTells K) := by
  refine D.ok fun f fd F => F.ok sc_sum_at (fun vs H Q E h => ?_) (fun cdv A outer s H vs Q E hr h => ?_)
  · obtain ⟨x, y, s, ss, n, d, m, e, rfl, _⟩ := h
    rfl
  · obtain ⟨x, y, s, ss, n, d, m, e, rfl, ⟨t, a, b, rfl, qt, ra, fb⟩, ry, hl, hn, hb, hm, ⟨d0, e0', hdn, hem, hz1, hz2, hz3⟩, q⟩ := h
    refine ⟨_, pss_cons (ps_asg (pv 0) (pg_tup rfl (pgs_cons (pg_name (i := 2) sc_sum_at.nd rfl (.inl rfl)) (pgs_cons (pg_name (i := 3) sc_sum_at.nd rfl (.inl rfl)) pgs_nil))))
      (pss_one (ps_ret (cl GP (hr.mono (by decide)) (pa_cons (cl GW hr (pa_cons (pv 2) (pa_cons (pv 1) pa_nil))) (pa_cons (pv 3) pa_nil))))), ?_⟩
    refine ⟨_, rfl, t, [a, b], rfl, qt, rfl, a, [b], rfl, b, [], rfl, rfl, ?_⟩
    refine ⟨_, rfl, _, rfl, a, y, s.1, ss, n, d, m, e, rfl, ra, ry, hl, hn, hm, ⟨by omega, by omega, by omega, by omega, by omega, by omega⟩, fun v H2 e2 hv => ?_⟩
    have sw := sz_of_weighs hdn hem hn hm hl
    refine ⟨_, rfl, v, b, _, _, _, _, _, _, rfl, hv, fb.ex e2, sw, hb, ⟨by omega, by omega, by omega, by omega, by omega, by omega⟩, fun v3 H3 e3 hv3 => ?_⟩
    exact q v3 H3 (e2.trans e3) hv3
theorem ok__law_tells (D : Df K mg "_law_tells" s__law_tells ["_law_node_here", "_law_row"]) (GP : Ok P w K mg base 2 "_law_plus" ["_law_one", "_law_other"] (spPlus K)) (GW : Ok P w K mg base 3 "_law_weighs" ["_law_one", "_law_other"] (spWeigh K)) : Ok P w K mg base 4 "_law_tells" ["_law_node_here", "_law_row"] (spTells K) := by
  refine D.ok fun f fd F => F.ok sc__law_tells (fun vs H Q E h => ?_) (fun cdv A outer s H vs Q E hr h => ?_)
  · obtain ⟨x, y, s, ss, n, d, m, e, rfl, _⟩ := h
    rfl
  · obtain ⟨x, y, s, ss, n, d, m, e, rfl, ⟨t, a, b, rfl, qt, ra, fb⟩, ry, hl, hn, hb, hm, ⟨d0, e0', hdn, hem, hz1, hz2, hz3⟩, q⟩ := h
    refine ⟨_, pss_one (ps_ret (cl GP (hr.mono (by decide)) (pa_cons (cl GW hr (pa_cons (pe_ix ix_tup (pv 0) pe_int (fun _ _ => rfl)) (pa_cons (pv 1) pa_nil))) (pa_cons (pe_ix ix_tup (pv 0) pe_int (fun _ _ => rfl)) pa_nil)))), ?_⟩
    refine ⟨_, rfl, _, _, _, _, rfl, rfl, qt, at0, _, rfl, a, y, s.1, ss, n, d, m, e, rfl, ra, ry, hl, hn, hm, ⟨by omega, by omega, by omega, by omega, by omega, by omega⟩, fun v H2 e2 hv => ?_⟩
    have sw := sz_of_weighs hdn hem hn hm hl
    have qt2 := ex_t e2 qt
    refine ⟨_, rfl, _, _, _, _, rfl, rfl, qt2, at1, v, b, _, _, _, _, _, _, rfl, hv, fb.ex e2, sw, hb, ⟨by omega, by omega, by omega, by omega, by omega, by omega⟩, fun v3 H3 e3 hv3 => ?_⟩
    exact q v3 H3 (e2.trans e3) hv3
theorem ok__law_cell (D : Df K mg "_law_cell" s__law_cell ["_law_script", "_law_k"]) (mlen : mg "len" = none) : Ok P w K mg base 1 "_law_cell" ["_law_script", "_law_k"] (spCell K) := by
  refine D.ok fun f fd F => F.ok sc__law_cell (fun vs H Q E h => ?_) (fun cdv A outer s H vs Q E hr h => ?_)
  · obtain ⟨a, ns, k, rfl, _⟩ := h
    rfl
  · obtain ⟨a, ns, k, rfl, hS, hk, q⟩ := h
    refine ⟨_, pss_cons (ps_if (pt_cmpR op_lt (pv 1) (pe_callB call_len_seq (by rfl) mlen PySem.boot_len (pa_cons (pv 0) pa_nil)) (nomark _)) (pss_one (ps_ret (pe_ix ix_list (pv 0) (pv 1) (fun _ _ => rfl)))) pss_nil)
      (pss_one (ps_ret (pe_op op_add (pe_op op_mul pe_int (pv 1)) pe_int))), ?_⟩
    refine ⟨_, rfl, _, rfl, a, _, rfl, .inl hS, _, _, rfl, rfl, _, rfl, ite2 (fun hd => ?_) (fun hd => ?_)⟩
    · have hlt := of_decide_eq_true hd
      rw [List.length_map] at hlt
      have hn : k < ns.length := by omega
      refine ⟨_, rfl, _, rfl, a, _, _, .int ns[k], rfl, rfl, hS, atI_nat ?_, q _⟩
      rw [List.getElem?_map, List.getElem?_eq_getElem hn]
      rfl
    · exact ⟨_, rfl, _, _, rfl, rfl, .inl ⟨by decide, by decide⟩, _, _, rfl, rfl, q _⟩
theorem ok__law_stream (D : Df K mg "_law_stream" s__law_stream ["_law_cell_here"]) (mint : mg "int" = none) : Ok P w K mg base 1 "_law_stream" ["_law_cell_here"] spStream := by
  refine D.ok fun f fd F => F.ok sc__law_stream (fun vs H Q E h => ?_) (fun cdv A outer s H vs Q E hr h => ?_)
  · obtain ⟨c, rfl, _⟩ := h
    rfl
  · obtain ⟨c, rfl, q⟩ := h
    refine ⟨_, pss_one (ps_ret (pe_lst (pa_cons (pe_op op_mul (pv 0) (pe_callTy call_int1 (by rfl) mint (by decide +kernel) (pa_cons (pe_cmpR op_ge (pv 0) (pe_op op_pow pe_int pe_int) (nomark _)) pa_nil))) (pa_cons (pe_op op_mod (pv 0) pe_int) (pa_cons pe_int pa_nil))))), ?_⟩
    refine ⟨_, rfl, _, rfl, _, _, rfl, rfl, ⟨by decide, by decide, by decide⟩, _, _, rfl, rfl, .inr ⟨_, rfl, _, _, rfl, rfl, .inr (b01 _), _, rfl, _, _, rfl, rfl, (by show (0 : Int) < _; decide), (by show 3 ≤ sizeLine; decide), fun p hp => ?_⟩⟩
    exact q _ _ _ _ hp
theorem ok__law_take (D : Df K mg "_law_take" s__law_take ["_law_stream_here", "_law_many"]) : Ok P w K mg base 1 "_law_take" ["_law_stream_here", "_law_many"] spTake := by
  refine D.ok fun f fd F => F.ok sc__law_take (fun vs H Q E h => ?_) (fun cdv A outer s H vs Q E hr h => ?_)
  · obtain ⟨s, m, rfl, _⟩ := h
    rfl
  · obtain ⟨s, m, rfl, ⟨a, b, c, hS⟩, m0, m1, q⟩ := h
    refine ⟨_, pss_cons (ps_if (pt_cmpR op_gt (pe_ix ix_list (pv 0) pe_int (fun _ _ => rfl)) pe_int (nomark _)) (pss_cons (ps_set (i := 2) sc__law_take.nd rfl (.inl rfl) (pe_op op_mod (pe_ix ix_list (pv 0) pe_int (fun _ _ => rfl)) (pv 1))) (pss_cons (ps_asg (pe_op op_fdivW (pe_ix ix_list (pv 0) pe_int (fun _ _ => rfl)) (pv 1)) (pg_sub (pv 0) pe_int set_list)) (pss_one (ps_ret (pv 2))))) pss_nil)
      (pss_cons (ps_asg (pe_op op_add (pe_ix ix_list (pv 0) pe_int (fun _ _ => rfl)) pe_int) (pg_sub (pv 0) pe_int set_list))
      (pss_cons (ps_set (i := 3) sc__law_take.nd rfl (.inl rfl) (pe_op op_mod (pe_op op_add (pe_op op_add (pe_op op_mul (pe_ix ix_list (pv 0) pe_int (fun _ _ => rfl)) pe_int) (pe_op op_mul pe_int (pe_ix ix_list (pv 0) pe_int (fun _ _ => rfl)))) pe_int) pe_int))
      (pss_cons (ps_set (i := 3) sc__law_take.nd rfl (.inl rfl) (pe_op op_mod (pe_op op_mul (pv 3) (pv 3)) pe_int))
      (pss_cons (ps_set (i := 4) sc__law_take.nd rfl (.inl rfl) (pe_op op_mod (pe_op op_add (pe_op op_mul (pv 3) pe_int) (pe_op op_mul pe_int (pe_ix ix_list (pv 0) pe_int (fun _ _ => rfl)))) pe_int))
      (pss_one (ps_ret (pe_op op_mod (pe_op op_fdiv (pe_op op_mod (pe_op op_mul (pv 4) (pv 3)) pe_int) pe_int) (pv 1)))))))), ?_⟩
    have hL : SqL K H s [.int a, .int b, .int c] := sq_of hS
    refine ⟨_, rfl, _, _, _, _, rfl, rfl, hL, at0, _, _, rfl, rfl, _, rfl, ite2 (fun hd => ?_) (fun hd => ?_)⟩
    · refine ⟨_, rfl, _, _, _, _, rfl, rfl, hL, at0, _, rfl, _, _, rfl, rfl, m0, _, rfl, _, _, _, _, rfl, rfl, hL, at0, _, rfl, _, _, rfl, rfl, cdivT m0 m1, _, rfl, s, _, _, 0, rfl, rfl, hS, rfl, _, rfl, ?_⟩
      exact q _ _ (Int.emod_nonneg _ (by omega)) (Int.emod_lt_of_pos _ m0) (Dr.put hS)
    · refine ⟨_, rfl, _, _, _, _, rfl, rfl, hL, at2, _, _, rfl, rfl, _, rfl, s, _, _, 2, rfl, rfl, hS, rfl, ?_⟩
      have d1 : Dr s H (upd H s (.lst [.int a, .int b, .int (c + 1)])) := Dr.put hS
      have hL2 : SqL K (upd H s (.lst [.int a, .int b, .int (c + 1)])) s [.int a, .int b, .int (c + 1)] := sq_of upd_same
      refine ⟨_, rfl, _, _, _, _, rfl, rfl, hL2, at1, _, _, rfl, rfl, .inr ⟨by decide, by decide⟩, _, rfl, _, _, _, _, rfl, rfl, hL2, at2, _, _, rfl, rfl, .inl ⟨by decide, by decide⟩, _, _, rfl, rfl, _, _, rfl, rfl, _, _, rfl, rfl, (by show (0 : Int) < _; decide), ?_⟩
      refine ⟨_, rfl, _, rfl, _, _, rfl, rfl, .inl (modb _ (by decide) (by decide)), _, _, rfl, rfl, (by show (0 : Int) < _; decide), ?_⟩
      refine ⟨_, rfl, _, _, rfl, rfl, .inr ⟨by decide, by decide⟩, _, rfl, _, _, _, _, rfl, rfl, hL2, at2, _, _, rfl, rfl, .inl ⟨by decide, by decide⟩, _, _, rfl, rfl, _, _, rfl, rfl, (by show (0 : Int) < _; decide), ?_⟩
      refine ⟨_, rfl, _, rfl, _, _, rfl, rfl, .inl (modb _ (by decide) (by decide)), _, _, rfl, rfl, (by show (0 : Int) < _; decide), _, _, rfl, rfl, ⟨by decide, by decide⟩, _, rfl, _, _, rfl, rfl, m0, ?_⟩
      exact q _ _ (Int.emod_nonneg _ (by omega)) (Int.emod_lt_of_pos _ m0) d1
theorem ok__law_long (D : Df K mg "_law_long" s__law_long ["_law_stream_here"]) (GT : Ok P w K mg base 1 "_law_take" ["_law_stream_here", "_law_many"] spTake) : Ok P w K mg base 2 "_law_long" ["_law_stream_here"] (spDraw 100) := by
  refine D.ok fun f fd F => F.ok sc__law_long (fun vs H Q E h => ?_) (fun cdv A outer s H vs Q E hr h => ?_)
  · obtain ⟨s, rfl, _⟩ := h
    rfl
  · obtain ⟨s, rfl, hS, q⟩ := h
    refine ⟨_, pss_one (ps_ret (pe_op op_add (pe_op op_pow pe_int pe_int) (pe_op op_mulW (cl GT hr (pa_cons (pv 0) (pa_cons (pe_op op_pow pe_int pe_int) pa_nil))) (pe_ix ix_list (pe_lst (pa_cons pe_int (pa_cons (pe_op op_pow pe_int pe_int) (pa_cons (pe_op op_pow pe_int pe_int) (pa_cons (pe_op op_mul pe_int (pe_op op_pow pe_int pe_int)) pa_nil))))) (cl GT hr (pa_cons (pv 0) (pa_cons pe_int pa_nil))) (fun _ _ => rfl))))), ?_⟩
    refine ⟨_, _, rfl, rfl, ⟨by decide, by decide, by decide⟩, _, rfl, _, _, rfl, rfl, ⟨by decide, by decide, by decide⟩, s, _, rfl, hS, by decide, by decide, fun d1 H1 k0 k1 r1 => ?_⟩
    refine ⟨_, _, rfl, rfl, ⟨by decide, by decide, by decide⟩, _, _, rfl, rfl, ⟨by decide, by decide, by decide⟩, _, _, rfl, rfl, ⟨by decide, by decide, by decide⟩, _, _, rfl, rfl, .inl ⟨by decide, by decide⟩, (by show 4 ≤ sizeLine; decide), fun p hp => ?_⟩
    refine ⟨_, rfl, s, _, rfl, (r1.trans (Dr.new r1.st hp)).st, by decide, by decide, fun d2 H2 j0 j1 r2 => ?_⟩
    obtain ⟨v, hv, hm⟩ := at_mem (xs := [.int 1, .int ((10 : Int) ^ (9 : Int).toNat), .int ((10 : Int) ^ (18 : Int).toNat), .int (8 * (10 : Int) ^ (20 : Int).toNat)]) j0 (by simpa using j1)
    have hv2 : ∃ z : Int, v = .int z ∧ 0 < z ∧ z ≤ 800000000000000000000 := by
      simp only [List.mem_cons, List.not_mem_nil, or_false] at hm
      rcases hm with rfl | rfl | rfl | rfl
      · exact ⟨_, rfl, by decide, by decide⟩
      · exact ⟨_, rfl, by decide, by decide⟩
      · exact ⟨_, rfl, by decide, by decide⟩
      · exact ⟨_, rfl, by decide, by decide⟩
    obtain ⟨z, rfl, z0, z1⟩ := hv2
    have k1' : d1 < 1000000000 := k1
    have b1 : d1 * z ≤ 1000000000 * 800000000000000000000 := Int.le_trans (Int.mul_le_mul_of_nonneg_right (by omega) (by omega)) (Int.mul_le_mul_of_nonneg_left z1 (by omega))
    have b0 : 0 ≤ d1 * z := Int.mul_nonneg k0 (by omega)
    have e10 : ((10 : Int) ^ (29 : Int).toNat) = 100000000000000000000000000000 := by decide
    have hp2 := r2.keep p _ (Ne.symm (r1.st.ne hp)) upd_same
    refine ⟨p, _, d2, _, rfl, rfl, sq_of hp2, hv, _, _, rfl, rfl, mulOk (a := 100) (b := 100) (by omega) (by omega), _, _, rfl, rfl, ?_⟩
    refine q _ _ ?_ ?_ ((r1.trans (Dr.new r1.st hp)).trans r2)
    · rw [e10]
      omega
    · rw [e10]
      omega
theorem ok__law_number (D : Df K mg "_law_number" s__law_number ["_law_stream_here"]) (GT : Ok P w K mg base 1 "_law_take" ["_law_stream_here", "_law_many"] spTake) (GL : Ok P w K mg base 2 "_law_long" ["_law_stream_here"] (spDraw 100))
    (GP : Ok P w K mg base 1 "_law_part" ["_law_top", "_law_bottom"] (spPart K)) : Ok P w K mg base 3 "_law_number" ["_law_stream_here"] (spNum K 100 100) := by
  refine D.ok fun f fd F => F.ok sc__law_number (fun vs H Q E h => ?_) (fun cdv A outer s H vs Q E hr h => ?_)
  · obtain ⟨s, rfl, _⟩ := h
    rfl
  · obtain ⟨s, rfl, hS, q⟩ := h
    have hr1 : Room 1 _ := hr.mono (by decide)
    refine ⟨_, pss_cons (ps_set (i := 1) sc__law_number.nd rfl (.inl rfl) (cl GT hr1 (pa_cons (pv 0) (pa_cons pe_int pa_nil))))
      (pss_cons (ps_if (pt_cmpR op_lt (pv 1) pe_int (nomark _)) (pss_one (ps_ret (pe_tup (pa_cons pe_int (pa_cons pe_int pa_nil))))) pss_nil)
      (pss_cons (ps_set (i := 2) sc__law_number.nd rfl (.inl rfl) (pe_op op_sub (cl GT hr1 (pa_cons (pv 0) (pa_cons pe_int pa_nil))) pe_int))
      (pss_cons (ps_set (i := 3) sc__law_number.nd rfl (.inl rfl) (pe_op op_add pe_int (cl GT hr1 (pa_cons (pv 0) (pa_cons pe_int pa_nil)))))
      (pss_cut (ps_if (pt_cmpR op_in_seq (pv 1) (pe_tup (pa_cons pe_int (pa_cons pe_int pa_nil))) (by rfl)) (pss_one (ps_set (i := 2) sc__law_number.nd rfl (.inl rfl) (pe_op op_mulW (cl GL hr (pa_cons (pv 0) pa_nil)) (pe_ix ix_list (pe_lst (pa_cons pe_int (pa_cons (pe_un un_neg pe_int) pa_nil))) (cl GT hr1 (pa_cons (pv 0) (pa_cons pe_int pa_nil))) (fun _ _ => rfl))))) pss_nil)
      (pss_cut (ps_if (pt_cmpR op_in_seq (pv 1) (pe_tup (pa_cons pe_int (pa_cons pe_int pa_nil))) (by rfl)) (pss_one (ps_set (i := 3) sc__law_number.nd rfl (.inl rfl) (cl GL hr (pa_cons (pv 0) pa_nil)))) pss_nil)
      (pss_one (ps_ret (cl GP hr1 (pa_cons (pv 2) (pa_cons (pv 3) pa_nil)))))))))), ?_⟩
    refine ⟨_, rfl, s, _, rfl, hS, by decide, by decide, fun wy H1 w0 w1 r1 => ?_⟩
    refine ⟨_, rfl, _, _, rfl, rfl, _, rfl, ite2 (fun _ => ?_) (fun _ => ?_)⟩
    · refine ⟨(by show 2 ≤ sizeLine; decide), fun p hp => ?_⟩
      exact q _ 0 _ (r1.trans (Dr.new r1.st hp)) (made rfl rfl) (sz_zero.mono (by decide) (by decide))
    refine ⟨_, rfl, s, _, rfl, r1.st, by decide, by decide, fun t0 H2 t1 t2 r2 => ?_⟩
    refine ⟨_, _, rfl, rfl, _, rfl, s, _, rfl, r2.st, by decide, by decide, fun c0 H3 c1 c2 r3 => ?_⟩
    refine ⟨_, _, rfl, rfl, ?_⟩
    have r13 := (r1.trans r2).trans r3
    -- the top
    refine ⟨fun σ H' => ∃ t : Int, σ = [some (.ref s), some (.int wy), some (.int t), some (.int (1 + c0))] ∧ t.natAbs < 2 ^ 100 ∧ Dr s H H', ?_, ?_⟩
    · refine ⟨_, rfl, (by show 2 ≤ sizeLine; decide), fun p hp => ?_⟩
      have r4 := r13.trans (Dr.new (o := .tup [.int 6, .int 8]) r13.st hp)
      refine ⟨p, _, rfl, .inr (st_of upd_same), rfl, rfl, _, rfl, ite2 (fun _ => ?_) (fun _ => ?_)⟩
      · refine ⟨_, rfl, s, rfl, r4.st, fun l H5 l0 l1 r5 => ?_⟩
        refine ⟨_, rfl, (by show 2 ≤ sizeLine; decide), fun p2 hp2 => ?_⟩
        have r6 := r5.trans (Dr.new (o := .lst [.int 1, .int (-1)]) r5.st hp2)
        refine ⟨_, rfl, s, _, rfl, r6.st, by decide, by decide, fun d2 H7 j0 j1 r7 => ?_⟩
        obtain ⟨v, hv, hm⟩ := at_mem (xs := [.int 1, .int (-1)]) j0 (by simpa using j1)
        have hv2 : ∃ z : Int, v = .int z ∧ (z = 1 ∨ z = -1) := by
          simp only [List.mem_cons, List.not_mem_nil, or_false] at hm
          rcases hm with rfl | rfl
          · exact ⟨_, rfl, .inl rfl⟩
          · exact ⟨_, rfl, .inr rfl⟩
        obtain ⟨z, rfl, hz⟩ := hv2
        have hp3 := r7.keep p2 _ (Ne.symm (r5.st.ne hp2)) upd_same
        have z2 : z.natAbs < 2 ^ 1 := by
          rcases hz with rfl | rfl <;> decide
        refine ⟨p2, _, d2, _, rfl, rfl, sq_of hp3, hv, _, _, rfl, rfl, mulOk l1 z2, l * z, rfl, ?_, ((r4.trans r5).trans (Dr.new r5.st hp2)).trans r7⟩
        rcases hz with rfl | rfl
        · rw [Int.mul_one]
          exact l1
        · rw [show l * -1 = -l by omega, Int.natAbs_neg]
          exact l1
      · exact ⟨t0 - 4, rfl, by omega, r4⟩
    · rintro σ H4 ⟨t, rfl, ht, r4⟩
      refine ⟨fun σ H' => ∃ b : Int, σ = [some (.ref s), some (.int wy), some (.int t), some (.int b)] ∧ 0 < b ∧ b.natAbs < 2 ^ 100 ∧ Dr s H H', ?_, ?_⟩
      · refine ⟨_, rfl, (by show 2 ≤ sizeLine; decide), fun p hp => ?_⟩
        have r5 := r4.trans (Dr.new (o := .tup [.int 7, .int 8]) r4.st hp)
        refine ⟨p, _, rfl, .inr (st_of upd_same), rfl, rfl, _, rfl, ite2 (fun _ => ?_) (fun _ => ?_)⟩
        · exact ⟨_, rfl, s, rfl, r5.st, fun l H5 l0 l1 r6 => ⟨l, rfl, l0, l1, r5.trans r6⟩⟩
        · exact ⟨1 + c0, rfl, by omega, by omega, r5⟩
      · rintro σ H5 ⟨b, rfl, b0, b1, r5⟩
        refine ⟨_, rfl, _, rfl, t, b, 100, rfl, b0, b1, by decide, by decide, fun v H' e hv => ?_⟩
        exact q v _ H' (r5.trans (Dr.ex r5.st e)) hv (sz_div b0 ht b1)
end

end K06
end
section
set_option maxRecDepth 100000
set_option maxHeartbeats 400000
namespace K06
open PySem L2 Evl Nc PyProof.Rows
section
variable {P : Program} {w : World} {K : PySem.W.Frag} {mg : Str → Option Value} {base : Heap}
theorem row_turn {K : PySem.W.Frag} {s D : Addr} {H H' H4 : Hp} {i n d : Nat} {v : V} {r : Rat} (hS : Stm s H) (hD : H D = none) (hi : i < 1000) (h : ∃ L xs, H' D = some (.lst xs) ∧ FrL K H' xs L ∧ L.length = i ∧ SzL n d L ∧ Dr s H H') (r4 : Dr s H' H4) (hv : FrV K H4 v r) (hs : Sz n d r) :
    ∃ acc, H4 D = some (.lst acc) ∧ acc.length < sizeLine ∧ ∃ L xs, upd H4 D (.lst (acc ++ [v])) D = some (.lst xs) ∧ FrL K (upd H4 D (.lst (acc ++ [v]))) xs L ∧ L.length = i + 1 ∧ SzL n d L ∧ Dr s H (upd H4 D (.lst (acc ++ [v]))) := by
  obtain ⟨L, xs, hx, hl, hn, hz, r1⟩ := h
  have h4 := r4.keep D _ (Ne.symm (hS.ne hD)) hx
  have hln := Paired.length hl
  refine ⟨xs, h4, sz_lt (by omega), L ++ [r], xs ++ [v], upd_same, ?_, by simp [hn], ?_, (r1.trans r4).mut hD (hS.ne hD)⟩
  · exact Paired.snoc (pmono (fun _ _ q => FrV.mut h4 (FrV.dr r1.st r4 q)) hl) (FrV.mut h4 hv)
  · intro a ha
    rcases List.mem_append.mp ha with ha | ha
    · exact hz a ha
    · rw [List.mem_singleton.mp ha]
      exact hs
theorem ok_cut_at_nought (D : Df K mg "cut_at_nought" s_cut_at_nought ["one"]) (CN : Cst K mg "NOUGHT" 0) : Ok P w K mg base 1 "cut_at_nought" ["one"] (spCutN K) := by
  refine D.ok fun f fd F => F.ok sc_cut_at_nought (fun vs H Q E h => ?_) (fun cdv A outer s H vs Q E hr h => ?_)
  · obtain ⟨x, r, rfl, _⟩ := h
    rfl
  · obtain ⟨x, r, rfl, hx, q⟩ := h
    obtain ⟨aN, gN, hN⟩ := CN.ex
    refine ⟨_, pss_cons (ps_if (pt_cmpR op_lt (pe_ix ix_tup (pv 0) pe_int (fun _ _ => rfl)) pe_int (nomark _)) (pss_one (ps_ret (pe_glob (v := .ref aN) (by rfl) gN rfl))) pss_nil) (pss_one (ps_ret (pv 0))), ?_⟩
    have fx := hx
    obtain ⟨t, rfl, qx⟩ := hx
    refine ⟨_, rfl, _, _, _, _, rfl, rfl, qx, at0, _, _, rfl, rfl, _, rfl, ite2 (fun hd => ?_) (fun hd => ?_)⟩
    · refine q _ ?_
      unfold cutR
      rw [if_pos (of_decide_eq_true hd)]
      exact hN H
    · refine ⟨_, rfl, q _ ?_⟩
      unfold cutR
      rw [if_neg (fun z => hd (decide_eq_true z))]
      exact fx
theorem tellsB {n : Nat} {z : Sum2} (h : z.1.length = n) (hn : n ≤ 20) : 0 < 100 ∧ 0 < 100 ∧ 100 ≤ 100 ∧ 100 ≤ 100 ∧ 1 + z.1.length * (100 + 100) + 100 ≤ 8900 ∧ 1 + z.1.length * (100 + 100 + 1) ≤ 400000 ∧ 100 ≤ 400000 := by
  rw [h]
  omega
theorem ok__reckoned (D : Df K mg "_reckoned" s__reckoned ["nodes", "ahead"]) (GS : Ok P w K mg base 4 "sum_at" ["one", "row"] (spTells K)) (mtuple : mg "tuple" = none) : Ok P w K mg base 5 "_reckoned" ["nodes", "ahead"] (spReck K) := by
  refine D.ok fun f fd F => F.ok sc__reckoned (fun vs H Q E h => ?_) (fun cdv A outer s H vs Q E hr h => ?_)
  · obtain ⟨x, y, zs, L, rfl, _⟩ := h
    rfl
  · obtain ⟨x, y, zs, L, rfl, ⟨t, xs, rfl, qt, lz⟩, hy, hz, hL, hl, sL, q⟩ := h
    refine ⟨_, pss_one (ps_ret (pe_callTy call_tuple_of (by rfl) mtuple (by decide +kernel) (pa_cons (pe_lc (own := [("node", 2)]) (g := gName 2) (tt := tYes) rfl sc__reckoned.nd (pi_tup (pv 0)) (blkOk_by (N := ["nodes", "ahead", "node"]) (sc := defScope s__reckoned) (by decide +kernel)) (fun _ _ _ _ _ => (pg_name (i := 2) sc__reckoned.nd rfl (.inl rfl))) (fun _ _ _ _ _ => pts_nil) (fun _ _ _ _ _ => cl GS hr (pa_cons (pv 2) (pa_cons (pv 1) pa_nil)))) pa_nil))), ?_⟩
    have hlen := Paired.length lz
    refine ⟨_, rfl, t, rfl, ⟨_, qt⟩, fun D hD => ?_⟩
    refine lc_tup (xs := xs) (Bld (FrV K) H D (zs.map fun z => tells z L)) (bld0 hD) (fun i H' _ b => ex_t b.1 qt) ?_ ?_
    · rintro i x H' hx b
      obtain ⟨z, hz1, fz⟩ := pget lz hx
      obtain ⟨n1, n2, n3⟩ := hz z (List.mem_of_getElem? hz1)
      refine ⟨rfl, ?_⟩
      refine ⟨_, rfl, _, rfl, x, y, z, L, 100, 100, 100, 100, rfl, fz.ex b.1, hy.ex b.1, n1, n2, n3, sL, tellsB n1 hL, fun v H4 e4 hv => ?_⟩
      refine bld_step stF hD b e4 ?_ ?_ hv
      · rw [List.getElem?_map, hz1]
        rfl
      · have := (List.getElem?_eq_some_iff.mp hx).1
        omega
    · intro H' b
      obtain ⟨e1, ws, hws, pz⟩ := bld_end (by simp; omega) b
      refine ⟨D, ws, rfl, .inl ⟨sq_of hws, fun l hl' => ?_⟩⟩
      exact q _ _ (e1.trans (Ex.new hl')) (bld_row (n := 0) hws pz hl')
theorem ok_Layer_told {C : Addr} (D : Md K C "told" "Layer.told" s_Layer_told ["self"]) (T : Cls K C) (nA : NoAttr K C "_nodes") : MOk P w K mg base 1 C "told" ["self"] (spToldL C) := by
  refine D.ok fun f fd F => F.ok sc_Layer_told (fun vs H Q E h => ?_) (fun cdv A outer s H vs Q E hr h => ?_)
  · obtain ⟨p, v, rfl, _⟩ := h
    rfl
  · obtain ⟨p, v, rfl, ⟨dx, hp⟩, q⟩ := h
    refine ⟨_, pss_one (ps_ret (pe_fld (pv 0) rfl)), ?_⟩
    exact ⟨_, rfl, p, C, dx, _, v, rfl, hp, T, nA, rfl, q⟩
theorem ok_CutLayer_told {C : Addr} (D : Md K C "told" "CutLayer.told" s_CutLayer_told ["self"]) (T : Cls K C) (nA : NoAttr K C "_nodes") : MOk P w K mg base 1 C "told" ["self"] (spToldL C) := by
  refine D.ok fun f fd F => F.ok sc_CutLayer_told (fun vs H Q E h => ?_) (fun cdv A outer s H vs Q E hr h => ?_)
  · obtain ⟨p, v, rfl, _⟩ := h
    rfl
  · obtain ⟨p, v, rfl, ⟨dx, hp⟩, q⟩ := h
    refine ⟨_, pss_one (ps_ret (pe_fld (pv 0) rfl)), ?_⟩
    exact ⟨_, rfl, p, C, dx, _, v, rfl, hp, T, nA, rfl, q⟩
theorem ok_Layer_sums {C : Addr} (D : Md K C "sums" "Layer.sums" s_Layer_sums ["self", "ahead"]) (T : Cls K C) (nA : NoAttr K C "_nodes") (GR : Ok P w K mg base 5 "_reckoned" ["nodes", "ahead"] (spReck K)) : MOk P w K mg base 6 C "sums" ["self", "ahead"] (spPass K C false) := by
  refine D.ok fun f fd F => F.ok sc_Layer_sums (fun vs H Q E h => ?_) (fun cdv A outer s H vs Q E hr h => ?_)
  · obtain ⟨p, v, y, zs, L, rfl, _⟩ := h
    rfl
  · obtain ⟨p, v, y, zs, L, rfl, ⟨dx, hp⟩, hv, hy, hz, hL, hl, sL, q⟩ := h
    refine ⟨_, pss_one (ps_ret (cl GR hr (pa_cons (pe_fld (pv 0) rfl) (pa_cons (pv 1) pa_nil)))), ?_⟩
    exact ⟨_, rfl, p, C, dx, _, v, rfl, hp, T, nA, rfl, _, rfl, v, y, zs, L, rfl, hv, hy, hz, hL, hl, sL, q⟩
theorem ok_Layer_passed {C : Addr} (D : Md K C "passed" "Layer.passed" s_Layer_passed ["self", "ahead"]) (T : Cls K C) (nA : NoAttr K C "_nodes") (GR : Ok P w K mg base 5 "_reckoned" ["nodes", "ahead"] (spReck K)) : MOk P w K mg base 6 C "passed" ["self", "ahead"] (spPass K C false) := by
  refine D.ok fun f fd F => F.ok sc_Layer_passed (fun vs H Q E h => ?_) (fun cdv A outer s H vs Q E hr h => ?_)
  · obtain ⟨p, v, y, zs, L, rfl, _⟩ := h
    rfl
  · obtain ⟨p, v, y, zs, L, rfl, ⟨dx, hp⟩, hv, hy, hz, hL, hl, sL, q⟩ := h
    refine ⟨_, pss_one (ps_ret (cl GR hr (pa_cons (pe_fld (pv 0) rfl) (pa_cons (pv 1) pa_nil)))), ?_⟩
    exact ⟨_, rfl, p, C, dx, _, v, rfl, hp, T, nA, rfl, _, rfl, v, y, zs, L, rfl, hv, hy, hz, hL, hl, sL, q⟩
theorem ok_CutLayer_sums {C : Addr} (D : Md K C "sums" "CutLayer.sums" s_CutLayer_sums ["self", "ahead"]) (T : Cls K C) (nA : NoAttr K C "_nodes") (GR : Ok P w K mg base 5 "_reckoned" ["nodes", "ahead"] (spReck K)) : MOk P w K mg base 6 C "sums" ["self", "ahead"] (spPass K C false) := by
  refine D.ok fun f fd F => F.ok sc_CutLayer_sums (fun vs H Q E h => ?_) (fun cdv A outer s H vs Q E hr h => ?_)
  · obtain ⟨p, v, y, zs, L, rfl, _⟩ := h
    rfl
  · obtain ⟨p, v, y, zs, L, rfl, ⟨dx, hp⟩, hv, hy, hz, hL, hl, sL, q⟩ := h
    refine ⟨_, pss_one (ps_ret (cl GR hr (pa_cons (pe_fld (pv 0) rfl) (pa_cons (pv 1) pa_nil)))), ?_⟩
    exact ⟨_, rfl, p, C, dx, _, v, rfl, hp, T, nA, rfl, _, rfl, v, y, zs, L, rfl, hv, hy, hz, hL, hl, sL, q⟩
theorem ok_CutLayer_passed {C : Addr} (D : Md K C "passed" "CutLayer.passed" s_CutLayer_passed ["self", "ahead"]) (T : Cls K C) (nA : NoAttr K C "_nodes") (GR : Ok P w K mg base 5 "_reckoned" ["nodes", "ahead"] (spReck K)) (GC : Ok P w K mg base 1 "cut_at_nought" ["one"] (spCutN K)) (mtuple : mg "tuple" = none) :
    MOk P w K mg base 6 C "passed" ["self", "ahead"] (spPass K C true) := by
  refine D.ok fun f fd F => F.ok sc_CutLayer_passed (fun vs H Q E h => ?_) (fun cdv A outer s H vs Q E hr h => ?_)
  · obtain ⟨p, v, y, zs, L, rfl, _⟩ := h
    rfl
  · obtain ⟨p, v, y, zs, L, rfl, ⟨dx, hp⟩, hv, hy, hz, hL, hl, sL, q⟩ := h
    have hr1 : Room 1 _ := hr.mono (by decide)
    refine ⟨_, pss_one (ps_ret (pe_callTy call_tuple_of (by rfl) mtuple (by decide +kernel) (pa_cons (pe_lc (own := [("one", 2)]) (g := gName 2) (tt := tYes) rfl sc_CutLayer_passed.nd (pi_tup (cl GR hr (pa_cons (pe_fld (pv 0) rfl) (pa_cons (pv 1) pa_nil)))) (blkOk_by (N := ["self", "ahead", "one"]) (sc := defScope s_CutLayer_passed) (by decide +kernel)) (fun _ _ _ _ _ => (pg_name (i := 2) sc_CutLayer_passed.nd rfl (.inl rfl))) (fun _ _ _ _ _ => pts_nil) (fun _ _ _ _ _ => cl GC hr1 (pa_cons (pv 2) pa_nil))) pa_nil))), ?_⟩
    refine ⟨_, rfl, p, C, dx, _, v, rfl, hp, T, nA, rfl, _, rfl, v, y, zs, L, rfl, hv, hy, hz, hL, hl, sL, fun u H1 e1 hu => ?_⟩
    obtain ⟨t, xs, rfl, qt, lx⟩ := hu
    have hlen := Paired.length lx
    rw [List.length_map] at hlen
    refine ⟨t, rfl, ⟨_, qt⟩, fun D hD => ?_⟩
    refine lc_tup (xs := xs) (Bld (FrV K) H1 D ((zs.map fun z => tells z L).map cutR)) (bld0 hD) (fun i H' _ b => ex_t b.1 qt) ?_ ?_
    · rintro i x H' hx b
      obtain ⟨r, hr1, fr⟩ := pget lx hx
      refine ⟨rfl, ?_⟩
      refine ⟨_, rfl, x, r, rfl, fr.ex b.1, fun w hw => ?_⟩
      refine bld_step stF hD b (Ex.refl _) ?_ ?_ hw
      · rw [List.getElem?_map, hr1]
        rfl
      · have := (List.getElem?_eq_some_iff.mp hx).1
        omega
    · intro H' b
      obtain ⟨e2, ws, hws, pz⟩ := bld_end (by simp; omega) b
      refine ⟨D, ws, rfl, .inl ⟨sq_of hws, fun l hl' => ?_⟩⟩
      exact q _ _ ((e1.trans e2).trans (Ex.new hl')) (bld_row (n := 0) hws pz hl')
theorem fn_init {C : Addr} {f : Addr} {fd : FuncData} (F : Fun K "__init__" "Layer.__init__" s_Layer___init__ f fd) (T : Cls K C) (nA : NoAttr K C "_nodes") (mtuple : mg "tuple" = none) : FnOk P w K mg base CX0 1 f fd ["self", "nodes"] (spInitL K C) := by
  refine F.ok sc_Layer___init__ (fun vs H Q E h => ?_) (fun cdv A outer s H vs Q E hr h => ?_)
  · obtain ⟨p, dx, a, xs, zs, rfl, _⟩ := h
    rfl
  · obtain ⟨p, dx, a, xs, zs, rfl, hp, hx, lz, q⟩ := h
    refine ⟨_, pss_one (ps_fld (pv 0) (pe_callTy call_tuple_of (by rfl) mtuple (by decide +kernel) (pa_cons (pv 1) pa_nil)) rfl), ?_⟩
    refine ⟨_, rfl, a, xs, rfl, ?_⟩
    have fin : ∀ (H1 : Hp) (t : Addr), Ex H H1 → SqT K H1 t xs → Q .non (upd H1 p (.ins C dx [(("_nodes" : Str), .ref t)])) := by
      intro H1 t e1 ht
      have hp1 := e1 _ _ hp
      have mv : ∀ {u : Addr} {ys : List V}, SqT K H1 u ys → SqT K (upd H1 p (.ins C dx [(("_nodes" : Str), .ref t)])) u ys := by
        intro u ys hq
        rcases hq with (hq | ⟨o, hq⟩) | hq
        · exact .inl (.inl (by rw [upd_ne (ne_of hq hp1 (by intro z; cases z))]; exact hq))
        · exact .inl (.inr ⟨o, by rw [upd_ne (ne_of hq hp1 (by intro z; cases z))]; exact hq⟩)
        · exact .inr hq
      have mf : ∀ {v r}, FrV K H1 v r → FrV K (upd H1 p (.ins C dx [(("_nodes" : Str), .ref t)])) v r := by
        rintro v r ⟨u, rfl, hq⟩
        exact ⟨u, rfl, mv hq⟩
      refine q _ (.ref t) (fun b o hb ho => by rw [upd_ne hb]; exact e1 _ _ ho) ⟨dx, upd_same⟩ ⟨t, xs, rfl, mv ht, pmono (fun v z hz => ?_) lz⟩
      obtain ⟨u, a1, b1, rfl, q1, ⟨u2, ys, rfl, q2, l2⟩, f1⟩ := hz.ex e1
      exact ⟨u, _, _, rfl, mv q1, ⟨u2, ys, rfl, mv q2, pmono (fun _ _ => mf) l2⟩, mf f1⟩
    rcases hx with hx | hx
    · exact .inl ⟨hx, fun l hl => ⟨_, rfl, p, C, dx, [], rfl, (by rw [upd_ne (ne_of_none hp hl)]; exact hp), T, nA, (by show 0 < 1000; decide), fin _ l (Ex.new hl) (st_of upd_same)⟩⟩
    · exact .inr ⟨hx, _, rfl, p, C, dx, [], rfl, hp, T, nA, (by show 0 < 1000; decide), fin H a (Ex.refl H) hx⟩
theorem ok__law_node (D : Df K mg "_law_node" s__law_node ["_law_stream_here", "_law_many"]) (GN : Ok P w K mg base 3 "_law_number" ["_law_stream_here"] (spNum K 100 100)) (mtuple : mg "tuple" = none) (mrange : mg "range" = none) : Ok P w K mg base 4 "_law_node" ["_law_stream_here", "_law_many"] (spNode K) := by
  refine D.ok fun f fd F => F.ok sc__law_node (fun vs H Q E h => ?_) (fun cdv A outer s H vs Q E hr h => ?_)
  · obtain ⟨s, k, rfl, _⟩ := h
    rfl
  · obtain ⟨s, k, rfl, hS, hk, q⟩ := h
    refine ⟨_, pss_one (ps_ret (pe_tup (pa_cons (pe_callTy call_tuple_of (by rfl) mtuple (by decide +kernel) (pa_cons (pe_lc (own := [("_law_k", 2)]) (g := gName 2) (tt := tYes) rfl sc__law_node.nd (pi_range1 (by rfl) mrange (pa_cons (pv 1) pa_nil)) (blkOk_by (N := ["_law_stream_here", "_law_many", "_law_k"]) (sc := defScope s__law_node) (by decide +kernel)) (fun _ _ _ _ _ => (pg_name (i := 2) sc__law_node.nd rfl (.inl rfl))) (fun _ _ _ _ _ => pts_nil) (fun _ _ _ _ _ => cl GN hr (pa_cons (pv 0) pa_nil))) pa_nil)) (pa_cons (cl GN hr (pa_cons (pv 0) pa_nil)) pa_nil)))), ?_⟩
    refine ⟨_, rfl, (k : Int), rfl, by omega, by omega, fun D hD => ?_⟩
    refine lc_range (lo := 0) (n := ((k : Int)).toNat) (fun i H' => ∃ L xs, H' D = some (.lst xs) ∧ FrL K H' xs L ∧ L.length = i ∧ SzL 100 100 L ∧ Dr s H H')
      ⟨[], [], upd_same, .nil, rfl, (fun _ z => by cases z), Dr.new hS hD⟩ ?_ ?_
    · rintro i H' hi h
      rw [Int.toNat_natCast] at hi
      have hst : Stm s H' := by
        obtain ⟨L, xs, _, _, _, _, r1⟩ := h
        exact r1.st
      refine ⟨rfl, ?_⟩
      refine ⟨_, rfl, s, rfl, hst, fun v r H4 r4 hv hs => ?_⟩
      exact row_turn hS hD (by omega) h r4 hv hs
    · rintro H' ⟨L, xs, hx, hl, hn, hz, r1⟩
      rw [Int.toNat_natCast] at hn
      refine ⟨D, xs, rfl, .inl ⟨sq_of hx, fun l hl' => ?_⟩⟩
      have r2 := r1.trans (Dr.new (o := .tup xs) r1.st hl')
      have row : RowV K (upd H' l (.tup xs)) (.ref l) L := ⟨l, xs, rfl, st_of upd_same, FrL.ex (Ex.new hl') hl⟩
      refine ⟨_, rfl, s, rfl, r2.st, fun v r H4 r4 hv hs => ⟨(by show 2 ≤ sizeLine; decide), fun p hp => ?_⟩⟩
      exact q _ (L, r) _ ((r2.trans r4).trans (Dr.new r4.st hp)) ⟨p, _, _, rfl, st_of upd_same, (row.dr r2.st r4).ex (Ex.new hp), hv.ex (Ex.new hp)⟩ hn hz hs
theorem ok__law_is_row (D : Df K mg "_law_is_row" s__law_is_row ["_law_found", "_law_due"]) (misi : mg "isinstance" = none) (mtuple : mg "tuple" = none) (mbool : mg "bool" = none) : Ok P w K mg base 1 "_law_is_row" ["_law_found", "_law_due"] (spIsRow K) := by
  refine D.ok fun f fd F => F.ok sc__law_is_row (fun vs H Q E h => ?_) (fun cdv A outer s H vs Q E hr h => ?_)
  · obtain ⟨x, y, L, rfl, _⟩ := h
    rfl
  · obtain ⟨x, y, L, rfl, hx, hy, hz, q⟩ := h
    refine ⟨_, (pss_cons (ps_if (PW.pt (pw_or (pt_not (pt_val (pe_callB call_isi (by rfl) misi (by decide +kernel) (pa_cons (pv 0) (pa_cons (pe_bltn (v := .ty "tuple") (by rfl) mtuple (by decide +kernel) rfl) pa_nil))))) (pw_or1 (pt_cmpR (op_neD hr.units) (pv 0) (pv 1) (nomark _))))) (pss_one (ps_ret pe_bl)) pss_nil)
      (pss_cons (ps_for PassesOwn.never rfl (pi_tup (pv 0)) (pg_name (i := 2) sc__law_is_row.nd rfl (.inl rfl)) (pss_one (ps_if (PW.pt (pw_or (pt_not (pt_val (pe_callB call_isi (by rfl) misi (by decide +kernel) (pa_cons (pv 2) (pa_cons (pe_bltn (v := .ty "tuple") (by rfl) mtuple (by decide +kernel) rfl) pa_nil))))) (pw_or (pt_val (pe_callB call_isi (by rfl) misi (by decide +kernel) (pa_cons (pe_ix ix_tup (pv 2) pe_int (fun _ _ => rfl)) (pa_cons (pe_bltn (v := .ty "bool") (by rfl) mbool (by decide +kernel) rfl) pa_nil)))) (pw_or1 (pt_val (pe_callB call_isi (by rfl) misi (by decide +kernel) (pa_cons (pe_ix ix_tup (pv 2) pe_int (fun _ _ => rfl)) (pa_cons (pe_bltn (v := .ty "bool") (by rfl) mbool (by decide +kernel) rfl) pa_nil)))))))) (pss_one (ps_ret pe_bl)) pss_nil)))
      (pss_one (ps_ret pe_bl)))), ?_⟩
    have dx := hx.dp
    have dy := hy.dp
    obtain ⟨t, xs, rfl, qt, la⟩ := hx
    refine ⟨_, rfl, _, _, _, _, _, rfl, .ty _, tyT qt, kit_ty (r := true) (by decide +kernel), _, rfl, ?_⟩
    refine iteF ?_
    refine ⟨_, rfl, _, rfl, _, _, dx, dy, shaped_row _, shaped_row _, _, rfl, ?_⟩
    rw [eqv_row]
    refine iteF ?_
    refine ⟨_, rfl, t, rfl, ⟨_, qt⟩, for_tup (K := K) (a := t) (xs := xs) (fun i σ H' => ∃ o2, σ = [some (.ref t), some y, o2] ∧ Ex H H') ⟨none, rfl, Ex.refl H⟩ (fun i σ H' _ ⟨_, _, e⟩ => ex_t e qt) ?_ ?_⟩
    · rintro i v σ H' hi ⟨o2, rfl, e4⟩
      obtain ⟨r, _, hr1⟩ := pget la hi
      obtain ⟨tv, rfl, qv⟩ := hr1.ex e4
      refine ⟨_, rfl, _, _, _, _, _, rfl, .ty _, tyT qv, kit_ty (r := true) (by decide +kernel), _, rfl, ?_⟩
      refine iteF ?_
      refine ⟨_, rfl, _, _, _, _, rfl, rfl, qv, at0, _, _, _, _, _, rfl, .ty _, tyI _, kit_ty (r := false) (by decide +kernel), _, rfl, ?_⟩
      refine iteF ?_
      refine ⟨_, rfl, _, _, _, _, rfl, rfl, qv, at1, _, _, _, _, _, rfl, .ty _, tyI _, kit_ty (r := false) (by decide +kernel), _, rfl, ?_⟩
      refine iteF ?_
      exact ⟨_, rfl, e4⟩
    · rintro σ H' ⟨o2, rfl, e4⟩
      exact q H' e4
end

end K06
end
section
set_option maxRecDepth 100000
set_option maxHeartbeats 400000
namespace K06
open PySem L2 Evl Nc PyProof.Rows
section
variable {P : Program} {w : World} {K : PySem.W.Frag} {mg : Str → Option Value} {base : Heap}
structure LDefs (P : Program) (w : World) (K : PySem.W.Frag) (mg : Str → Option Value) (base : Heap) (C CL CC : Addr) (c : Bool) : Prop where
  T : C8.InsC K C
  nA : NoAttr K C "_nodes"
  told : MOk P w K mg base 1 C "told" ["self"] (spToldL C)
  sums : MOk P w K mg base 6 C "sums" ["self", "ahead"] (spPass K C false)
  passed : MOk P w K mg base 6 C "passed" ["self", "ahead"] (spPass K C c)
  isL : PySem.W.kitOne K (.ref C) (.ref CL) = some true
  isC : PySem.W.kitOne K (.ref C) (.ref CC) = some c
theorem no_m {v : V} {m : Str} (h : ¬ m = "_nodes") : List.lookup m [(("_nodes" : Str), v)] = none := by
  have qw : (m == ("_nodes" : Str)) = false := by simpa using h
  simp [List.lookup, qw]
theorem ok__law_one_right {C CL CC : Addr} {c : Bool} (D : Df K mg "_law_one_right" s__law_one_right ["_law_layer", "_law_cut", "_law_nodes", "_law_rows"]) (LD : LDefs P w K mg base C CL CC c) (mgL : mg "Layer" = some (.ref CL)) (mgC : mg "CutLayer" = some (.ref CC))
    (GTl : Ok P w K mg base 4 "_law_tells" ["_law_node_here", "_law_row"] (spTells K)) (GIR : Ok P w K mg base 1 "_law_is_row" ["_law_found", "_law_due"] (spIsRow K)) (misi : mg "isinstance" = none) (mtuple : mg "tuple" = none) (mint : mg "int" = none) :
    Ok P w K mg base 7 "_law_one_right" ["_law_layer", "_law_cut", "_law_nodes", "_law_rows"] (spOne K C c) := by
  refine D.ok fun f fd F => F.ok sc__law_one_right (fun vs H Q E h => ?_) (fun cdv A outer s H vs Q E hr h => ?_)
  · obtain ⟨p, an, ar, v, xs, ys, zs, Ls, n, rfl, _⟩ := h
    rfl
  · obtain ⟨p, an, ar, v, xs, ys, zs, Ls, n, rfl, hl, hv, hx, lz, hy, ly, hz, hL, hn, hzl, q⟩ := h
    obtain ⟨fT, dT, mT, FT, bT⟩ := LD.told.ex
    obtain ⟨fS, dS, mS, FS, bS⟩ := LD.sums.ex
    obtain ⟨fP, dP, mP, FP, bP⟩ := LD.passed.ex
    have hr1 : Room 1 _ := hr.mono (by decide)
    refine ⟨_, (pss_cons (ps_if (PW.pt (pw_or (pt_cmpR (op_neD hr.units) (pe_meth0 (pv 0) LD.T.cl mT FT hr1 bT .nil pass0) (pe_callTy call_tuple_of (by rfl) mtuple (by decide +kernel) (pa_cons (pv 2) pa_nil)) (nomark _)) (pw_or (pt_not (pt_val (pe_callB call_isi (by rfl) misi (by decide +kernel) (pa_cons (pe_meth0 (pv 0) LD.T.cl mT FT hr1 bT .nil pass0) (pa_cons (pe_bltn (v := .ty "tuple") (by rfl) mtuple (by decide +kernel) rfl) pa_nil))))) (pw_or1 (pt_not (pt_val (pe_callB call_isi (by rfl) misi (by decide +kernel) (pa_cons (pv 0) (pa_cons (pe_glob (v := .ref CL) (by rfl) mgL rfl) pa_nil))))))))) (pss_one (ps_ret pe_bl)) pss_nil)
      (pss_cons (ps_if (pt_cmpR op_ne (pe_callB call_isi (by rfl) misi (by decide +kernel) (pa_cons (pv 0) (pa_cons (pe_glob (v := .ref CC) (by rfl) mgC rfl) pa_nil))) (pv 1) (nomark _)) (pss_one (ps_ret pe_bl)) pss_nil)
      (pss_cons (ps_for PassesOwn.never rfl (pi_list (pv 3)) (pg_name (i := 4) sc__law_one_right.nd rfl (.inr rfl)) (pss_cons (ps_set (i := 5) sc__law_one_right.nd rfl (.inl rfl) (pe_callTy call_tuple_of (by rfl) mtuple (by decide +kernel) (pa_cons (pe_lc (own := [("_law_node_here", 7)]) (g := gName 7) (tt := tYes) rfl sc__law_one_right.nd (pi_list (pv 2)) (blkOk_by (N := ["_law_layer", "_law_cut", "_law_nodes", "_law_rows", "_law_row", "_law_due", "_law_low", "_law_node_here", "_law_one"]) (sc := defScope s__law_one_right) (by decide +kernel)) (fun _ _ _ _ _ => (pg_name (i := 7) sc__law_one_right.nd rfl (.inl rfl))) (fun _ _ _ _ _ => pts_nil) (fun _ _ _ _ _ => cl GTl (hr.mono (by decide)) (pa_cons (pv 7) (pa_cons (pv 4) pa_nil)))) pa_nil)))
      (pss_cons (ps_set (i := 6) sc__law_one_right.nd rfl (.inl rfl) (pe_callTy call_tuple_of (by rfl) mtuple (by decide +kernel) (pa_cons (pe_lc (own := [("_law_one", 8)]) (g := gName 8) (tt := tYes) rfl sc__law_one_right.nd (pi_tup (pv 5)) (blkOk_by (N := ["_law_layer", "_law_cut", "_law_nodes", "_law_rows", "_law_row", "_law_due", "_law_low", "_law_node_here", "_law_one"]) (sc := defScope s__law_one_right) (by decide +kernel)) (fun _ _ _ _ _ => (pg_name (i := 8) sc__law_one_right.nd rfl (.inl rfl))) (fun _ _ _ _ _ => pts_nil) (fun _ _ _ _ _ => pe_ix (ix_lK K) (pe_lst (pa_cons (pv 8) (pa_cons (pe_tup (pa_cons pe_int (pa_cons pe_int pa_nil))) pa_nil))) (pe_callTy call_int1 (by rfl) mint (by decide +kernel) (pa_cons (pe_cmpR op_lt (pe_ix (ix_tK K) (pv 8) pe_int (fun _ _ => rfl)) pe_int (nomark _)) pa_nil)) (fun _ _ => rfl))) pa_nil)))
      (pss_one (ps_if (PW.pt (pw_or (pt_not (pt_val (cl GIR hr1 (pa_cons (pe_meth (pv 0) LD.T.cl mS FS hr bS .nil pass0 (pa_cons (pv 4) pa_nil)) (pa_cons (pv 5) pa_nil))))) (pw_or1 (pt_not (pt_val (cl GIR hr1 (pa_cons (pe_meth (pv 0) LD.T.cl mP FP hr bP .nil pass0 (pa_cons (pv 4) pa_nil)) (pa_cons (pe_ix ix_list (pe_lst (pa_cons (pv 5) (pa_cons (pv 6) pa_nil))) (pe_callTy call_int1 (by rfl) mint (by decide +kernel) (pa_cons (pv 1) pa_nil)) (fun _ _ => rfl)) pa_nil)))))))) (pss_one (ps_ret pe_bl)) pss_nil)))))
      (pss_one (ps_ret pe_bl))))), ?_⟩
    have nT : List.lookup ("told" : Str) [(("_nodes" : Str), v)] = none := no_m (by decide +kernel)
    have nS : List.lookup ("sums" : Str) [(("_nodes" : Str), v)] = none := no_m (by decide +kernel)
    have nP : List.lookup ("passed" : Str) [(("_nodes" : Str), v)] = none := no_m (by decide +kernel)
    have hv0 := hv
    have hl0 := hl
    obtain ⟨dx, hp⟩ := hl
    obtain ⟨t, us, rfl, qt, lu⟩ := hv
    -- what it tells
    refine ⟨_, rfl, p, dx, _, rfl, hp, nT, p, _, rfl, hl0, _, rfl, an, xs, rfl, .inl ⟨hx, fun l1 hl1 => ?_⟩⟩
    have e1 : Ex H (upd H l1 (.tup xs)) := Ex.new hl1
    have d1 : Dp K (upd H l1 (.tup xs)) (.ref l1) (.tuple (zs.map sd)) := .tup (st_of upd_same) (sums_dp (pmono (fun _ _ => SumV.ex e1) lz))
    have d2 : Dp K (upd H l1 (.tup xs)) (.ref t) (.tuple (zs.map sd)) := .tup (ex_t e1 qt) (sums_dp (pmono (fun _ _ => SumV.ex e1) lu))
    refine ⟨_, _, d2, d1, shaped_sds _, shaped_sds _, _, rfl, ?_⟩
    rw [eqv_sds]
    refine iteF ?_
    have hp1 := e1 _ _ hp
    generalize upd H l1 (.tup xs) = H1 at e1 hp1 ⊢
    refine ⟨_, rfl, p, dx, _, rfl, hp1, nT, p, _, rfl, ⟨dx, hp1⟩, _, _, _, _, _, rfl, .ty _, tyT (ex_t e1 qt), kit_ty (r := true) (by decide +kernel), _, rfl, ?_⟩
    refine iteF ?_
    have ty := TyX.base (TyOf.ins hp1 LD.T.cl LD.T.ha LD.T.hn LD.T.htk LD.T.hm)
    refine ⟨_, rfl, _, _, _, _, _, rfl, .own CL, ty, LD.isL, _, rfl, ?_⟩
    refine iteF ?_
    refine ⟨_, rfl, _, _, _, _, _, rfl, .own CC, ty, LD.isC, _, rfl, rfl, _, rfl, ?_⟩
    refine iteNS rfl ?_
    -- the rows
    have hlx := Paired.length lz
    refine ⟨_, rfl, ar, rfl, ⟨_, ex_l e1 hy⟩, for_list (K := K) (a := ar) (xs := ys) (fun i σ H' => ∃ o4 o5 o6, σ = [some (.ref p), some (.bl c), some (.ref an), some (.ref ar), o4, o5, o6, none, none] ∧ Ex H H') ⟨none, none, none, rfl, e1⟩ (fun i σ H' _ ⟨_, _, _, _, e⟩ => ex_l e hy) ?_ ?_⟩
    · rintro i y σ H2 hi ⟨o4, o5, o6, rfl, e2⟩
      obtain ⟨L, hL1, fy⟩ := pget ly hi
      obtain ⟨n1, sL⟩ := hL L (List.mem_of_getElem? hL1)
      have fy2 := fy.ex e2
      have hz' : NodeOk L.length zs := by
        rw [n1]
        exact hz
      refine ⟨_, rfl, an, rfl, ⟨_, ex_l e2 hx⟩, fun D hD => ?_⟩
      refine lc_list (K := K) (a := an) (xs := xs) (Bld (FrV K) H2 D (zs.map fun z => tells z L)) (bld0 hD) (fun i H' _ b => ex_l (e2.trans b.1) hx) ?_ ?_
      · rintro j x H' hj b
        obtain ⟨z, hz1, fz⟩ := pget lz hj
        obtain ⟨m1, m2, m3⟩ := hz' z (List.mem_of_getElem? hz1)
        refine ⟨rfl, ?_⟩
        refine ⟨_, rfl, _, rfl, x, y, z, L, 100, 100, 100, 100, rfl, fz.ex (e2.trans b.1), fy2.ex b.1, m1, m2, m3, sL, tellsB m1 (by omega), fun v H4 e4 hv => ?_⟩
        refine bld_step stF hD b e4 ?_ ?_ hv
        · rw [List.getElem?_map, hz1]
          rfl
        · have := (List.getElem?_eq_some_iff.mp hj).1
          omega
      intro H3 b3
      obtain ⟨e3, ws, hws, pw⟩ := bld_end (by simp; omega) b3
      refine ⟨D, ws, rfl, .inl ⟨sq_of hws, fun l hl' => ?_⟩⟩
      have rowD := bld_row (n := 0) hws pw hl'
      have E3 : Ex H2 (upd H3 l (.tup ws)) := e3.trans (Ex.new hl')
      have qd : SqT K (upd H3 l (.tup ws)) l ws := st_of upd_same
      have pw2 : FrL K (upd H3 l (.tup ws)) ws (zs.map fun z => tells z L) := FrL.ex (Ex.new hl') pw
      generalize upd H3 l (.tup ws) = H4 at rowD E3 qd pw2 ⊢
      have hlw := Paired.length pw2
      rw [List.length_map] at hlw
      -- the low ones
      refine ⟨_, rfl, l, rfl, ⟨_, qd⟩, fun D2 hD2 => ?_⟩
      refine lc_tup (K := K) (a := l) (xs := ws) (Bld (FrV K) H4 D2 ((zs.map fun z => tells z L).map cutR)) (bld0 hD2) (fun i H' _ b => ex_t b.1 qd) ?_ ?_
      · rintro j x H' hj b
        obtain ⟨r, hr1', fr⟩ := pget pw2 hj
        obtain ⟨tx, rfl, qx⟩ := fr.ex b.1
        refine ⟨rfl, ?_⟩
        refine ⟨_, rfl, (by show 2 ≤ sizeLine; decide), fun u hu => ⟨(by show 2 ≤ sizeLine; decide), fun l2 hl2 => ?_⟩⟩
        have ea : Ex H' (upd H' u (.tup [.int 0, .int 1])) := Ex.new hu
        have zu : FrV K (upd H' u (.tup [.int 0, .int 1])) (.ref u) 0 := made rfl rfl
        have eb : Ex (upd H' u (.tup [.int 0, .int 1])) (upd (upd H' u (.tup [.int 0, .int 1])) l2 (.lst [.ref tx, .ref u])) := Ex.new hl2
        have kl : upd (upd H' u (.tup [.int 0, .int 1])) l2 (.lst [.ref tx, .ref u]) l2 = some (.lst [.ref tx, .ref u]) := upd_same
        generalize upd (upd H' u (.tup [.int 0, .int 1])) l2 (.lst [.ref tx, .ref u]) = H6 at eb kl ⊢
        have E6 := ea.trans eb
        have qx6 := ex_t E6 qx
        have hat : ∃ v, atI [V.ref tx, V.ref u] (if decide (r.num < 0) = true then (1 : Int) else 0) = some v ∧ FrV K H6 v (cutR r) := by
          unfold cutR
          by_cases h0 : r.num < 0
          · rw [decide_eq_true h0, if_pos rfl, if_pos h0]
            exact ⟨_, at1, zu.ex eb⟩
          · rw [decide_eq_false h0, if_neg Bool.false_ne_true, if_neg h0]
            exact ⟨_, at0, ⟨tx, rfl, qx6⟩⟩
        obtain ⟨v6, hv6, f6⟩ := hat
        refine ⟨_, rfl, _, _, _, _, rfl, rfl, qx6, at0, _, _, rfl, rfl, .inr ⟨_, rfl, l2, _, _, v6, rfl, rfl, sq_of kl, hv6, ?_⟩⟩
        refine bld_step stF hD2 b E6 ?_ ?_ f6
        · rw [List.getElem?_map, hr1']
          rfl
        · have := (List.getElem?_eq_some_iff.mp hj).1
          omega
      intro H5 b5
      obtain ⟨e5, ws2, hws2, pw5⟩ := bld_end (by simp; omega) b5
      refine ⟨D2, ws2, rfl, .inl ⟨sq_of hws2, fun l3 hl3 => ?_⟩⟩
      have rowL := bld_row (n := 0) hws2 pw5 hl3
      have E5 : Ex H4 (upd H5 l3 (.tup ws2)) := e5.trans (Ex.new hl3)
      generalize upd H5 l3 (.tup ws2) = H6 at rowL E5 ⊢
      have E6 := (e2.trans E3).trans E5
      -- sums, passed
      have hp6 := E6 _ _ hp
      refine ⟨_, rfl, p, dx, _, rfl, hp6, nS, _, rfl, p, _, y, zs, L, rfl, ⟨dx, hp6⟩, hv0.ex E6, fy.ex E6, hz', by omega, hzl, sL, fun u H7 e7 hu => ?_⟩
      refine ⟨_, rfl, u, .ref l, _, rfl, hu, (rowD.ex E5).ex e7, by show (zs.map fun z => tells z L).length ≤ 100; simp; omega, fun H8 e8 => ⟨_, rfl, ?_⟩⟩
      refine iteF ?_
      have E8 := (E6.trans e7).trans e8
      have hp8 := E8 _ _ hp
      refine ⟨_, rfl, p, dx, _, rfl, hp8, nP, _, rfl, p, _, y, zs, L, rfl, ⟨dx, hp8⟩, hv0.ex E8, fy.ex E8, hz', by omega, hzl, sL, fun u2 H9 e9 hu2 => ?_⟩
      refine ⟨_, rfl, _, rfl, (by show 2 ≤ sizeLine; decide), fun l4 hl4 => ?_⟩
      have ef : Ex H9 (upd H9 l4 (.lst [.ref l, .ref l3])) := Ex.new hl4
      have kf : upd H9 l4 (.lst [.ref l, .ref l3]) l4 = some (.lst [.ref l, .ref l3]) := upd_same
      generalize upd H9 l4 (.lst [.ref l, .ref l3]) = HA at ef kf ⊢
      have E9 := ((E5.trans e7).trans e8).trans (e9.trans ef)
      have hsel : ∃ v, atI [V.ref l, V.ref l3] (if c = true then (1 : Int) else 0) = some v ∧ RowV K HA v (passR c (zs.map fun z => tells z L)) := by
        cases c
        · exact ⟨_, at0, rowD.ex E9⟩
        · exact ⟨_, at1, rowL.ex ((e7.trans e8).trans (e9.trans ef))⟩
      obtain ⟨v9, hv9, f9⟩ := hsel
      refine ⟨_, rfl, .inr ⟨c, rfl, l4, _, _, v9, rfl, rfl, sq_of kf, hv9, ?_⟩⟩
      refine ⟨u2, v9, _, rfl, hu2.ex ef, f9, ?_, fun HB eB => ⟨_, rfl, ?_⟩⟩
      · unfold passR
        split <;> simp <;> omega
      refine iteF ?_
      exact ⟨_, _, _, rfl, (E8.trans (e9.trans ef)).trans eB⟩
    · rintro σ H2 ⟨o4, o5, o6, rfl, e2⟩
      exact q H2 e2
end

end K06
end
section
set_option maxRecDepth 100000
set_option maxHeartbeats 400000
namespace K06
open PySem L2 Evl Nc PyProof.Rows
section
variable {P : Program} {w : World} {K : PySem.W.Frag} {mg : Str → Option Value} {base : Heap}
def rTup (K : PySem.W.Frag) : List V → Hp → VK → Prop := fun xs H Q => ∃ p ys, xs = [.ref p] ∧ ((SqL K H p ys ∧ ∀ l, H l = none → Q (.ref l) (upd H l (.tup ys))) ∨ (SqT K H p ys ∧ Q (.ref p) H))
theorem call_tupK {X : Cx} (K : PySem.W.Frag) (h : X.K = K := by rfl) : CallR X (.type "tuple") (rTup K) := by
  subst h
  exact call_tuple_of
def scopeJ : Scope := { kind := .function, names := [(".0", .local), ("_law_j", .local), ("tuple", .globalImplicit), ("range", .globalImplicit), ("_law_many", .free), ("_law_stream_here", .free)], isGenerator := false, isCoroutine := false }
structure Defs (P : Program) (w : World) (K : PySem.W.Frag) (mg : Str → Option Value) (base : Heap) (CL CC : Addr) : Prop where
  take : Ok P w K mg base 1 "_law_take" ["_law_stream_here", "_law_many"] spTake
  num : Ok P w K mg base 3 "_law_number" ["_law_stream_here"] (spNum K 100 100)
  node : Ok P w K mg base 4 "_law_node" ["_law_stream_here", "_law_many"] (spNode K)
  oneL : Ok P w K mg base 7 "_law_one_right" ["_law_layer", "_law_cut", "_law_nodes", "_law_rows"] (spOne K CL false)
  oneC : Ok P w K mg base 7 "_law_one_right" ["_law_layer", "_law_cut", "_law_nodes", "_law_rows"] (spOne K CC true)
/-- what stands of nodes and rows while the stream goes on -/
def Drawn (K : PySem.W.Frag) (n : Nat) (H : Hp) (D : Addr) (zs : List Sum2) : Prop := ∃ xs, H D = some (.lst xs) ∧ Paired (SumV K H) xs zs ∧ NodeOk n zs
def DrawnR (K : PySem.W.Frag) (n : Nat) (H : Hp) (D : Addr) (Ls : List (List Rat)) : Prop := ∃ xs, H D = some (.lst xs) ∧ Paired (RowV K H) xs Ls ∧ ∀ L ∈ Ls, L.length = n ∧ SzL 100 100 L
theorem ok__law_right {CL CC fI : Addr} {fdI : FuncData} (D : Df K mg "_law_right" s__law_right ["_law_stream_here"]) (G : Defs P w K mg base CL CC) (ML : Mk K CL fI) (MC : Mk K CC fI) (FL : FnOk P w K mg base CX0 1 fI fdI ["self", "nodes"] (spInitL K CL)) (FC : FnOk P w K mg base CX0 1 fI fdI ["self", "nodes"] (spInitL K CC))
    (bL : Binds K fdI ["self", "nodes"] []) (mgL : mg "Layer" = some (.ref CL)) (mgC : mg "CutLayer" = some (.ref CC)) (misi : mg "isinstance" = none) (mtuple : mg "tuple" = none) (mlist : mg "list" = none) (mint : mg "int" = none) (mrange : mg "range" = none) : Ok P w K mg base 8 "_law_right" ["_law_stream_here"] spRight := by
  have bC := bL
  refine D.ok fun f fd F => F.ok sc__law_right (fun vs H Q E h => ?_) (fun cdv A outer s H vs Q E hr h => ?_)
  · obtain ⟨s, rfl, _⟩ := h
    rfl
  · obtain ⟨s, rfl, hS, q⟩ := h
    have hr1 : Room 1 _ := hr.mono (by decide)
    have hr2 : Room (1 + 1) _ := hr.mono (by decide)
    have hr3 : Room 3 _ := hr.mono (by decide)
    have hr4 : Room 4 _ := hr.mono (by decide)
    refine ⟨_, (pss_cons (ps_set (i := 1) sc__law_right.nd rfl (.inr rfl) (pe_ix ix_list (pe_lst (pa_cons (cl G.take hr1 (pa_cons (pv 0) (pa_cons pe_int pa_nil))) (pa_cons pe_int pa_nil))) (pe_callTy call_int1 (by rfl) mint (by decide +kernel) (pa_cons (pe_cmpR op_eq (cl G.take hr1 (pa_cons (pv 0) (pa_cons pe_int pa_nil))) pe_int (nomark _)) pa_nil)) (fun _ _ => rfl)))
      (pss_cons (ps_setLc (i := 2) (own := [("_law_k", 8)]) (g := gName 8) (tt := tYes) rfl sc__law_right.nd rfl rfl (sw_true rfl rfl rfl (by decide +kernel)) (pi_range1 (by rfl) mrange (pa_cons (pe_op op_add pe_int (cl G.take hr1 (pa_cons (pv 0) (pa_cons pe_int pa_nil)))) pa_nil)) (blkOk_by (N := ["_law_stream_here", "_law_many", "_law_nodes", "_law_rows", "_law_some", "_law_plain", "_law_cut", "_law_turn", "_law_k", "_law_j"]) (sc := defScope s__law_right) (by decide +kernel)) (fun _ _ _ _ _ => (pg_name (i := 8) sc__law_right.nd rfl (.inl rfl))) (fun _ _ _ _ _ => pts_nil) (fun _ _ _ _ _ => cl G.node hr4 (pa_cons (pv 0) (pa_cons (pv 1) pa_nil))))
      (pss_cons (ps_setLc (i := 3) (own := [("_law_j", 9)]) (g := gName 9) (tt := tYes) rfl sc__law_right.nd rfl rfl (sw_true rfl rfl rfl (by decide +kernel)) (pi_range1 (by rfl) mrange (pa_cons pe_int pa_nil)) (blkOk_by (N := ["_law_stream_here", "_law_many", "_law_nodes", "_law_rows", "_law_some", "_law_plain", "_law_cut", "_law_turn", "_law_k", "_law_j"]) (sc := defScope s__law_right) (by decide +kernel)) (fun _ _ _ _ _ => (pg_name (i := 9) sc__law_right.nd rfl (.inl rfl))) (fun _ _ _ _ _ => pts_nil) (fun _ _ _ _ _ => (pe_callTy (T := "tuple") (call_tupK K) (by rfl) mtuple (by decide +kernel) (pa_cons (pe_lc (own := [("_law_k", 8)]) (g := gName 8) (tt := tYes) rfl sc__law_right.nd (pi_range1 (by rfl) mrange (pa_cons (pv 1) pa_nil)) (blkOk_by (N := ["_law_stream_here", "_law_many", "_law_nodes", "_law_rows", "_law_some", "_law_plain", "_law_cut", "_law_turn", "_law_k", "_law_j"]) (sc := relS scopeJ (defScope s__law_right)) (by decide +kernel)) (fun _ _ _ _ _ => (pg_name (i := 8) sc__law_right.nd rfl (.inl rfl))) (fun _ _ _ _ _ => pts_nil) (fun _ _ _ _ _ => cl G.num hr3 (pa_cons (pv 0) pa_nil))) pa_nil))))
      (pss_cons (ps_set (i := 4) sc__law_right.nd rfl (.inl rfl) (pe_ix ix_list (pe_lst (pa_cons (pe_callTy call_list_of (by rfl) mlist (by decide +kernel) (pa_cons (pv 2) pa_nil)) (pa_cons (pe_callTy call_tuple_of (by rfl) mtuple (by decide +kernel) (pa_cons (pv 2) pa_nil)) pa_nil))) (cl G.take hr1 (pa_cons (pv 0) (pa_cons pe_int pa_nil))) (fun _ _ => rfl)))
      (pss_cons (ps_set (i := 5) sc__law_right.nd rfl (.inl rfl) (pe_make ML FL hr2 (by rfl) mgL bL .nil pass0 (pa_cons (pv 4) pa_nil)))
      (pss_cons (ps_set (i := 6) sc__law_right.nd rfl (.inl rfl) (pe_make MC FC hr2 (by rfl) mgC bC .nil pass0 (pa_cons (pv 4) pa_nil)))
      (pss_cut (ps_if (pt_val (pe_callB call_isi (by rfl) misi (by decide +kernel) (pa_cons (pv 4) (pa_cons (pe_bltn (v := .ty "list") (by rfl) mlist (by decide +kernel) rfl) pa_nil)))) (pss_cons (ps_expr (pe_bm0 PySem.F.plainAttrs_list PySem.F.slot_list_reverse PySem.F.type_list_reverse mt_reverse (pv 4)))
      (pss_one (ps_expr (pe_bm PySem.F.plainAttrs_list PySem.F.slot_list_append PySem.F.type_list_append mt_append (pv 4) (pa_cons pe_non pa_nil))))) pss_nil)
      (pss_cons (ps_for PassesOwn.never rfl (pi_range1 (by rfl) mrange (pa_cons pe_int pa_nil)) (pg_name (i := 7) sc__law_right.nd rfl (.inl rfl)) (pss_one (ps_if (PW.pt (pw_or (pt_not (pt_val (cl G.oneL hr (pa_cons (pv 5) (pa_cons pe_bl (pa_cons (pv 2) (pa_cons (pv 3) pa_nil))))))) (pw_or1 (pt_not (pt_val (cl G.oneC hr (pa_cons (pv 6) (pa_cons pe_bl (pa_cons (pv 2) (pa_cons (pv 3) pa_nil)))))))))) (pss_one (ps_ret pe_bl)) pss_nil)))
      (pss_one (ps_ret pe_bl)))))))))), ?_⟩
    -- how many
    refine ⟨_, rfl, s, _, rfl, hS, by decide, by decide, fun k1 H1 a0 a1 d1 => ⟨(by show 2 ≤ sizeLine; decide), fun p hp => ?_⟩⟩
    have D1 := d1.trans (Dr.new (o := .lst [.int k1, .int 20]) d1.st hp)
    refine ⟨_, rfl, s, _, rfl, D1.st, by decide, by decide, fun k2 H2 b0 b1 d2 => ?_⟩
    have hp2 := d2.keep p _ (Ne.symm (d1.st.ne hp)) upd_same
    obtain ⟨v, hv, hmm⟩ := at_mem (xs := [.int k1, .int 20]) (d := if decide (V.int k2 = V.int 0) = true then 1 else 0) (by split <;> decide) (by
      show (if decide (V.int k2 = V.int 0) = true then (1 : Int) else 0) < 2
      split <;> decide)
    have hv2 : ∃ k : Nat, v = .int (k : Int) ∧ k ≤ 20 := by
      simp only [List.mem_cons, List.not_mem_nil, or_false] at hmm
      rcases hmm with rfl | rfl
      · exact ⟨k1.toNat, by rw [Int.toNat_of_nonneg a0], by omega⟩
      · exact ⟨20, rfl, by decide⟩
    obtain ⟨k, rfl, hk⟩ := hv2
    refine ⟨rfl, .inr ⟨_, rfl, p, _, _, _, rfl, rfl, sq_of hp2, hv, ?_⟩⟩
    have D2 := D1.trans d2
    -- the nodes
    refine ⟨_, rfl, s, _, rfl, D2.st, by decide, by decide, fun k3 H3 c0 c1 d3 => ?_⟩
    refine ⟨_, _, rfl, rfl, (1 + k3), rfl, by omega, by omega, fun D hD => ?_⟩
    have D3 := D2.trans d3
    have hsD := d3.st.ne hD
    refine lc_range (lo := 0) (n := (1 + k3).toNat) (fun i H' => ∃ zs, zs.length = i ∧ Drawn K k H' D zs ∧ Dr s H3 H') ⟨[], rfl, ⟨[], upd_same, .nil, (fun _ z => by cases z)⟩, Dr.new d3.st hD⟩ ?_ ?_
    · rintro i H' hi ⟨zs, hn, ⟨xs, hx, lz, hz⟩, r1⟩
      refine ⟨rfl, ?_⟩
      refine ⟨_, rfl, _, rfl, s, k, rfl, r1.st, hk, fun v z H4 r4 hv y1 y2 y3 => ?_⟩
      have h4 := r4.keep D _ (Ne.symm hsD) hx
      have hlx := Paired.length lz
      refine ⟨xs, h4, sz_lt (by omega), zs ++ [z], by simp [hn], ⟨xs ++ [v], upd_same, ?_, ?_⟩, (r1.trans r4).mut hD hsD⟩
      · exact Paired.snoc (pmono (fun _ _ q => SumV.mut h4 (SumV.dr r1.st r4 q)) lz) (SumV.mut h4 hv)
      · intro a ha
        rcases List.mem_append.mp ha with ha | ha
        · exact hz a ha
        · rw [List.mem_singleton.mp ha]
          exact ⟨y1, y2, y3⟩
    rintro H4 ⟨zs, hn, ⟨xs, hx, lz, hz⟩, d4⟩
    have hzl : zs.length ≤ 50 := by omega
    have D4 := D3.trans d4
    have hfree : ∀ {b : Addr}, H b = none → True := fun _ => True.intro
    -- the rows
    refine ⟨3, rfl, by decide, by decide, fun DR hDR => ?_⟩
    have hsR := D4.st.ne hDR
    have hDDR : D ≠ DR := ne_of_none hx hDR
    refine lc_range (lo := 0) (n := (3 : Int).toNat) (fun i H' => ∃ Ls, Ls.length = i ∧ DrawnR K k H' DR Ls ∧ Dr s H4 H') ⟨[], rfl, ⟨[], upd_same, .nil, (fun _ z => by cases z)⟩, Dr.new D4.st hDR⟩ ?_ ?_
    · rintro i H' hi ⟨Ls, hn', ⟨ys, hy, ly, hL⟩, r1⟩
      refine ⟨rfl, ?_⟩
      refine ⟨_, rfl, (k : Int), rfl, by omega, by omega, fun D2 hD2 => ?_⟩
      have hs2 := r1.st.ne hD2
      have h2R : DR ≠ D2 := ne_of_none hy hD2
      refine lc_range (lo := 0) (n := ((k : Int)).toNat) (fun i H2 => ∃ L xs, H2 D2 = some (.lst xs) ∧ FrL K H2 xs L ∧ L.length = i ∧ SzL 100 100 L ∧ Dr s H' H2)
        ⟨[], [], upd_same, .nil, rfl, (fun _ z => by cases z), Dr.new r1.st hD2⟩ ?_ ?_
      · rintro j H5 hj h
        rw [Int.toNat_natCast] at hj
        have hst : Stm s H5 := by
          obtain ⟨L, xs, _, _, _, _, r1⟩ := h
          exact r1.st
        refine ⟨rfl, ?_⟩
        refine ⟨_, rfl, s, rfl, hst, fun v r H6 r6 hv hs => ?_⟩
        exact row_turn r1.st hD2 (by omega) h r6 hv hs
      · rintro H5 ⟨L, ws, hw, hl, hnl, hzl', r5⟩
        rw [Int.toNat_natCast] at hnl
        refine ⟨D2, ws, rfl, .inl ⟨sq_of hw, fun l hl' => ?_⟩⟩
        have r6 := r5.trans (Dr.new (o := .tup ws) r5.st hl')
        have row : RowV K (upd H5 l (.tup ws)) (.ref l) L := ⟨l, ws, rfl, st_of upd_same, FrL.ex (Ex.new hl') hl⟩
        have h6 := r6.keep DR _ (Ne.symm hsR) hy
        have hly := Paired.length ly
        refine ⟨ys, h6, sz_lt (by omega), Ls ++ [L], by simp [hn'], ⟨ys ++ [.ref l], upd_same, ?_, ?_⟩, (r1.trans r6).mut hDR hsR⟩
        · exact Paired.snoc (pmono (fun _ _ q => RowV.mut h6 (RowV.dr r1.st r6 q)) ly) (RowV.mut h6 row)
        · intro a ha
          rcases List.mem_append.mp ha with ha | ha
          · exact hL a ha
          · rw [List.mem_singleton.mp ha]
            exact ⟨hnl, hzl'⟩
    rintro H5 ⟨Ls, hn', ⟨ys, hy, ly, hL⟩, d5⟩
    have D5 := D4.trans d5
    have hx5 := d5.keep D _ (Ne.symm hsD) hx
    have lz5 : Paired (SumV K H5) xs zs := pmono (fun _ _ q => SumV.dr D4.st d5 q) lz
    -- a copy of the nodes, a list or a tuple
    refine ⟨_, rfl, D, xs, rfl, .inl (sq_of hx5), fun l1 hl1 => ?_⟩
    have e6 : Ex H5 (upd H5 l1 (.lst xs)) := Ex.new hl1
    have k1' : upd H5 l1 (.lst xs) l1 = some (.lst xs) := upd_same
    generalize upd H5 l1 (.lst xs) = H6 at e6 k1' ⊢
    refine ⟨_, rfl, D, xs, rfl, .inl ⟨sq_of (e6 _ _ hx5), fun l2 hl2 => ⟨(by show 2 ≤ sizeLine; decide), fun l3 hl3 => ?_⟩⟩⟩
    have e7 : Ex H6 (upd H6 l2 (.tup xs)) := Ex.new hl2
    have k2' : upd H6 l2 (.tup xs) l2 = some (.tup xs) := upd_same
    generalize upd H6 l2 (.tup xs) = H7 at e7 k2' hl3 ⊢
    have e8 : Ex H7 (upd H7 l3 (.lst [.ref l1, .ref l2])) := Ex.new hl3
    have k3' : upd H7 l3 (.lst [.ref l1, .ref l2]) l3 = some (.lst [.ref l1, .ref l2]) := upd_same
    generalize upd H7 l3 (.lst [.ref l1, .ref l2]) = H8 at e8 k3' ⊢
    have E8 := (e6.trans e7).trans e8
    have D8 := D5.trans (Dr.ex D5.st E8)
    refine ⟨_, rfl, s, _, rfl, D8.st, by decide, by decide, fun k9 H9 g0 g1 d9 => ?_⟩
    obtain ⟨v9, hv9, hm9⟩ := at_mem (xs := [.ref l1, .ref l2]) g0 (by simpa using g1)
    have hs1 : s ≠ l1 := D5.st.ne hl1
    have hs2 : s ≠ l2 := (Dr.ex D5.st e6).st.ne hl2
    have hs3 : s ≠ l3 := (Dr.ex D5.st (e6.trans e7)).st.ne hl3
    refine ⟨l3, _, k9, _, rfl, rfl, sq_of (d9.keep _ _ (Ne.symm hs3) k3'), hv9, ?_⟩
    have D9 := D8.trans d9
    have hx9 := d9.keep D _ (Ne.symm hsD) (E8 _ _ hx5)
    have hy9 := d9.keep DR _ (Ne.symm hsR) (E8 _ _ hy)
    have lz9 : Paired (SumV K H9) xs zs := pmono (fun _ _ q => SumV.dr D8.st d9 (SumV.ex E8 q)) lz5
    have ly9 : Paired (RowV K H9) ys Ls := pmono (fun _ _ q => RowV.dr D8.st d9 (RowV.ex E8 q)) ly
    have k19 := d9.keep l1 _ (Ne.symm hs1) ((e7.trans e8) _ _ k1')
    have k29 := d9.keep l2 _ (Ne.symm hs2) (e8 _ _ k2')
    have n1D : l1 ≠ D := fun z => by
      rw [z, hx5] at hl1
      cases hl1
    have n1R : l1 ≠ DR := fun z => by
      rw [z, hy] at hl1
      cases hl1
    have hsel : ∃ a, v9 = .ref a ∧ ((a = l1 ∧ H9 a = some (.lst xs)) ∨ (a = l2 ∧ H9 a = some (.tup xs))) := by
      simp only [List.mem_cons, List.not_mem_nil, or_false] at hm9
      rcases hm9 with rfl | rfl
      · exact ⟨l1, rfl, .inl ⟨rfl, k19⟩⟩
      · exact ⟨l2, rfl, .inr ⟨rfl, k29⟩⟩
    obtain ⟨a, rfl, ha⟩ := hsel
    have hseq : SqL K H9 a xs ∨ SqT K H9 a xs := by
      rcases ha with ⟨_, h⟩ | ⟨_, h⟩
      · exact .inl (sq_of h)
      · exact .inr (st_of h)
    -- both layers
    refine ⟨_, rfl, fun p1 dx1 np1 nd1 ne1 => ?_⟩
    have eA : Ex H9 (upd (upd H9 dx1 (.own p1)) p1 (.ins CL dx1 [])) := fun b o hb => by
      rw [upd_ne (ne_of_none hb np1), upd_ne (ne_of_none hb nd1)]
      exact hb
    have kA : upd (upd H9 dx1 (.own p1)) p1 (.ins CL dx1 []) p1 = some (.ins CL dx1 []) := upd_same
    generalize upd (upd H9 dx1 (.own p1)) p1 (.ins CL dx1 []) = HA at eA kA ⊢
    have seqA : SqL K HA a xs ∨ SqT K HA a xs := hseq.imp (ex_l eA) (ex_t eA)
    refine ⟨p1, dx1, a, xs, zs, rfl, kA, seqA, pmono (fun _ _ => SumV.ex eA) lz9, fun HB v1 kpB lB nB => ⟨rfl, ?_⟩⟩
    have eB : Ex H9 HB := fun b o hb => kpB b o (ne_of_none hb np1) (eA b o hb)
    refine ⟨_, rfl, fun p2 dx2 np2 nd2 ne2 => ?_⟩
    have eC : Ex HB (upd (upd HB dx2 (.own p2)) p2 (.ins CC dx2 [])) := fun b o hb => by
      rw [upd_ne (ne_of_none hb np2), upd_ne (ne_of_none hb nd2)]
      exact hb
    have kC : upd (upd HB dx2 (.own p2)) p2 (.ins CC dx2 []) p2 = some (.ins CC dx2 []) := upd_same
    generalize upd (upd HB dx2 (.own p2)) p2 (.ins CC dx2 []) = HC at eC kC ⊢
    have eBC := eB.trans eC
    have seqC : SqL K HC a xs ∨ SqT K HC a xs := hseq.imp (ex_l eBC) (ex_t eBC)
    refine ⟨p2, dx2, a, xs, zs, rfl, kC, seqC, pmono (fun _ _ => SumV.ex eBC) lz9, fun HD v2 kpD lD nD => ⟨rfl, ?_⟩⟩
    have eD : Ex HB HD := fun b o hb => kpD b o (ne_of_none hb np2) (eC b o hb)
    have ED : Ex H9 HD := eB.trans eD
    -- the list may change
    refine ⟨fun σ H' => σ = [some (.ref s), some (.int (k : Int)), some (.ref D), some (.ref DR), some (.ref a), some (.ref p1), some (.ref p2), none, none, none] ∧ (H' = HD ∨ ∃ o xs0, a = l1 ∧ HD l1 = some (.lst xs0) ∧ H' = upd HD l1 (.lst o)), ?_, ?_⟩
    · rcases ha with ⟨rfl, h1⟩ | ⟨rfl, h1⟩
      · have hD1 := ED _ _ h1
        refine ⟨_, rfl, _, _, _, _, _, rfl, .ty _, .base (.lst hD1), kit_ty (r := true) (by decide +kernel), _, rfl, ?_⟩
        refine iteT ?_
        refine ⟨_, rfl, .inl ⟨rfl, _, sq_of hD1⟩, a, xs, rfl, rfl, hD1, ?_⟩
        refine ⟨_, rfl, .inl ⟨rfl, _, sq_of upd_same⟩, a, _, _, rfl, rfl, upd_same, ?_, ?_⟩
        · have := Paired.length lz
          rw [List.length_reverse]
          exact sz_lt (by omega)
        · exact ⟨rfl, .inr ⟨_, _, rfl, hD1, upd_upd⟩⟩
      · have hD1 := ED _ _ h1
        refine ⟨_, rfl, _, _, _, _, _, rfl, .ty _, tyT (st_of hD1), kit_ty (r := false) (by decide +kernel), _, rfl, ?_⟩
        refine iteF ?_
        exact ⟨rfl, .inl rfl⟩
    rintro σ HE ⟨rfl, hE⟩
    have hxD := ED _ _ hx9
    have hyD := ED _ _ hy9
    have lzD : Paired (SumV K HD) xs zs := pmono (fun _ _ => SumV.ex ED) lz9
    have lyD : Paired (RowV K HD) ys Ls := pmono (fun _ _ => RowV.ex ED) ly9
    have nBD := nB.ex eD
    have lBD := lB.ex eD
    have all : HE D = some (.lst xs) ∧ HE DR = some (.lst ys) ∧ Paired (SumV K HE) xs zs ∧ Paired (RowV K HE) ys Ls ∧ LayerAt CL HE p1 v1 ∧ LayerAt CC HE p2 v2 ∧ NodesV K HE v1 zs ∧ NodesV K HE v2 zs ∧ (∀ b o, b ≠ s → H b = some o → HE b = some o) := by
      have base0 : ∀ b o, b ≠ s → H b = some o → HD b = some o := fun b o hb ho => ED _ _ (D9.keep b o hb ho)
      rcases hE with rfl | ⟨o, xs0, rfl, h0, rfl⟩
      · exact ⟨hxD, hyD, lzD, lyD, lBD, lD, nBD, nD, base0⟩
      · have mN : ∀ {v : V}, NodesV K HD v zs → NodesV K (upd HD a (.lst o)) v zs := by
          rintro v ⟨t, us, rfl, qt, lu⟩
          exact ⟨t, us, rfl, sqt_mut h0 qt, pmono (fun _ _ => SumV.mut h0) lu⟩
        have mL : ∀ {C p v}, LayerAt C HD p v → LayerAt C (upd HD a (.lst o)) p v := by
          rintro C p v ⟨dx, h⟩
          exact ⟨dx, by rw [upd_ne (ne_of h h0 (by intro z; cases z))]; exact h⟩
        refine ⟨by rw [upd_ne (Ne.symm n1D)]; exact hxD, by rw [upd_ne (Ne.symm n1R)]; exact hyD, pmono (fun _ _ => SumV.mut h0) lzD, pmono (fun _ _ => RowV.mut h0) lyD, mL lBD, mL lD, mN nBD, mN nD, fun b oo hb ho => ?_⟩
        have hb1 : b ≠ a := fun z => by
          rw [z] at ho
          have := D5.keep a oo (by rw [← z]; exact hb) ho
          rw [hl1] at this
          cases this
        rw [upd_ne hb1]
        exact base0 b oo hb ho
    obtain ⟨hxE, hyE, lzE, lyE, lBE, lDE, nBE, nDE, keepE⟩ := all
    refine ⟨2, rfl, by decide, by decide, for_range (lo := 0) (n := (2 : Int).toNat) (fun i σ H' => ∃ o7, σ = [some (.ref s), some (.int (k : Int)), some (.ref D), some (.ref DR), some (.ref a), some (.ref p1), some (.ref p2), o7, none, none] ∧ Ex HE H') ⟨none, rfl, Ex.refl _⟩ ?_ ?_⟩
    · rintro i σ H' hi ⟨o7, rfl, e⟩
      refine ⟨_, rfl, _, rfl, _, rfl, p1, D, DR, v1, xs, ys, zs, Ls, k, rfl, lBE.ex e, nBE.ex e, sq_of (e _ _ hxE), pmono (fun _ _ => SumV.ex e) lzE, sq_of (e _ _ hyE), pmono (fun _ _ => RowV.ex e) lyE, hz, hL, hk, hzl, fun HF eF => ⟨_, rfl, ?_⟩⟩
      refine iteF ?_
      have E2 := e.trans eF
      refine ⟨_, rfl, _, rfl, _, rfl, p2, D, DR, v2, xs, ys, zs, Ls, k, rfl, lDE.ex E2, nDE.ex E2, sq_of (E2 _ _ hxE), pmono (fun _ _ => SumV.ex E2) lzE, sq_of (E2 _ _ hyE), pmono (fun _ _ => RowV.ex E2) lyE, hz, hL, hk, hzl, fun HG eG => ⟨_, rfl, ?_⟩⟩
      refine iteF ?_
      exact ⟨_, rfl, E2.trans eG⟩
    · rintro σ H' ⟨o7, rfl, e⟩
      exact q H' fun b o hb ho => e _ _ (keepE b o hb ho)
theorem fn_law {f : Addr} {fd : FuncData} (F : Fun K "law" "law" s_law f fd) (GR : Ok P w K mg base 8 "_law_right" ["_law_stream_here"] spRight) (GS : Ok P w K mg base 1 "_law_stream" ["_law_cell_here"] spStream) (GC : Ok P w K mg base 1 "_law_cell" ["_law_script", "_law_k"] (spCell K))
    (mrange : mg "range" = none) (mmax : mg "max" = none) (mmin : mg "min" = none) (mlen : mg "len" = none) : FnOk P w K mg base CX0 9 f fd ["_law_script"] (spLaw K) := by
  refine F.ok sc_law (fun vs H Q E h => ?_) (fun cdv A outer s H vs Q E hr h => ?_)
  · obtain ⟨a, ns, rfl, _⟩ := h
    rfl
  · obtain ⟨a, ns, rfl, hS, hn, q⟩ := h
    have hr1 : Room 1 _ := hr.mono (by decide)
    refine ⟨_, pss_cons (ps_for PassesOwn.never rfl (pi_range1 (by rfl) mrange (pa_cons (pe_callB (call_max2 rfl) (by rfl) mmax (by decide +kernel) (pa_cons pe_int (pa_cons (pe_callB (call_min2 rfl) (by rfl) mmin (by decide +kernel) (pa_cons pe_int (pa_cons (pe_callB call_len_seq (by rfl) mlen PySem.boot_len (pa_cons (pv 0) pa_nil)) pa_nil))) pa_nil))) pa_nil)) (pg_name (i := 1) sc_law.nd rfl (.inl rfl))
        (pss_one (ps_if (pt_not (pt_val (cl GR hr (pa_cons (cl GS hr1 (pa_cons (cl GC hr1 (pa_cons (pv 0) (pa_cons (pv 1) pa_nil))) pa_nil)) pa_nil)))) (pss_one (ps_ret pe_bl)) pss_nil)))
      (pss_one (ps_ret pe_bl)), ?_⟩
    refine ⟨_, rfl, a, _, rfl, .inl hS, _, _, rfl, _, _, rfl, ?_⟩
    rw [List.length_map]
    generalize hm : (if (if ((ns.length : Nat) : Int) < 10 then ((ns.length : Nat) : Int) else 10) > 1 then (if ((ns.length : Nat) : Int) < 10 then ((ns.length : Nat) : Int) else 10) else 1) = m
    have hm1 : 1 ≤ m ∧ m ≤ 10 := by
      rw [← hm]
      split <;> split <;> omega
    refine ⟨m, rfl, by omega, by omega, for_range (lo := 0) (n := m.toNat) (fun i σ H' => ∃ o1, σ = [some (.ref a), o1] ∧ Ex H H') ⟨none, rfl, Ex.refl H⟩ ?_ ?_⟩
    · rintro i σ H' hi ⟨o1, rfl, e1⟩
      rw [show (0 : Int) + (i : Int) = (i : Int) by omega]
      refine ⟨_, rfl, _, rfl, a, ns, i, rfl, ex_l e1 hS, by omega, fun c => ?_⟩
      refine ⟨c, rfl, fun s x y z hs => ?_⟩
      refine ⟨s, rfl, ⟨x, y, z, upd_same⟩, fun H2 k2 => ?_⟩
      refine ⟨_, rfl, ?_⟩
      refine iteF ?_
      refine ⟨_, rfl, fun b o hb => ?_⟩
      have hb' := e1 b o hb
      have hbs := ne_of_none hb' hs
      exact k2 b o hbs (by rw [upd_ne hbs]; exact hb')
    · rintro σ H' ⟨o1, rfl, e1⟩
      exact q H'
end

end K06
end
set_option maxRecDepth 100000
set_option maxHeartbeats 400000
namespace K06
open PySem L2 Evl Nc PyProof.Rows
/-! ### what the top has written; the law's own head -/
theorem all_mk {l : PySem.W.OpenLaw} {w : World} {K : PySem.W.Frag} {h : Heap} {mg : Str → Option Value} {fa : Addr} (X : K.In h) (G : h.Ns mainGlobals mg) (hfa : mg "law" = some (.ref fa))
    {od0 an0 : Option Addr} {sl0 : Array (Option Value)} {oc0 kV0 dc0 pm0 cd0 ct0 : Value} {f0 : Addr}
    {od1 an1 : Option Addr} {sl1 : Array (Option Value)} {oc1 kV1 dc1 pm1 cd1 ct1 : Value} {f1 : Addr}
    {od2 an2 : Option Addr} {sl2 : Array (Option Value)} {oc2 kV2 dc2 pm2 cd2 ct2 : Value} {f2 : Addr}
    {od3 an3 : Option Addr} {sl3 : Array (Option Value)} {oc3 kV3 dc3 pm3 cd3 ct3 : Value} {f3 : Addr}
    {od4 an4 : Option Addr} {sl4 : Array (Option Value)} {oc4 kV4 dc4 pm4 cd4 ct4 : Value} {f4 : Addr}
    {od5 an5 : Option Addr} {sl5 : Array (Option Value)} {oc5 kV5 dc5 pm5 cd5 ct5 : Value} {f5 : Addr}
    {od6 an6 : Option Addr} {sl6 : Array (Option Value)} {oc6 kV6 dc6 pm6 cd6 ct6 : Value} {f6 : Addr}
    {od7 an7 : Option Addr} {sl7 : Array (Option Value)} {oc7 kV7 dc7 pm7 cd7 ct7 : Value} {f7 : Addr}
    {od8 an8 : Option Addr} {sl8 : Array (Option Value)} {oc8 kV8 dc8 pm8 cd8 ct8 : Value} {f8 : Addr}
    {od9 an9 : Option Addr} {sl9 : Array (Option Value)} {oc9 kV9 dc9 pm9 cd9 ct9 : Value} {f9 : Addr}
    {od10 an10 : Option Addr} {sl10 : Array (Option Value)} {oc10 kV10 dc10 pm10 cd10 ct10 : Value} {f10 : Addr}
    {od11 an11 : Option Addr} {sl11 : Array (Option Value)} {oc11 kV11 dc11 pm11 cd11 ct11 : Value} {f11 : Addr}
    {od12 an12 : Option Addr} {sl12 : Array (Option Value)} {oc12 kV12 dc12 pm12 cd12 ct12 : Value} {f12 : Addr}
    {od13 an13 : Option Addr} {sl13 : Array (Option Value)} {oc13 kV13 dc13 pm13 cd13 ct13 : Value} {f13 : Addr}
    {od14 an14 : Option Addr} {sl14 : Array (Option Value)} {oc14 kV14 dc14 pm14 cd14 ct14 : Value} {f14 : Addr}
    {od15 an15 : Option Addr} {sl15 : Array (Option Value)} {oc15 kV15 dc15 pm15 cd15 ct15 : Value} {f15 : Addr}
    {od16 an16 : Option Addr} {sl16 : Array (Option Value)} {oc16 kV16 dc16 pm16 cd16 ct16 : Value} {f16 : Addr}
    {od17 an17 : Option Addr} {sl17 : Array (Option Value)} {oc17 kV17 dc17 pm17 cd17 ct17 : Value} {f17 : Addr}
    {od18 an18 : Option Addr} {sl18 : Array (Option Value)} {oc18 kV18 dc18 pm18 cd18 ct18 : Value} {f18 : Addr}
    {od19 an19 : Option Addr} {sl19 : Array (Option Value)} {oc19 kV19 dc19 pm19 cd19 ct19 : Value} {f19 : Addr}
    {od20 an20 : Option Addr} {sl20 : Array (Option Value)} {oc20 kV20 dc20 pm20 cd20 ct20 : Value} {f20 : Addr}
    {od21 an21 : Option Addr} {sl21 : Array (Option Value)} {oc21 kV21 dc21 pm21 cd21 ct21 : Value} {f21 : Addr}
    {aCNOUGHT : Addr} {dCNOUGHT : Option Addr} {nCNOUGHT : Nat} {slCNOUGHT : Array (Option Value)} {t1NOUGHT t2NOUGHT : Tok}
    {CL : Addr}
    {fI : Addr}
    {CC : Addr}
    {od_I an_I : Option Addr} {sl_I : Array (Option Value)} {oc_I kV_I dc_I pm_I cd_I ct_I : Value}
    {od_Ltold an_Ltold : Option Addr} {sl_Ltold : Array (Option Value)} {oc_Ltold kV_Ltold dc_Ltold pm_Ltold cd_Ltold ct_Ltold : Value} {fLtold : Addr}
    {od_Lsums an_Lsums : Option Addr} {sl_Lsums : Array (Option Value)} {oc_Lsums kV_Lsums dc_Lsums pm_Lsums cd_Lsums ct_Lsums : Value} {fLsums : Addr}
    {od_Lpassed an_Lpassed : Option Addr} {sl_Lpassed : Array (Option Value)} {oc_Lpassed kV_Lpassed dc_Lpassed pm_Lpassed cd_Lpassed ct_Lpassed : Value} {fLpassed : Addr}
    {od_Ctold an_Ctold : Option Addr} {sl_Ctold : Array (Option Value)} {oc_Ctold kV_Ctold dc_Ctold pm_Ctold cd_Ctold ct_Ctold : Value} {fCtold : Addr}
    {od_Csums an_Csums : Option Addr} {sl_Csums : Array (Option Value)} {oc_Csums kV_Csums dc_Csums pm_Csums cd_Csums ct_Csums : Value} {fCsums : Addr}
    {od_Cpassed an_Cpassed : Option Addr} {sl_Cpassed : Array (Option Value)} {oc_Cpassed kV_Cpassed dc_Cpassed pm_Cpassed cd_Cpassed ct_Cpassed : Value} {fCpassed : Addr}
    (a0 : PySem.W.nsIn K mainGlobals "fraction_of" = some (some (.ref f0)))
    (l0 : K.lookup f0 = some ⟨oc0, od0, .func (PySem.W.fnOf "fraction_of" "fraction_of" (defArgs s_fraction_of) (defBody s_fraction_of) (defScope s_fraction_of) .none kV0 dc0 pm0 an0 cd0 ct0), sl0⟩)
    (c0 : PySem.W.codeIn K cd0 "fraction_of" = true)
    (k0 : PySem.W.keepIn K (.ref f0) = true)
    (a1 : PySem.W.nsIn K mainGlobals "plus" = some (some (.ref f1)))
    (l1 : K.lookup f1 = some ⟨oc1, od1, .func (PySem.W.fnOf "plus" "plus" (defArgs s_plus) (defBody s_plus) (defScope s_plus) .none kV1 dc1 pm1 an1 cd1 ct1), sl1⟩)
    (c1 : PySem.W.codeIn K cd1 "plus" = true)
    (k1 : PySem.W.keepIn K (.ref f1) = true)
    (a2 : PySem.W.nsIn K mainGlobals "times" = some (some (.ref f2)))
    (l2 : K.lookup f2 = some ⟨oc2, od2, .func (PySem.W.fnOf "times" "times" (defArgs s_times) (defBody s_times) (defScope s_times) .none kV2 dc2 pm2 an2 cd2 ct2), sl2⟩)
    (c2 : PySem.W.codeIn K cd2 "times" = true)
    (k2 : PySem.W.keepIn K (.ref f2) = true)
    (a3 : PySem.W.nsIn K mainGlobals "cut_at_nought" = some (some (.ref f3)))
    (l3 : K.lookup f3 = some ⟨oc3, od3, .func (PySem.W.fnOf "cut_at_nought" "cut_at_nought" (defArgs s_cut_at_nought) (defBody s_cut_at_nought) (defScope s_cut_at_nought) .none kV3 dc3 pm3 an3 cd3 ct3), sl3⟩)
    (c3 : PySem.W.codeIn K cd3 "cut_at_nought" = true)
    (k3 : PySem.W.keepIn K (.ref f3) = true)
    (a4 : PySem.W.nsIn K mainGlobals "weigh" = some (some (.ref f4)))
    (l4 : K.lookup f4 = some ⟨oc4, od4, .func (PySem.W.fnOf "weigh" "weigh" (defArgs s_weigh) (defBody s_weigh) (defScope s_weigh) .none kV4 dc4 pm4 an4 cd4 ct4), sl4⟩)
    (c4 : PySem.W.codeIn K cd4 "weigh" = true)
    (k4 : PySem.W.keepIn K (.ref f4) = true)
    (a5 : PySem.W.nsIn K mainGlobals "sum_at" = some (some (.ref f5)))
    (l5 : K.lookup f5 = some ⟨oc5, od5, .func (PySem.W.fnOf "sum_at" "sum_at" (defArgs s_sum_at) (defBody s_sum_at) (defScope s_sum_at) .none kV5 dc5 pm5 an5 cd5 ct5), sl5⟩)
    (c5 : PySem.W.codeIn K cd5 "sum_at" = true)
    (k5 : PySem.W.keepIn K (.ref f5) = true)
    (a6 : PySem.W.nsIn K mainGlobals "_reckoned" = some (some (.ref f6)))
    (l6 : K.lookup f6 = some ⟨oc6, od6, .func (PySem.W.fnOf "_reckoned" "_reckoned" (defArgs s__reckoned) (defBody s__reckoned) (defScope s__reckoned) .none kV6 dc6 pm6 an6 cd6 ct6), sl6⟩)
    (c6 : PySem.W.codeIn K cd6 "_reckoned" = true)
    (k6 : PySem.W.keepIn K (.ref f6) = true)
    (a7 : PySem.W.nsIn K mainGlobals "_law_cell" = some (some (.ref f7)))
    (l7 : K.lookup f7 = some ⟨oc7, od7, .func (PySem.W.fnOf "_law_cell" "_law_cell" (defArgs s__law_cell) (defBody s__law_cell) (defScope s__law_cell) .none kV7 dc7 pm7 an7 cd7 ct7), sl7⟩)
    (c7 : PySem.W.codeIn K cd7 "_law_cell" = true)
    (k7 : PySem.W.keepIn K (.ref f7) = true)
    (a8 : PySem.W.nsIn K mainGlobals "_law_stream" = some (some (.ref f8)))
    (l8 : K.lookup f8 = some ⟨oc8, od8, .func (PySem.W.fnOf "_law_stream" "_law_stream" (defArgs s__law_stream) (defBody s__law_stream) (defScope s__law_stream) .none kV8 dc8 pm8 an8 cd8 ct8), sl8⟩)
    (c8 : PySem.W.codeIn K cd8 "_law_stream" = true)
    (k8 : PySem.W.keepIn K (.ref f8) = true)
    (a9 : PySem.W.nsIn K mainGlobals "_law_take" = some (some (.ref f9)))
    (l9 : K.lookup f9 = some ⟨oc9, od9, .func (PySem.W.fnOf "_law_take" "_law_take" (defArgs s__law_take) (defBody s__law_take) (defScope s__law_take) .none kV9 dc9 pm9 an9 cd9 ct9), sl9⟩)
    (c9 : PySem.W.codeIn K cd9 "_law_take" = true)
    (k9 : PySem.W.keepIn K (.ref f9) = true)
    (a10 : PySem.W.nsIn K mainGlobals "_law_part" = some (some (.ref f10)))
    (l10 : K.lookup f10 = some ⟨oc10, od10, .func (PySem.W.fnOf "_law_part" "_law_part" (defArgs s__law_part) (defBody s__law_part) (defScope s__law_part) .none kV10 dc10 pm10 an10 cd10 ct10), sl10⟩)
    (c10 : PySem.W.codeIn K cd10 "_law_part" = true)
    (k10 : PySem.W.keepIn K (.ref f10) = true)
    (a11 : PySem.W.nsIn K mainGlobals "_law_plus" = some (some (.ref f11)))
    (l11 : K.lookup f11 = some ⟨oc11, od11, .func (PySem.W.fnOf "_law_plus" "_law_plus" (defArgs s__law_plus) (defBody s__law_plus) (defScope s__law_plus) .none kV11 dc11 pm11 an11 cd11 ct11), sl11⟩)
    (c11 : PySem.W.codeIn K cd11 "_law_plus" = true)
    (k11 : PySem.W.keepIn K (.ref f11) = true)
    (a12 : PySem.W.nsIn K mainGlobals "_law_times" = some (some (.ref f12)))
    (l12 : K.lookup f12 = some ⟨oc12, od12, .func (PySem.W.fnOf "_law_times" "_law_times" (defArgs s__law_times) (defBody s__law_times) (defScope s__law_times) .none kV12 dc12 pm12 an12 cd12 ct12), sl12⟩)
    (c12 : PySem.W.codeIn K cd12 "_law_times" = true)
    (k12 : PySem.W.keepIn K (.ref f12) = true)
    (a13 : PySem.W.nsIn K mainGlobals "_law_weighs" = some (some (.ref f13)))
    (l13 : K.lookup f13 = some ⟨oc13, od13, .func (PySem.W.fnOf "_law_weighs" "_law_weighs" (defArgs s__law_weighs) (defBody s__law_weighs) (defScope s__law_weighs) .none kV13 dc13 pm13 an13 cd13 ct13), sl13⟩)
    (c13 : PySem.W.codeIn K cd13 "_law_weighs" = true)
    (k13 : PySem.W.keepIn K (.ref f13) = true)
    (a14 : PySem.W.nsIn K mainGlobals "_law_tells" = some (some (.ref f14)))
    (l14 : K.lookup f14 = some ⟨oc14, od14, .func (PySem.W.fnOf "_law_tells" "_law_tells" (defArgs s__law_tells) (defBody s__law_tells) (defScope s__law_tells) .none kV14 dc14 pm14 an14 cd14 ct14), sl14⟩)
    (c14 : PySem.W.codeIn K cd14 "_law_tells" = true)
    (k14 : PySem.W.keepIn K (.ref f14) = true)
    (a15 : PySem.W.nsIn K mainGlobals "_law_long" = some (some (.ref f15)))
    (l15 : K.lookup f15 = some ⟨oc15, od15, .func (PySem.W.fnOf "_law_long" "_law_long" (defArgs s__law_long) (defBody s__law_long) (defScope s__law_long) .none kV15 dc15 pm15 an15 cd15 ct15), sl15⟩)
    (c15 : PySem.W.codeIn K cd15 "_law_long" = true)
    (k15 : PySem.W.keepIn K (.ref f15) = true)
    (a16 : PySem.W.nsIn K mainGlobals "_law_number" = some (some (.ref f16)))
    (l16 : K.lookup f16 = some ⟨oc16, od16, .func (PySem.W.fnOf "_law_number" "_law_number" (defArgs s__law_number) (defBody s__law_number) (defScope s__law_number) .none kV16 dc16 pm16 an16 cd16 ct16), sl16⟩)
    (c16 : PySem.W.codeIn K cd16 "_law_number" = true)
    (k16 : PySem.W.keepIn K (.ref f16) = true)
    (a17 : PySem.W.nsIn K mainGlobals "_law_node" = some (some (.ref f17)))
    (l17 : K.lookup f17 = some ⟨oc17, od17, .func (PySem.W.fnOf "_law_node" "_law_node" (defArgs s__law_node) (defBody s__law_node) (defScope s__law_node) .none kV17 dc17 pm17 an17 cd17 ct17), sl17⟩)
    (c17 : PySem.W.codeIn K cd17 "_law_node" = true)
    (k17 : PySem.W.keepIn K (.ref f17) = true)
    (a18 : PySem.W.nsIn K mainGlobals "_law_is_row" = some (some (.ref f18)))
    (l18 : K.lookup f18 = some ⟨oc18, od18, .func (PySem.W.fnOf "_law_is_row" "_law_is_row" (defArgs s__law_is_row) (defBody s__law_is_row) (defScope s__law_is_row) .none kV18 dc18 pm18 an18 cd18 ct18), sl18⟩)
    (c18 : PySem.W.codeIn K cd18 "_law_is_row" = true)
    (k18 : PySem.W.keepIn K (.ref f18) = true)
    (a19 : PySem.W.nsIn K mainGlobals "_law_one_right" = some (some (.ref f19)))
    (l19 : K.lookup f19 = some ⟨oc19, od19, .func (PySem.W.fnOf "_law_one_right" "_law_one_right" (defArgs s__law_one_right) (defBody s__law_one_right) (defScope s__law_one_right) .none kV19 dc19 pm19 an19 cd19 ct19), sl19⟩)
    (c19 : PySem.W.codeIn K cd19 "_law_one_right" = true)
    (k19 : PySem.W.keepIn K (.ref f19) = true)
    (a20 : PySem.W.nsIn K mainGlobals "_law_right" = some (some (.ref f20)))
    (l20 : K.lookup f20 = some ⟨oc20, od20, .func (PySem.W.fnOf "_law_right" "_law_right" (defArgs s__law_right) (defBody s__law_right) (defScope s__law_right) .none kV20 dc20 pm20 an20 cd20 ct20), sl20⟩)
    (c20 : PySem.W.codeIn K cd20 "_law_right" = true)
    (k20 : PySem.W.keepIn K (.ref f20) = true)
    (a21 : PySem.W.nsIn K mainGlobals "law" = some (some (.ref f21)))
    (l21 : K.lookup f21 = some ⟨oc21, od21, .func (PySem.W.fnOf "law" "law" (defArgs s_law) (defBody s_law) (defScope s_law) .none kV21 dc21 pm21 an21 cd21 ct21), sl21⟩)
    (c21 : PySem.W.codeIn K cd21 "law" = true)
    (k21 : PySem.W.keepIn K (.ref f21) = true)
    (z_len : PySem.W.nsIn K mainGlobals "len" = some none)
    (z_range : PySem.W.nsIn K mainGlobals "range" = some none)
    (z_zip : PySem.W.nsIn K mainGlobals "zip" = some none)
    (z_tuple : PySem.W.nsIn K mainGlobals "tuple" = some none)
    (z_int : PySem.W.nsIn K mainGlobals "int" = some none)
    (z_abs : PySem.W.nsIn K mainGlobals "abs" = some none)
    (z_isinstance : PySem.W.nsIn K mainGlobals "isinstance" = some none)
    (z_bool : PySem.W.nsIn K mainGlobals "bool" = some none)
    (z_list : PySem.W.nsIn K mainGlobals "list" = some none)
    (z_max : PySem.W.nsIn K mainGlobals "max" = some none)
    (z_min : PySem.W.nsIn K mainGlobals "min" = some none)
    (zgcd : PySem.W.nsIn K mainGlobals "gcd" = some (some (.builtin "math.gcd")))
    (nNOUGHT : PySem.W.nsIn K mainGlobals "NOUGHT" = some (some (.ref aCNOUGHT)))
    (vNOUGHT : K.lookup aCNOUGHT = some ⟨.type "tuple", dCNOUGHT, .seq #[.int 0 t1NOUGHT, .int 1 t2NOUGHT] nCNOUGHT, slCNOUGHT⟩)
    (aCL : PySem.W.nsIn K mainGlobals "Layer" = some (some (.ref CL)))
    (pgCL : PySem.W.plainGet K CL Str.empty = true)
    (hdCL : PySem.W.hasDictIn K CL = true)
    (poCL : PySem.W.plainOver K CL = true)
    (saCL : PySem.W.findIn K (.ref CL) "__setattr__" = some (some (.builtin "object.__setattr__")))
    (mkCL : PySem.W.makesIn K CL = true)
    (kcCL : PySem.W.keepIn K (.ref CL) = true)
    (naCL : PySem.W.findIn K (.ref CL) "_nodes" = some none)
    (haCL : PySem.W.findIn K (.ref CL) "__class__" = some (some (.builtin "object.__class__")))
    (hmCL : PySem.W.mroIn K CL (.type "object") = some true)
    (meCL : PySem.W.kitOne K (.ref CL) (.ref CL) = some true)
    (iiCL : PySem.W.findIn K (.ref CL) "__init__" = some (some (.ref fI)))
    (aCC : PySem.W.nsIn K mainGlobals "CutLayer" = some (some (.ref CC)))
    (pgCC : PySem.W.plainGet K CC Str.empty = true)
    (hdCC : PySem.W.hasDictIn K CC = true)
    (poCC : PySem.W.plainOver K CC = true)
    (saCC : PySem.W.findIn K (.ref CC) "__setattr__" = some (some (.builtin "object.__setattr__")))
    (mkCC : PySem.W.makesIn K CC = true)
    (kcCC : PySem.W.keepIn K (.ref CC) = true)
    (naCC : PySem.W.findIn K (.ref CC) "_nodes" = some none)
    (haCC : PySem.W.findIn K (.ref CC) "__class__" = some (some (.builtin "object.__class__")))
    (hmCC : PySem.W.mroIn K CC (.type "object") = some true)
    (meCC : PySem.W.kitOne K (.ref CC) (.ref CC) = some true)
    (iiCC : PySem.W.findIn K (.ref CC) "__init__" = some (some (.ref fI)))
    (hnO : PySem.W.specialIn K (.builtin "object.__class__") "__get__" = some (some (.builtin "getset_descriptor.__get__")))
    (htO : PySem.W.takesIn K (.builtin "object.__class__") = some true)
    (isLC : PySem.W.kitOne K (.ref CL) (.ref CC) = some false)
    (isCL : PySem.W.kitOne K (.ref CC) (.ref CL) = some true)
    (qI : PySem.W.isFn K (.ref fI) = true)
    (lI : K.lookup fI = some ⟨oc_I, od_I, .func (PySem.W.fnOf "__init__" "Layer.__init__" (defArgs s_Layer___init__) (defBody s_Layer___init__) (defScope s_Layer___init__) .none kV_I dc_I pm_I an_I cd_I ct_I), sl_I⟩)
    (cI : PySem.W.codeIn K cd_I "Layer.__init__" = true)
    (kI : PySem.W.keepIn K (.ref fI) = true)
    (wLtold : PySem.W.findIn K (.ref CL) "told" = some (some (.ref fLtold)))
    (qLtold : PySem.W.isFn K (.ref fLtold) = true)
    (lLtold : K.lookup fLtold = some ⟨oc_Ltold, od_Ltold, .func (PySem.W.fnOf "told" "Layer.told" (defArgs s_Layer_told) (defBody s_Layer_told) (defScope s_Layer_told) .none kV_Ltold dc_Ltold pm_Ltold an_Ltold cd_Ltold ct_Ltold), sl_Ltold⟩)
    (cLtold : PySem.W.codeIn K cd_Ltold "Layer.told" = true)
    (kLtold : PySem.W.keepIn K (.ref fLtold) = true)
    (wLsums : PySem.W.findIn K (.ref CL) "sums" = some (some (.ref fLsums)))
    (qLsums : PySem.W.isFn K (.ref fLsums) = true)
    (lLsums : K.lookup fLsums = some ⟨oc_Lsums, od_Lsums, .func (PySem.W.fnOf "sums" "Layer.sums" (defArgs s_Layer_sums) (defBody s_Layer_sums) (defScope s_Layer_sums) .none kV_Lsums dc_Lsums pm_Lsums an_Lsums cd_Lsums ct_Lsums), sl_Lsums⟩)
    (cLsums : PySem.W.codeIn K cd_Lsums "Layer.sums" = true)
    (kLsums : PySem.W.keepIn K (.ref fLsums) = true)
    (wLpassed : PySem.W.findIn K (.ref CL) "passed" = some (some (.ref fLpassed)))
    (qLpassed : PySem.W.isFn K (.ref fLpassed) = true)
    (lLpassed : K.lookup fLpassed = some ⟨oc_Lpassed, od_Lpassed, .func (PySem.W.fnOf "passed" "Layer.passed" (defArgs s_Layer_passed) (defBody s_Layer_passed) (defScope s_Layer_passed) .none kV_Lpassed dc_Lpassed pm_Lpassed an_Lpassed cd_Lpassed ct_Lpassed), sl_Lpassed⟩)
    (cLpassed : PySem.W.codeIn K cd_Lpassed "Layer.passed" = true)
    (kLpassed : PySem.W.keepIn K (.ref fLpassed) = true)
    (wCtold : PySem.W.findIn K (.ref CC) "told" = some (some (.ref fCtold)))
    (qCtold : PySem.W.isFn K (.ref fCtold) = true)
    (lCtold : K.lookup fCtold = some ⟨oc_Ctold, od_Ctold, .func (PySem.W.fnOf "told" "CutLayer.told" (defArgs s_CutLayer_told) (defBody s_CutLayer_told) (defScope s_CutLayer_told) .none kV_Ctold dc_Ctold pm_Ctold an_Ctold cd_Ctold ct_Ctold), sl_Ctold⟩)
    (cCtold : PySem.W.codeIn K cd_Ctold "CutLayer.told" = true)
    (kCtold : PySem.W.keepIn K (.ref fCtold) = true)
    (wCsums : PySem.W.findIn K (.ref CC) "sums" = some (some (.ref fCsums)))
    (qCsums : PySem.W.isFn K (.ref fCsums) = true)
    (lCsums : K.lookup fCsums = some ⟨oc_Csums, od_Csums, .func (PySem.W.fnOf "sums" "CutLayer.sums" (defArgs s_CutLayer_sums) (defBody s_CutLayer_sums) (defScope s_CutLayer_sums) .none kV_Csums dc_Csums pm_Csums an_Csums cd_Csums ct_Csums), sl_Csums⟩)
    (cCsums : PySem.W.codeIn K cd_Csums "CutLayer.sums" = true)
    (kCsums : PySem.W.keepIn K (.ref fCsums) = true)
    (wCpassed : PySem.W.findIn K (.ref CC) "passed" = some (some (.ref fCpassed)))
    (qCpassed : PySem.W.isFn K (.ref fCpassed) = true)
    (lCpassed : K.lookup fCpassed = some ⟨oc_Cpassed, od_Cpassed, .func (PySem.W.fnOf "passed" "CutLayer.passed" (defArgs s_CutLayer_passed) (defBody s_CutLayer_passed) (defScope s_CutLayer_passed) .none kV_Cpassed dc_Cpassed pm_Cpassed an_Cpassed cd_Cpassed ct_Cpassed), sl_Cpassed⟩)
    (cCpassed : PySem.W.codeIn K cd_Cpassed "CutLayer.passed" = true)
    (kCpassed : PySem.W.keepIn K (.ref fCpassed) = true)
    : ∃ fd : FuncData, (∀ (s : Shared) (v : Value), BindsTo s fd ⟨[v], []⟩ [("_law_script", v)]) ∧ ∀ base : Heap, K.In base → base.Ns mainGlobals mg → FnOk l.prog w K mg base CX0 9 fa fd ["_law_script"] (spLaw K) := by
  have e := hfa.symm.trans (PySem.W.mg_of X G a21)
  cases e
  have D_fraction_of : Df K mg "fraction_of" s_fraction_of ["top", "bottom"] := Df.of X G a0 l0 c0 k0 fun _ _ _ _ _ _ us hl => match us, hl with | [_, _], _ => rfl
  have D_plus : Df K mg "plus" s_plus ["one", "other"] := Df.of X G a1 l1 c1 k1 fun _ _ _ _ _ _ us hl => match us, hl with | [_, _], _ => rfl
  have D_times : Df K mg "times" s_times ["one", "other"] := Df.of X G a2 l2 c2 k2 fun _ _ _ _ _ _ us hl => match us, hl with | [_, _], _ => rfl
  have D_cut_at_nought : Df K mg "cut_at_nought" s_cut_at_nought ["one"] := Df.of X G a3 l3 c3 k3 fun _ _ _ _ _ _ us hl => match us, hl with | [_], _ => rfl
  have D_weigh : Df K mg "weigh" s_weigh ["row", "other"] := Df.of X G a4 l4 c4 k4 fun _ _ _ _ _ _ us hl => match us, hl with | [_, _], _ => rfl
  have D_sum_at : Df K mg "sum_at" s_sum_at ["one", "row"] := Df.of X G a5 l5 c5 k5 fun _ _ _ _ _ _ us hl => match us, hl with | [_, _], _ => rfl
  have D__reckoned : Df K mg "_reckoned" s__reckoned ["nodes", "ahead"] := Df.of X G a6 l6 c6 k6 fun _ _ _ _ _ _ us hl => match us, hl with | [_, _], _ => rfl
  have D__law_cell : Df K mg "_law_cell" s__law_cell ["_law_script", "_law_k"] := Df.of X G a7 l7 c7 k7 fun _ _ _ _ _ _ us hl => match us, hl with | [_, _], _ => rfl
  have D__law_stream : Df K mg "_law_stream" s__law_stream ["_law_cell_here"] := Df.of X G a8 l8 c8 k8 fun _ _ _ _ _ _ us hl => match us, hl with | [_], _ => rfl
  have D__law_take : Df K mg "_law_take" s__law_take ["_law_stream_here", "_law_many"] := Df.of X G a9 l9 c9 k9 fun _ _ _ _ _ _ us hl => match us, hl with | [_, _], _ => rfl
  have D__law_part : Df K mg "_law_part" s__law_part ["_law_top", "_law_bottom"] := Df.of X G a10 l10 c10 k10 fun _ _ _ _ _ _ us hl => match us, hl with | [_, _], _ => rfl
  have D__law_plus : Df K mg "_law_plus" s__law_plus ["_law_one", "_law_other"] := Df.of X G a11 l11 c11 k11 fun _ _ _ _ _ _ us hl => match us, hl with | [_, _], _ => rfl
  have D__law_times : Df K mg "_law_times" s__law_times ["_law_one", "_law_other"] := Df.of X G a12 l12 c12 k12 fun _ _ _ _ _ _ us hl => match us, hl with | [_, _], _ => rfl
  have D__law_weighs : Df K mg "_law_weighs" s__law_weighs ["_law_one", "_law_other"] := Df.of X G a13 l13 c13 k13 fun _ _ _ _ _ _ us hl => match us, hl with | [_, _], _ => rfl
  have D__law_tells : Df K mg "_law_tells" s__law_tells ["_law_node_here", "_law_row"] := Df.of X G a14 l14 c14 k14 fun _ _ _ _ _ _ us hl => match us, hl with | [_, _], _ => rfl
  have D__law_long : Df K mg "_law_long" s__law_long ["_law_stream_here"] := Df.of X G a15 l15 c15 k15 fun _ _ _ _ _ _ us hl => match us, hl with | [_], _ => rfl
  have D__law_number : Df K mg "_law_number" s__law_number ["_law_stream_here"] := Df.of X G a16 l16 c16 k16 fun _ _ _ _ _ _ us hl => match us, hl with | [_], _ => rfl
  have D__law_node : Df K mg "_law_node" s__law_node ["_law_stream_here", "_law_many"] := Df.of X G a17 l17 c17 k17 fun _ _ _ _ _ _ us hl => match us, hl with | [_, _], _ => rfl
  have D__law_is_row : Df K mg "_law_is_row" s__law_is_row ["_law_found", "_law_due"] := Df.of X G a18 l18 c18 k18 fun _ _ _ _ _ _ us hl => match us, hl with | [_, _], _ => rfl
  have D__law_one_right : Df K mg "_law_one_right" s__law_one_right ["_law_layer", "_law_cut", "_law_nodes", "_law_rows"] := Df.of X G a19 l19 c19 k19 fun _ _ _ _ _ _ us hl => match us, hl with | [_, _, _, _], _ => rfl
  have D__law_right : Df K mg "_law_right" s__law_right ["_law_stream_here"] := Df.of X G a20 l20 c20 k20 fun _ _ _ _ _ _ us hl => match us, hl with | [_], _ => rfl
  have mlen := PySem.W.mg_none_of X G z_len
  have mrange := PySem.W.mg_none_of X G z_range
  have mzip := PySem.W.mg_none_of X G z_zip
  have mtuple := PySem.W.mg_none_of X G z_tuple
  have mint := PySem.W.mg_none_of X G z_int
  have mabs := PySem.W.mg_none_of X G z_abs
  have misinstance := PySem.W.mg_none_of X G z_isinstance
  have mbool := PySem.W.mg_none_of X G z_bool
  have mlist := PySem.W.mg_none_of X G z_list
  have mmax := PySem.W.mg_none_of X G z_max
  have mmin := PySem.W.mg_none_of X G z_min
  have mgcd := PySem.W.mg_of X G zgcd
  have C_NOUGHT : Cst K mg "NOUGHT" 0 := ⟨aCNOUGHT, PySem.W.mg_of X G nNOUGHT, fun H => ⟨aCNOUGHT, rfl, .inr ⟨_, _, _, vNOUGHT, rfl, rfl, (by show 2 ≤ sizeLine; decide), .cons ⟨_, rfl⟩ (.cons ⟨_, rfl⟩ .nil)⟩⟩⟩
  have FI := fun_mk (st := s_Layer___init__) lI cI kI
  have bI := FI.binds (ps := ["self", "nodes"]) fun _ _ _ _ _ _ us hl => match us, hl with | [_, _], _ => rfl
  have FLtold := fun_mk (st := s_Layer_told) lLtold cLtold kLtold
  have bLtold := FLtold.binds (ps := ["self"]) fun _ _ _ _ _ _ us hl => match us, hl with | [_], _ => rfl
  have MLtold : Md K CL "told" "Layer.told" s_Layer_told ["self"] := ⟨_, _, ⟨wLtold, qLtold, kLtold⟩, FLtold, bLtold⟩
  have FLsums := fun_mk (st := s_Layer_sums) lLsums cLsums kLsums
  have bLsums := FLsums.binds (ps := ["self", "ahead"]) fun _ _ _ _ _ _ us hl => match us, hl with | [_, _], _ => rfl
  have MLsums : Md K CL "sums" "Layer.sums" s_Layer_sums ["self", "ahead"] := ⟨_, _, ⟨wLsums, qLsums, kLsums⟩, FLsums, bLsums⟩
  have FLpassed := fun_mk (st := s_Layer_passed) lLpassed cLpassed kLpassed
  have bLpassed := FLpassed.binds (ps := ["self", "ahead"]) fun _ _ _ _ _ _ us hl => match us, hl with | [_, _], _ => rfl
  have MLpassed : Md K CL "passed" "Layer.passed" s_Layer_passed ["self", "ahead"] := ⟨_, _, ⟨wLpassed, qLpassed, kLpassed⟩, FLpassed, bLpassed⟩
  have FCtold := fun_mk (st := s_CutLayer_told) lCtold cCtold kCtold
  have bCtold := FCtold.binds (ps := ["self"]) fun _ _ _ _ _ _ us hl => match us, hl with | [_], _ => rfl
  have MCtold : Md K CC "told" "CutLayer.told" s_CutLayer_told ["self"] := ⟨_, _, ⟨wCtold, qCtold, kCtold⟩, FCtold, bCtold⟩
  have FCsums := fun_mk (st := s_CutLayer_sums) lCsums cCsums kCsums
  have bCsums := FCsums.binds (ps := ["self", "ahead"]) fun _ _ _ _ _ _ us hl => match us, hl with | [_, _], _ => rfl
  have MCsums : Md K CC "sums" "CutLayer.sums" s_CutLayer_sums ["self", "ahead"] := ⟨_, _, ⟨wCsums, qCsums, kCsums⟩, FCsums, bCsums⟩
  have FCpassed := fun_mk (st := s_CutLayer_passed) lCpassed cCpassed kCpassed
  have bCpassed := FCpassed.binds (ps := ["self", "ahead"]) fun _ _ _ _ _ _ us hl => match us, hl with | [_, _], _ => rfl
  have MCpassed : Md K CC "passed" "CutLayer.passed" s_CutLayer_passed ["self", "ahead"] := ⟨_, _, ⟨wCpassed, qCpassed, kCpassed⟩, FCpassed, bCpassed⟩
  have TCL : Cls K CL := ⟨pgCL, hdCL, poCL, saCL⟩
  have ICL : C8.InsC K CL := ⟨TCL, haCL, hnO, htO, hmCL, meCL⟩
  have gCL := PySem.W.mg_of X G aCL
  have TCC : Cls K CC := ⟨pgCC, hdCC, poCC, saCC⟩
  have ICC : C8.InsC K CC := ⟨TCC, haCC, hnO, htO, hmCC, meCC⟩
  have gCC := PySem.W.mg_of X G aCC
  have F_law := fun_mk (st := s_law) l21 c21 k21
  refine ⟨PySem.W.fnOf "law" "law" (defArgs s_law) (defBody s_law) (defScope s_law) .none kV21 dc21 pm21 an21 cd21 ct21, fun s v => .of_eq rfl, fun base _ _ => ?_⟩
  have g1 := ok_fraction_of (P := l.prog) (w := w) (base := base) D_fraction_of mgcd
  have g2 := ok_plus D_plus g1
  have g3 := ok_times D_times g1
  have g4 := ok_weigh D_weigh C_NOUGHT mzip g2 g3
  have g5 := ok_sum_at D_sum_at g2 g4
  have g6 := ok_cut_at_nought (P := l.prog) (w := w) (base := base) D_cut_at_nought C_NOUGHT
  have g7 := ok__reckoned D__reckoned g5 mtuple
  have h1 := ok__law_cell (P := l.prog) (w := w) (base := base) D__law_cell mlen
  have h2 := ok__law_stream (P := l.prog) (w := w) (base := base) D__law_stream mint
  have h3 := ok__law_take (P := l.prog) (w := w) (base := base) D__law_take
  have h4 := ok__law_part (P := l.prog) (w := w) (base := base) D__law_part mabs
  have h5 := ok__law_plus D__law_plus h4
  have h6 := ok__law_times D__law_times h4
  have h7 := ok__law_weighs D__law_weighs mzip h5 h6
  have h8 := ok__law_tells D__law_tells h5 h7
  have h9 := ok__law_long D__law_long h3
  have i1 := ok__law_number D__law_number h3 h9 h4
  have i2 := ok__law_node D__law_node i1 mtuple mrange
  have i3 := ok__law_is_row (P := l.prog) (w := w) (base := base) D__law_is_row misinstance mtuple mbool
  have LL : LDefs l.prog w K mg base CL CL CC false := ⟨ICL, naCL, ok_Layer_told MLtold TCL naCL, ok_Layer_sums MLsums TCL naCL g7, ok_Layer_passed MLpassed TCL naCL g7, meCL, isLC⟩
  have LC : LDefs l.prog w K mg base CC CL CC true := ⟨ICC, naCC, ok_CutLayer_told MCtold TCC naCC, ok_CutLayer_sums MCsums TCC naCC g7, ok_CutLayer_passed MCpassed TCC naCC g7 g6 mtuple, isCL, meCC⟩
  have j1 := ok__law_one_right D__law_one_right LL gCL gCC h8 i3 misinstance mtuple mint
  have j2 := ok__law_one_right D__law_one_right LC gCL gCC h8 i3 misinstance mtuple mint
  have j3 := ok__law_right D__law_right ⟨h3, i1, i2, j1, j2⟩ ⟨mkCL, iiCL, qI, kcCL⟩ ⟨mkCC, iiCC, qI, kcCC⟩ (fn_init FI TCL naCL mtuple) (fn_init FI TCC naCC mtuple) bI gCL gCC misinstance mtuple mlist mint mrange
  exact fn_law F_law j3 h2 h1 mrange mmax mmin mlen
end K06
open PySem PySem.W PyProof.Rows
set_option maxRecDepth 100000 in
set_option maxHeartbeats 0 in
theorem PySem.Challenge.cw_noughtcut_k06_layers_holds : PySem.Challenge.rw_noughtcut_k06_layers.Holds := by
  w_on; o_law; k_head; (case hw => w_witness2)
  k_fill
  refine L2.walk_of (l := PySem.Challenge.rw_noughtcut_k06_layers) (n := 63) (k := 9) (x := "_law_script") (CX := fun _ => L2.CX0) (sp := fun w => Nc.spLaw _) rfl (by decide) rfl ⟨rfl, by decide, by decide⟩ (fun w h Y => PySem.W.kIn_of Y) ?F (fun _ _ a ns hl _ hS => ⟨a, ns, rfl, hS, hl, fun _ => rfl⟩) (fun _ _ _ _ _ h => h)
  case F =>
    intro w mg fa h KX G hmg
    refine' K06.all_mk KX G hmg ?a0 ?l0 ?c0 ?k0 ?a1 ?l1 ?c1 ?k1 ?a2 ?l2 ?c2 ?k2 ?a3 ?l3 ?c3 ?k3 ?a4 ?l4 ?c4 ?k4 ?a5 ?l5 ?c5 ?k5 ?a6 ?l6 ?c6 ?k6 ?a7 ?l7 ?c7 ?k7 ?a8 ?l8 ?c8 ?k8 ?a9 ?l9 ?c9 ?k9 ?a10 ?l10 ?c10 ?k10 ?a11 ?l11 ?c11 ?k11 ?a12 ?l12 ?c12 ?k12 ?a13 ?l13 ?c13 ?k13 ?a14 ?l14 ?c14 ?k14 ?a15 ?l15 ?c15 ?k15 ?a16 ?l16 ?c16 ?k16 ?a17 ?l17 ?c17 ?k17 ?a18 ?l18 ?c18 ?k18 ?a19 ?l19 ?c19 ?k19 ?a20 ?l20 ?c20 ?k20 ?a21 ?l21 ?c21 ?k21 ?z_len ?z_range ?z_zip ?z_tuple ?z_int ?z_abs ?z_isinstance ?z_bool ?z_list ?z_max ?z_min ?zgcd ?nNOUGHT ?vNOUGHT ?aCL ?pgCL ?hdCL ?poCL ?saCL ?mkCL ?kcCL ?naCL ?haCL ?hmCL ?meCL ?iiCL ?aCC ?pgCC ?hdCC ?poCC ?saCC ?mkCC ?kcCC ?naCC ?haCC ?hmCC ?meCC ?iiCC ?hnO ?htO ?isLC ?isCL ?qI ?lI ?cI ?kI ?wLtold ?qLtold ?lLtold ?cLtold ?kLtold ?wLsums ?qLsums ?lLsums ?cLsums ?kLsums ?wLpassed ?qLpassed ?lLpassed ?cLpassed ?kLpassed ?wCtold ?qCtold ?lCtold ?cCtold ?kCtold ?wCsums ?qCsums ?lCsums ?cCsums ?kCsums ?wCpassed ?qCpassed ?lCpassed ?cCpassed ?kCpassed
    (case a0 => k_is)
    (case l0 => k_is)
    (case c0 => k_is)
    (case k0 => k_is)
    (case a1 => k_is)
    (case l1 => k_is)
    (case c1 => k_is)
    (case k1 => k_is)
    (case a2 => k_is)
    (case l2 => k_is)
    (case c2 => k_is)
    (case k2 => k_is)
    (case a3 => k_is)
    (case l3 => k_is)
    (case c3 => k_is)
    (case k3 => k_is)
    (case a4 => k_is)
    (case l4 => k_is)
    (case c4 => k_is)
    (case k4 => k_is)
    (case a5 => k_is)
    (case l5 => k_is)
    (case c5 => k_is)
    (case k5 => k_is)
    (case a6 => k_is)
    (case l6 => k_is)
    (case c6 => k_is)
    (case k6 => k_is)
    (case a7 => k_is)
    (case l7 => k_is)
    (case c7 => k_is)
    (case k7 => k_is)
    (case a8 => k_is)
    (case l8 => k_is)
    (case c8 => k_is)
    (case k8 => k_is)
    (case a9 => k_is)
    (case l9 => k_is)
    (case c9 => k_is)
    (case k9 => k_is)
    (case a10 => k_is)
    (case l10 => k_is)
    (case c10 => k_is)
    (case k10 => k_is)
    (case a11 => k_is)
    (case l11 => k_is)
    (case c11 => k_is)
    (case k11 => k_is)
    (case a12 => k_is)
    (case l12 => k_is)
    (case c12 => k_is)
    (case k12 => k_is)
    (case a13 => k_is)
    (case l13 => k_is)
    (case c13 => k_is)
    (case k13 => k_is)
    (case a14 => k_is)
    (case l14 => k_is)
    (case c14 => k_is)
    (case k14 => k_is)
    (case a15 => k_is)
    (case l15 => k_is)
    (case c15 => k_is)
    (case k15 => k_is)
    (case a16 => k_is)
    (case l16 => k_is)
    (case c16 => k_is)
    (case k16 => k_is)
    (case a17 => k_is)
    (case l17 => k_is)
    (case c17 => k_is)
    (case k17 => k_is)
    (case a18 => k_is)
    (case l18 => k_is)
    (case c18 => k_is)
    (case k18 => k_is)
    (case a19 => k_is)
    (case l19 => k_is)
    (case c19 => k_is)
    (case k19 => k_is)
    (case a20 => k_is)
    (case l20 => k_is)
    (case c20 => k_is)
    (case k20 => k_is)
    (case a21 => k_is)
    (case l21 => k_is)
    (case c21 => k_is)
    (case k21 => k_is)
    (case z_len => k_is)
    (case z_range => k_is)
    (case z_zip => k_is)
    (case z_tuple => k_is)
    (case z_int => k_is)
    (case z_abs => k_is)
    (case z_isinstance => k_is)
    (case z_bool => k_is)
    (case z_list => k_is)
    (case z_max => k_is)
    (case z_min => k_is)
    (case zgcd => k_is)
    (case nNOUGHT => k_is)
    (case vNOUGHT => k_is)
    (case aCL => k_is)
    (case pgCL => k_is)
    (case hdCL => k_is)
    (case poCL => k_is)
    (case saCL => k_is)
    (case mkCL => k_is)
    (case kcCL => k_is)
    (case naCL => k_is)
    (case haCL => k_is)
    (case hmCL => k_is)
    (case meCL => first | k_is | rfl | (with_unfolding_all rfl))
    (case iiCL => k_is)
    (case aCC => k_is)
    (case pgCC => k_is)
    (case hdCC => k_is)
    (case poCC => k_is)
    (case saCC => k_is)
    (case mkCC => k_is)
    (case kcCC => k_is)
    (case naCC => k_is)
    (case haCC => k_is)
    (case hmCC => k_is)
    (case meCC => first | k_is | rfl | (with_unfolding_all rfl))
    (case iiCC => k_is)
    (case hnO => k_is)
    (case htO => k_is)
    (case isLC => first | k_is | rfl | (with_unfolding_all rfl))
    (case isCL => first | k_is | rfl | (with_unfolding_all rfl))
    (case qI => k_is)
    (case lI => k_is)
    (case cI => k_is)
    (case kI => k_is)
    (case wLtold => k_is)
    (case qLtold => k_is)
    (case lLtold => k_is)
    (case cLtold => k_is)
    (case kLtold => k_is)
    (case wLsums => k_is)
    (case qLsums => k_is)
    (case lLsums => k_is)
    (case cLsums => k_is)
    (case kLsums => k_is)
    (case wLpassed => k_is)
    (case qLpassed => k_is)
    (case lLpassed => k_is)
    (case cLpassed => k_is)
    (case kLpassed => k_is)
    (case wCtold => k_is)
    (case qCtold => k_is)
    (case lCtold => k_is)
    (case cCtold => k_is)
    (case kCtold => k_is)
    (case wCsums => k_is)
    (case qCsums => k_is)
    (case lCsums => k_is)
    (case cCsums => k_is)
    (case kCsums => k_is)
    (case wCpassed => k_is)
    (case qCpassed => k_is)
    (case lCpassed => k_is)
    (case cCpassed => k_is)
    (case kCpassed => k_is)
