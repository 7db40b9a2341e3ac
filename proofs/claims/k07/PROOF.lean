import PyProof.Rows.All
import Wide.All
import OpenK.AllK
import Wide.FinOn
import HandS.Base
import HandS.Call
import HandS.List
import HandS.Comp
import HandS.Iter
import HandS.Ends
import HandS.Words
import HandS.Evl
import HandS.WordsList
import HandS.Zip
import HandS.Wide
import HandS.Gcd
import HandS.IsInst
import HandS.TupMul
import HandS.ClsMeth
import HandS.Text
import HandS.RaiseMore
import HandS.ListEq
import HandS.TupLe
import HandS.Flow
import HandS.Codes
import HandS.TupAny
import HandS.Style
import KE.GoesMore
import KE.GoesEnum
import KE.KUnpack
import PyProof.ListOps
import HandS.ForMost
import PySem.Challenge.RW_noughtcut_k07_nets_told
set_option Elab.async false
set_option linter.all false
section
namespace Nc
/-! ### fractions: Rat's own top and bottom -/
def Sz (n d : Nat) (r : Rat) : Prop := r.num.natAbs < 2 ^ n ∧ r.den < 2 ^ d
theorem den_pos (r : Rat) : (0 : Int) < (r.den : Int) := by
  have := r.den_nz
  omega
theorem num_div {t b : Int} (hb : 0 < b) : t / ((Nat.gcd t.natAbs b.natAbs : Nat) : Int) = (Rat.divInt t b).num := by
  rw [Rat.num_divInt, Int.sign_eq_one_of_pos hb, Int.one_mul, Int.gcd_comm]
  rfl
theorem den_div {t b : Int} (hb : 0 < b) : b / ((Nat.gcd t.natAbs b.natAbs : Nat) : Int) = ((Rat.divInt t b).den : Int) := by
  rw [Rat.den_divInt, if_neg (by omega), Int.gcd_comm]
  have e : b = ((b.natAbs : Nat) : Int) := by omega
  conv => lhs; rw [e]
  rfl
theorem gcd_pos {t b : Int} (hb : 0 < b) : (0 : Int) < ((Nat.gcd t.natAbs b.natAbs : Nat) : Int) := by
  have := Nat.gcd_pos_of_pos_right t.natAbs (n := b.natAbs) (by omega)
  omega
theorem gcd_le {t b : Int} (hb : 0 < b) : ((Nat.gcd t.natAbs b.natAbs : Nat) : Int) ≤ b := by
  have := Nat.gcd_le_right t.natAbs (n := b.natAbs) (by omega)
  omega
theorem add_is (r s : Rat) : Rat.divInt (r.num * (s.den : Int) + s.num * (r.den : Int)) ((r.den : Int) * (s.den : Int)) = r + s := by
  have h1 := den_pos r
  have h2 := den_pos s
  rw [← Rat.divInt_add_divInt r.num s.num (by omega) (by omega), Rat.num_divInt_den, Rat.num_divInt_den]
theorem mul_is (r s : Rat) : Rat.divInt (r.num * s.num) ((r.den : Int) * (s.den : Int)) = r * s := by
  rw [← Rat.divInt_mul_divInt r.num s.num, Rat.num_divInt_den, Rat.num_divInt_den]
theorem natAbs_ediv_le (a b : Int) : (a / b).natAbs ≤ a.natAbs := Int.natAbs_ediv_le_natAbs a b
/-- the size of a quotient by the shared part -/
theorem sz_div {t b : Int} {n d : Nat} (hb : 0 < b) (ht : t.natAbs < 2 ^ n) (hz : b.natAbs < 2 ^ d) : Sz n d (Rat.divInt t b) := by
  constructor
  · rw [← num_div hb]
    exact Nat.lt_of_le_of_lt (natAbs_ediv_le _ _) ht
  · have h := den_div (t := t) hb
    have h2 := natAbs_ediv_le b ((Nat.gcd t.natAbs b.natAbs : Nat) : Int)
    rw [h] at h2
    have : ((Rat.divInt t b).den : Int).natAbs = (Rat.divInt t b).den := Int.natAbs_natCast _
    omega
theorem lt_mul {a b : Nat} {i j : Int} (ha : i.natAbs < 2 ^ a) (hb : j.natAbs < 2 ^ b) : (i * j).natAbs < 2 ^ (a + b) := by
  rw [Int.natAbs_mul, Nat.pow_add]
  exact Nat.mul_lt_mul'' ha hb
theorem lt_add {n : Nat} {i j : Int} (ha : i.natAbs < 2 ^ n) (hb : j.natAbs < 2 ^ n) : (i + j).natAbs < 2 ^ (n + 1) := by
  have := Int.natAbs_add_le i j
  rw [Nat.pow_succ]
  omega
theorem lt_mono {n m : Nat} {i : Nat} (h : i < 2 ^ n) (hm : n ≤ m) : i < 2 ^ m := Nat.lt_of_lt_of_le h (Nat.pow_le_pow_right (by decide) hm)
theorem Sz.mono {n m d e : Nat} {r : Rat} (h : Sz n d r) (hm : n ≤ m) (he : d ≤ e) : Sz m e r := ⟨lt_mono h.1 hm, lt_mono h.2 he⟩
theorem Sz.den {n d : Nat} {r : Rat} (h : Sz n d r) : ((r.den : Int)).natAbs < 2 ^ d := by
  rw [Int.natAbs_natCast]
  exact h.2
theorem sz_add {n d m e N : Nat} {r s : Rat} (hr : Sz n d r) (hs : Sz m e s) (h1 : n + e ≤ N := by omega) (h2 : m + d ≤ N := by omega) : Sz (N + 1) (d + e) (r + s) := by
  rw [← add_is]
  have k1 := lt_mono (lt_mul hr.1 hs.den) h1
  have k2 := lt_mono (lt_mul hs.1 hr.den) h2
  have k3 := lt_mul hr.den hs.den
  exact sz_div (Int.mul_pos (den_pos r) (den_pos s)) (lt_add k1 k2) k3
theorem sz_mul {n d m e : Nat} {r s : Rat} (hr : Sz n d r) (hs : Sz m e s) : Sz (n + m) (d + e) (r * s) := by
  rw [← mul_is]
  exact sz_div (Int.mul_pos (den_pos r) (den_pos s)) (lt_mul hr.1 hs.1) (lt_mul hr.den hs.den)
theorem sz_zero : Sz 1 1 (0 : Rat) := ⟨by decide, by decide⟩
theorem sz_one : Sz 1 1 (1 : Rat) := ⟨by decide, by decide⟩
/-! ### rows -/
/-- what a row weighs another one -/
def weighs (l : List (Rat × Rat)) : Rat := l.foldl (fun t p => t + p.1 * p.2) 0
theorem foldl_weigh : ∀ (l : List (Rat × Rat)) (t : Rat), l.foldl (fun t p => t + p.1 * p.2) t = t + weighs l
  | [], t => by simp [weighs, Rat.add_zero]
  | p :: r, t => by
    unfold weighs
    simp only [List.foldl_cons]
    rw [foldl_weigh r, foldl_weigh r (0 + p.1 * p.2)]
    grind
theorem weighs_cons (p : Rat × Rat) (r : List (Rat × Rat)) : weighs (p :: r) = p.1 * p.2 + weighs r := by
  unfold weighs
  simp only [List.foldl_cons]
  rw [foldl_weigh r]
  unfold weighs
  grind
theorem weighs_take {l : List (Rat × Rat)} {i : Nat} {p : Rat × Rat} (h : l[i]? = some p) : weighs (l.take (i + 1)) = weighs (l.take i) + p.1 * p.2 := by
  unfold weighs
  rw [List.take_add_one, h, List.foldl_append]
  rfl
theorem weighs_add : ∀ (a b c : List Rat), a.length = b.length → weighs (((a.zip b).map fun p => p.1 + p.2).zip c) = weighs (a.zip c) + weighs (b.zip c)
  | [], [], c, _ => by simp [weighs, Rat.add_zero]
  | x :: a, y :: b, [], _ => by simp [weighs, Rat.add_zero]
  | x :: a, y :: b, z :: c, h => by
    have ih := weighs_add a b c (by simpa using h)
    simp only [List.zip_cons_cons, List.map_cons, weighs_cons]
    rw [ih]
    grind
theorem weighs_mul (by_ : Rat) : ∀ (a c : List Rat), weighs ((a.map fun x => by_ * x).zip c) = by_ * weighs (a.zip c)
  | [], c => by simp [weighs, Rat.mul_zero]
  | x :: a, [] => by simp [weighs, Rat.mul_zero]
  | x :: a, z :: c => by
    have ih := weighs_mul by_ a c
    simp only [List.zip_cons_cons, List.map_cons, weighs_cons]
    rw [ih]
    grind
/-! ### sums: a row and a number -/
abbrev Sum2 := List Rat × Rat
def tells (s : Sum2) (row : List Rat) : Rat := weighs (s.1.zip row) + s.2
def splus (s t : Sum2) : Sum2 := ((s.1.zip t.1).map fun p => p.1 + p.2, s.2 + t.2)
def stimes (q : Rat) (s : Sum2) : Sum2 := (s.1.map fun x => q * x, q * s.2)
theorem tells_splus (s t : Sum2) (row : List Rat) (h : s.1.length = t.1.length) : tells (splus s t) row = tells s row + tells t row := by
  unfold tells splus
  simp only
  rw [weighs_add _ _ _ h]
  grind
theorem tells_stimes (q : Rat) (s : Sum2) (row : List Rat) : tells (stimes q s) row = q * tells s row := by
  unfold tells stimes
  simp only
  rw [weighs_mul]
  grind
theorem splus_comm (s t : Sum2) : splus s t = splus t s := by
  unfold splus
  have : (s.1.zip t.1).map (fun p => p.1 + p.2) = (t.1.zip s.1).map fun p => p.1 + p.2 := by
    apply List.ext_getElem
    · simp [Nat.min_comm]
    · intro i h1 h2
      simp only [List.getElem_map, List.getElem_zip]
      exact Rat.add_comm _ _
  rw [this, Rat.add_comm]
/-- all of a row below a size -/
def SzL (n d : Nat) (l : List Rat) : Prop := ∀ r ∈ l, Sz n d r
theorem sz_weighs {n d m e : Nat} (hn : d ≤ n) (hm : e ≤ m) : ∀ (i : Nat) (l : List (Rat × Rat)), i ≤ l.length → (∀ p ∈ l, Sz n d p.1 ∧ Sz m e p.2) → Sz (1 + i * (n + m + 1)) (1 + i * (d + e)) (weighs (l.take i))
  | 0, l, _, _ => by simpa [weighs] using sz_zero
  | i + 1, l, h, hl => by
    have ih := sz_weighs hn hm i l (by omega) hl
    have e1 : l[i]? = some l[i] := List.getElem?_eq_getElem (by omega)
    rw [weighs_take e1]
    have hp := hl l[i] (List.getElem_mem _)
    have le : i * (d + e) ≤ i * (n + m + 1) := Nat.mul_le_mul_left i (by omega)
    have := sz_add (N := i * (n + m + 1) + (n + m + 1)) ih (sz_mul hp.1 hp.2) (by omega) (by omega)
    exact this.mono (by rw [Nat.add_mul]; omega) (by rw [Nat.add_mul]; omega)
theorem sz_of_weighs {n d m e : Nat} {a b : List Rat} (hn : d ≤ n) (hm : e ≤ m) (ha : SzL n d a) (hb : SzL m e b) (hl : a.length = b.length) : Sz (1 + a.length * (n + m + 1)) (1 + a.length * (d + e)) (weighs (a.zip b)) := by
  have h := sz_weighs hn hm a.length (a.zip b) (by rw [List.length_zip]; omega) (fun p hp => ⟨ha _ (List.of_mem_zip hp).1, hb _ (List.of_mem_zip hp).2⟩)
  rwa [List.take_of_length_le (by rw [List.length_zip]; omega)] at h
/-! ### the greatest shared divisor, step by step -/
theorem gcd_step {a b : Int} (ha : 0 ≤ a) (hb : 0 < b) : Nat.gcd b.natAbs (a % b).natAbs = Nat.gcd a.natAbs b.natAbs := by
  have e : (a % b).natAbs = a.natAbs % b.natAbs := by
    rw [Int.natAbs_emod_of_nonneg ha]
  rw [e, Nat.gcd_comm a.natAbs, Nat.gcd_rec b.natAbs a.natAbs, Nat.gcd_comm]
end Nc
end
section
set_option maxRecDepth 100000
set_option maxHeartbeats 4000000
namespace Nc
open PySem L2 Evl PyProof.Rows
/-! ### what stands for a fraction, a row, a sum -/
def FrV (K : PySem.W.Frag) (H : Hp) (v : V) (r : Rat) : Prop := ∃ t, v = .ref t ∧ SqT K H t [.int r.num, .int (r.den : Int)]
abbrev FrL (K : PySem.W.Frag) (H : Hp) : List V → List Rat → Prop := Paired (FrV K H)
def RowV (K : PySem.W.Frag) (H : Hp) (v : V) (rs : List Rat) : Prop := ∃ t xs, v = .ref t ∧ SqT K H t xs ∧ FrL K H xs rs
def SumV (K : PySem.W.Frag) (H : Hp) (v : V) (s : Sum2) : Prop := ∃ t a b, v = .ref t ∧ SqT K H t [a, b] ∧ RowV K H a s.1 ∧ FrV K H b s.2
variable {K : PySem.W.Frag} {H H' : Hp}
theorem FrV.ex {v : V} {r : Rat} (e : Ex H H') (h : FrV K H v r) : FrV K H' v r := by
  obtain ⟨t, rfl, q⟩ := h
  exact ⟨t, rfl, ex_t e q⟩
theorem pmono {α β : Type} {F G : α → β → Prop} (h : ∀ a b, F a b → G a b) : ∀ {xs : List α} {ys : List β}, Paired F xs ys → Paired G xs ys
  | _, _, .nil => .nil
  | _, _, .cons a t => .cons (h _ _ a) (pmono h t)
theorem FrL.ex {xs : List V} {rs : List Rat} (e : Ex H H') (h : FrL K H xs rs) : FrL K H' xs rs := pmono (fun _ _ => FrV.ex e) h
theorem RowV.ex {v : V} {rs : List Rat} (e : Ex H H') (h : RowV K H v rs) : RowV K H' v rs := by
  obtain ⟨t, xs, rfl, q, l⟩ := h
  exact ⟨t, xs, rfl, ex_t e q, FrL.ex e l⟩
theorem SumV.ex {v : V} {s : Sum2} (e : Ex H H') (h : SumV K H v s) : SumV K H' v s := by
  obtain ⟨t, a, b, rfl, q, l, n⟩ := h
  exact ⟨t, a, b, rfl, ex_t e q, l.ex e, n.ex e⟩
theorem pget {α β : Type} {F : α → β → Prop} : ∀ {xs : List α} {ys : List β} {i : Nat} {x : α}, Paired F xs ys → xs[i]? = some x → ∃ y, ys[i]? = some y ∧ F x y
  | _, _, _, _, .nil, e => by simp at e
  | _, _, 0, _, .cons r _, e => by simp at e; subst e; exact ⟨_, rfl, r⟩
  | _, _, i + 1, x, .cons _ t, e => by
    obtain ⟨u, h1, h2⟩ := pget (i := i) (x := x) t (by simpa using e)
    exact ⟨u, by simpa using h1, h2⟩
theorem pget' {α β : Type} {F : α → β → Prop} : ∀ {xs : List α} {ys : List β} {i : Nat} {y : β}, Paired F xs ys → ys[i]? = some y → ∃ x, xs[i]? = some x ∧ F x y
  | _, _, _, _, .nil, e => by simp at e
  | _, _, 0, _, .cons r _, e => by simp at e; subst e; exact ⟨_, rfl, r⟩
  | _, _, i + 1, y, .cons _ t, e => by
    obtain ⟨u, h1, h2⟩ := pget' (i := i) (y := y) t (by simpa using e)
    exact ⟨u, by simpa using h1, h2⟩
/-! ### data -/
def fd (r : Rat) : PyData := .tuple [.int r.num, .int (r.den : Int)]
def sd (s : Sum2) : PyData := .tuple [.tuple (s.1.map fd), fd s.2]
theorem FrV.dp {v : V} {r : Rat} (h : FrV K H v r) : Dp K H v (fd r) := by
  obtain ⟨t, rfl, q⟩ := h
  exact .tup q (.cons (.int _) (.cons (.int _) .nil))
theorem FrL.dp : ∀ {xs : List V} {rs : List Rat}, FrL K H xs rs → DpAll K H xs (rs.map fd)
  | _, _, .nil => .nil
  | _, _, .cons a t => .cons a.dp (FrL.dp t)
theorem RowV.dp {v : V} {rs : List Rat} (h : RowV K H v rs) : Dp K H v (.tuple (rs.map fd)) := by
  obtain ⟨t, xs, rfl, q, l⟩ := h
  exact .tup q (FrL.dp l)
theorem SumV.dp {v : V} {s : Sum2} (h : SumV K H v s) : Dp K H v (sd s) := by
  obtain ⟨t, a, b, rfl, q, l, n⟩ := h
  exact .tup q (.cons l.dp (.cons n.dp .nil))
/-! ### shapes -/
theorem lay_fd (r : Rat) : (fd r).canLay0 = true := rfl
theorem layAll_fd : ∀ rs : List Rat, PyData.canLayAll0 (rs.map fd) = true
  | [] => rfl
  | r :: rs => by
    show ((fd r).canLay0 && PyData.canLayAll0 (rs.map fd)) = true
    rw [layAll_fd rs]
    rfl
end Nc
end
section
set_option maxRecDepth 100000
set_option maxHeartbeats 4000000
namespace Nc
open PySem L2 Evl PyProof.Rows
/-! ### a def of the top, with and without its promise -/
structure Df (K : PySem.W.Frag) (mg : Str → Option Value) (x : Str) (st : Stmt) (ps : List Str) : Prop where
  ex : ∃ f fd, mg x = some (.ref f) ∧ Fun K x x st f fd ∧ Binds K fd ps []
structure Ok (P : Program) (w : World) (K : PySem.W.Frag) (mg : Str → Option Value) (base : Heap) (k : Nat) (x : Str) (ps : List Str) (sp : Sp) : Prop where
  ex : ∃ f fd, mg x = some (.ref f) ∧ PySem.W.keepIn K (.ref f) = true ∧ FnOk P w K mg base CX0 k f fd ps sp ∧ Binds K fd ps []
theorem Df.ok {P : Program} {w : World} {K : PySem.W.Frag} {mg : Str → Option Value} {base : Heap} {k : Nat} {x : Str} {st : Stmt} {ps : List Str} {sp : Sp} (D : Df K mg x st ps)
    (h : ∀ f fd, Fun K x x st f fd → FnOk P w K mg base CX0 k f fd ps sp) : Ok P w K mg base k x ps sp := by
  obtain ⟨f, fd, g, F, b⟩ := D.ex
  exact ⟨f, fd, g, F.kp, h f fd F, b⟩
theorem Ok.mono {P : Program} {w : World} {K : PySem.W.Frag} {mg : Str → Option Value} {base : Heap} {j k : Nat} {x : Str} {ps : List Str} {sp : Sp} (D : Ok P w K mg base j x ps sp) (h : j ≤ k) : Ok P w K mg base k x ps sp := by
  obtain ⟨f, fd, g, kp, F, b⟩ := D.ex
  exact ⟨f, fd, g, kp, F.mono h, b⟩
theorem Df.of {K : PySem.W.Frag} {h : Heap} {mg : Str → Option Value} (X : K.In h) (G : h.Ns mainGlobals mg) {x : Str} {st : Stmt} {ps : List Str} {f : Addr} {oc : Value} {od an : Option Addr} {osl : Array (Option Value)} {kV doc pm cdv ct : Value}
    (a : PySem.W.nsIn K mainGlobals x = some (some (.ref f))) (l : K.lookup f = some ⟨oc, od, .func (PySem.W.fnOf x x (defArgs st) (defBody st) (defScope st) .none kV doc pm an cdv ct), osl⟩)
    (c : PySem.W.codeIn K cdv x = true) (k : PySem.W.keepIn K (.ref f) = true)
    (hb : ∀ (kV doc pm : Value) (an : Option Addr) (cdv ct : Value) (us : List Value), us.length = ps.length → bindArgs (PySem.W.fnOf x x (defArgs st) (defBody st) (defScope st) .none kV doc pm an cdv ct) ⟨us, []⟩ = pure (ps.zip us)) : Df K mg x st ps :=
  have F := fun_mk (st := st) l c k
  ⟨f, _, PySem.W.mg_of X G a, F, F.binds hb⟩
section
variable {X : Cx} {k : Nat} {x : Str} {ps : List Str} {sp : Sp} {e : Expr} {es : List Expr} {t : TA} {p pos : Pos}
/-- a call of such a def -/
theorem cl (D : Ok X.prog X.w X.K X.mg X.base k x ps sp) (hr : Room k X.A) (ha : PA X (e :: es) t) (hg : Gl X x := by rfl) (hdb : (x == ("__debug__" : Str)) = false := by decide)
    (he : starEach (e :: es) X.env = (false, eval e X.env) :: starEach es X.env := by rfl) (hpl : (backTo pos (starEach es X.env)).any (·.1) = false := by rfl) : PE X (.Call (.Name x p) (e :: es) [] pos) (tCall sp [] E0 t) := by
  obtain ⟨f, fd, g, kp, F, b⟩ := D.ex
  exact pe_call F hr hg g kp b .nil pass0 ha hdb he hpl
end
/-! ### small facts -/
theorem at0 {a : V} {l : List V} : atI (a :: l) 0 = some a := atI_nat (j := 0) rfl
theorem at1 {a b : V} {l : List V} : atI (a :: b :: l) 1 = some b := atI_nat (j := 1) rfl
theorem at2 {a b c : V} {l : List V} : atI (a :: b :: c :: l) 2 = some c := atI_nat (j := 2) rfl
theorem at3 {a b c d : V} {l : List V} : atI (a :: b :: c :: d :: l) 3 = some d := atI_nat (j := 3) rfl
theorem at_mem {xs : List V} {d : Int} (h0 : 0 ≤ d) (h1 : d < xs.length) : ∃ v, atI xs d = some v ∧ v ∈ xs := by
  have h : d.toNat < xs.length := by omega
  refine ⟨xs[d.toNat], ?_, List.getElem_mem _⟩
  have e : d = (d.toNat : Int) := by omega
  have q : atI xs (d.toNat : Int) = some xs[d.toNat] := atI_nat (List.getElem?_eq_getElem h)
  rw [← e] at q
  exact q
theorem mulOk {i j : Int} {a b : Nat} (ha : i.natAbs < 2 ^ a) (hb : j.natAbs < 2 ^ b) (h0 : 0 < a := by omega) (h1 : 0 < b := by omega) (h : a + b ≤ 1000000 := by omega) : CMulW i j := wide_mul ha hb h0 h1 h
section
variable {K : PySem.W.Frag} {σ : L2.St} {H : Hp}
/-- an item of a tuple that stands in a slot -/
theorem ix0 {i : Nat} {t : Addr} {a : V} {l : List V} (hs : σ[i]? = some (some (.ref t))) (q : SqT K H t (a :: l)) : Ev (tOp (rIxT K) (tVar i) (tC (.int 0))) σ H a := ev_op (ev_var hs) ev_c (rv_ixT q at0)
theorem ix1 {i : Nat} {t : Addr} {a b : V} {l : List V} (hs : σ[i]? = some (some (.ref t))) (q : SqT K H t (a :: b :: l)) : Ev (tOp (rIxT K) (tVar i) (tC (.int 1))) σ H b := ev_op (ev_var hs) ev_c (rv_ixT q at1)
end
theorem ix_tK {X : Cx} (K : PySem.W.Frag) (h : X.K = K := by rfl) : IxR X (rIxT K) := by
  subst h
  exact ix_tup
theorem ix_lK {X : Cx} (K : PySem.W.Frag) (h : X.K = K := by rfl) : IxR X (rIxL K) := by
  subst h
  exact ix_list
/-! ### promises of the fractions' defs -/
/-- a fraction of two whole numbers, the bottom above nought -/
def spPart (K : PySem.W.Frag) : Sp := fun vs H Q _ => ∃ (t b : Int) (n : Nat), vs = [.int t, .int b] ∧ 0 < b ∧ b.natAbs < 2 ^ n ∧ 0 < n ∧ n ≤ 9000 ∧ ∀ v H', Ex H H' → FrV K H' v (Rat.divInt t b) → Q v H'
/-- two fractions, a third one of them -/
def sp2 (g : Rat → Rat → Rat) (K : PySem.W.Frag) : Sp := fun vs H Q _ => ∃ (x y : V) (r s : Rat) (n d m e : Nat), vs = [x, y] ∧ FrV K H x r ∧ FrV K H y s ∧ Sz n d r ∧ Sz m e s ∧ (0 < n ∧ 0 < d ∧ 0 < m ∧ 0 < e ∧ d + e ≤ 8900 ∧ n + m + d + e ≤ 900000) ∧ ∀ v H', Ex H H' → FrV K H' v (g r s) → Q v H'
abbrev spPlus := sp2 (· + ·)
abbrev spTimes := sp2 (· * ·)
/-- a made pair is a fraction -/
theorem made {K : PySem.W.Frag} {H : Hp} {p : Addr} {a b : Int} {r : Rat} (e1 : a = r.num) (e2 : b = (r.den : Int)) : FrV K (upd H p (.tup [.int a, .int b])) (.ref p) r := ⟨p, rfl, by rw [e1, e2]; exact st_of upd_same⟩
/-- what one row weighs another -/
def spWeigh (K : PySem.W.Frag) : Sp := fun vs H Q _ => ∃ (x y : V) (rs ss : List Rat) (n d m e : Nat), vs = [x, y] ∧ RowV K H x rs ∧ RowV K H y ss ∧ rs.length = ss.length ∧ SzL n d rs ∧ SzL m e ss ∧
  (0 < d ∧ 0 < e ∧ d ≤ n ∧ e ≤ m ∧ 1 + rs.length * (d + e) ≤ 8900 ∧ 1 + rs.length * (n + m + 1) ≤ 400000) ∧ ∀ v H', Ex H H' → FrV K H' v (weighs (rs.zip ss)) → Q v H'
/-- what a sum tells at a row -/
def spTells (K : PySem.W.Frag) : Sp := fun vs H Q _ => ∃ (x y : V) (s : Sum2) (ss : List Rat) (n d m e : Nat), vs = [x, y] ∧ SumV K H x s ∧ RowV K H y ss ∧ s.1.length = ss.length ∧ SzL n d s.1 ∧ Sz n d s.2 ∧ SzL m e ss ∧
  (0 < d ∧ 0 < e ∧ d ≤ n ∧ e ≤ m ∧ 1 + s.1.length * (d + e) + d ≤ 8900 ∧ 1 + s.1.length * (n + m + 1) ≤ 400000 ∧ n ≤ 400000) ∧ ∀ v H', Ex H H' → FrV K H' v (tells s ss) → Q v H'
/-- a module's constant that is a fraction -/
structure Cst (K : PySem.W.Frag) (mg : Str → Option Value) (x : Str) (r : Rat) : Prop where
  ex : ∃ a, mg x = some (.ref a) ∧ ∀ H, FrV K H (.ref a) r
end Nc
end
section
set_option maxRecDepth 100000
set_option maxHeartbeats 4000000
namespace Nc
open PySem PySem.Spec PyProof.Rows L2
theorem tuple_mul1 (l : Addr) (items : Array Value) (n : Nat) (dd : Option Addr) (sl : Array (Option Value)) (u : Tok) :
    Meets (Builtin.«tuple.__mul__» ⟨[.ref l, .int 1 u], []⟩) (fun _ R s => s.heap.get? l = some { cls := .type "tuple", dict := dd, data := .seq items n, slots := sl } ∧
      R (.ok (.ret (Value.ref l))) s) :=
  .of_wp fun prog w A R s h => by
    obtain ⟨hp, g, d, tk, os⟩ := s
    obtain ⟨hl, h⟩ := h
    have f1 := AutoSeq1.idx_int
    wp_walk using wpAny_loadPart' hl
    repeat (first
      | (refine wpAny_ite_true (by simp) ?_; wp_walk using wpAny_loadPart' hl)
      | (refine wpAny_ite_false (by simp) ?_; wp_walk using wpAny_loadPart' hl))
    exact ⟨_, rfl, h⟩
theorem tuple_mul0 (l : Addr) (items : Array Value) (n : Nat) (dd : Option Addr) (sl : Array (Option Value)) (u : Tok) (c1 : items.isEmpty = false) :
    Meets (Builtin.«tuple.__mul__» ⟨[.ref l, .int 0 u], []⟩) (fun _ R s => s.heap.get? l = some { cls := .type "tuple", dict := dd, data := .seq items n, slots := sl } ∧
      R (.ok (.ret (Value.ref s.heap.objs.size))) { s with heap := s.heap.push { cls := Value.type "tuple", data := Data.seq #[] }, toks := s.toks }) :=
  .of_wp fun prog w A R s h => by
    obtain ⟨hp, g, d, tk, os⟩ := s
    obtain ⟨hl, h⟩ := h
    have f1 := AutoSeq1.idx_int
    wp_walk using wpAny_loadPart' hl
    repeat (first
      | (refine wpAny_ite_true (by simp) ?_; wp_walk using wpAny_loadPart' hl)
      | (refine wpAny_ite_false (by simp [c1]) ?_; wp_walk using wpAny_loadPart' hl))
    exact ⟨_, rfl, h⟩
def rRepA (K : PySem.W.Frag) : R2 := fun x y H Q => ∃ l k xs, x = .ref l ∧ y = .int k ∧ SqT K H l xs ∧ xs ≠ [] ∧ 0 ≤ k ∧ k ≤ 1000 ∧ xs.length ≤ 1000 ∧ ∀ p H', Evl.Ex H H' → SqT K H' p (List.replicate k.toNat xs).flatten → Q (.ref p) H'
theorem op_repA {X : Cx} : OpR X (binaryOp .Mult) (rRepA X.K) := by
  intro pins s σ H x y v u Q I rx ry h
  obtain ⟨l, k, xs, rfl, rfl, hT, hne, h1, h2, hz, q⟩ := h
  by_cases h3 : 2 ≤ k
  · exact op_repT pins s σ H _ _ v u Q I rx ry ⟨l, k, xs, rfl, rfl, hT, hne, h3, h2, hz, fun p hp => q p _ (Evl.Ex.new hp) (Evl.st_of upd_same)⟩
  cases rx
  obtain ⟨t, rfl⟩ := ry
  obtain ⟨its, r, ⟨⟨cls, dd, data, sl⟩, ho, hc, n, hd⟩, hs⟩ := I.tuple hT
  simp only at hc hd
  subst hc hd
  have hle : its.length = xs.length := r.length.symm
  have hn : its ≠ [] := fun e => hne (by
    rw [e] at hle
    exact List.eq_nil_of_length_eq_zero hle.symm)
  have hi : its.toArray.isEmpty = false := by
    cases its with
    | nil => exact absurd rfl hn
    | cons a b => rfl
  by_cases h4 : k = 1
  · subst h4
    refine wpAny_binaryOp_repeat_ref (T := "tuple") (U := "int") (by decide) ⟨_, ho, rfl⟩ (fun s' => typeIs_int s' 1 t) noFill_tuple_mul F.fills_int_mul F.slot_int_rmul repeat_tuple F.slot_int_index.lookup
      (call_meets F.slot_int_rmul (typeIs_int s 1 t) F.entry_int_rmul (F.args_int_rmul_2 _ _) (int_rmul_tuple 1 t l its.toArray n dd sl)
        ⟨ho, rfl, ⟨_, ho, rfl⟩, call_meets F.slot_tuple_mul ⟨_, ho, rfl⟩ F.entry_tuple_mul (F.args_tuple_mul_2 _ _) (tuple_mul1 l its.toArray n dd sl t) ⟨ho, ?_⟩⟩)
    refine ⟨.ref l, H, I, rfl, q l H (Evl.Ex.refl H) ?_⟩
    have e : (List.replicate (1 : Int).toNat xs).flatten = xs := by simp
    rw [e]
    exact hT
  · have h5 : k = 0 := by omega
    subst h5
    refine wpAny_binaryOp_repeat_ref (T := "tuple") (U := "int") (by decide) ⟨_, ho, rfl⟩ (fun s' => typeIs_int s' 0 t) noFill_tuple_mul F.fills_int_mul F.slot_int_rmul repeat_tuple F.slot_int_index.lookup
      (call_meets F.slot_int_rmul (typeIs_int s 0 t) F.entry_int_rmul (F.args_int_rmul_2 _ _) (int_rmul_tuple 0 t l its.toArray n dd sl)
        ⟨ho, rfl, ⟨_, ho, rfl⟩, call_meets F.slot_tuple_mul ⟨_, ho, rfl⟩ F.entry_tuple_mul (F.args_tuple_mul_2 _ _) (tuple_mul0 l its.toArray n dd sl t hi) ⟨ho, ?_⟩⟩)
    refine ⟨.ref s.heap.objs.size, _, I.laid (t' := s.toks) (o := .tup []) (fun b ob q => Heap.get?_push_of_some _ q) (Nat.le_refl _) ?_, rfl, q _ _ (Evl.Ex.new (I.hok.fresh (Nat.le_refl _))) (Evl.st_of upd_same)⟩
    exact ⟨Nat.zero_le _, [], .nil, IsTup.new _ _⟩
end Nc
end
section
set_option maxRecDepth 100000
set_option maxHeartbeats 4000000
namespace Nc
open PySem PySem.Spec PyProof.Rows L2 Evl
/-- a comprehension over zip of two tuples of one length -/
theorem lc_zipT {K : PySem.W.Frag} {a b : Addr} {xs ys : List V} {g : TG} {tt : TT} {te : TE} {vs : List Nat} {σ : L2.St} {H1 : Hp} {D : Addr} {Qd : Hp → Prop} (hl : xs.length = ys.length) (Pv : Nat → Hp → Prop) (h0 : Pv 0 (upd H1 D (.lst []))) (hq : ∀ i H, Pv i H → SqT K H a xs ∧ SqT K H b ys)
    (hs : ∀ (i : Nat) (x y : V) (T : Addr) (H : Hp), xs[i]? = some x → ys[i]? = some y → Pv i H → H T = none → g (.ref T) (wipe σ vs) (upd H T (.tup [x, y])) fun σ2 H2 => wipe σ2 vs = wipe σ vs ∧ tt σ2 H2 fun b H3 =>
      if b = true then te σ2 H3 fun y H4 => ∃ acc, H4 D = some (.lst acc) ∧ acc.length < sizeLine ∧ Pv (i + 1) (upd H4 D (.lst (acc ++ [y]))) else Pv (i + 1) H3) (hd : ∀ H, Pv xs.length H → Qd H) :
    ∃ W : Nat → Nat → Hp → Prop, (∃ m, W 0 m (upd H1 D (.lst []))) ∧ ∀ i m H, W i m H →
      ((RZ.ItzT K a b).stop i H ∧ Qd H) ∨ ((RZ.ItzT K a b).go i H ∧ ∃ Nx : Hp → Prop, (∀ H', Nx H' → ∃ m', m' < m ∧ W (i + 1) m' H') ∧ ∀ x H', (RZ.ItzT K a b).yld i H x H' → g x (wipe σ vs) H' fun σ2 H2 => wipe σ2 vs = wipe σ vs ∧ tt σ2 H2 fun b H3 =>
        if b = true then te σ2 H3 fun y H4 => ∃ acc, H4 D = some (.lst acc) ∧ acc.length < sizeLine ∧ Nx (upd H4 D (.lst (acc ++ [y]))) else Nx H3) := by
  refine ⟨fun i m H => m = xs.length - i ∧ i ≤ xs.length ∧ Pv i H, ⟨xs.length, rfl, Nat.zero_le _, h0⟩, ?_⟩
  rintro i m H ⟨rfl, hi, p⟩
  obtain ⟨qx, qy⟩ := hq i H p
  by_cases hlt : i < xs.length
  · have hx : xs[i]? = some xs[i] := List.getElem?_eq_getElem hlt
    have hlt2 : i < ys.length := by omega
    have hy : ys[i]? = some ys[i] := List.getElem?_eq_getElem hlt2
    refine .inr ⟨⟨xs, ys, _, _, qx, qy, hx, hy⟩, Pv (i + 1), fun H' p' => ⟨xs.length - (i + 1), by omega, rfl, hlt, p'⟩, fun v H' y => ?_⟩
    obtain ⟨T, x', y', rfl, hT, rfl, f1, f2⟩ := y
    exact hs i x' y' T H (f1 xs qx) (f2 ys qy) p hT
  · have e : i = xs.length := by omega
    subst e
    exact .inl ⟨⟨xs, ys, qx, qy, Or.inl (Nat.le_refl _)⟩, hd H p⟩
section
variable {K : PySem.W.Frag} {H H' H1 H4 : Hp} {D : Addr}
/-- a tuple stands as it stood where a list changes -/
theorem sqt_mut {t : Addr} {xs ys : List V} {o : HO} (hD : H D = some (.lst xs)) (h : SqT K H t ys) : SqT K (upd H D o) t ys := by
  rcases h with (h | ⟨ob, h⟩) | h
  · exact .inl (.inl (by rw [upd_ne (ne_of h hD (by intro z; cases z))]; exact h))
  · exact .inl (.inr ⟨ob, by rw [upd_ne (ne_of h hD (by intro z; cases z))]; exact h⟩)
  · exact .inr h
theorem FrV.mut {xs : List V} {o : HO} {v : V} {r : Rat} (hD : H D = some (.lst xs)) (h : FrV K H v r) : FrV K (upd H D o) v r := by
  obtain ⟨t, rfl, q⟩ := h
  exact ⟨t, rfl, sqt_mut hD q⟩
theorem RowV.mut {xs : List V} {o : HO} {v : V} {r : List Rat} (hD : H D = some (.lst xs)) (h : RowV K H v r) : RowV K (upd H D o) v r := by
  obtain ⟨t, ys, rfl, q, l⟩ := h
  exact ⟨t, ys, rfl, sqt_mut hD q, pmono (fun _ _ => FrV.mut hD) l⟩
theorem SumV.mut {xs : List V} {o : HO} {v : V} {s : Sum2} (hD : H D = some (.lst xs)) (h : SumV K H v s) : SumV K (upd H D o) v s := by
  obtain ⟨t, a, b, rfl, q, l, n⟩ := h
  exact ⟨t, a, b, rfl, sqt_mut hD q, l.mut hD, n.mut hD⟩
/-- what a comprehension has built of things of a kind R behind i turns -/
def Bld {α : Type} (R : Hp → V → α → Prop) (H1 : Hp) (D : Addr) (L : List α) (i : Nat) (H' : Hp) : Prop := Ex H1 H' ∧ ∃ xs, H' D = some (.lst xs) ∧ xs.length = i ∧ Paired (R H') xs (L.take i)
/-- a kind of things that stay as they are where the heap grows, where a list changes -/
structure Stays {α : Type} (R : Hp → V → α → Prop) : Prop where
  ex : ∀ {H H' v a}, Ex H H' → R H v a → R H' v a
  mt : ∀ {H D xs o v a}, H D = some (.lst xs) → R H v a → R (upd H D o) v a
theorem stF : Stays (FrV K) := ⟨FrV.ex, FrV.mut⟩
theorem stR : Stays (RowV K) := ⟨RowV.ex, RowV.mut⟩
theorem stS : Stays (SumV K) := ⟨SumV.ex, SumV.mut⟩
theorem bld0 {α : Type} {R : Hp → V → α → Prop} {L : List α} (hD : H1 D = none) : Bld R H1 D L 0 (upd H1 D (.lst [])) := ⟨Ex.new hD, [], upd_same, rfl, .nil⟩
theorem bld_step {α : Type} {R : Hp → V → α → Prop} (S : Stays R) {L : List α} {i : Nat} {v : V} {a : α} (hD : H1 D = none) (b : Bld R H1 D L i H') (e : Ex H' H4) (hi : L[i]? = some a) (hz : i < 100000) (hv : R H4 v a) :
    ∃ acc, H4 D = some (.lst acc) ∧ acc.length < sizeLine ∧ Bld R H1 D L (i + 1) (upd H4 D (.lst (acc ++ [v]))) := by
  obtain ⟨e1, xs, hx, hl, p⟩ := b
  have h4 := e D _ hx
  refine ⟨xs, h4, sz_lt (by omega), Ex.mut (e1.trans e) hD, xs ++ [v], upd_same, by simp [hl], ?_⟩
  rw [List.take_add_one, hi]
  exact Paired.snoc (pmono (fun _ _ q => S.mt h4 (S.ex e q)) p) (S.mt h4 hv)
theorem bld_end {α : Type} {R : Hp → V → α → Prop} {L : List α} {n : Nat} (hn : n = L.length) (b : Bld R H1 D L n H') : Ex H1 H' ∧ ∃ xs, H' D = some (.lst xs) ∧ Paired (R H') xs L := by
  obtain ⟨e1, xs, hx, hl, p⟩ := b
  refine ⟨e1, xs, hx, ?_⟩
  rwa [hn, List.take_length] at p
/-- the tuple made of what was built -/
theorem bld_row {L : List Rat} {n : Nat} {l : Addr} {xs : List V} (hx : H' D = some (.lst xs)) (p : FrL K H' xs L) (hl : H' l = none) : RowV K (upd H' l (.tup xs)) (.ref l) L :=
  ⟨l, xs, rfl, st_of upd_same, FrL.ex (Ex.new hl) p⟩
end
/-! ### promises of the sums' defs -/
def spSumP (K : PySem.W.Frag) : Sp := fun vs H Q _ => ∃ (x y : V) (s t : Sum2) (n d m e : Nat), vs = [x, y] ∧ SumV K H x s ∧ SumV K H y t ∧ s.1.length = t.1.length ∧ s.1.length ≤ 100 ∧ SzL n d s.1 ∧ Sz n d s.2 ∧ SzL m e t.1 ∧ Sz m e t.2 ∧
  (0 < n ∧ 0 < d ∧ 0 < m ∧ 0 < e ∧ d + e ≤ 8900 ∧ n + m + d + e ≤ 900000) ∧ ∀ v H', Ex H H' → SumV K H' v (splus s t) → Q v H'
def spSumT (K : PySem.W.Frag) : Sp := fun vs H Q _ => ∃ (x y : V) (r : Rat) (t : Sum2) (n d m e : Nat), vs = [x, y] ∧ FrV K H x r ∧ SumV K H y t ∧ t.1.length ≤ 100 ∧ Sz n d r ∧ SzL m e t.1 ∧ Sz m e t.2 ∧
  (0 < n ∧ 0 < d ∧ 0 < m ∧ 0 < e ∧ d + e ≤ 8900 ∧ n + m + d + e ≤ 900000) ∧ ∀ v H', Ex H H' → SumV K H' v (stimes r t) → Q v H'
def spFlat (K : PySem.W.Frag) : Sp := fun vs H Q _ => ∃ (k : Nat) (y : V) (r : Rat), vs = [.int (k : Int), y] ∧ FrV K H y r ∧ k ≤ 100 ∧ ∀ v H', Ex H H' → SumV K H' v (List.replicate k 0, r) → Q v H'
/-- the row with 1 at a place -/
def unit (k p : Nat) : List Rat := (List.range k).map fun i => if i = p then 1 else 0
def spPlace (K : PySem.W.Frag) : Sp := fun vs H Q _ => ∃ (k p : Nat), vs = [.int (k : Int), .int (p : Int)] ∧ k ≤ 100 ∧ ∀ v H', Ex H H' → SumV K H' v (unit k p, 0) → Q v H'
end Nc
end
section
set_option maxRecDepth 100000
set_option maxHeartbeats 4000000
namespace Nc
open PySem PySem.Spec PyProof.Rows L2 Evl
/-! ### the stream: a list of three whole numbers at s, that alone changes -/
def Stm (s : Addr) (H : Hp) : Prop := ∃ a b c : Int, H s = some (.lst [.int a, .int b, .int c])
structure Dr (s : Addr) (H H' : Hp) : Prop where
  keep : ∀ a o, a ≠ s → H a = some o → H' a = some o
  st : Stm s H'
section
variable {K : PySem.W.Frag} {s p : Addr} {H H' H2 : Hp}
theorem Dr.refl (h : Stm s H) : Dr s H H := ⟨fun _ _ _ q => q, h⟩
theorem Dr.trans (a : Dr s H H') (b : Dr s H' H2) : Dr s H H2 := ⟨fun x o hx q => b.keep x o hx (a.keep x o hx q), b.st⟩
theorem Stm.ne (h : Stm s H) (hp : H p = none) : s ≠ p := by
  obtain ⟨a, b, c, e⟩ := h
  exact ne_of_none e hp
theorem Dr.new {o : HO} (h : Stm s H) (hp : H p = none) : Dr s H (upd H p o) := ⟨fun a u ha q => by rw [upd_ne (ne_of_none q hp)]; exact q, by
  obtain ⟨a, b, c, e⟩ := id h
  exact ⟨a, b, c, by rw [upd_ne (h.ne hp)]; exact e⟩⟩
/-- another list changes -/
theorem Dr.mut {o : HO} (d : Dr s H H') (hp : H p = none) (hs : s ≠ p) : Dr s H (upd H' p o) := ⟨fun a u ha q => by rw [upd_ne (ne_of_none q hp)]; exact d.keep a u ha q, by
  obtain ⟨a, b, c, e⟩ := d.st
  exact ⟨a, b, c, by rw [upd_ne hs]; exact e⟩⟩
theorem Dr.ex (h : Stm s H) (e : Ex H H') : Dr s H H' := ⟨fun a o _ q => e a o q, by
  obtain ⟨a, b, c, q⟩ := h
  exact ⟨a, b, c, e _ _ q⟩⟩
theorem sqt_dr {t : Addr} {xs : List V} (h : Stm s H) (d : Dr s H H') (q : SqT K H t xs) : SqT K H' t xs := by
  obtain ⟨a, b, c, e⟩ := h
  rcases q with (q | ⟨o, q⟩) | q
  · exact .inl (.inl (d.keep _ _ (ne_of q e (by intro z; cases z)) q))
  · exact .inl (.inr ⟨o, d.keep _ _ (ne_of q e (by intro z; cases z)) q⟩)
  · exact .inr q
theorem FrV.dr {v : V} {r : Rat} (h : Stm s H) (d : Dr s H H') (q : FrV K H v r) : FrV K H' v r := by
  obtain ⟨t, rfl, q⟩ := q
  exact ⟨t, rfl, sqt_dr h d q⟩
theorem FrL.dr {xs : List V} {rs : List Rat} (h : Stm s H) (d : Dr s H H') (q : FrL K H xs rs) : FrL K H' xs rs := pmono (fun _ _ => FrV.dr h d) q
theorem RowV.dr {v : V} {rs : List Rat} (h : Stm s H) (d : Dr s H H') (q : RowV K H v rs) : RowV K H' v rs := by
  obtain ⟨t, xs, rfl, q, l⟩ := q
  exact ⟨t, xs, rfl, sqt_dr h d q, FrL.dr h d l⟩
theorem SumV.dr {v : V} {z : Sum2} (h : Stm s H) (d : Dr s H H') (q : SumV K H v z) : SumV K H' v z := by
  obtain ⟨t, a, b, rfl, q, l, n⟩ := q
  exact ⟨t, a, b, rfl, sqt_dr h d q, l.dr h d, n.dr h d⟩
/-- the stream's list changes -/
theorem Dr.put {xs : List V} {a b c : Int} (h : H s = some (.lst xs)) : Dr s H (upd H s (.lst [.int a, .int b, .int c])) := ⟨fun x o hx q => by rw [upd_ne hx]; exact q, ⟨a, b, c, upd_same⟩⟩
end
theorem b01 (k : Bool) : -(2 ^ 64) < (if k = true then (1 : Int) else 0) ∧ (if k = true then (1 : Int) else 0) < 2 ^ 64 := by
  cases k <;> decide
theorem modb (x : Int) {m : Int} (h : 0 < m) (hm : m ≤ 2 ^ 64) : -(2 ^ 64) < x % m ∧ x % m < 2 ^ 64 := by
  have h1 := Int.emod_nonneg x (b := m) (by omega)
  have h2 := Int.emod_lt_of_pos x h
  omega
theorem cdivT {i m : Int} (h : 0 < m) (hm : m < 2 ^ 200) : CDivW i m := wide_div (b := 200) h (by omega) (by decide) (by decide)
/-! ### promises of what is drawn -/
def spCell (K : PySem.W.Frag) : Sp := fun vs H Q _ => ∃ (a : Addr) (ns : List Int) (k : Nat), vs = [.ref a, .int (k : Int)] ∧ SqL K H a (ns.map V.int) ∧ k ≤ 100 ∧ ∀ c : Int, Q (.int c) H
def spStream : Sp := fun vs H Q _ => ∃ c : Int, vs = [.int c] ∧ ∀ s a b d, H s = none → Q (.ref s) (upd H s (.lst [.int a, .int b, .int d]))
def spTake : Sp := fun vs H Q _ => ∃ (s : Addr) (m : Int), vs = [.ref s, .int m] ∧ Stm s H ∧ 0 < m ∧ m < 2 ^ 200 ∧ ∀ d H', 0 ≤ d → d < m → Dr s H H' → Q (.int d) H'
/-- a whole number above nought, below a bound -/
def spDraw (n : Nat) : Sp := fun vs H Q _ => ∃ s : Addr, vs = [.ref s] ∧ Stm s H ∧ ∀ d H', 0 < d → d.natAbs < 2 ^ n → Dr s H H' → Q (.int d) H'
/-- a fraction of that size -/
def spNum (K : PySem.W.Frag) (n d : Nat) : Sp := fun vs H Q _ => ∃ s : Addr, vs = [.ref s] ∧ Stm s H ∧ ∀ v r H', Dr s H H' → FrV K H' v r → Sz n d r → Q v H'
/-- a row of so many -/
def spRow (K : PySem.W.Frag) (n d : Nat) : Sp := fun vs H Q _ => ∃ (s : Addr) (k : Nat), vs = [.ref s, .int (k : Int)] ∧ Stm s H ∧ k ≤ 100 ∧ ∀ v L H', Dr s H H' → RowV K H' v L → L.length = k → SzL n d L → Q v H'
end Nc
end
section
set_option maxRecDepth 100000
set_option maxHeartbeats 4000000
namespace Nc
open PySem PySem.Spec PyProof.Rows L2 Evl
theorem depthAll_fd : ∀ rs : List Rat, PyData.depthAll (rs.map fd) ≤ 1
  | [] => Nat.zero_le _
  | r :: rs => by
    have ih := depthAll_fd rs
    show max (PyData.depth (fd r)) (PyData.depthAll (rs.map fd)) ≤ 1
    have : PyData.depth (fd r) = 1 := rfl
    omega
theorem lay_row (rs : List Rat) : (PyData.tuple (rs.map fd)).canLay0 = true := layAll_fd rs
theorem shaped_row (rs : List Rat) : SeqAt.shaped (.tuple (rs.map fd)) = true := by
  unfold SeqAt.shaped
  rw [lay_row, Bool.true_and]
  refine decide_eq_true ?_
  have := depthAll_fd rs
  show PyData.depthAll (rs.map fd) + 1 ≤ 64
  omega
theorem shaped_list (rs : List Rat) : SeqAt.shaped (.list (rs.map fd)) = true := by
  unfold SeqAt.shaped
  have h : (PyData.list (rs.map fd)).canLay0 = true := layAll_fd rs
  rw [h, Bool.true_and]
  refine decide_eq_true ?_
  have := depthAll_fd rs
  show PyData.depthAll (rs.map fd) + 1 ≤ 64
  omega
theorem shaped_fd (r : Rat) : SeqAt.shaped (fd r) = true := rfl
theorem lay_sd (s : Sum2) : (sd s).canLay0 = true := by
  show ((PyData.tuple (s.1.map fd)).canLay0 && ((fd s.2).canLay0 && true)) = true
  rw [lay_row]
  rfl
theorem shaped_sd (s : Sum2) : SeqAt.shaped (sd s) = true := by
  unfold SeqAt.shaped
  rw [lay_sd, Bool.true_and]
  refine decide_eq_true ?_
  have h1 := depthAll_fd s.1
  have h2 : PyData.depth (fd s.2) = 1 := rfl
  show max (PyData.depthAll (s.1.map fd) + 1) (max (PyData.depth (fd s.2)) 0) + 1 ≤ 64
  omega
theorem eqv_sd (s : Sum2) : PyData.eqv (sd s) (sd s) = true := SeqAt.eqv_refl _ (lay_sd s)
theorem eqv_fd (r : Rat) : PyData.eqv (fd r) (fd r) = true := SeqAt.eqv_refl _ rfl
theorem eqv_row (rs : List Rat) : PyData.eqv (.tuple (rs.map fd)) (.tuple (rs.map fd)) = true := SeqAt.eqv_refl _ (lay_row rs)
theorem eqv_list (rs : List Rat) : PyData.eqv (.list (rs.map fd)) (.list (rs.map fd)) = true := SeqAt.eqv_refl _ (layAll_fd rs)
/-- a tuple's type -/
theorem tyT {K : PySem.W.Frag} {H : Hp} {t : Addr} {xs : List V} (q : SqT K H t xs) : TyX K H (.ref t) (.type "tuple") := by
  rcases q with (q | ⟨o, q⟩) | ⟨o, its, n, h, hc, _⟩
  · exact .base (.tup q)
  · exact .fTuple q
  · exact .kTuple h hc
theorem tyI {K : PySem.W.Frag} {H : Hp} (i : Int) : TyX K H (.int i) (.type "int") := .base (.int i)
theorem sz_tells {n d m e : Nat} {s : Sum2} {row : List Rat} (hn : d ≤ n) (hm : e ≤ m) (ha : SzL n d s.1) (hb : SzL m e row) (hc : Sz n d s.2) (hl : s.1.length = row.length) : Sz (1 + s.1.length * (n + m + 1) + n + 1) (1 + s.1.length * (d + e) + d) (tells s row) := by
  have h := sz_of_weighs hn hm ha hb hl
  have le : s.1.length * (d + e) ≤ s.1.length * (n + m + 1) := Nat.mul_le_mul_left _ (by omega)
  exact sz_add (N := 1 + s.1.length * (n + m + 1) + n) h hc (by omega) (by omega)
theorem len_splus (s t : Sum2) (h : s.1.length = t.1.length) : (splus s t).1.length = s.1.length := by
  unfold splus
  simp
  omega
theorem len_stimes (q : Rat) (s : Sum2) : (stimes q s).1.length = s.1.length := by
  unfold stimes
  simp
theorem szl_splus {n d m e N : Nat} {s t : Sum2} (h1 : SzL n d s.1) (h2 : SzL m e t.1) (k1 : n + e ≤ N := by omega) (k2 : m + d ≤ N := by omega) : SzL (N + 1) (d + e) (splus s t).1 := by
  intro r hr
  unfold splus at hr
  obtain ⟨p, hp, rfl⟩ := List.mem_map.mp hr
  have := List.of_mem_zip hp
  exact sz_add (h1 _ this.1) (h2 _ this.2)
theorem szl_stimes {n d m e : Nat} {q : Rat} {s : Sum2} (h1 : Sz n d q) (h2 : SzL m e s.1) : SzL (n + m) (d + e) (stimes q s).1 := by
  intro r hr
  unfold stimes at hr
  obtain ⟨p, hp, rfl⟩ := List.mem_map.mp hr
  exact sz_mul h1 (h2 _ hp)
/-- the found sum is the due one, by its own kinds -/
def spWhole (K : PySem.W.Frag) : Sp := fun vs H Q _ => ∃ (x y : V) (s : Sum2), vs = [x, y] ∧ SumV K H x s ∧ SumV K H y s ∧ s.1.length ≤ 100 ∧ ∀ H', Ex H H' → Q (.bl true) H'
def spPlaces : Sp := fun vs H Q _ => ∃ k : Nat, vs = [.int (k : Int)] ∧ k ≤ 100 ∧ ∀ H', Ex H H' → Q (.bl true) H'
/-- all goes well, the stream alone changes -/
def spRight : Sp := fun vs H Q _ => ∃ s : Addr, vs = [.ref s] ∧ Stm s H ∧ ∀ H', (∀ a o, a ≠ s → H a = some o → H' a = some o) → Q (.bl true) H'
def spLaw (K : PySem.W.Frag) : Sp := fun vs H Q _ => ∃ (a : Addr) (ns : List Int), vs = [.ref a] ∧ SqL K H a (ns.map V.int) ∧ ns.length ≤ 63 ∧ ∀ H', Q (.bl true) H'
end Nc
end
section
set_option maxRecDepth 100000
set_option maxHeartbeats 4000000
namespace Nc
open PySem PySem.Spec PyProof.Rows L2 Evl
/-! ### a def's promise where no repr is under way around it -/
structure GOk (P : Program) (w : World) (K : PySem.W.Frag) (mg : Str → Option Value) (base : Heap) (k : Nat) (f : Addr) (fd : FuncData) (ps : List Str) (sp : Sp) : Prop where
  many : ∀ vs H Q E, sp vs H Q E → vs.length = ps.length
  go : ∀ (A : Around) (stack : List Env) (s : Shared) (H : Hp) (us : List Value) (vs : List V) (Q : VK), A.guards = some [] → Room k A → Env0 P w K mg base A stack s H →
    BindsTo s fd ⟨us, []⟩ (ps.zip us) → Vals vs us → sp vs H Q E0 → codeAny (model P w) A (.call (.ref f) ⟨us, []⟩) (CR CX0 stack P w H s Q E0) s
section
variable {P : Program} {w : World} {K : PySem.W.Frag} {mg : Str → Option Value} {base : Heap} {k : Nat} {f : Addr} {fd : FuncData} {x qual : Str} {st : Stmt} {N ps : List Str} {sp : Sp}
/-- by its body's term, which may say repr -/
theorem gok (F : Fun K x qual st f fd) (S : FnScope N ps (defScope st)) (many : ∀ vs H Q E, sp vs H Q E → vs.length = ps.length)
    (body : ∀ (cdv : Value) (A : Around) (stack : List Env) (s : Shared) (H : Hp) (vs : List V) (Q : VK) (_ : A.guards = some []) (_ : Room k (A.deeper (envOfC qual (defScope st) s.heap.objs.size f cdv))), sp vs H Q E0 →
      ∃ t, PSs (cxOf CX0 P w K mg base N qual (defScope st) f cdv A stack s H E0).nox (defBody st) t ∧ t ⟨fun _ H' => Q .non H', Q, fun _ _ => False, fun _ _ => False⟩ (start N vs) H) : GOk P w K mg base (k + 1) f fd ps sp := by
  obtain ⟨oc, od, kV, doc, pm, an, cdv, ct, osl, rfl, lk, hcd⟩ := F.ex
  constructor
  · exact many
  intro A stack s H us vs Q hG hR e0 hb rv hsp
  have sz := many _ _ _ _ hsp
  have inK : K.In s.heap := e0.mod.kin.keeps fun b o e => And.left (e0.bs b o e)
  have kinds : ∀ y ∈ ps.zip us, (defScope st).names.lookup y.1 = some .local ∨ ((defScope st).names.lookup y.1 = some .cell ∧ ((cellsFrom (s.heap.objs.size + 1) (defScope st).names []).lookup y.1).isSome = true) := by
    rintro ⟨n, v⟩ hy
    have hn := S.par n (List.of_mem_zip hy).1
    exact hn.imp id fun c => ⟨c, PySem.W.cellsFrom_some _ _ _ (.inl c)⟩
  obtain ⟨t, ht, hq⟩ := body cdv A stack s H vs Q hG (hR.deeper _) hsp
  apply codeAny_call_function (ho := inK _ _ lk) (hd' := rfl) (hco := S.co) (hgen := S.gen) (hbody := rfl) (hcd := PySem.W.codeRec_of inK hcd) hR.depth
  apply hb
  apply wpAny_newFunctionEnv_cells S.kind kinds
  rintro env rfl s1 x1
  constructor
  · exact (e0.mod.nolimit.keeps fun b o e => And.left (e0.bs b o e)).keeps x1.toInCall.keep
  apply codeAny_func
  have I := inv_start (CX := CX0) (E := E0) S hR.hd e0 sz rv x1
  refine wpAny_mono (ht.nox.run [] s1 _ H _ I hq) ?_ fun _ _ z => z
  have leave : ∀ {σ' : L2.St} {H' : Hp} {v : V} {u : Value} {s'' : Shared}, Inv (cxOf CX0 P w K mg base N qual (defScope st) f cdv A stack s H E0) [] σ' H' s'' → RelV v u → Q v H' → CE stack P w H s Q u s'' := fun J r z => ⟨_, _, J.os, J.bare, J.base, J.hok, r, z⟩
  rintro (_ | _ | _ | u) s2 hs
  all_goals first
    | (obtain ⟨_, _, J, z⟩ := hs; exact leave (v := .non) (u := .none) J rfl z)
    | (obtain ⟨_, _, _, J, r, z⟩ := hs; exact leave J r z)
    | (obtain ⟨_, _, _, z⟩ := hs; exact z.elim)
end
section
variable {X : Cx} {k : Nat} {f : Addr} {fd : FuncData} {ps : List Str} {sp : Sp} {x : Str} {e : Expr} {es : List Expr} {ta : TA} {p pos : Pos}
/-- a call of such a def, from where no repr is under way -/
theorem clG (F : GOk X.prog X.w X.K X.mg X.base k f fd ps sp) (hG : X.A.guards = some []) (hR : Room k X.A) (hm : X.mg x = some (.ref f)) (hk : PySem.W.keepIn X.K (.ref f) = true) (hb : Binds X.K fd ps []) (ha : PA X (e :: es) ta)
    (hg : Gl X x := by rfl) (hdb : (x == ("__debug__" : Str)) = false := by decide) (he : starEach (e :: es) X.env = (false, eval e X.env) :: starEach es X.env := by rfl) (hpl : (backTo pos (starEach es X.env)).any (·.1) = false := by rfl) :
    PE X (.Call (.Name x p) (e :: es) [] pos) (tCall sp [] E0 ta) := by
  constructor
  intro pins s σ H Q I h
  apply wpAny_Call_Name_kw
  apply ld_glob I hg hm (hd := hdb)
  apply PySem.W.callWith_K (h₀ := X.base) I.ok.mod.kin hk (he := he) (hplain := hpl)
  refine thn (ha.run pos pins s σ H _ I h) ?_
  rintro us s1 ⟨vs, H1, J, rv, z⟩
  refine ⟨J.kIn, ?_⟩
  have z' : sp vs H1 Q E0 := by simpa using z
  have sz : us.length = ps.length := by rw [← rv.length]; exact F.many _ _ _ _ z'
  have hb' := hb s1 us J.kIn (by simpa using sz)
  simp only [List.append_nil] at hb'
  apply wpAny_call
  refine codeAny_mono (F.go X.A X.stack s1 H1 us vs Q hG hR J.env0 hb' rv z') ?_
  rintro (_ | (_ | _ | _ | u)) s2 hr
  all_goals first
    | exact J.after hr
    | exact hr.elim
/-- repr of data -/
def rRepr (K : PySem.W.Frag) : List V → Hp → VK → Prop := fun vs H Q => ∃ v d, vs = [v] ∧ Dp K H v d ∧ (∃ a, v = .ref a) ∧ d.showable = true ∧ d.hasDict = false ∧ d.depth ≤ 60 ∧ d.shown.length ≤ sizeLine ∧ Q (.str d.shown) H
theorem call_reprD (hG : X.A.guards = some []) (hu : X.A.units + 64 < cLine) : CallR X (.builtin "repr") (rRepr X.K) := by
  intro pins s σ H vs us Q I rv h
  obtain ⟨v, d, rfl, hd, ⟨a, rfl⟩, h1, h2, h3, h4, q⟩ := h
  cases rv with
  | cons r rr =>
    cases rr
    cases r
    obtain ⟨as, R⟩ := Dp.reads I d _ _ hd rfl
    exact repr_of_reads' R h1 (fun z => by rw [h2] at z; cases z) hG (by omega) (fun _ _ z => z) (fun h' u tk kp => ⟨.str d.shown, H, I.kept (t' := tk) kp, ⟨u, rfl⟩, q⟩) h4
end
/-! ### the law's own call -/
/-- the script alone is tracked, and it only where the module doesn't write it -/
noncomputable def onlyA (K : PySem.W.Frag) (a : Addr) (ob : Obj) (xs : List V) : Hp := open Classical in fun b => if b = a ∧ K.lookup a = none then some (.frz ob (.lst xs)) else none
theorem onlyA_some {K : PySem.W.Frag} {a b : Addr} {ob : Obj} {xs : List V} {u : HO} (h : onlyA K a ob xs b = some u) : b = a ∧ K.lookup a = none ∧ u = .frz ob (.lst xs) := by
  unfold onlyA at h
  split at h
  · rename_i c
    exact ⟨c.1, c.2, (Option.some.inj h).symm⟩
  · cases h
theorem gcall {P : Program} {w : World} {K : PySem.W.Frag} {mg mb : Str → Option Value} {k : Nat} {fa a : Addr} {fd : FuncData} {x : Str} {sp : Sp} {s1 : Shared} {us : List Value} {ns : List Int} (inK : K.In s1.heap) (gl : s1.heap.Ns mainGlobals mg) (bl : s1.heap.Ns builtinsNs mb)
    (bb : ∀ y : Str, y ≠ "__name__" → mb y = bootBuiltins y) (nl : s1.heap.NoLimit) (ng : s1.gens = #[]) (at_ : s1.heap.get? a = some { cls := .type "list", data := .seq us.toArray }) (hints : IntsAre us ns) (sz : ns.length ≤ sizeLine) (hR : Room k callerA)
    (F : ∀ base : Heap, K.In base → base.Ns mainGlobals mg → GOk P w K mg base k fa fd [x] sp) (binds : ∀ (s : Shared) (u : Value), BindsTo s fd ⟨[u], []⟩ [(x, u)]) (hsp : ∀ H : Hp, SqL K H a (ns.map V.int) → sp [.ref a] H (fun v _ => v = .bl true) E0) :
    codeAny (model P w) callerA (.call (.ref fa) ⟨[.ref a], []⟩) (fun r s' => r = .ok (.ret (.bool true)) ∧ OldK s1.heap s'.heap ∧ s'.os = s1.os ∧ AllBare s'.gens) s1 := by
  have rv := vals_ints hints
  have ln := hints.length
  have okA : ObjOk P w (onlyA K a { cls := .type "list", data := .seq us.toArray } (ns.map V.int)) s1.heap a (.frz { cls := .type "list", data := .seq us.toArray } (.lst (ns.map V.int))) := ⟨at_, by simpa using sz, us, _, rv, at_⟩
  generalize hobj : ({ cls := .type "list", data := .seq us.toArray } : Obj) = ob at at_ okA
  generalize hH : onlyA K a ob (ns.map V.int) = H0 at okA
  have only : ∀ {b u}, H0 b = some u → b = a ∧ K.lookup a = none ∧ u = .frz ob (.lst (ns.map V.int)) := by
    subst hH
    exact onlyA_some
  have seq : SqL K H0 a (ns.map V.int) := by
    cases hk : K.lookup a with
    | none =>
      refine .inl (.inr ⟨ob, ?_⟩)
      rw [← hH]
      unfold onlyA
      rw [if_pos ⟨rfl, hk⟩]
    | some o =>
      have e := inK a o hk
      rw [at_] at e
      cases e
      subst hobj
      exact .inr ⟨_, us.toArray, _, hk, rfl, rfl, rfl, by rw [List.size_toArray, ln]; exact sz, by simpa using rv⟩
  have unseen : ∀ {b : Addr} {o : Obj}, s1.heap.get? b = some o → (b = a → False) → H0 b = none := by
    intro b o hb hn
    cases q : H0 b with
    | none => rfl
    | some u => exact (hn (only q).1).elim
  have kept : ∀ {b : Addr} {m : Str → Option Value}, s1.heap.Ns b m → (hidT s1.heap H0).Ns b m := by
    rintro b m ⟨o, es, ep, hb, hd, r⟩
    refine ⟨o, es, ep, hidT_get hb (unseen hb fun z => ?_), hd, r⟩
    rw [z, at_] at hb
    cases hb
    rw [← hobj] at hd
    cases hd
  have kIn : K.In (hidT s1.heap H0) := fun b o hb => hidT_get (inK b o hb) (by
    cases q : H0 b with
    | none => rfl
    | some u =>
      obtain ⟨rfl, n, _⟩ := only q
      rw [n] at hb
      cases hb)
  have limit : (hidT s1.heap H0).NoLimit := by
    obtain ⟨mc, h1, h2⟩ := nl
    exact ⟨mc, kept h1, h2⟩
  have hok : HOk P w H0 s1.heap := by
    intro b u hb
    obtain ⟨rfl, _, rfl⟩ := only hb
    exact okA
  have e0 : Env0 P w K mg (hidT s1.heap H0) callerA [] s1 H0 := by
    refine ⟨rfl, ⟨kIn, kept gl, ⟨mb, kept bl, bb⟩, limit⟩, fun b o e => of_hidT e, Nat.le_of_eq (hidT_size _ _), trivial, fun b hb => ?_, hok, .of_eq ng⟩
    cases hb
  refine codeAny_mono ((F _ kIn (kept gl)).go callerA [] s1 H0 [.ref a] [.ref a] _ rfl hR e0 (binds s1 (.ref a)) (.cons rfl .nil) (hsp H0 seq)) ?_
  rintro (_ | (_ | _ | _ | u)) s2 hr
  all_goals first
    | (obtain ⟨v, H2, os, bare, un, ok2, r2, rfl⟩ := hr
       obtain rfl : u = Value.bool true := r2
       refine ⟨rfl, OldK.of_keep fun b o hb => ?_, os, bare⟩
       cases q : H0 b with
       | none => exact un.keep b o hb q (fun z => by cases z) (by simp)
       | some y =>
         obtain ⟨rfl, _, rfl⟩ := only q
         have h3 := ok2 b _ (un.frzs b _ _ q)
         rw [at_] at hb
         cases hb
         exact h3.1)
    | exact hr.elim
theorem gwalk {l : PySem.W.OpenLaw} {n k : Nat} {q : Program} {loose : List Str} {XP : (Str → Option Value) → Heap → Prop} {YP : World → Heap → Prop} {d : DefRec} {K : Params → PySem.W.Frag} {sp : PySem.W.Frag → Sp} {x : Str} (most : l.most = some n) (sz : n ≤ sizeLine) (nodef : d.params.defaults = []) (hR : Room k callerA)
    (inK : ∀ (w : World) (h : Heap), YP w h → (K w.params).In h)
    (F : ∀ (w : World) (mg : Str → Option Value) (fa : Addr) (h : Heap), (K w.params).In h → h.Ns mainGlobals mg → mg d.name = some (.ref fa) →
      ∃ fd : FuncData, (∀ (s : Shared) (u : Value), BindsTo s fd ⟨[u], []⟩ [(x, u)]) ∧ ∀ base : Heap, (K w.params).In base → base.Ns mainGlobals mg → GOk l.prog w (K w.params) mg base k fa fd [x] (sp (K w.params)))
    (hsp : ∀ (K : PySem.W.Frag) (H : Hp) (a : Addr) (ns : List Int), ns.length ≤ n → SqL K H a (ns.map V.int) → sp K [.ref a] H (fun v _ => v = .bl true) E0) : PySem.W.WalkO q loose XP YP l.row.toRowW d [] (fun f vs => PySem.call f vs) := by
  apply Att.attach_call most nodef
  intro w s0 s1 mg mb fa o pm cd doc a us ns G Y ho hd hcd hmg hobj hints hl hg
  obtain ⟨fd, hb, hF⟩ := F w mg fa _ (inK w _ Y) G.T.g hmg
  exact gcall (inK w _ Y) G.T.g G.T.b G.T.builtins G.T.nolimit hg hobj hints (Nat.le_trans hl sz) hR hF hb fun H hS => hsp _ H a ns hl hS
end Nc
end
section
set_option maxRecDepth 100000
set_option maxHeartbeats 4000000
namespace Nc
open PySem PySem.Spec PyProof.Rows L2 Evl
/-! ### bottoms of either sign -/
theorem gcdI_dvd_left (t b : Int) : ((Nat.gcd t.natAbs b.natAbs : Nat) : Int) ∣ t := Int.ofNat_dvd_left.mpr (Nat.gcd_dvd_left _ _)
theorem gcdI_dvd_right (t b : Int) : ((Nat.gcd t.natAbs b.natAbs : Nat) : Int) ∣ b := Int.ofNat_dvd_left.mpr (Nat.gcd_dvd_right _ _)
theorem gcd_posZ {t b : Int} (hb : b ≠ 0) : (0 : Int) < ((Nat.gcd t.natAbs b.natAbs : Nat) : Int) := by
  have := Nat.gcd_pos_of_pos_right t.natAbs (n := b.natAbs) (by omega)
  omega
theorem gcd_leZ {t b : Int} (hb : b ≠ 0) : ((Nat.gcd t.natAbs b.natAbs : Nat) : Int).natAbs ≤ b.natAbs := by
  rw [Int.natAbs_natCast]
  exact Nat.gcd_le_right t.natAbs (n := b.natAbs) (by omega)
theorem num_neg {t b : Int} (hb : b < 0) : t.fdiv (-((Nat.gcd t.natAbs b.natAbs : Nat) : Int)) = (Rat.divInt t b).num := by
  rw [Int.fdiv_eq_ediv_of_dvd (Int.neg_dvd.mpr (gcdI_dvd_left t b)), Int.ediv_neg, Rat.num_divInt, Int.sign_eq_neg_one_of_neg hb, Int.gcd_comm]
  have : -1 * t = -t := by omega
  rw [this]
  exact (Int.neg_ediv_of_dvd (gcdI_dvd_left t b)).symm
theorem den_neg {t b : Int} (hb : b < 0) : b.fdiv (-((Nat.gcd t.natAbs b.natAbs : Nat) : Int)) = ((Rat.divInt t b).den : Int) := by
  rw [Int.fdiv_eq_ediv_of_dvd (Int.neg_dvd.mpr (gcdI_dvd_right t b)), Int.ediv_neg, Rat.den_divInt, if_neg (by omega), Int.gcd_comm]
  have e : ((b.natAbs : Nat) : Int) = -b := by omega
  rw [Int.natCast_ediv, e]
  exact (Int.neg_ediv_of_dvd (gcdI_dvd_right t b)).symm
theorem num_pos {t b : Int} (hb : 0 < b) : t.fdiv ((Nat.gcd t.natAbs b.natAbs : Nat) : Int) = (Rat.divInt t b).num := by
  rw [Int.fdiv_eq_ediv_of_dvd (gcdI_dvd_left t b)]
  exact num_div hb
theorem den_posI {t b : Int} (hb : 0 < b) : b.fdiv ((Nat.gcd t.natAbs b.natAbs : Nat) : Int) = ((Rat.divInt t b).den : Int) := by
  rw [Int.fdiv_eq_ediv_of_dvd (gcdI_dvd_right t b)]
  exact den_div hb
theorem sz_divZ {t b : Int} {n d : Nat} (hb : b ≠ 0) (ht : t.natAbs < 2 ^ n) (hz : b.natAbs < 2 ^ d) : Sz n d (Rat.divInt t b) := by
  by_cases h : 0 < b
  · exact sz_div h ht hz
  · have h2 : (0 : Int) < -b := by omega
    have e : Rat.divInt t b = Rat.divInt (-t) (-b) := by
      rw [Rat.divInt_eq_divInt_iff hb (by omega)]
      rw [Int.mul_neg, Int.neg_mul]
    rw [e]
    exact sz_div h2 (by omega) (by omega)
theorem cross {t b : Int} (hb : b ≠ 0) : (Rat.divInt t b).num * b = t * ((Rat.divInt t b).den : Int) := by
  have h := Rat.num_divInt_den (Rat.divInt t b)
  have hd := den_pos (Rat.divInt t b)
  rwa [Rat.divInt_eq_divInt_iff (by omega) hb] at h
theorem sub_is (r s : Rat) : Rat.divInt (r.num * (s.den : Int) - s.num * (r.den : Int)) ((r.den : Int) * (s.den : Int)) = r - s := by
  have h1 := den_pos r
  have h2 := den_pos s
  rw [← Rat.divInt_sub_divInt r.num s.num (by omega) (by omega), Rat.num_divInt_den, Rat.num_divInt_den]
theorem lt_sub {n : Nat} {i j : Int} (ha : i.natAbs < 2 ^ n) (hb : j.natAbs < 2 ^ n) : (i - j).natAbs < 2 ^ (n + 1) := by
  rw [Nat.pow_succ]
  omega
theorem weighs_comm : ∀ (a b : List Rat), weighs (a.zip b) = weighs (b.zip a)
  | [], b => by cases b <;> rfl
  | x :: a, [] => rfl
  | x :: a, y :: b => by
    simp only [List.zip_cons_cons, weighs_cons]
    rw [weighs_comm a b, Rat.mul_comm]
/-! ### // by any divisor below 2 ^ 9000; a text so many times -/
def CDivZ (_ j : Int) : Prop := j ≠ 0 ∧ j.natAbs.log2 < 9000
theorem op_fdivZ {X : Cx} : OpR X (binaryOp .FloorDiv) (rI CDivZ fun i j => .int (i.fdiv j)) := opI fun i j _ _ _ _ _ hc q => floordiv_int hc.1 q (.inl (PyProof.noPylong_of_log2 hc.2))
theorem cdivZ {i j : Int} {b : Nat} (h : j ≠ 0) (hb : j.natAbs < 2 ^ b) (h0 : 0 < b) (h9 : b ≤ 9000) : CDivZ i j := ⟨h, Nat.lt_of_lt_of_le (PySem.Flt.log2_lt_of h0 hb) h9⟩
theorem op_mulStr {X : Cx} {x : Str} {n : Int} (hr : (decide (n < -(2 ^ 63 : Int)) || decide (n ≥ 2 ^ 63)) = false) (h1 : ¬ n < 1) (h2 : (n == 1 || x.length == 0) = false)
    (hb : ¬ ((x.length : Int) > (2 ^ 63 - 1) / n)) (hl : Builtin.Str.tooLong (x.length * n.toNat) = false) :
    OpR X (binaryOp .Mult) (fun a b H Q => a = .str x ∧ b = .int n ∧ (⟨(List.replicate n.toNat x.cps).foldl (· ++ ·) #[]⟩ : Str).length ≤ sizeLine ∧ Q (.str ⟨(List.replicate n.toNat x.cps).foldl (· ++ ·) #[]⟩) H) := by
  intro pins s σ H a b v u Q I ra rb h
  obtain ⟨rfl, rfl, hz, q⟩ := h
  obtain ⟨t, rfl⟩ := ra
  obtain ⟨t2, rfl⟩ := rb
  refine PySem.P.mul_str hr (fun _ _ => hb) (fun _ _ => hl) ?_
  rw [if_neg h1, if_neg (by rw [h2]; decide)]
  exact ⟨hz, ⟨.str _, H, I.tok _, ⟨_, rfl⟩, q⟩⟩
end Nc
end
section
set_option maxRecDepth 100000
set_option maxHeartbeats 4000000
namespace Nc
open PySem PySem.Spec PyProof.Rows L2 Evl
/-! ### promises of k02's defs -/
def spPartZ (K : PySem.W.Frag) : Sp := fun vs H Q _ => ∃ (t b : Int) (n : Nat), vs = [.int t, .int b] ∧ b ≠ 0 ∧ b.natAbs < 2 ^ n ∧ 0 < n ∧ n ≤ 9000 ∧ ∀ v H', Ex H H' → FrV K H' v (Rat.divInt t b) → Q v H'
theorem Ok.imp {P : Program} {w : World} {K : PySem.W.Frag} {mg : Str → Option Value} {base : Heap} {k : Nat} {x : Str} {ps : List Str} {sp sp' : Sp} (D : Ok P w K mg base k x ps sp) (h : ∀ vs H Q E, sp' vs H Q E → sp vs H Q E) : Ok P w K mg base k x ps sp' := by
  obtain ⟨f, fd, g, kp, F, b⟩ := D.ex
  exact ⟨f, fd, g, kp, F.imp h, b⟩
theorem part_imp {K : PySem.W.Frag} : ∀ vs H Q E, spPart K vs H Q E → spPartZ K vs H Q E := by
  rintro vs H Q E ⟨t, b, n, h1, h2, h3, h4, h5, q⟩
  exact ⟨t, b, n, h1, by omega, h3, h4, h5, q⟩
abbrev spMinus := sp2 (· - ·)
def spRatio (K : PySem.W.Frag) : Sp := fun vs H Q _ => ∃ (x y : V) (r s : Rat) (n d m e : Nat), vs = [x, y] ∧ FrV K H x r ∧ FrV K H y s ∧ Sz n d r ∧ Sz m e s ∧ s.num ≠ 0 ∧ (0 < n ∧ 0 < d ∧ 0 < m ∧ 0 < e ∧ d + m ≤ 8900 ∧ n + m + d + e ≤ 900000) ∧
  ∀ v H', Ex H H' → FrV K H' v (Rat.divInt (r.num * (s.den : Int)) ((r.den : Int) * s.num)) → Q v H'
def spLess (K : PySem.W.Frag) : Sp := fun vs H Q _ => ∃ (x y : V) (r s : Rat) (n d m e : Nat), vs = [x, y] ∧ FrV K H x r ∧ FrV K H y s ∧ Sz n d r ∧ Sz m e s ∧ (0 < n ∧ 0 < d ∧ 0 < m ∧ 0 < e ∧ n + m + d + e ≤ 900000) ∧ Q (.bl (decide (r.num * (s.den : Int) < s.num * (r.den : Int)))) H
/-- the greatest shared divisor -/
def spCommon : Sp := fun vs H Q _ => ∃ a b : Int, vs = [.int a, .int b] ∧ 0 ≤ a ∧ 0 < b ∧ Q (.int ((Nat.gcd a.natAbs b.natAbs : Nat) : Int)) H
/-- a whole number of so many bits at most -/
def spInt (n : Nat) : Sp := fun vs H Q _ => ∃ s : Addr, vs = [.ref s] ∧ Stm s H ∧ ∀ d H', d.natAbs < 2 ^ n → Dr s H H' → Q (.int d) H'
/-- the found fraction is that of a top and a bottom -/
def spIs (K : PySem.W.Frag) : Sp := fun vs H Q _ => ∃ (x : V) (t b : Int) (n : Nat), vs = [x, .int t, .int b] ∧ b ≠ 0 ∧ FrV K H x (Rat.divInt t b) ∧ t.natAbs < 2 ^ n ∧ b.natAbs < 2 ^ n ∧ 0 < n ∧ n ≤ 400000 ∧ ∀ H', Ex H H' → Q (.bl true) H'
def spPair (K : PySem.W.Frag) : Sp := fun vs H Q _ => ∃ (x y : V) (r s : Rat), vs = [x, y] ∧ FrV K H x r ∧ FrV K H y s ∧ Sz 2700 200 r ∧ Sz 2700 200 s ∧ ∀ H', Ex H H' → Q (.bl true) H'
/-- a row of at most six long ones, or of at most thirty-one short ones -/
def SzR (L : List Rat) : Prop := (L.length ≤ 6 ∧ SzL 1330 100 L) ∨ (L.length ≤ 31 ∧ SzL 4 4 L)
def spRow2 (K : PySem.W.Frag) : Sp := fun vs H Q _ => ∃ (s : Addr) (k : Nat), vs = [.ref s, .int (k : Int)] ∧ Stm s H ∧ k ≤ 31 ∧ ∀ v L H', Dr s H H' → RowV K H' v L → L.length = k → SzR L → (6 < k → SzL 4 4 L) → Q v H'
/-- what two rows come to, not divided -/
def spDue (K : PySem.W.Frag) : Sp := fun vs H Q _ => ∃ (x y : V) (a b : List Rat), vs = [x, y] ∧ RowV K H x a ∧ RowV K H y b ∧ a.length = b.length ∧ SzR a ∧ SzR b ∧ a.length ≤ 31 ∧
  ∀ (p : Addr) (t u : Int) H', Ex H H' → SqT K H' p [.int t, .int u] → 0 < u → weighs (a.zip b) = Rat.divInt t u → t.natAbs < 2 ^ 90000 → u.natAbs < 2 ^ 90000 → Q (.ref p) H'
end Nc
end
section
set_option maxRecDepth 100000
set_option maxHeartbeats 4000000
namespace Nc
open PySem PySem.Spec PyProof.Rows L2 Evl
/-! ### coarser rules: a new object by what it holds -/
def tTupE (t : TA) : TE := fun σ H Q => t σ H fun xs H1 => xs.length ≤ sizeLine ∧ ∀ p H2, H1 p = none → Ex H1 H2 → H2 p = some (.tup xs) → Q (.ref p) H2
def tLstE (t : TA) : TE := fun σ H Q => t σ H fun xs H1 => xs.length ≤ sizeLine ∧ ∀ p H2, H1 p = none → Ex H1 H2 → H2 p = some (.lst xs) → Q (.ref p) H2
def tDicE : TE := fun _ H Q => ∀ p H2, H p = none → Ex H H2 → H2 p = some (.dK []) → Q (.ref p) H2
section
variable {X : Cx} {es : List Expr} {t : TA} {pos : Pos}
theorem pe_tupE {x1} (h : PA X es t) : PE X (.Tuple es x1 pos) (tTupE t) := by
  constructor
  intro pins s σ H Q I hq
  refine wpAny_Tuple_spliced (thn (h.run _ pins s σ H _ I hq) ?_)
  rintro us s2 ⟨vs, H2, J, rv, sz, k⟩
  have fr := J.fresh
  refine ⟨rv.length ▸ sz, .ref _, _, J.laid (o := .tup vs) (t' := s2.toks) (fun _ _ => Heap.get?_push_of_some _) (Nat.le_refl _) ⟨sz, us, rv, _, Heap.get?_push_size _ rfl, rfl, _, rfl⟩, rfl, k _ _ fr (Ex.new fr) upd_same⟩
theorem pe_lstE (h : PA X es t) : PE X (.List es pos) (tLstE t) := by
  constructor
  intro pins s σ H Q I hq
  refine wpAny_List_spliced (thn (h.run _ pins s σ H _ I hq) ?_)
  rintro us s2 ⟨vs, H2, J, rv, sz, k⟩
  have fr := J.fresh
  refine ⟨rv.length ▸ sz, .ref _, _, J.laid (o := .lst vs) (t' := s2.toks) (fun _ _ => Heap.get?_push_of_some _) (Nat.le_refl _) ⟨sz, us, 0, rv, Heap.get?_push_size _ rfl⟩, rfl, k _ _ fr (Ex.new fr) upd_same⟩
theorem pe_dicE : PE X (.Dict [] [] pos) tDicE := ⟨fun pins s σ H Q I h => pe_dnewK.run pins s σ H Q I fun p hp => h p _ hp (Ex.new hp) upd_same⟩
def rCatE : R2 := fun x y H Q => ∃ l b xs zs, x = .ref l ∧ y = .ref b ∧ H l = some (.lst xs) ∧ H b = some (.lst zs) ∧ xs.length + zs.length ≤ sizeLine ∧ ∀ p H2, H p = none → Ex H H2 → H2 p = some (.lst (xs ++ zs)) → Q (.ref p) H2
theorem op_catE : OpR X (binaryOp .Add) rCatE := by
  intro pins s σ H x y v u Q I rx ry h
  obtain ⟨l, b, xs, zs, e1, e2, hH, hB, hz, q⟩ := h
  exact op_cat pins s σ H x y v u Q I rx ry ⟨l, b, xs, zs, e1, e2, hH, hB, hz, fun p hp => q p _ hp (Ex.new hp) upd_same⟩
def rSlE (K : PySem.W.Frag) : V → Option Int → Option Int → Hp → VK → Prop := fun x lo hi H Q => ∃ a xs, x = .ref a ∧ SqL K H a xs ∧ ∀ p H2, H p = none → Ex H H2 → H2 p = some (.lst (cutV xs lo hi)) → Q (.ref p) H2
theorem sl_listE : SlR X (rSlE X.K) := by
  intro pins s σ H x v vl vu lo hi sl Q I rx hs pl pu h
  obtain ⟨a, xs, e, hx, q⟩ := h
  exact sl_list pins s σ H x v vl vu lo hi sl Q I rx hs pl pu ⟨a, xs, e, hx, fun p hp => q p _ hp (Ex.new hp) upd_same⟩
def rTupE (K : PySem.W.Frag) : List V → Hp → VK → Prop := fun vs H Q => ∃ p ys, vs = [.ref p] ∧ SqL K H p ys ∧ ∀ l H2, H l = none → Ex H H2 → H2 l = some (.tup ys) → Q (.ref l) H2
theorem call_tupE : CallR X (.type "tuple") (rTupE X.K) := by
  intro pins s σ H vs us Q I r h
  obtain ⟨p, ys, e, hq, q⟩ := h
  exact call_tuple_of pins s σ H vs us Q I r ⟨p, ys, e, .inl ⟨hq, fun p hp => q p _ hp (Ex.new hp) upd_same⟩⟩
def rLstE (K : PySem.W.Frag) : List V → Hp → VK → Prop := fun vs H Q => ∃ p ys, vs = [.ref p] ∧ SqL K H p ys ∧ ∀ l H2, H l = none → Ex H H2 → H2 l = some (.lst ys) → Q (.ref l) H2
theorem call_lstE : CallR X (.type "list") (rLstE X.K) := by
  intro pins s σ H vs us Q I r h
  obtain ⟨p, ys, e, hq, q⟩ := h
  exact call_list_of pins s σ H vs us Q I r ⟨p, ys, e, .inl hq, fun p hp => q p _ hp (Ex.new hp) upd_same⟩
/-! ### a list == [] -/
def rEqNil (K : PySem.W.Frag) : R2 := fun x y H Q => ∃ a b xs, x = .ref a ∧ y = .ref b ∧ SqL K H a xs ∧ SqL K H b [] ∧ Q (.bl xs.isEmpty) H
theorem op_eqNil (hu : X.A.units + 64 < cLine) : OpR X (compareOp .Eq) (rEqNil X.K) := by
  intro pins s σ H x y v u Q I rx ry h
  obtain ⟨a, b, xs, rfl, rfl, ha, hb, q⟩ := h
  cases rx
  cases ry
  obtain ⟨its, r1, p1, _⟩ := I.list ha
  obtain ⟨its2, r2, p2, _⟩ := I.list hb
  cases r2
  cases r1 with
  | nil =>
    refine SeqAt.eq_listAt (e := fun _ => true) p1.isList p2.isList rfl (by omega) (fun j h1 _ => absurd h1 (Nat.not_lt_zero j)) ?_
    exact ⟨.bl true, H, I, rfl, q⟩
  | cons h1 h2 =>
    refine SeqAt.eq_list_lengthsAt p1.isList p2.isList (by simp) (by omega) ?_
    exact ⟨.bl false, H, I, rfl, q⟩
end
/-! ### a def of the top whose promise holds where no repr is under way -/
structure GO (P : Program) (w : World) (K : PySem.W.Frag) (mg : Str → Option Value) (base : Heap) (k : Nat) (x : Str) (ps : List Str) (sp : Sp) : Prop where
  ex : ∃ f fd, mg x = some (.ref f) ∧ PySem.W.keepIn K (.ref f) = true ∧ GOk P w K mg base k f fd ps sp ∧ Binds K fd ps []
theorem Df.go {P : Program} {w : World} {K : PySem.W.Frag} {mg : Str → Option Value} {base : Heap} {k : Nat} {x : Str} {st : Stmt} {ps : List Str} {sp : Sp} (D : Df K mg x st ps)
    (h : ∀ f fd, Fun K x x st f fd → GOk P w K mg base k f fd ps sp) : GO P w K mg base k x ps sp := by
  obtain ⟨f, fd, g, F, b⟩ := D.ex
  exact ⟨f, fd, g, F.kp, h f fd F, b⟩
section
variable {X : Cx} {k : Nat} {x : Str} {ps : List Str} {sp : Sp} {e : Expr} {es : List Expr} {t : TA} {p pos : Pos}
theorem clg (D : GO X.prog X.w X.K X.mg X.base k x ps sp) (hG : X.A.guards = some []) (hr : Room k X.A) (ha : PA X (e :: es) t) (hg : Gl X x := by rfl) (hdb : (x == ("__debug__" : Str)) = false := by decide)
    (he : starEach (e :: es) X.env = (false, eval e X.env) :: starEach es X.env := by rfl) (hpl : (backTo pos (starEach es X.env)).any (·.1) = false := by rfl) : PE X (.Call (.Name x p) (e :: es) [] pos) (tCall sp [] E0 t) := by
  obtain ⟨f, fd, g, kp, F, b⟩ := D.ex
  exact clG F hG hr g kp b ha hg hdb he hpl
end
/-! ### kinds -/
inductive Kn where
  | non | bl | int | str | tup | lst | dic
  deriving DecidableEq
def Kn.nm : Kn → String
  | .non => "NoneType" | .bl => "bool" | .int => "int" | .str => "str" | .tup => "tuple" | .lst => "list" | .dic => "dict"
def KdV (K : PySem.W.Frag) (H : Hp) (v : V) (k : Kn) : Prop := TyX K H v (.type k.nm) ∧ (k = .int → ∃ i, v = .int i)
theorem kd_int (k : Kn) : kitB k.nm "int" = some (decide (k = .int) || decide (k = .bl)) := by cases k <;> decide +kernel
theorem kd_bool (k : Kn) : kitB k.nm "bool" = some (decide (k = .bl)) := by cases k <;> decide +kernel
theorem kd_tup (k : Kn) : kitB k.nm "tuple" = some (decide (k = .tup)) := by cases k <;> decide +kernel
section
variable {K : PySem.W.Frag} {H H' : Hp} {s : Addr}
theorem tyL {t : Addr} {xs : List V} (q : SqL K H t xs) : TyX K H (.ref t) (.type "list") := by
  rcases q with (q | ⟨o, q⟩) | ⟨o, us, n, hk, hc, _⟩
  · exact .base (.lst q)
  · exact .base (.frz q)
  · exact .kList hk (by assumption)
/-- a small thing -/
inductive Lf : V → Prop
  | non : Lf .non
  | bl (b : Bool) : Lf (.bl b)
  | int (i : Int) (h : i.natAbs < 2 ^ 250) : Lf (.int i)
  | str (x : Str) (h : x ∈ [("1" : Str), "1/2", "", "a", "a b", "late", "b", "c"]) : Lf (.str x)
theorem Lf.kd {v : V} (h : Lf v) : ∃ k, KdV K H v k ∧ k ≠ .tup := by
  cases h with
  | non => exact ⟨.non, ⟨.base .non, fun z => by cases z⟩, by decide⟩
  | bl b => exact ⟨.bl, ⟨.base (.bl b), fun z => by cases z⟩, by decide⟩
  | int i h => exact ⟨.int, ⟨.base (.int i), fun _ => ⟨i, rfl⟩⟩, by decide⟩
  | str x h => exact ⟨.str, ⟨.base (.str x), fun z => by cases z⟩, by decide⟩
/-- a thing as the law draws it: s is the stream -/
inductive Bt (K : PySem.W.Frag) (s : Addr) (H : Hp) : V → Prop
  | leaf {v} (h : Lf v) : Bt K s H v
  | tup {t xs} (q : SqT K H t xs) (h : ∀ x ∈ xs, Lf x) (n : xs.length ≤ 3) : Bt K s H (.ref t)
  | lst {a xs} (q : H a = some (.lst xs)) (e : a ≠ s) (h : ∀ x ∈ xs, Lf x) (n : xs.length ≤ 3) : Bt K s H (.ref a)
  | dic {a} (q : H a = some (.dK [])) : Bt K s H (.ref a)
  | two {t u xs} (q : SqT K H t [.ref u, .ref u]) (p : SqT K H u xs) (h : ∀ x ∈ xs, Lf x) (n : xs.length ≤ 3) : Bt K s H (.ref t)
theorem Bt.ex {v : V} (e : Ex H H') (h : Bt K s H v) : Bt K s H' v := by
  cases h with
  | leaf h => exact .leaf h
  | tup q h n => exact .tup (ex_t e q) h n
  | lst q d h n => exact .lst (e _ _ q) d h n
  | dic q => exact .dic (e _ _ q)
  | two q p h n => exact .two (ex_t e q) (ex_t e p) h n
theorem Bt.dr {v : V} (hs : Stm s H) (d : Dr s H H') (h : Bt K s H v) : Bt K s H' v := by
  cases h with
  | leaf h => exact .leaf h
  | tup q h n => exact .tup (sqt_dr hs d q) h n
  | lst q e h n => exact .lst (d.keep _ _ e q) e h n
  | dic q =>
    obtain ⟨a, b, c, e⟩ := id hs
    exact .dic (d.keep _ _ (ne_of q e (by intro z; cases z)) q)
  | two q p h n => exact .two (sqt_dr hs d q) (sqt_dr hs d p) h n
theorem FrV.bt {v : V} {r : Rat} (h : FrV K H v r) (z : Sz 250 250 r) : Bt K s H v := by
  obtain ⟨t, rfl, q⟩ := h
  refine .tup q (fun x hx => ?_) (by show 2 ≤ 3; decide)
  simp only [List.mem_cons, List.not_mem_nil, or_false] at hx
  rcases hx with rfl | rfl
  · exact .int _ z.1
  · exact .int _ z.den
/-- whether a thing is a fraction -/
inductive Th (K : PySem.W.Frag) (H : Hp) : V → Bool → Prop
  | oth {v k} (h : KdV K H v k) (n : k ≠ .tup) : Th K H v false
  | tupN {t xs} (q : SqT K H t xs) (n : xs.length ≠ 2) : Th K H (.ref t) false
  | two {t x y kx ky} (q : SqT K H t [x, y]) (hx : KdV K H x kx) (hy : KdV K H y ky) (n : ¬ (kx = .int ∧ ky = .int)) : Th K H (.ref t) false
  | nums {t a b} (q : SqT K H t [.int a, .int b]) : Th K H (.ref t) (decide (0 < b) && decide (Nat.gcd a.natAbs b.natAbs = 1))
theorem th_tup {t : Addr} {xs : List V} (q : SqT K H t xs) (h : ∀ x ∈ xs, ∃ k, KdV K H x k) : ∃ b, Th K H (.ref t) b := by
  match xs, q, h with
  | [], q, _ => exact ⟨_, .tupN q (by simp)⟩
  | [_], q, _ => exact ⟨_, .tupN q (by simp)⟩
  | _ :: _ :: _ :: _, q, _ => exact ⟨_, .tupN q (by simp)⟩
  | [x, y], q, h =>
    obtain ⟨kx, hx⟩ := h x (by simp)
    obtain ⟨ky, hy⟩ := h y (by simp)
    by_cases e : kx = .int ∧ ky = .int
    · obtain ⟨a, rfl⟩ := hx.2 e.1
      obtain ⟨b, rfl⟩ := hy.2 e.2
      exact ⟨_, .nums q⟩
    · exact ⟨_, .two q hx hy e⟩
theorem Bt.th {v : V} (h : Bt K s H v) : ∃ b, Th K H v b := by
  cases h with
  | leaf h =>
    obtain ⟨k, hk, n⟩ := h.kd (K := K) (H := H)
    exact ⟨_, .oth hk n⟩
  | tup q h n => exact th_tup q fun x hx => (h x hx).kd.imp fun _ => And.left
  | lst q e h n => exact ⟨_, .oth (k := .lst) ⟨tyL (sq_of q), fun z => by cases z⟩ (by decide)⟩
  | dic q => exact ⟨_, .oth (k := .dic) ⟨.base (.dK q), fun z => by cases z⟩ (by decide)⟩
  | two q p h n =>
    refine th_tup q fun x hx => ?_
    simp only [List.mem_cons, List.not_mem_nil, or_false, or_self] at hx
    subst hx
    exact ⟨.tup, tyT p, fun z => by cases z⟩
theorem Bt.kd {v : V} (h : Bt K s H v) : ∃ k, KdV K H v k := by
  cases h with
  | leaf h => exact h.kd.imp fun _ => And.left
  | tup q h n => exact ⟨.tup, tyT q, fun z => by cases z⟩
  | lst q e h n => exact ⟨.lst, tyL (sq_of q), fun z => by cases z⟩
  | dic q => exact ⟨.dic, .base (.dK q), fun z => by cases z⟩
  | two q p h n => exact ⟨.tup, tyT q, fun z => by cases z⟩
end
/-! ### repr of such things -/
/-- what repr of v tells here -/
inductive Rp (K : PySem.W.Frag) (H : Hp) : V → Str → Prop
  | non : Rp K H .non "None"
  | bl (b : Bool) : Rp K H (.bl b) (if b then "True" else "False")
  | int (i : Int) (h : i.natAbs.log2 < 1920) : Rp K H (.int i) (toString i)
  | str (x : Str) (h : (reprText x).length ≤ sizeLine) : Rp K H (.str x) (reprText x)
  | dat {a d} (h : Dp K H (.ref a) d) (h1 : d.showable = true) (h2 : d.hasDict = false) (h3 : d.depth ≤ 60) (h4 : d.shown.length ≤ sizeLine) : Rp K H (.ref a) d.shown
  | dic {a} (q : H a = some (.dK [])) : Rp K H (.ref a) (PyData.dict []).shown
def rRp (K : PySem.W.Frag) : List V → Hp → VK → Prop := fun vs H Q => ∃ v x, vs = [v] ∧ Rp K H v x ∧ Q (.str x) H
theorem room {u : Nat} (hu : u + 64 < cLine) : u + ((PyData.dict []).depth + 1) < cLine := by
  have : (PyData.dict []).depth ≤ 2 := by decide
  omega
theorem call_rp {X : Cx} (hG : X.A.guards = some []) (hu : X.A.units + 64 < cLine) : CallR X (.builtin "repr") (rRp X.K) := by
  intro pins s σ H xs us Q I r h
  obtain ⟨v, x, rfl, h, q⟩ := h
  cases h with
  | non =>
    obtain ⟨u, rfl, rx⟩ := vals1 r
    cases (show u = Value.none from rx)
    exact PySem.P.repr_of_none ⟨.str _, H, I.tok _, ⟨_, rfl⟩, q⟩
  | bl b =>
    obtain ⟨u, rfl, rx⟩ := vals1 r
    cases (show u = Value.bool b from rx)
    exact PySem.P.repr_of_bool ⟨.str _, H, I.tok _, ⟨_, rfl⟩, q⟩
  | int i hz =>
    obtain ⟨u, rfl, t, rfl⟩ := vals1 r
    exact PySem.P.repr_of_int hz ⟨.str _, H, I.tok _, ⟨_, rfl⟩, q⟩
  | str x hz =>
    obtain ⟨u, rfl, t, rfl⟩ := vals1 r
    exact PySem.P.repr_of_str ⟨.str _, H, I.tok _, ⟨_, rfl⟩, q⟩ hz
  | dat h h1 h2 h3 h4 => exact call_reprD hG hu pins s σ H _ us Q I r ⟨_, _, rfl, h, ⟨_, rfl⟩, h1, h2, h3, h4, q⟩
  | @dic a hq =>
    obtain ⟨u, rfl, rx⟩ := vals1 r
    cases (show u = Value.ref a from rx)
    obtain ⟨_, ya, va, ra, o, es, ep, g1, g2, g3, g4⟩ := (show ObjOk X.prog X.w H s.heap a (.dK []) from I.hok a _ hq)
    cases ra
    have he : es.toList = [] := by
      have hp := g4.2.1
      generalize es.toList = l at hp
      cases hp
      rfl
    have R : Reads s.heap (.ref a) (.dict []) ([a] ++ [] ++ []) := by
      refine Reads.dict g1 g2.1 g3 ?_ ?_
      · rw [he]
        exact .nil
      · rw [he]
        exact .nil
    refine repr_of_reads' R rfl (fun _ hm => ?_) hG (room hu) (fun _ _ z => z) (fun h' u tk kp => ⟨.str _, H, I.kept (t' := tk) kp, ⟨u, rfl⟩, q⟩) (by decide)
    simp only [List.append_nil, List.mem_singleton] at hm
    subst hm
    simp at ya
/-! ### data of such things -/
def lfD : V → PyData
  | .bl b => .bool b
  | .int i => .int i
  | .str x => .str x
  | _ => .none
section
variable {K : PySem.W.Frag} {H : Hp} {s : Addr}
theorem Lf.dp {v : V} (h : Lf v) : Dp K H v (lfD v) := by
  cases h with
  | non => exact .non
  | bl b => exact .bl b
  | int i h => exact .int i
  | str x h => exact .str x
theorem lfs_dp : ∀ {xs : List V}, (∀ x ∈ xs, Lf x) → DpAll K H xs (xs.map lfD)
  | [], _ => .nil
  | x :: xs, h => .cons (h x (by simp)).dp (lfs_dp fun y hy => h y (by simp [hy]))
theorem log2_lt {i : Int} (h : i.natAbs < 2 ^ 250) : i.natAbs.log2 < 1920 := Nat.lt_of_lt_of_le (PySem.Flt.log2_lt_of (by decide) h) (by decide)
theorem Lf.sh {v : V} (h : Lf v) : (lfD v).showable = true ∧ (lfD v).hasDict = false ∧ (lfD v).depth = 0 ∧ (lfD v).leavesShort 92 = true ∧ (lfD v).bulk ≤ 4 := by
  cases h with
  | non => exact ⟨rfl, rfl, rfl, rfl, by decide⟩
  | bl b => exact ⟨rfl, rfl, rfl, rfl, by show 0 ≤ 4; decide⟩
  | int i h =>
    refine ⟨decide_eq_true (log2_lt h), rfl, rfl, decide_eq_true ?_, by show 0 ≤ 4; decide⟩
    have h10 : i.natAbs < 10 ^ 91 := Nat.lt_of_lt_of_le h (by decide +kernel)
    have := int_text_length_le10 (k := 91) (by decide) h10
    show (Str.ofString (toString i)).length ≤ 92
    rw [PySem.ofString_length]
    exact this
  | str x h =>
    simp only [List.mem_cons, List.not_mem_nil, or_false] at h
    rcases h with rfl | rfl | rfl | rfl | rfl | rfl | rfl | rfl <;> exact ⟨rfl, rfl, rfl, by decide, by decide⟩
theorem lfs_sh : ∀ {xs : List V}, (∀ x ∈ xs, Lf x) → PyData.showableAll (xs.map lfD) = true ∧ PyData.hasDictAll (xs.map lfD) = false ∧ PyData.depthAll (xs.map lfD) = 0 ∧ PyData.leavesShortAll 92 (xs.map lfD) = true ∧ PyData.bulkAll (xs.map lfD) ≤ 5 * xs.length
  | [], _ => ⟨rfl, rfl, rfl, rfl, Nat.le_refl _⟩
  | x :: xs, h => by
    obtain ⟨a1, a2, a3, a4, a5⟩ := (h x (by simp)).sh
    obtain ⟨b1, b2, b3, b4, b5⟩ := lfs_sh (xs := xs) fun y hy => h y (by simp [hy])
    simp only [List.map_cons, PyData.showableAll, PyData.hasDictAll, PyData.depthAll, PyData.leavesShortAll, PyData.bulkAll, a1, a2, a3, a4, b1, b2, b3, b4, Bool.and_self, Bool.or_self, List.length_cons, Nat.max_self, true_and]
    omega
theorem shown_fits {d : PyData} (h : d.leavesShort 92 = true) (hb : d.bulk ≤ 60) : d.shown.length ≤ sizeLine := by
  have h1 := PyData.shown_le_bulk 92 (by decide) d h
  have h2 : (92 + 2) * d.bulk + 92 ≤ 10000 := by omega
  have h3 : 10000 ≤ sizeLine := by decide
  omega
theorem Bt.rp {v : V} (h : Bt K s H v) : ∃ x, Rp K H v x := by
  cases h with
  | leaf h =>
    cases h with
    | non => exact ⟨_, .non⟩
    | bl b => exact ⟨_, .bl b⟩
    | int i h => exact ⟨_, .int i (log2_lt h)⟩
    | str x h =>
      refine ⟨_, .str x ?_⟩
      obtain ⟨_, _, _, a4, a5⟩ := (Lf.str x h).sh
      have z := shown_fits a4 (by omega)
      simpa only [lfD, PyData.shown] using z
  | tup q h n =>
    obtain ⟨b1, b2, b3, b4, b5⟩ := lfs_sh h
    refine ⟨_, .dat (.tup q (lfs_dp h)) b1 b2 ?_ (shown_fits b4 ?_)⟩
    · show PyData.depthAll _ + 1 ≤ 60
      omega
    · show PyData.bulkAll _ ≤ 60
      omega
  | lst q e h n =>
    obtain ⟨b1, b2, b3, b4, b5⟩ := lfs_sh h
    refine ⟨_, .dat (.lst (sq_of q) (lfs_dp h)) b1 b2 ?_ (shown_fits b4 ?_)⟩
    · show PyData.depthAll _ + 1 ≤ 60
      omega
    · show PyData.bulkAll _ ≤ 60
      omega
  | dic q => exact ⟨_, .dic q⟩
  | @two t u xs q p h n =>
    obtain ⟨b1, b2, b3, b4, b5⟩ := lfs_sh h
    have hd : Dp K H (.ref u) (.tuple (xs.map lfD)) := .tup p (lfs_dp h)
    refine ⟨_, .dat (d := .tuple [.tuple (xs.map lfD), .tuple (xs.map lfD)]) (.tup q (.cons hd (.cons hd .nil))) ?_ ?_ ?_ (shown_fits ?_ ?_)⟩
    · simp only [PyData.showable, PyData.showableAll, b1, Bool.and_self]
    · simp only [PyData.hasDict, PyData.hasDictAll, b2, Bool.or_self]
    · simp only [PyData.depth, PyData.depthAll, b3]
      decide
    · simp only [PyData.leavesShort, PyData.leavesShortAll, b4, Bool.and_self]
    · simp only [PyData.bulk, PyData.bulkAll]
      omega
end
end Nc
end
set_option maxRecDepth 100000
set_option maxHeartbeats 4000000
namespace Nc
open PySem PySem.Spec PyProof.Rows L2 Evl
section
variable {K : PySem.W.Frag} {H H' : Hp}
/-! ### nodes, layers -/
def NodesV (K : PySem.W.Frag) (H : Hp) (v : V) (zs : List Sum2) : Prop := ∃ t xs, v = .ref t ∧ SqT K H t xs ∧ Paired (SumV K H) xs zs
theorem NodesV.ex {v : V} {zs : List Sum2} (e : Ex H H') (h : NodesV K H v zs) : NodesV K H' v zs := by
  obtain ⟨t, xs, rfl, q, l⟩ := h
  exact ⟨t, xs, rfl, ex_t e q, pmono (fun _ _ => SumV.ex e) l⟩
def NodeOk (n : Nat) (zs : List Sum2) : Prop := ∀ z ∈ zs, z.1.length = n ∧ SzL 100 100 z.1 ∧ Sz 100 100 z.2
def LayerAt (C : Addr) (H : Hp) (p : Addr) (v : V) : Prop := ∃ dx, H p = some (.ins C dx [(("_nodes" : Str), v)])
theorem LayerAt.ex {C p : Addr} {v : V} (e : Ex H H') (h : LayerAt C H p v) : LayerAt C H' p v := by
  obtain ⟨dx, h⟩ := h
  exact ⟨dx, e _ _ h⟩
def cutR (r : Rat) : Rat := if r.num < 0 then 0 else r
def passR (c : Bool) (l : List Rat) : List Rat := if c = true then l.map cutR else l
/-! ### methods -/
structure Md (K : PySem.W.Frag) (C : Addr) (m qual : Str) (st : Stmt) (ps : List Str) : Prop where
  ex : ∃ f fd, Meth K C m f ∧ Fun K m qual st f fd ∧ Binds K fd ps []
structure MOk (P : Program) (w : World) (K : PySem.W.Frag) (mg : Str → Option Value) (base : Heap) (k : Nat) (C : Addr) (m : Str) (ps : List Str) (sp : Sp) : Prop where
  ex : ∃ f fd, Meth K C m f ∧ FnOk P w K mg base CX0 k f fd ps sp ∧ Binds K fd ps []
theorem Md.ok {P : Program} {w : World} {mg : Str → Option Value} {base : Heap} {k : Nat} {C : Addr} {m qual : Str} {st : Stmt} {ps : List Str} {sp : Sp} (D : Md K C m qual st ps)
    (h : ∀ f fd, Fun K m qual st f fd → FnOk P w K mg base CX0 k f fd ps sp) : MOk P w K mg base k C m ps sp := by
  obtain ⟨f, fd, g, F, b⟩ := D.ex
  exact ⟨f, fd, g, h f fd F, b⟩
/-! ### promises -/
def spReck (K : PySem.W.Frag) : Sp := fun vs H Q _ => ∃ (x y : V) (zs : List Sum2) (L : List Rat), vs = [x, y] ∧ NodesV K H x zs ∧ RowV K H y L ∧ NodeOk L.length zs ∧ L.length ≤ 20 ∧ zs.length ≤ 50 ∧ SzL 100 100 L ∧ ∀ v H', Ex H H' → RowV K H' v (zs.map fun z => tells z L) → Q v H'
def spCutN (K : PySem.W.Frag) : Sp := fun vs H Q _ => ∃ (x : V) (r : Rat), vs = [x] ∧ FrV K H x r ∧ ∀ v, FrV K H v (cutR r) → Q v H
def spInitL (K : PySem.W.Frag) (C : Addr) : Sp := fun vs H Q _ => ∃ (p dx a : Addr) (xs : List V) (zs : List Sum2), vs = [.ref p, .ref a] ∧ H p = some (.ins C dx []) ∧ (SqL K H a xs ∨ SqT K H a xs) ∧ Paired (SumV K H) xs zs ∧
  ∀ H' v, (∀ b o, b ≠ p → H b = some o → H' b = some o) → LayerAt C H' p v → NodesV K H' v zs → Q .non H'
def spToldL (C : Addr) : Sp := fun vs H Q _ => ∃ (p : Addr) (v : V), vs = [.ref p] ∧ LayerAt C H p v ∧ Q v H
def spPass (K : PySem.W.Frag) (C : Addr) (c : Bool) : Sp := fun vs H Q _ => ∃ (p : Addr) (v y : V) (zs : List Sum2) (L : List Rat), vs = [.ref p, y] ∧ LayerAt C H p v ∧ NodesV K H v zs ∧ RowV K H y L ∧ NodeOk L.length zs ∧ L.length ≤ 20 ∧ zs.length ≤ 50 ∧ SzL 100 100 L ∧
  ∀ v H', Ex H H' → RowV K H' v (passR c (zs.map fun z => tells z L)) → Q v H'
def spIsRow (K : PySem.W.Frag) : Sp := fun vs H Q _ => ∃ (x y : V) (L : List Rat), vs = [x, y] ∧ RowV K H x L ∧ RowV K H y L ∧ L.length ≤ 100 ∧ ∀ H', Ex H H' → Q (.bl true) H'
def spNode (K : PySem.W.Frag) : Sp := fun vs H Q _ => ∃ (s : Addr) (k : Nat), vs = [.ref s, .int (k : Int)] ∧ Stm s H ∧ k ≤ 20 ∧ ∀ v z H', Dr s H H' → SumV K H' v z → z.1.length = k → SzL 100 100 z.1 → Sz 100 100 z.2 → Q v H'
def spOne (K : PySem.W.Frag) (C : Addr) (c : Bool) : Sp := fun vs H Q _ => ∃ (p an ar : Addr) (v : V) (xs ys : List V) (zs : List Sum2) (Ls : List (List Rat)) (n : Nat), vs = [.ref p, .bl c, .ref an, .ref ar] ∧ LayerAt C H p v ∧ NodesV K H v zs ∧ SqL K H an xs ∧ Paired (SumV K H) xs zs ∧
  SqL K H ar ys ∧ Paired (RowV K H) ys Ls ∧ NodeOk n zs ∧ (∀ L ∈ Ls, L.length = n ∧ SzL 100 100 L) ∧ n ≤ 20 ∧ zs.length ≤ 50 ∧ ∀ H', Ex H H' → Q (.bl true) H'
/-! ### data of nodes -/
theorem sums_dp : ∀ {xs : List V} {zs : List Sum2}, Paired (SumV K H) xs zs → DpAll K H xs (zs.map sd)
  | _, _, .nil => .nil
  | _, _, .cons a t => .cons a.dp (sums_dp t)
end
theorem lay_sds : ∀ zs : List Sum2, PyData.canLayAll0 (zs.map sd) = true
  | [] => rfl
  | z :: zs => by
    show ((sd z).canLay0 && PyData.canLayAll0 (zs.map sd)) = true
    rw [lay_sd, lay_sds zs]
    rfl
theorem depth_sds : ∀ zs : List Sum2, PyData.depthAll (zs.map sd) ≤ 4
  | [] => Nat.zero_le _
  | z :: zs => by
    have ih := depth_sds zs
    have h1 := depthAll_fd z.1
    have h2 : PyData.depth (fd z.2) = 1 := rfl
    show max (max (PyData.depthAll (z.1.map fd) + 1) (max (PyData.depth (fd z.2)) 0) + 1) (PyData.depthAll (zs.map sd)) ≤ 4
    omega
theorem shaped_sds (zs : List Sum2) : SeqAt.shaped (.tuple (zs.map sd)) = true := by
  unfold SeqAt.shaped
  have h : (PyData.tuple (zs.map sd)).canLay0 = true := lay_sds zs
  rw [h, Bool.true_and]
  refine decide_eq_true ?_
  have := depth_sds zs
  show PyData.depthAll (zs.map sd) + 1 ≤ 64
  omega
theorem eqv_sds (zs : List Sum2) : PyData.eqv (.tuple (zs.map sd)) (.tuple (zs.map sd)) = true := SeqAt.eqv_refl _ (lay_sds zs)
theorem sz_cut {r : Rat} : cutR r = 0 ∨ cutR r = r := by
  unfold cutR
  split
  · exact .inl rfl
  · exact .inr rfl
end Nc
section
namespace Nc
/-! ### bottoms that divide a shared number -/
theorem den_of_div {k : Int} {D : Nat} (hD : 0 < D) : (Rat.divInt k (D : Int)).den ∣ D := by
  rw [Rat.den_divInt, if_neg (by omega)]
  exact Nat.div_dvd_of_dvd (Nat.gcd_dvd_left _ _)
theorem div_of_den {r : Rat} {D : Nat} (hD : 0 < D) (h : r.den ∣ D) : ∃ k : Int, r = Rat.divInt k (D : Int) := by
  obtain ⟨c, rfl⟩ := h
  have hc : 0 < c := Nat.pos_of_ne_zero fun z => by
    rw [z, Nat.mul_zero] at hD
    omega
  refine ⟨r.num * (c : Int), ?_⟩
  rw [Int.natCast_mul, Rat.divInt_mul_right (by omega), Rat.num_divInt_den]
/-- a top below 2 ^ n, a bottom that divides D -/
def Sv (n D : Nat) (r : Rat) : Prop := r.num.natAbs < 2 ^ n ∧ r.den ∣ D
def SvL (n D : Nat) (l : List Rat) : Prop := ∀ r ∈ l, Sv n D r
theorem Sv.mono {n m D E : Nat} {r : Rat} (h : Sv n D r) (hn : n ≤ m) (hD : D ∣ E) : Sv m E r := ⟨lt_mono h.1 hn, Nat.dvd_trans h.2 hD⟩
theorem SvL.mono {n m D E : Nat} {l : List Rat} (h : SvL n D l) (hn : n ≤ m) (hD : D ∣ E) : SvL m E l := fun r hr => (h r hr).mono hn hD
theorem Sv.sz {n D d : Nat} {r : Rat} (h : Sv n D r) (hD : 0 < D) (hd : D < 2 ^ d) : Sz n d r := ⟨h.1, Nat.lt_of_le_of_lt (Nat.le_of_dvd hD h.2) hd⟩
theorem den_add {r s : Rat} {D : Nat} (hD : 0 < D) (hr : r.den ∣ D) (hs : s.den ∣ D) : (r + s).den ∣ D := by
  obtain ⟨a, rfl⟩ := div_of_den hD hr
  obtain ⟨b, rfl⟩ := div_of_den hD hs
  have e : Rat.divInt a (D : Int) + Rat.divInt b (D : Int) = Rat.divInt (a + b) (D : Int) := by
    rw [Rat.divInt_add_divInt _ _ (by omega) (by omega), ← Int.add_mul, Rat.divInt_mul_right (by omega)]
  rw [e]
  exact den_of_div hD
theorem den_mul (r s : Rat) : (r * s).den ∣ r.den * s.den := by
  have h1 := r.den_nz
  have h2 := s.den_nz
  have e := mul_is r s
  rw [← Int.natCast_mul] at e
  rw [← e]
  exact den_of_div (Nat.mul_pos (by omega) (by omega))
theorem sv_mul {n m D E : Nat} {r s : Rat} (hr : Sv n D r) (hs : Sv m E s) : Sv (n + m) (D * E) (r * s) := by
  refine ⟨?_, Nat.dvd_trans (den_mul r s) (Nat.mul_dvd_mul hr.2 hs.2)⟩
  rw [← mul_is]
  have h1 := den_pos r
  have h2 := den_pos s
  rw [← num_div (Int.mul_pos h1 h2)]
  exact Nat.lt_of_le_of_lt (natAbs_ediv_le _ _) (lt_mul hr.1 hs.1)
theorem sv_add {n m D d N : Nat} {r s : Rat} (hD : 0 < D) (hd : D < 2 ^ d) (hr : Sv n D r) (hs : Sv m D s) (h1 : n + d ≤ N := by omega) (h2 : m + d ≤ N := by omega) : Sv (N + 1) D (r + s) :=
  ⟨(sz_add (hr.sz hD hd) (hs.sz hD hd) h1 h2).1, den_add hD hr.2 hs.2⟩
theorem sv_zero {n D : Nat} (h : 0 < n) : Sv n D 0 := ⟨Nat.two_pow_pos n, Nat.one_dvd D⟩
theorem sv_weighs {n m W D d : Nat} (hWD : 0 < W * D) (hd : W * D < 2 ^ d) : ∀ (i : Nat) (l : List (Rat × Rat)), i ≤ l.length → (∀ p ∈ l, Sv n W p.1 ∧ Sv m D p.2) → Sv (1 + i * (n + m + d + 1)) (W * D) (weighs (l.take i))
  | 0, l, _, _ => by simpa [weighs] using (sv_zero (n := 1) (D := W * D) (by decide))
  | i + 1, l, h, hl => by
    have ih := sv_weighs hWD hd i l (by omega) hl
    have e1 : l[i]? = some l[i] := List.getElem?_eq_getElem (by omega)
    rw [weighs_take e1]
    have hp := hl l[i] (List.getElem_mem _)
    have := sv_add (N := i * (n + m + d + 1) + (n + m + d + 1)) hWD hd ih (sv_mul hp.1 hp.2) (by omega) (by omega)
    exact this.mono (by rw [Nat.add_mul]; omega) (Nat.dvd_refl _)
theorem sv_of_weighs {n m W D d : Nat} {a b : List Rat} (hWD : 0 < W * D) (hd : W * D < 2 ^ d) (ha : SvL n W a) (hb : SvL m D b) (hl : a.length = b.length) : Sv (1 + a.length * (n + m + d + 1)) (W * D) (weighs (a.zip b)) := by
  have h := sv_weighs hWD hd a.length (a.zip b) (by rw [List.length_zip]; omega) (fun p hp => ⟨ha _ (List.of_mem_zip hp).1, hb _ (List.of_mem_zip hp).2⟩)
  rwa [List.take_of_length_le (by rw [List.length_zip]; omega)] at h
theorem sv_tells {n m W D d : Nat} {s : Sum2} {row : List Rat} (hWD : 0 < W * D) (hd : W * D < 2 ^ d) (ha : SvL n W s.1) (hc : Sv n W s.2) (hb : SvL m D row) (hl : s.1.length = row.length) : Sv (1 + s.1.length * (n + m + d + 1) + n + d + 1) (W * D) (tells s row) :=
  sv_add (N := 1 + s.1.length * (n + m + d + 1) + n + d) hWD hd (sv_of_weighs hWD hd ha hb hl) (hc.mono (Nat.le_refl _) (Nat.dvd_mul_right _ _)) (by omega) (by omega)
/-! ### nets -/
def cutQ (r : Rat) : Rat := if r.num < 0 then 0 else r
theorem sv_cutQ {n D : Nat} {r : Rat} (h : Sv n D r) : Sv n D (cutQ r) := by
  unfold cutQ
  split
  · exact ⟨Nat.lt_of_le_of_lt (Nat.zero_le _) h.1, Nat.one_dvd D⟩
  · exact h
/-- what the nodes of all layers come to -/
def rowsAt : List (List Sum2) → List Rat → List (List Rat)
  | [], _ => []
  | l :: ls, x => (l.map fun z => tells z x) :: rowsAt ls ((l.map fun z => tells z x).map cutQ)
/-- the layers stand upon one another, the first over n things -/
def Over : Nat → List (List Sum2) → Prop
  | _, [] => True
  | n, l :: ls => (∀ z ∈ l, z.1.length = n) ∧ (1 ≤ l.length ∧ l.length ≤ 4) ∧ Over l.length ls
/-- all numbers of the layers: tops below 2 ^ n, bottoms dividing W -/
def Num (n W : Nat) (ls : List (List Sum2)) : Prop := ∀ l ∈ ls, ∀ z ∈ l, SvL n W z.1 ∧ Sv n W z.2
/-- the tops' bits behind i layers -/
def tb : Nat → Nat
  | 0 => 100
  | i + 1 => 1 + 4 * (100 + tb i + 1201) + 1302
theorem tb_le : ∀ i, i ≤ 4 → tb i ≤ 600000
  | 0, _ => by decide
  | 1, _ => by decide
  | 2, _ => by decide
  | 3, _ => by decide
  | 4, _ => by decide
theorem tb_le3 : ∀ i, i ≤ 3 → tb i ≤ 150000
  | 0, _ => by decide
  | 1, _ => by decide
  | 2, _ => by decide
  | 3, _ => by decide
end Nc
end
section
set_option maxRecDepth 100000
set_option maxHeartbeats 4000000
namespace Nc
open PySem PySem.Spec PyProof.Rows L2 Evl
/-! ### kinds of things -/
def spWh (K : PySem.W.Frag) : Sp := fun vs H Q _ => ∃ v k, vs = [v] ∧ KdV K H v k ∧ Q (.bl (decide (k = .int))) H
def spFr (K : PySem.W.Frag) : Sp := fun vs H Q _ => ∃ v b, vs = [v] ∧ Th K H v b ∧ Q (.bl b) H
def spTold : Sp := fun vs H Q _ => ∃ a : Bool, vs = [.bl a, .bl a] ∧ Q (.bl true) H
/-- a row as the law draws it -/
inductive Rw (K : PySem.W.Frag) (H : Hp) : V → Option (List Bool) → Prop
  | oth {v k} (h : KdV K H v k) (n : k ≠ .tup) : Rw K H v none
  | tup {t xs bs} (q : SqT K H t xs) (p : Paired (Th K H) xs bs) (z : xs.length ≤ 100) : Rw K H (.ref t) (some bs)
def rwB : Option (List Bool) → Int → Bool
  | none, _ => false
  | some bs, k => decide ((bs.length : Int) = k) && bs.all id
def spIsRw (K : PySem.W.Frag) : Sp := fun vs H Q _ => ∃ (v : V) (k : Int) (f : Option (List Bool)), vs = [v, .int k] ∧ Rw K H v f ∧ ∀ H', Ex H H' → Q (.bl (rwB f k)) H'
theorem ifB {b : Bool} {A B : Prop} (h1 : b = true → A) (h2 : b = false → B) : if b = true then A else B := by
  cases b
  · exact iteF (h2 rfl)
  · exact iteT (h1 rfl)
theorem th_ex {K : PySem.W.Frag} {H H' : Hp} {v : V} {b : Bool} (kd : ∀ {v k}, KdV K H v k → KdV K H' v k) (e : Ex H H') (h : Th K H v b) : Th K H' v b := by
  cases h with
  | oth h n => exact .oth (kd h) n
  | tupN q n => exact .tupN (ex_t e q) n
  | two q hx hy n => exact .two (ex_t e q) (kd hx) (kd hy) n
  | nums q => exact .nums (ex_t e q)
theorem tyx_ex {K : PySem.W.Frag} {H H' : Hp} {v : V} {t : Value} (e : Ex H H') (h : TyX K H v t) : TyX K H' v t := by
  cases h with
  | base h =>
    cases h with
    | non => exact .base .non
    | bl x => exact .base (.bl x)
    | int x => exact .base (.int x)
    | str x => exact .base (.str x)
    | flt x => exact .base (.flt x)
    | lst q => exact .base (.lst (e _ _ q))
    | frz q => exact .base (.frz (e _ _ q))
    | tup q => exact .base (.tup (e _ _ q))
    | dK q => exact .base (.dK (e _ _ q))
    | dT q => exact .base (.dT (e _ _ q))
    | ins q cl ha hn htk hm => exact .base (.ins (e _ _ q) cl ha hn htk hm)
  | byt b => exact .byt b
  | set q => exact .set (e _ _ q)
  | kList q c => exact .kList q c
  | kTuple q c => exact .kTuple q c
  | kDict q c => exact .kDict q c
  | fTuple q => exact .fTuple (e _ _ q)
  | fDict q => exact .fDict (e _ _ q)
theorem kd_ex {K : PySem.W.Frag} {H H' : Hp} {v : V} {k : Kn} (e : Ex H H') (h : KdV K H v k) : KdV K H' v k := ⟨tyx_ex e h.1, h.2⟩
theorem th_exx {K : PySem.W.Frag} {H H' : Hp} {v : V} {b : Bool} (e : Ex H H') (h : Th K H v b) : Th K H' v b := th_ex (kd_ex e) e h
theorem eq_of_nd {a b : Int} (e : (!decide (V.int a = V.int b)) = false) : a = b := by
  by_cases h : V.int a = V.int b
  · exact V.int.inj h
  · rw [decide_eq_false h] at e
    cases e
theorem dec_int (n : Nat) : decide (V.int (n : Int) = V.int 1) = decide (n = 1) := by
  by_cases h : n = 1
  · rw [decide_eq_true h, h]
    decide
  · rw [decide_eq_false h]
    refine decide_eq_false fun z => h ?_
    have := V.int.inj z
    omega
theorem q_bl {a b : Bool} {Q : VK} {H : Hp} (q : Q (.bl b) H) (e : a = b) : Q (.bl a) H := by
  rw [e]
  exact q
theorem ne_of_nd {a b : Int} (e : (!decide (V.int a = V.int b)) = true) : decide (a = b) = false := by
  by_cases h : a = b
  · rw [decide_eq_true (congrArg V.int h)] at e
    cases e
  · exact decide_eq_false h
theorem of_nd {p : Prop} [Decidable p] (e : (!decide p) = false) : p := by
  by_cases h : p
  · exact h
  · rw [decide_eq_false h] at e
    cases e

section
variable {X : Cx} {e : Expr} {t1 t2 : TE}
/-- a term that is read in one of two ways -/
def tOr (t1 t2 : TE) : TE := fun σ H Q => t1 σ H Q ∨ t2 σ H Q
theorem pe_or (h1 : PE X e t1) (h2 : PE X e t2) : PE X e (tOr t1 t2) := ⟨fun pins s σ H Q I h => h.elim (h1.run pins s σ H Q I) (h2.run pins s σ H Q I)⟩
end
/-! ### the stream: a list, the last item of which tells how many long numbers are left -/
def Lst (s : Addr) (H : Hp) : Prop := ∃ xs, H s = some (.lst xs)
structure Dk (s : Addr) (H H' : Hp) : Prop where
  keep : ∀ a o, a ≠ s → H a = some o → H' a = some o
  st : Lst s H'
def St4 (s : Addr) (k : Nat) (H : Hp) : Prop := ∃ a b c : Int, H s = some (.lst [.int a, .int b, .int c, .int (k : Int)])
section
variable {K : PySem.W.Frag} {s p : Addr} {H H' H2 : Hp} {k : Nat}
theorem St4.lst (h : St4 s k H) : Lst s H := by
  obtain ⟨a, b, c, e⟩ := h
  exact ⟨_, e⟩
theorem Lst.ne (h : Lst s H) (hp : H p = none) : s ≠ p := by
  obtain ⟨xs, e⟩ := h
  exact ne_of_none e hp
theorem Lst.ex (h : Lst s H) (e : Ex H H') : Lst s H' := by
  obtain ⟨xs, q⟩ := h
  exact ⟨xs, e _ _ q⟩
theorem St4.ex (h : St4 s k H) (e : Ex H H') : St4 s k H' := by
  obtain ⟨a, b, c, q⟩ := h
  exact ⟨a, b, c, e _ _ q⟩
theorem St4.new {o : HO} (h : St4 s k H) (hp : H p = none) : St4 s k (upd H p o) := h.ex (Ex.new hp)
theorem St4.mut {o : HO} (h : St4 s k H) (hs : s ≠ p) : St4 s k (upd H p o) := by
  obtain ⟨a, b, c, q⟩ := h
  exact ⟨a, b, c, by rw [upd_ne hs]; exact q⟩
theorem Dk.refl (h : Lst s H) : Dk s H H := ⟨fun _ _ _ q => q, h⟩
theorem Dk.trans (a : Dk s H H') (b : Dk s H' H2) : Dk s H H2 := ⟨fun x o hx q => b.keep x o hx (a.keep x o hx q), b.st⟩
theorem Dk.ex (h : Lst s H) (e : Ex H H') : Dk s H H' := ⟨fun a o _ q => e a o q, h.ex e⟩
theorem Dk.new {o : HO} (h : Lst s H) (hp : H p = none) : Dk s H (upd H p o) := Dk.ex h (Ex.new hp)
theorem Dk.then (a : Dk s H H') (e : Ex H' H2) : Dk s H H2 := a.trans (Dk.ex a.st e)
theorem Dk.mut {o : HO} (d : Dk s H H') (hp : H p = none) (hs : s ≠ p) : Dk s H (upd H' p o) := ⟨fun a u ha q => by rw [upd_ne (ne_of_none q hp)]; exact d.keep a u ha q, by
  obtain ⟨xs, e⟩ := d.st
  exact ⟨xs, by rw [upd_ne hs]; exact e⟩⟩
theorem Dk.put {xs ys : List V} (h : H s = some (.lst xs)) : Dk s H (upd H s (.lst ys)) := ⟨fun x o hx q => by rw [upd_ne hx]; exact q, ⟨ys, upd_same⟩⟩
theorem sqt_dk {t : Addr} {xs : List V} (h : Lst s H) (d : Dk s H H') (q : SqT K H t xs) : SqT K H' t xs := by
  obtain ⟨ys, e⟩ := h
  rcases q with (q | ⟨o, q⟩) | q
  · exact .inl (.inl (d.keep _ _ (ne_of q e (by intro z; cases z)) q))
  · exact .inl (.inr ⟨o, d.keep _ _ (ne_of q e (by intro z; cases z)) q⟩)
  · exact .inr q
theorem FrV.dk {v : V} {r : Rat} (h : Lst s H) (d : Dk s H H') (q : FrV K H v r) : FrV K H' v r := by
  obtain ⟨t, rfl, q⟩ := q
  exact ⟨t, rfl, sqt_dk h d q⟩
theorem RowV.dk {v : V} {rs : List Rat} (h : Lst s H) (d : Dk s H H') (q : RowV K H v rs) : RowV K H' v rs := by
  obtain ⟨t, xs, rfl, q, l⟩ := q
  exact ⟨t, xs, rfl, sqt_dk h d q, pmono (fun _ _ => FrV.dk h d) l⟩
theorem SumV.dk {v : V} {z : Sum2} (h : Lst s H) (d : Dk s H H') (q : SumV K H v z) : SumV K H' v z := by
  obtain ⟨t, a, b, rfl, q, l, n⟩ := q
  exact ⟨t, a, b, rfl, sqt_dk h d q, l.dk h d, n.dk h d⟩
theorem NodesV.dk {v : V} {zs : List Sum2} (h : Lst s H) (d : Dk s H H') (q : NodesV K H v zs) : NodesV K H' v zs := by
  obtain ⟨t, xs, rfl, q, l⟩ := q
  exact ⟨t, xs, rfl, sqt_dk h d q, pmono (fun _ _ => SumV.dk h d) l⟩
theorem NodesV.mut {D : Addr} {xs : List V} {o : HO} {v : V} {zs : List Sum2} (hD : H D = some (.lst xs)) (h : NodesV K H v zs) : NodesV K (upd H D o) v zs := by
  obtain ⟨t, us, rfl, qt, lu⟩ := h
  exact ⟨t, us, rfl, sqt_mut hD qt, pmono (fun _ _ => SumV.mut hD) lu⟩
end
/-! ### layers as lists of lists -/
def LyV (K : PySem.W.Frag) (H : Hp) (v : V) (l : List Sum2) : Prop := ∃ a xs, v = .ref a ∧ SqL K H a xs ∧ Paired (SumV K H) xs l
def LayI (K : PySem.W.Frag) (H : Hp) (v : V) (ls : List (List Sum2)) : Prop := ∃ D ys, v = .ref D ∧ SqL K H D ys ∧ Paired (LyV K H) ys ls
/-- the same, lists that are no stream -/
def LyS (K : PySem.W.Frag) (s : Addr) (H : Hp) (v : V) (l : List Sum2) : Prop := ∃ a xs, v = .ref a ∧ a ≠ s ∧ H a = some (.lst xs) ∧ Paired (SumV K H) xs l
def LayS (K : PySem.W.Frag) (s : Addr) (H : Hp) (D : Addr) (ls : List (List Sum2)) : Prop := D ≠ s ∧ ∃ ys, H D = some (.lst ys) ∧ Paired (LyS K s H) ys ls
section
variable {K : PySem.W.Frag} {s p D : Addr} {H H' H2 : Hp} {k : Nat} {v : V} {l : List Sum2} {ls : List (List Sum2)}
theorem LyV.ex (e : Ex H H') (h : LyV K H v l) : LyV K H' v l := by
  obtain ⟨a, xs, rfl, q, p⟩ := h
  exact ⟨a, xs, rfl, ex_l e q, pmono (fun _ _ => SumV.ex e) p⟩
theorem LayI.ex (e : Ex H H') (h : LayI K H v ls) : LayI K H' v ls := by
  obtain ⟨D, ys, rfl, q, p⟩ := h
  exact ⟨D, ys, rfl, ex_l e q, pmono (fun _ _ => LyV.ex e) p⟩
theorem LyS.ex (e : Ex H H') (h : LyS K s H v l) : LyS K s H' v l := by
  obtain ⟨a, xs, rfl, n, q, p⟩ := h
  exact ⟨a, xs, rfl, n, e _ _ q, pmono (fun _ _ => SumV.ex e) p⟩
theorem LyS.dk (h0 : Lst s H) (d : Dk s H H') (h : LyS K s H v l) : LyS K s H' v l := by
  obtain ⟨a, xs, rfl, n, q, p⟩ := h
  exact ⟨a, xs, rfl, n, d.keep _ _ n q, pmono (fun _ _ => SumV.dk h0 d) p⟩
theorem LyS.toV (h : LyS K s H v l) : LyV K H v l := by
  obtain ⟨a, xs, rfl, n, q, p⟩ := h
  exact ⟨a, xs, rfl, sq_of q, p⟩
theorem LayS.ex (e : Ex H H') (h : LayS K s H D ls) : LayS K s H' D ls := by
  obtain ⟨n, ys, q, p⟩ := h
  exact ⟨n, ys, e _ _ q, pmono (fun _ _ => LyS.ex e) p⟩
theorem LayS.dk (h0 : Lst s H) (d : Dk s H H') (h : LayS K s H D ls) : LayS K s H' D ls := by
  obtain ⟨n, ys, q, p⟩ := h
  exact ⟨n, ys, d.keep _ _ n q, pmono (fun _ _ => LyS.dk h0 d) p⟩
theorem LayS.i (h : LayS K s H D ls) : LayI K H (.ref D) ls := by
  obtain ⟨n, ys, q, p⟩ := h
  exact ⟨D, ys, rfl, sq_of q, pmono (fun _ _ => LyS.toV) p⟩
end
/-! ### nets -/
def LayV (K : PySem.W.Frag) (CL CC : Addr) (H : Hp) (v : V) (l : List Sum2) : Prop := ∃ p C nv, v = .ref p ∧ (C = CL ∨ C = CC) ∧ LayerAt C H p nv ∧ NodesV K H nv l
def NetV (K : PySem.W.Frag) (CN CL CC : Addr) (H : Hp) (p : Addr) (n : Nat) (ls : List (List Sum2)) : Prop := ∃ dx t ps, H p = some (.ins CN dx [(("_ins" : Str), .int (n : Int)), (("_layers" : Str), .ref t)]) ∧ SqT K H t ps ∧ Paired (LayV K CL CC H) ps ls
/-- what a net tells -/
def TdV (K : PySem.W.Frag) (H : Hp) (v : V) (n : Nat) (ls : List (List Sum2)) : Prop := ∃ t u ys, v = .ref t ∧ SqT K H t [.int (n : Int), .ref u] ∧ SqT K H u ys ∧ Paired (NodesV K H) ys ls
def nd (ls : List (List Sum2)) : List PyData := ls.map fun l => .tuple (l.map sd)
section
variable {K : PySem.W.Frag} {s p D CN CL CC : Addr} {H H' H2 : Hp} {k n : Nat} {v : V} {l : List Sum2} {ls : List (List Sum2)}
theorem LayV.ex (e : Ex H H') (h : LayV K CL CC H v l) : LayV K CL CC H' v l := by
  obtain ⟨p, C, nv, rfl, c, la, nn⟩ := h
  exact ⟨p, C, nv, rfl, c, la.ex e, nn.ex e⟩
theorem LayV.mut {xs : List V} {o : HO} (hD : H D = some (.lst xs)) (h : LayV K CL CC H v l) : LayV K CL CC (upd H D o) v l := by
  obtain ⟨p, C, nv, rfl, c, ⟨dx, la⟩, nn⟩ := h
  exact ⟨p, C, nv, rfl, c, ⟨dx, by rw [upd_ne (ne_of la hD (by intro z; cases z))]; exact la⟩, nn.mut hD⟩
theorem LayV.dk (h0 : Lst s H) (d : Dk s H H') (h : LayV K CL CC H v l) : LayV K CL CC H' v l := by
  obtain ⟨p, C, nv, rfl, c, ⟨dx, la⟩, nn⟩ := h
  obtain ⟨xs, hx⟩ := id h0
  exact ⟨p, C, nv, rfl, c, ⟨dx, d.keep _ _ (ne_of la hx (by intro z; cases z)) la⟩, nn.dk h0 d⟩
theorem stL : Stays (LayV K CL CC) := ⟨LayV.ex, LayV.mut⟩
theorem NetV.ex (e : Ex H H') (h : NetV K CN CL CC H p n ls) : NetV K CN CL CC H' p n ls := by
  obtain ⟨dx, t, ps, hp, q, l⟩ := h
  exact ⟨dx, t, ps, e _ _ hp, ex_t e q, pmono (fun _ _ => LayV.ex e) l⟩
theorem NetV.dk (h0 : Lst s H) (d : Dk s H H') (h : NetV K CN CL CC H p n ls) : NetV K CN CL CC H' p n ls := by
  obtain ⟨dx, t, ps, hp, q, l⟩ := h
  obtain ⟨xs, hx⟩ := id h0
  exact ⟨dx, t, ps, d.keep _ _ (ne_of hp hx (by intro z; cases z)) hp, sqt_dk h0 d q, pmono (fun _ _ => LayV.dk h0 d) l⟩
theorem TdV.ex (e : Ex H H') (h : TdV K H v n ls) : TdV K H' v n ls := by
  obtain ⟨t, u, ys, rfl, q, q2, l⟩ := h
  exact ⟨t, u, ys, rfl, ex_t e q, ex_t e q2, pmono (fun _ _ => NodesV.ex e) l⟩
theorem TdV.dk (h0 : Lst s H) (d : Dk s H H') (h : TdV K H v n ls) : TdV K H' v n ls := by
  obtain ⟨t, u, ys, rfl, q, q2, l⟩ := h
  exact ⟨t, u, ys, rfl, sqt_dk h0 d q, sqt_dk h0 d q2, pmono (fun _ _ => NodesV.dk h0 d) l⟩
theorem NodesV.dp (h : NodesV K H v l) : Dp K H v (.tuple (l.map sd)) := by
  obtain ⟨t, xs, rfl, q, p⟩ := h
  exact .tup q (sums_dp p)
theorem nds_dp : ∀ {xs : List V} {ls : List (List Sum2)}, Paired (NodesV K H) xs ls → DpAll K H xs (nd ls)
  | _, _, .nil => .nil
  | _, _, .cons a t => .cons a.dp (nds_dp t)
theorem TdV.dp (h : TdV K H v n ls) : Dp K H v (.tuple [.int (n : Int), .tuple (nd ls)]) := by
  obtain ⟨t, u, ys, rfl, q, q2, l⟩ := h
  exact .tup q (.cons (.int _) (.cons (.tup q2 (nds_dp l)) .nil))
end
theorem lay_nd : ∀ ls : List (List Sum2), PyData.canLayAll0 (nd ls) = true
  | [] => rfl
  | z :: zs => by
    show (PyData.canLayAll0 (z.map sd) && PyData.canLayAll0 (nd zs)) = true
    rw [lay_sds, lay_nd zs]
    rfl
theorem depth_nd : ∀ ls : List (List Sum2), PyData.depthAll (nd ls) ≤ 5
  | [] => Nat.zero_le _
  | z :: zs => by
    have ih := depth_nd zs
    have h1 := depth_sds z
    show max (PyData.depthAll (z.map sd) + 1) (PyData.depthAll (nd zs)) ≤ 5
    omega
theorem lay_td (n : Nat) (ls : List (List Sum2)) : (PyData.tuple [.int (n : Int), .tuple (nd ls)]).canLay0 = true := by
  show (true && (PyData.canLayAll0 (nd ls) && true)) = true
  rw [lay_nd]
  rfl
theorem shaped_td (n : Nat) (ls : List (List Sum2)) : SeqAt.shaped (.tuple [.int (n : Int), .tuple (nd ls)]) = true := by
  unfold SeqAt.shaped
  rw [lay_td, Bool.true_and]
  refine decide_eq_true ?_
  have := depth_nd ls
  show max 0 (max (PyData.depthAll (nd ls) + 1) 0) + 1 ≤ 64
  omega
theorem eqv_td (n : Nat) (ls : List (List Sum2)) : PyData.eqv (.tuple [.int (n : Int), .tuple (nd ls)]) (.tuple [.int (n : Int), .tuple (nd ls)]) = true := SeqAt.eqv_refl _ (lay_td n ls)
/-- a list of rows -/
def rd (rs : List (List Rat)) : List PyData := rs.map fun r => .tuple (r.map fd)
theorem rows_dp {K : PySem.W.Frag} {H : Hp} : ∀ {xs : List V} {rs : List (List Rat)}, Paired (RowV K H) xs rs → DpAll K H xs (rd rs)
  | _, _, .nil => .nil
  | _, _, .cons a t => .cons a.dp (rows_dp t)
theorem lay_rd : ∀ rs : List (List Rat), PyData.canLayAll0 (rd rs) = true
  | [] => rfl
  | r :: rs => by
    show (PyData.canLayAll0 (r.map fd) && PyData.canLayAll0 (rd rs)) = true
    rw [layAll_fd, lay_rd rs]
    rfl
theorem depth_rd : ∀ rs : List (List Rat), PyData.depthAll (rd rs) ≤ 2
  | [] => Nat.zero_le _
  | z :: zs => by
    have ih := depth_rd zs
    have h1 := depthAll_fd z
    show max (PyData.depthAll (z.map fd) + 1) (PyData.depthAll (rd zs)) ≤ 2
    omega
theorem shaped_rd (rs : List (List Rat)) : SeqAt.shaped (.list (rd rs)) = true := by
  unfold SeqAt.shaped
  have h : (PyData.list (rd rs)).canLay0 = true := lay_rd rs
  rw [h, Bool.true_and]
  refine decide_eq_true ?_
  have := depth_rd rs
  show PyData.depthAll (rd rs) + 1 ≤ 64
  omega
theorem eqv_rd (rs : List (List Rat)) : PyData.eqv (.list (rd rs)) (.list (rd rs)) = true := SeqAt.eqv_refl _ (lay_rd rs)
/-! ### what is known of a net's numbers -/
structure NetOk (n : Nat) (ls : List (List Sum2)) (W : Nat) : Prop where
  n1 : 1 ≤ n
  n3 : n ≤ 3
  over : Over n ls
  l1 : 1 ≤ ls.length
  l4 : ls.length ≤ 4
  num : Num 100 W ls
  w0 : 0 < W
/-- a spot's common bottom fits beside it -/
structure Fits (W D : Nat) : Prop where
  d0 : 0 < D
  lt : W ^ 4 * D < 2 ^ 1200
theorem Fits.at {W D : Nat} (hW : 0 < W) (h : Fits W D) {i : Nat} (hi : i ≤ 3) : 0 < W * (W ^ i * D) ∧ W * (W ^ i * D) < 2 ^ 1200 := by
  have h1 : W * (W ^ i * D) = W ^ (i + 1) * D := by rw [Nat.pow_succ, ← Nat.mul_assoc, Nat.mul_comm W]
  rw [h1]
  refine ⟨Nat.mul_pos (Nat.pow_pos hW) h.d0, Nat.lt_of_le_of_lt (Nat.mul_le_mul_right D (Nat.pow_le_pow_right hW (by omega))) h.lt⟩
/-! ### promises -/
def spTake4 : Sp := fun vs H Q _ => ∃ (s : Addr) (m : Int) (k : Nat), vs = [.ref s, .int m] ∧ St4 s k H ∧ 0 < m ∧ m < 2 ^ 200 ∧ ∀ d H', 0 ≤ d → d < m → Dk s H H' → St4 s k H' → Q (.int d) H'
def spStream4 : Sp := fun vs H Q _ => ∃ c : Int, vs = [.int c] ∧ ∀ s, H s = none → ∀ H', Ex H H' → St4 s 2 H' → Q (.ref s) H'
def spDraw4 : Sp := fun vs H Q _ => ∃ (s : Addr) (k : Nat), vs = [.ref s] ∧ St4 s k H ∧ ∀ d H', 0 < d → d.natAbs < 2 ^ 100 → Dk s H H' → St4 s k H' → Q (.int d) H'
/-- so many long numbers were drawn, their bottoms' product is M -/
structure Used (k k' M : Nat) : Prop where
  le : k' ≤ k
  pos : 0 < M
  lt : M ≤ 2 ^ (100 * (k - k'))
theorem Used.refl (k : Nat) : Used k k 1 := ⟨Nat.le_refl _, Nat.one_pos, by rw [Nat.sub_self]; decide⟩
theorem Used.trans {k k1 k2 M N : Nat} (a : Used k k1 M) (b : Used k1 k2 N) : Used k k2 (M * N) := by
  refine ⟨Nat.le_trans b.le a.le, Nat.mul_pos a.pos b.pos, Nat.le_trans (Nat.mul_le_mul a.lt b.lt) ?_⟩
  rw [← Nat.pow_add]
  have h1 := a.le
  have h2 := b.le
  exact Nat.pow_le_pow_right (by decide) (by omega)
theorem sv_l {n M N : Nat} {r : Rat} (h : Sv n (6 * M) r) : Sv n (6 * (M * N)) r := h.mono (Nat.le_refl _) (Nat.mul_dvd_mul_left 6 (Nat.dvd_mul_right _ _))
theorem sv_r {n M N : Nat} {r : Rat} (h : Sv n (6 * N) r) : Sv n (6 * (M * N)) r := h.mono (Nat.le_refl _) (Nat.mul_dvd_mul_left 6 (Nat.dvd_mul_left _ _))
def spNum4 (K : PySem.W.Frag) : Sp := fun vs H Q _ => ∃ (s : Addr) (k : Nat), vs = [.ref s] ∧ St4 s k H ∧ ∀ v r H' k' M, Dk s H H' → St4 s k' H' → Used k k' M → FrV K H' v r → Sv 100 (6 * M) r → Q v H'
def spNode4 (K : PySem.W.Frag) : Sp := fun vs H Q _ => ∃ (s : Addr) (k n : Nat), vs = [.ref s, .int (n : Int)] ∧ St4 s k H ∧ n ≤ 20 ∧ ∀ v z H' k' M, Dk s H H' → St4 s k' H' → Used k k' M → SumV K H' v z → z.1.length = n → SvL 100 (6 * M) z.1 → Sv 100 (6 * M) z.2 → Q v H'
def spSpot4 (K : PySem.W.Frag) : Sp := fun vs H Q _ => ∃ (s : Addr) (k n : Nat), vs = [.ref s, .int (n : Int)] ∧ St4 s k H ∧ n ≤ 20 ∧ ∀ v L H' k' M, Dk s H H' → St4 s k' H' → Used k k' M → RowV K H' v L → L.length = n → SvL 100 (6 * M) L → Q v H'
def spSize4 : Sp := fun vs H Q _ => ∃ (s : Addr) (m k : Nat), vs = [.ref s, .int (m : Int)] ∧ St4 s k H ∧ 2 ≤ m ∧ m ≤ 10 ∧ ∀ (d : Nat) H', 1 ≤ d → d ≤ m → Dk s H H' → St4 s k H' → Q (.int (d : Int)) H'
def spLays4 (K : PySem.W.Frag) : Sp := fun vs H Q _ => ∃ (s : Addr) (n k : Nat), vs = [.ref s, .int (n : Int)] ∧ St4 s k H ∧ 1 ≤ n ∧ n ≤ 3 ∧ ∀ D ls H' k' M, H D = none → Dk s H H' → St4 s k' H' → Used k k' M → LayS K s H' D ls → NetOk n ls (6 * M) → Q (.ref D) H'
def spWeighD (K : PySem.W.Frag) : Sp := fun vs H Q _ => ∃ (x y : V) (rs ss : List Rat) (m W D : Nat), vs = [x, y] ∧ RowV K H x rs ∧ RowV K H y ss ∧ rs.length = ss.length ∧ rs.length ≤ 4 ∧ SvL 100 W rs ∧ SvL m D ss ∧ m ≤ 150000 ∧ 0 < W * D ∧ W * D < 2 ^ 1200 ∧ ∀ v H', Ex H H' → FrV K H' v (weighs (rs.zip ss)) → Q v H'
def spTellsD (K : PySem.W.Frag) : Sp := fun vs H Q _ => ∃ (x y : V) (z : Sum2) (ss : List Rat) (m W D : Nat), vs = [x, y] ∧ SumV K H x z ∧ RowV K H y ss ∧ z.1.length = ss.length ∧ z.1.length ≤ 4 ∧ SvL 100 W z.1 ∧ Sv 100 W z.2 ∧ SvL m D ss ∧ m ≤ 150000 ∧ 0 < W * D ∧ W * D < 2 ^ 1200 ∧ ∀ v H', Ex H H' → FrV K H' v (tells z ss) → Q v H'
def NodesOk (n W : Nat) (l : List Sum2) : Prop := ∀ z ∈ l, z.1.length = n ∧ SvL 100 W z.1 ∧ Sv 100 W z.2
/-- the facts of a reckoning: nodes, a row -/
structure Rk (l : List Sum2) (L : List Rat) (m W D : Nat) : Prop where
  nodes : NodesOk L.length W l
  len : L.length ≤ 4
  many : l.length ≤ 4
  row : SvL m D L
  top : m ≤ 150000
  pos : 0 < W * D
  lt : W * D < 2 ^ 1200
def spReckD (K : PySem.W.Frag) : Sp := fun vs H Q _ => ∃ (x y : V) (l : List Sum2) (L : List Rat) (m W D : Nat), vs = [x, y] ∧ NodesV K H x l ∧ RowV K H y L ∧ Rk l L m W D ∧ ∀ v H', Ex H H' → RowV K H' v (l.map fun z => tells z L) → Q v H'
def spPassD (K : PySem.W.Frag) (C : Addr) : Sp := fun vs H Q _ => ∃ (p : Addr) (nv y : V) (l : List Sum2) (L : List Rat) (m W D : Nat), vs = [.ref p, y] ∧ LayerAt C H p nv ∧ NodesV K H nv l ∧ RowV K H y L ∧ Rk l L m W D ∧ ∀ v H', Ex H H' → RowV K H' v (l.map fun z => tells z L) → Q v H'
def spCutQ (K : PySem.W.Frag) : Sp := fun vs H Q _ => ∃ (x : V) (r : Rat), vs = [x] ∧ FrV K H x r ∧ ∀ v, FrV K H v (cutQ r) → Q v H
def spCutRow (K : PySem.W.Frag) : Sp := fun vs H Q _ => ∃ (x : V) (L : List Rat), vs = [x] ∧ RowV K H x L ∧ L.length ≤ 100 ∧ ∀ v H', Ex H H' → RowV K H' v (L.map cutQ) → Q v H'
def spRowsD (K : PySem.W.Frag) : Sp := fun vs H Q _ => ∃ (x y : V) (ls : List (List Sum2)) (L : List Rat) (W D : Nat), vs = [x, y] ∧ LayI K H x ls ∧ RowV K H y L ∧ NetOk L.length ls W ∧ SvL 100 D L ∧ Fits W D ∧
  ∀ F rs H', H F = none → Ex H H' → H' F = some (.lst rs) → Paired (RowV K H') rs (rowsAt ls L) → Q (.ref F) H'
def spSumsAt (K : PySem.W.Frag) (CN CL CC : Addr) : Sp := fun vs H Q _ => ∃ (p : Addr) (y : V) (ls : List (List Sum2)) (L : List Rat) (W D : Nat), vs = [.ref p, y] ∧ NetV K CN CL CC H p L.length ls ∧ RowV K H y L ∧ NetOk L.length ls W ∧ SvL 100 D L ∧ Fits W D ∧
  ∀ F rs H', H F = none → Ex H H' → H' F = some (.lst rs) → Paired (RowV K H') rs (rowsAt ls L) → Q (.ref F) H'
def spOutsAt (K : PySem.W.Frag) (CN CL CC : Addr) : Sp := fun vs H Q _ => ∃ (p : Addr) (y : V) (ls : List (List Sum2)) (L : List Rat) (W D : Nat), vs = [.ref p, y] ∧ NetV K CN CL CC H p L.length ls ∧ RowV K H y L ∧ NetOk L.length ls W ∧ SvL 100 D L ∧ Fits W D ∧
  ∀ v o H', Ex H H' → (rowsAt ls L)[ls.length - 1]? = some o → RowV K H' v o → Q v H'
def spToldN (K : PySem.W.Frag) (CN CL CC : Addr) : Sp := fun vs H Q _ => ∃ (p : Addr) (n : Nat) (ls : List (List Sum2)), vs = [.ref p] ∧ NetV K CN CL CC H p n ls ∧ ls.length ≤ 100 ∧ ∀ v H', Ex H H' → TdV K H' v n ls → Q v H'
def spInsN (K : PySem.W.Frag) (CN CL CC : Addr) : Sp := fun vs H Q _ => ∃ (p : Addr) (n : Nat) (ls : List (List Sum2)), vs = [.ref p] ∧ NetV K CN CL CC H p n ls ∧ Q (.int (n : Int)) H
def spLaysTold (K : PySem.W.Frag) (CN CL CC : Addr) : Sp := fun vs H Q _ => ∃ (p : Addr) (n : Nat) (ls : List (List Sum2)), vs = [.ref p] ∧ NetV K CN CL CC H p n ls ∧ ls.length ≤ 100 ∧ (∀ l ∈ ls, l.length ≤ 100) ∧
  ∀ F ys H', H F = none → Ex H H' → H' F = some (.lst ys) → Paired (fun v l => ∃ a xs, v = .ref a ∧ H a = none ∧ a ≠ F ∧ H' a = some (.lst xs) ∧ Paired (SumV K H') xs l) ys ls → Q (.ref F) H'
/-- the making of a net -/
def spInitN (K : PySem.W.Frag) (CN CL CC : Addr) : Sp := fun vs H Q _ => ∃ (p dx : Addr) (x : V) (n : Nat) (ls : List (List Sum2)) (W : Nat), vs = [.ref p, .int (n : Int), x] ∧ H p = some (.ins CN dx []) ∧ LayI K H x ls ∧ NetOk n ls W ∧
  ∀ H', (∀ b o, b ≠ p → H b = some o → H' b = some o) → NetV K CN CL CC H' p n ls → Q .non H'
def spIsSum (K : PySem.W.Frag) : Sp := fun vs H Q _ => ∃ (x : V) (z : Sum2), vs = [x, .int (z.1.length : Int)] ∧ SumV K H x z ∧ z.1.length ≤ 100 ∧ ∀ H', Ex H H' → Q (.bl true) H'
def spAreIns : Sp := fun vs H Q _ => ∃ n : Nat, vs = [.int (n : Int)] ∧ 1 ≤ n ∧ n ≤ 3 ∧ Q (.bl true) H
def spAreLays (K : PySem.W.Frag) : Sp := fun vs H Q _ => ∃ (x : V) (n : Nat) (ls : List (List Sum2)) (W : Nat), vs = [x, .int (n : Int)] ∧ LayI K H x ls ∧ NetOk n ls W ∧ ∀ H', Ex H H' → Q (.bl true) H'
/-- a good row, a good fraction -/
theorem FrV.th {K : PySem.W.Frag} {H : Hp} {v : V} {r : Rat} (h : FrV K H v r) : Th K H v true := by
  obtain ⟨t, rfl, q⟩ := h
  have e := Th.nums q
  have e1 : decide ((0 : Int) < (r.den : Int)) = true := decide_eq_true (den_pos r)
  have e2 : decide (Nat.gcd r.num.natAbs ((r.den : Int)).natAbs = 1) = true := decide_eq_true (by rw [Int.natAbs_natCast]; exact r.reduced)
  rw [e1, e2] at e
  exact e
theorem frl_th {K : PySem.W.Frag} {H : Hp} : ∀ {xs : List V} {rs : List Rat}, FrL K H xs rs → Paired (Th K H) xs (List.replicate rs.length true)
  | _, _, .nil => .nil
  | _, _, .cons a t => .cons a.th (frl_th t)
theorem RowV.rw {K : PySem.W.Frag} {H : Hp} {v : V} {rs : List Rat} (h : RowV K H v rs) (hl : rs.length ≤ 100) : Rw K H v (some (List.replicate rs.length true)) := by
  obtain ⟨t, xs, rfl, q, l⟩ := h
  exact .tup q (frl_th l) (by rw [Paired.length l]; exact hl)
theorem rwB_rep (n : Nat) : rwB (some (List.replicate n true)) (n : Int) = true := by
  show (decide (((List.replicate n true).length : Int) = (n : Int)) && (List.replicate n true).all id) = true
  rw [List.length_replicate, decide_eq_true rfl, Bool.true_and]
  simp
/-! ### a step of the reckoning -/
theorem rk_next {l : List Sum2} {A : List Rat} {i W D : Nat} (k : Rk l A (tb i) W (W ^ i * D)) : SvL (tb (i + 1)) (W ^ (i + 1) * D) ((l.map fun z => tells z A).map cutQ) := by
  intro r hr
  obtain ⟨u, hu, rfl⟩ := List.mem_map.mp hr
  obtain ⟨z, hz, rfl⟩ := List.mem_map.mp hu
  obtain ⟨h1, h2, h3⟩ := k.nodes z hz
  have h := sv_tells k.pos k.lt h2 h3 k.row h1
  have hl : z.1.length ≤ 4 := by
    rw [h1]
    exact k.len
  have hb : z.1.length * (100 + tb i + 1200 + 1) ≤ 4 * (100 + tb i + 1200 + 1) := Nat.mul_le_mul_right _ hl
  have e : W ^ (i + 1) * D = W * (W ^ i * D) := by rw [Nat.pow_succ, ← Nat.mul_assoc, Nat.mul_comm W]
  rw [e]
  refine sv_cutQ (h.mono ?_ (Nat.dvd_refl _))
  show _ ≤ 1 + 4 * (100 + tb i + 1201) + 1302
  omega
theorem drop_at {α : Type} {ls : List α} {i : Nat} {l : α} (h : ls[i]? = some l) : ls.drop i = l :: ls.drop (i + 1) := by
  obtain ⟨h1, h2⟩ := List.getElem?_eq_some_iff.mp h
  rw [List.drop_eq_getElem_cons h1, h2]
theorem rk_of {ls : List (List Sum2)} {n W D i : Nat} {l : List Sum2} {A : List Rat} (ok : NetOk n ls W) (f : Fits W D) (hi : ls[i]? = some l) (ov : Over A.length (ls.drop i)) (hA : SvL (tb i) (W ^ i * D) A) (h4 : A.length ≤ 4) :
    Rk l A (tb i) W (W ^ i * D) ∧ Over l.length (ls.drop (i + 1)) ∧ l.length ≤ 4 ∧ 1 ≤ l.length ∧ i ≤ 3 := by
  have hi1 := (List.getElem?_eq_some_iff.mp hi).1
  have hl4 := ok.l4
  have hi3 : i ≤ 3 := by omega
  rw [drop_at hi] at ov
  obtain ⟨o1, o2, o3⟩ := ov
  have hm := List.mem_of_getElem? hi
  exact ⟨⟨fun z hz => ⟨o1 z hz, ok.num l hm z hz⟩, h4, o2.2, hA, tb_le3 i hi3, (f.at ok.w0 hi3).1, (f.at ok.w0 hi3).2⟩, o3, o2.2, o2.1, hi3⟩
theorem rowsAt_cons {ls : List (List Sum2)} {i : Nat} {l : List Sum2} {A : List Rat} (hi : ls[i]? = some l) : rowsAt (ls.drop i) A = (l.map fun z => tells z A) :: rowsAt (ls.drop (i + 1)) ((l.map fun z => tells z A).map cutQ) := by
  rw [drop_at hi]
  rfl
/-- what stands behind i layers: the rows told, the row ahead -/
structure Mid (ls : List (List Sum2)) (L : List Rat) (W D i : Nat) (dn : List (List Rat)) (A : List Rat) : Prop where
  len : dn.length = i
  eq : rowsAt ls L = dn ++ rowsAt (ls.drop i) A
  over : Over A.length (ls.drop i)
  row : SvL (tb i) (W ^ i * D) A
  a4 : A.length ≤ 4
theorem mid0 {ls : List (List Sum2)} {L : List Rat} {W D : Nat} (ok : NetOk L.length ls W) (h : SvL 100 D L) : Mid ls L W D 0 [] L := by
  have := ok.n3
  refine ⟨rfl, rfl, ok.over, ?_, by omega⟩
  rw [Nat.pow_zero, Nat.one_mul]
  exact h
theorem mid_step {ls : List (List Sum2)} {L A : List Rat} {n W D i : Nat} {dn : List (List Rat)} {l : List Sum2} (ok : NetOk n ls W) (f : Fits W D) (m : Mid ls L W D i dn A) (hi : ls[i]? = some l) :
    Rk l A (tb i) W (W ^ i * D) ∧ Mid ls L W D (i + 1) (dn ++ [l.map fun z => tells z A]) ((l.map fun z => tells z A).map cutQ) ∧ l.length ≤ 4 := by
  obtain ⟨k, o, l4, l1, i3⟩ := rk_of ok f hi m.over m.row m.a4
  refine ⟨k, ⟨by simp [m.len], ?_, ?_, rk_next k, by simpa using l4⟩, l4⟩
  · rw [m.eq, rowsAt_cons hi, List.append_assoc]
    rfl
  · simpa using o
theorem mid_end {ls : List (List Sum2)} {L A : List Rat} {W D : Nat} {dn : List (List Rat)} (m : Mid ls L W D ls.length dn A) : dn = rowsAt ls L := by
  rw [m.eq, List.drop_length]
  show dn = dn ++ []
  rw [List.append_nil]
theorem rowsAt_length : ∀ (ls : List (List Sum2)) (L : List Rat), (rowsAt ls L).length = ls.length
  | [], _ => rfl
  | l :: ls, L => by
    show (rowsAt ls _).length + 1 = _
    rw [rowsAt_length ls]
    rfl
/-! ### layers that grow -/
def lastN : Nat → List (List Sum2) → Nat
  | n, [] => n
  | _, l :: ls => lastN l.length ls
theorem over_snoc : ∀ {n : Nat} {ls : List (List Sum2)} {l : List Sum2}, Over n ls → (∀ z ∈ l, z.1.length = lastN n ls) → 1 ≤ l.length → l.length ≤ 4 → Over n (ls ++ [l]) ∧ lastN n (ls ++ [l]) = l.length
  | n, [], l, _, h, h1, h4 => ⟨⟨h, ⟨h1, h4⟩, trivial⟩, rfl⟩
  | n, a :: ls, l, o, h, h1, h4 => by
    obtain ⟨o1, o2, o3⟩ := o
    obtain ⟨i1, i2⟩ := over_snoc (n := a.length) (ls := ls) o3 h h1 h4
    exact ⟨⟨o1, o2, i1⟩, i2⟩
theorem sv_div {t b : Int} {n : Nat} (hb : 0 < b) (ht : t.natAbs < 2 ^ n) : Sv n b.toNat (Rat.divInt t b) := by
  constructor
  · rw [← num_div hb]
    exact Nat.lt_of_le_of_lt (natAbs_ediv_le _ _) ht
  · have h := den_of_div (k := t) (D := b.toNat) (by omega)
    rwa [Int.toNat_of_nonneg (by omega)] at h
theorem stN {K : PySem.W.Frag} : Stays (NodesV K) := ⟨NodesV.ex, NodesV.mut⟩
/-- a turn of the drawing of a row -/
theorem row_turn4 {K : PySem.W.Frag} {s D : Addr} {H H' H4 : Hp} {i k k2 N : Nat} {v : V} {r : Rat} (hS : Lst s H) (hD : H D = none) (hi : i < 1000)
    (h : ∃ L xs k' M, H' D = some (.lst xs) ∧ FrL K H' xs L ∧ L.length = i ∧ SvL 100 (6 * M) L ∧ Dk s H H' ∧ St4 s k' H' ∧ Used k k' M ∧ Used k' k2 N) (r4 : Dk s H' H4) (t4 : St4 s k2 H4) (hv : FrV K H4 v r) (hs : Sv 100 (6 * N) r) :
    ∃ acc, H4 D = some (.lst acc) ∧ acc.length < sizeLine ∧ ∃ L xs k' M, upd H4 D (.lst (acc ++ [v])) D = some (.lst xs) ∧ FrL K (upd H4 D (.lst (acc ++ [v]))) xs L ∧ L.length = i + 1 ∧ SvL 100 (6 * M) L ∧ Dk s H (upd H4 D (.lst (acc ++ [v]))) ∧ St4 s k' (upd H4 D (.lst (acc ++ [v]))) ∧ Used k k' M := by
  obtain ⟨L, xs, k', M, hx, hl, hn, hz, r1, t1, u1, u2⟩ := h
  have hsD := hS.ne hD
  have h4 := r4.keep D _ (Ne.symm hsD) hx
  have hln := Paired.length hl
  refine ⟨xs, h4, sz_lt (by omega), L ++ [r], xs ++ [v], k2, M * N, upd_same, ?_, by simp [hn], ?_, (r1.trans r4).mut hD hsD, t4.mut hsD, u1.trans u2⟩
  · exact Paired.snoc (pmono (fun _ _ q => FrV.mut h4 (FrV.dk r1.st r4 q)) hl) (FrV.mut h4 hv)
  · intro a ha
    rcases List.mem_append.mp ha with ha | ha
    · exact sv_l (hz a ha)
    · rw [List.mem_singleton.mp ha]
      exact sv_r hs
end Nc
end
section
set_option maxRecDepth 100000
set_option maxHeartbeats 4000000
namespace Nc
open PySem PySem.Spec PyProof.Rows L2 Evl
theorem ite_t {b : Bool} {A B : Prop} (h : b = true) (x : A) : if b = true then A else B := by
  rw [if_pos h]
  exact x
theorem ite_f {b : Bool} {A B : Prop} (h : b = false) (x : B) : if b = true then A else B := by
  rw [if_neg (by rw [h]; decide)]
  exact x
theorem ite_nt {b : Bool} {A B : Prop} (h : b = true) (x : B) : if (!b) = true then A else B := by
  rw [if_neg (by rw [h]; decide)]
  exact x
theorem ite_nf {b : Bool} {A B : Prop} (h : b = false) (x : A) : if (!b) = true then A else B := by
  rw [if_pos (by rw [h]; decide)]
  exact x
theorem kitLT {K : PySem.W.Frag} : PySem.W.kitAny K (.type "list") [.type "list", .type "tuple"] = some true := by
  simp [PySem.W.kitAny, kit_ty (K := K) (a := "list") (b := "list") (r := true) (by decide +kernel)]
theorem kitTT {K : PySem.W.Frag} : PySem.W.kitAny K (.type "tuple") [.type "list", .type "tuple"] = some true := by
  simp [PySem.W.kitAny, kit_ty (K := K) (a := "tuple") (b := "list") (r := false) (by decide +kernel), kit_ty (K := K) (a := "tuple") (b := "tuple") (r := true) (by decide +kernel)]
theorem cut_init {ys : List V} (h : ys ≠ []) : cutV ys none (some (-1)) = ys.dropLast := by
  have : ys.length ≠ 0 := fun z => h (List.eq_nil_of_length_eq_zero z)
  unfold cutV
  simp [HT.sIx, List.dropLast_eq_take]
  omega
theorem cut_to {ys : List V} {i : Nat} (h : i ≤ ys.length) : cutV ys none (some (i : Int)) = ys.take i := by
  unfold cutV
  simp only [HT.sIx]
  rw [if_neg (by omega), List.drop_zero, Int.toNat_natCast, Nat.min_eq_left h, Nat.sub_zero]
theorem cut_from {ys : List V} {i : Nat} (h : i ≤ ys.length) : cutV ys (some (i : Int)) none = ys.drop i := by
  unfold cutV
  simp only [HT.sIx]
  rw [if_neg (by omega), Int.toNat_natCast, Nat.min_eq_left h]
  exact List.take_of_length_le (by rw [List.length_drop]; omega)
theorem at_last {ys : List V} {v : V} (h : ys[ys.length - 1]? = some v) : atI ys (-1) = some v := by
  have hn : ys ≠ [] := fun z => by
    rw [z] at h
    cases h
  have e := List.dropLast_concat_getLast hn
  have hl : ys.getLast hn = v := by
    rw [List.getLast_eq_getElem]
    rw [List.getElem?_eq_getElem (by have := List.length_pos_iff.mpr hn; omega)] at h
    exact Option.some.inj h
  rw [hl] at e
  rw [← e]
  exact atI_last _ _
/-! ### where one object changes that is no list and no tuple -/
def Ch (p : Addr) (H H' : Hp) : Prop := ∀ b o, b ≠ p → H b = some o → H' b = some o
section
variable {K : PySem.W.Frag} {H H' H2 : Hp} {p C dx : Addr} {fs : List (Str × V)}
theorem Ch.trans (a : Ch p H H') (b : Ch p H' H2) : Ch p H H2 := fun x o hx q => b x o hx (a x o hx q)
theorem Ch.ex (e : Ex H H') : Ch p H H' := fun x o _ q => e x o q
theorem Ch.put {o : HO} : Ch p H (upd H p o) := fun x u hx q => by
  rw [upd_ne hx]
  exact q
theorem sqt_ch {t : Addr} {xs : List V} (hp : H p = some (.ins C dx fs)) (c : Ch p H H') (q : SqT K H t xs) : SqT K H' t xs := by
  rcases q with (q | ⟨o, q⟩) | q
  · exact .inl (.inl (c _ _ (ne_of q hp (by intro z; cases z)) q))
  · exact .inl (.inr ⟨o, c _ _ (ne_of q hp (by intro z; cases z)) q⟩)
  · exact .inr q
theorem sql_ch {t : Addr} {xs : List V} (hp : H p = some (.ins C dx fs)) (c : Ch p H H') (q : SqL K H t xs) : SqL K H' t xs := by
  rcases q with (q | ⟨o, q⟩) | q
  · exact .inl (.inl (c _ _ (ne_of q hp (by intro z; cases z)) q))
  · exact .inl (.inr ⟨o, c _ _ (ne_of q hp (by intro z; cases z)) q⟩)
  · exact .inr q
theorem FrV.ch {v : V} {r : Rat} (hp : H p = some (.ins C dx fs)) (c : Ch p H H') (q : FrV K H v r) : FrV K H' v r := by
  obtain ⟨t, rfl, q⟩ := q
  exact ⟨t, rfl, sqt_ch hp c q⟩
theorem RowV.ch {v : V} {rs : List Rat} (hp : H p = some (.ins C dx fs)) (c : Ch p H H') (q : RowV K H v rs) : RowV K H' v rs := by
  obtain ⟨t, xs, rfl, q, l⟩ := q
  exact ⟨t, xs, rfl, sqt_ch hp c q, pmono (fun _ _ => FrV.ch hp c) l⟩
theorem SumV.ch {v : V} {z : Sum2} (hp : H p = some (.ins C dx fs)) (c : Ch p H H') (q : SumV K H v z) : SumV K H' v z := by
  obtain ⟨t, a, b, rfl, q, l, n⟩ := q
  exact ⟨t, a, b, rfl, sqt_ch hp c q, l.ch hp c, n.ch hp c⟩
theorem LyV.ch {v : V} {l : List Sum2} (hp : H p = some (.ins C dx fs)) (c : Ch p H H') (q : LyV K H v l) : LyV K H' v l := by
  obtain ⟨a, xs, rfl, q, l⟩ := q
  exact ⟨a, xs, rfl, sql_ch hp c q, pmono (fun _ _ => SumV.ch hp c) l⟩
theorem LayI.ch {v : V} {ls : List (List Sum2)} (hp : H p = some (.ins C dx fs)) (c : Ch p H H') (q : LayI K H v ls) : LayI K H' v ls := by
  obtain ⟨D, ys, rfl, q, l⟩ := q
  exact ⟨D, ys, rfl, sql_ch hp c q, pmono (fun _ _ => LyV.ch hp c) l⟩
theorem NodesV.ch {v : V} {l : List Sum2} (hp : H p = some (.ins C dx fs)) (c : Ch p H H') (q : NodesV K H v l) : NodesV K H' v l := by
  obtain ⟨a, xs, rfl, q, l⟩ := q
  exact ⟨a, xs, rfl, sqt_ch hp c q, pmono (fun _ _ => SumV.ch hp c) l⟩
theorem LayV.ch {CL CC : Addr} {v : V} {l : List Sum2} {n : Int} (hp : H p = some (.ins C dx [(("_ins" : Str), .int n)])) (c : Ch p H H') (q : LayV K CL CC H v l) : LayV K CL CC H' v l := by
  obtain ⟨a, D, nv, rfl, hc, ⟨dy, la⟩, nn⟩ := q
  refine ⟨a, D, nv, rfl, hc, ⟨dy, c _ _ (fun z => ?_) la⟩, nn.ch hp c⟩
  subst z
  rw [hp] at la
  have h1 := Option.some.inj la
  injection h1 with _ _ h2
  have h3 := congrArg (List.map Prod.fst) h2
  have h4 : (("_ins" : Str) == ("_nodes" : Str)) = true := by
    have h5 : [("_ins" : Str)] = [("_nodes" : Str)] := h3
    have h6 := List.head_eq_of_cons_eq h5
    rw [h6]
    exact beq_self_eq_true _
  exact absurd h4 (by decide +kernel)
end
theorem pair_init {α β : Type} {R : α → β → Prop} : ∀ {xs : List α} {ys : List β}, Paired R xs ys → Paired R xs.dropLast ys.dropLast
  | _, _, .nil => .nil
  | _, _, .cons a .nil => .nil
  | _, _, .cons a (.cons b t) => .cons a (pair_init (.cons b t))
theorem pair_app {α β : Type} {R : α → β → Prop} : ∀ {xs us : List α} {ys vs : List β}, Paired R xs ys → Paired R us vs → Paired R (xs ++ us) (ys ++ vs)
  | _, _, _, _, .nil, h => h
  | _, _, _, _, .cons a t, h => .cons a (pair_app t h)
theorem init_last {α : Type} {l : List α} {a : α} (h : l[l.length - 1]? = some a) : l.dropLast ++ [a] = l := by
  have hn : l ≠ [] := fun z => by
    rw [z] at h
    cases h
  have e := List.dropLast_concat_getLast hn
  have hl : l.getLast hn = a := by
    rw [List.getLast_eq_getElem]
    rw [List.getElem?_eq_getElem (by have := List.length_pos_iff.mpr hn; omega)] at h
    exact Option.some.inj h
  rwa [hl] at e
/-! ### rules with K written out, for the blocks of comprehensions -/
def rTupK (K : PySem.W.Frag) : List V → Hp → VK → Prop := fun xs H Q => ∃ p ys, xs = [.ref p] ∧ ((SqL K H p ys ∧ ∀ l, H l = none → Q (.ref l) (upd H l (.tup ys))) ∨ (SqT K H p ys ∧ Q (.ref p) H))
theorem call_tupK {X : Cx} (K : PySem.W.Frag) (h : X.K = K := by rfl) : CallR X (.type "tuple") (rTupK K) := by
  subst h
  exact call_tuple_of
def rLstK (K : PySem.W.Frag) : List V → Hp → VK → Prop := fun xs H Q => ∃ p ys, xs = [.ref p] ∧ (SqL K H p ys ∨ SqT K H p ys) ∧ ∀ l, H l = none → Q (.ref l) (upd H l (.lst ys))
theorem call_lstK {X : Cx} (K : PySem.W.Frag) (h : X.K = K := by rfl) : CallR X (.type "list") (rLstK K) := by
  subst h
  exact call_list_of
/-- the classes of layers and nets -/
structure NDefs (P : Program) (w : World) (K : PySem.W.Frag) (mg : Str → Option Value) (base : Heap) (CN CL CC : Addr) : Prop where
  tN : Cls K CN
  nI : NoAttr K CN "_ins"
  nL : NoAttr K CN "_layers"
  tL : Cls K CL
  tC : Cls K CC
  toldL : MOk P w K mg base 1 CL "told" ["self"] (spToldL CL)
  toldC : MOk P w K mg base 1 CC "told" ["self"] (spToldL CC)
  sumsL : MOk P w K mg base 6 CL "sums" ["self", "ahead"] (spPassD K CL)
  sumsC : MOk P w K mg base 6 CC "sums" ["self", "ahead"] (spPassD K CC)
theorem no_m {v : V} {m : Str} (h : ¬ m = "_nodes") : List.lookup m [(("_nodes" : Str), v)] = none := by
  have qw : (m == ("_nodes" : Str)) = false := by simpa using h
  simp [List.lookup, qw]
theorem no_n {v w : V} {m : Str} (h : ¬ m = "_ins") (h2 : ¬ m = "_layers") : List.lookup m [(("_ins" : Str), v), (("_layers" : Str), w)] = none := by
  have qw : (m == ("_ins" : Str)) = false := by simpa using h
  have qw2 : (m == ("_layers" : Str)) = false := by simpa using h2
  simp [List.lookup, qw, qw2]
end Nc
end
section
set_option maxRecDepth 100000
set_option maxHeartbeats 4000000
namespace Nc
open PySem PySem.Spec PyProof.Rows L2 Evl
/-! ### tuples put together, cut, of any length -/
def rCatTE (K : PySem.W.Frag) : R2 := fun x y H Q => ∃ a b xs ys, x = .ref a ∧ y = .ref b ∧ SqT K H a xs ∧ SqT K H b ys ∧ xs.length + ys.length ≤ sizeLine ∧ ∀ p H2, Ex H H2 → SqT K H2 p (xs ++ ys) → Q (.ref p) H2
theorem op_catTE {X : Cx} (K : PySem.W.Frag) (h : X.K = K := by rfl) : OpR X (binaryOp .Add) (rCatTE K) := by
  subst h
  intro pins s σ H x y v u Q I rx ry h
  obtain ⟨a, b, xs, ys, e1, e2, hx, hy, hz, q⟩ := h
  refine op_catA pins s σ H x y v u Q I rx ry ⟨a, b, xs, ys, e1, e2, hx, hy, hz, fun e => ?_, fun _ e => ?_, fun _ _ p hp => q p _ (Ex.new hp) (st_of upd_same)⟩
  · subst e
    exact q b H (Ex.refl H) hy
  · subst e
    exact q a H (Ex.refl H) (by rw [List.append_nil]; exact hx)
def rSlTE (K : PySem.W.Frag) : V → Option Int → Option Int → Hp → VK → Prop := fun x lo hi H Q => ∃ a xs, x = .ref a ∧ SqT K H a xs ∧ ∀ p H2, Ex H H2 → SqT K H2 p (cutV xs lo hi) → Q (.ref p) H2
theorem sl_tupE {X : Cx} (K : PySem.W.Frag) (h : X.K = K := by rfl) : SlR X (rSlTE K) := by
  subst h
  intro pins s σ H x v vl vu lo hi sl Q I rx hs pl pu h
  obtain ⟨a, xs, e, hx, q⟩ := h
  refine sl_tupA pins s σ H x v vl vu lo hi sl Q I rx hs pl pu ⟨a, xs, e, hx, fun hw => ?_, fun _ p hp => q p _ (Ex.new hp) (st_of upd_same)⟩
  refine q a H (Ex.refl H) ?_
  have : cutV xs lo hi = xs := by
    unfold cutV
    rw [hw.1, hw.2, List.drop_zero, Nat.sub_zero, List.take_length]
  rw [this]
  exact hx
theorem mem_cut {xs : List V} {lo hi : Option Int} {v : V} (h : v ∈ cutV xs lo hi) : v ∈ xs := List.mem_of_mem_drop (List.mem_of_mem_take h)
/-! ### the net of a node -/
theorem over_take : ∀ {n : Nat} {ls : List (List Sum2)} {i : Nat} {l : List Sum2}, Over n ls → ls[i]? = some l → Over n (ls.take i) ∧ ∀ z ∈ l, z.1.length = lastN n (ls.take i)
  | n, [], i, l, _, h => by simp at h
  | n, a :: ls, 0, l, o, h => by
    simp at h
    subst h
    exact ⟨trivial, o.1⟩
  | n, a :: ls, i + 1, l, o, h => by
    obtain ⟨o1, o2, o3⟩ := o
    obtain ⟨h1, h2⟩ := over_take (n := a.length) (ls := ls) (i := i) (l := l) o3 (by simpa using h)
    exact ⟨⟨o1, o2, h1⟩, h2⟩
def nodeNet (ls : List (List Sum2)) (i : Nat) (z : Sum2) : List (List Sum2) := ls.take i ++ [[z]]
theorem netok_node {n W : Nat} {ls : List (List Sum2)} {i : Nat} {l : List Sum2} {z : Sum2} (ok : NetOk n ls W) (hl : ls[i]? = some l) (hz : z ∈ l) : NetOk n (nodeNet ls i z) W := by
  obtain ⟨o1, o2⟩ := over_take ok.over hl
  have hi := (List.getElem?_eq_some_iff.mp hl).1
  have h4 := ok.l4
  have hm := List.mem_of_getElem? hl
  obtain ⟨o3, _⟩ := over_snoc o1 (l := [z]) (fun a ha => by rw [List.mem_singleton.mp ha]; exact o2 z hz) (by simp) (by simp)
  refine ⟨ok.n1, ok.n3, o3, ?_, ?_, ?_, ok.w0⟩
  · simp [nodeNet]
  · simp [nodeNet]
    omega
  · intro a ha b hb
    rcases List.mem_append.mp ha with ha | ha
    · exact ok.num a (List.mem_of_mem_take ha) b hb
    · rw [List.mem_singleton.mp ha] at hb
      rw [List.mem_singleton.mp hb]
      exact ok.num l hm z hz
theorem node_len {ls : List (List Sum2)} {i : Nat} {l : List Sum2} {z : Sum2} (hl : ls[i]? = some l) : (nodeNet ls i z).length = i + 1 := by
  have hi := (List.getElem?_eq_some_iff.mp hl).1
  simp [nodeNet]
  omega
theorem node_last {ls : List (List Sum2)} {i : Nat} {l : List Sum2} {z : Sum2} (hl : ls[i]? = some l) : (nodeNet ls i z)[(nodeNet ls i z).length - 1]? = some [z] := by
  have hi := (List.getElem?_eq_some_iff.mp hl).1
  have h : (ls.take i).length = i := by
    rw [List.length_take]
    omega
  rw [node_len hl]
  unfold nodeNet
  rw [show i + 1 - 1 = (ls.take i).length by omega]
  exact List.getElem?_concat_length
theorem rows_node : ∀ {ls : List (List Sum2)} {i j : Nat} {L : List Rat} {l : List Sum2} {z : Sum2}, ls[i]? = some l → l[j]? = some z → ∃ r x, (rowsAt ls L)[i]? = some r ∧ r[j]? = some x ∧ (rowsAt (nodeNet ls i z) L)[i]? = some [x]
  | [], i, j, L, l, z, h, _ => by simp at h
  | a :: ls, 0, j, L, l, z, h, hz => by
    simp at h
    subst h
    refine ⟨_, tells z L, rfl, ?_, rfl⟩
    rw [List.getElem?_map, hz]
    rfl
  | a :: ls, i + 1, j, L, l, z, h, hz => rows_node (ls := ls) (i := i) (L := (a.map fun z => tells z L).map cutQ) (by simpa using h) hz
theorem pair_take {α β : Type} {R : α → β → Prop} : ∀ {xs : List α} {ys : List β} {i : Nat}, Paired R xs ys → Paired R (xs.take i) (ys.take i)
  | _, _, 0, _ => .nil
  | _, _, i + 1, .nil => .nil
  | _, _, i + 1, .cons a t => .cons a (pair_take t)
/-! ### promises -/
def spCheckN (K : PySem.W.Frag) (CN CL CC : Addr) : Sp := fun vs H Q _ => ∃ (p : Addr) (n i j : Nat) (ls : List (List Sum2)) (l : List Sum2) (z : Sum2), vs = [.ref p, .int (i : Int), .int (j : Int)] ∧ NetV K CN CL CC H p n ls ∧ ls.length ≤ 100 ∧ (∀ l ∈ ls, l.length ≤ 100) ∧ ls[i]? = some l ∧ l[j]? = some z ∧ ∀ H', Ex H H' → Q .non H'
def spNodeNet (K : PySem.W.Frag) (CN CL CC : Addr) : Sp := fun vs H Q _ => ∃ (p : Addr) (n i j W : Nat) (ls : List (List Sum2)) (l : List Sum2) (z : Sum2), vs = [.ref p, .int (i : Int), .int (j : Int)] ∧ NetV K CN CL CC H p n ls ∧ NetOk n ls W ∧ ls[i]? = some l ∧ l[j]? = some z ∧ ∀ q' H', Ex H H' → NetV K CN CL CC H' q' n (nodeNet ls i z) → Q (.ref q') H'
def spOutsN (K : PySem.W.Frag) (CN CL CC : Addr) : Sp := fun vs H Q _ => ∃ (p : Addr) (n : Nat) (ls : List (List Sum2)) (l : List Sum2), vs = [.ref p] ∧ NetV K CN CL CC H p n ls ∧ ls[ls.length - 1]? = some l ∧ Q (.int (l.length : Int)) H
theorem over_len : ∀ {n : Nat} {ls : List (List Sum2)}, Over n ls → ∀ l ∈ ls, l.length ≤ 4
  | _, [], _, l, h => by cases h
  | n, a :: ls, o, l, h => by
    rcases List.mem_cons.mp h with rfl | h
    · exact o.2.1.2
    · exact over_len o.2.2 l h
theorem ex_none {H H' : Hp} {p : Addr} (e : Ex H H') (h : H' p = none) : H p = none := Option.eq_none_iff_forall_ne_some.mpr fun o ho => by
  rw [e _ _ ho] at h
  cases h
end Nc
end
section
set_option maxRecDepth 100000
set_option maxHeartbeats 4000000
namespace Nc
open PySem PySem.Spec PyProof.Rows L2 Evl
/-! ### patterns -/
def pstep (pw : Int × Int) (r : Rat) : Int × Int := (if 0 < r.num then pw.1 + pw.2 else pw.1, 2 * pw.2)
def pfold (rows : List (List Rat)) : Int × Int := rows.flatten.foldl pstep (0, 1)
def patR (rows : List (List Rat)) : Int := (pfold rows.dropLast).1
theorem pfold_take {rows : List (List Rat)} {i : Nat} {r : List Rat} (h : rows[i]? = some r) : pfold (rows.take (i + 1)) = r.foldl pstep (pfold (rows.take i)) := by
  unfold pfold
  rw [List.take_add_one, h, List.flatten_append, List.foldl_append]
  simp
theorem fold_take {r : List Rat} {j : Nat} {x : Rat} {st : Int × Int} (h : r[j]? = some x) : (r.take (j + 1)).foldl pstep st = pstep ((r.take j).foldl pstep st) x := by
  rw [List.take_add_one, h, List.foldl_append]
  rfl
def spPatAt (K : PySem.W.Frag) (CN CL CC : Addr) : Sp := fun vs H Q _ => ∃ (p : Addr) (y : V) (ls : List (List Sum2)) (L : List Rat) (W D : Nat), vs = [.ref p, y] ∧ NetV K CN CL CC H p L.length ls ∧ RowV K H y L ∧ NetOk L.length ls W ∧ SvL 100 D L ∧ Fits W D ∧ ∀ H', Ex H H' → Q (.int (patR (rowsAt ls L))) H'
def spPatL (K : PySem.W.Frag) : Sp := fun vs H Q _ => ∃ (F : Addr) (rs : List V) (rows : List (List Rat)), vs = [.ref F] ∧ SqL K H F rs ∧ Paired (RowV K H) rs rows ∧ rows ≠ [] ∧ ∀ H', Ex H H' → Q (.int (patR rows)) H'
/-! ### short numbers -/
def short (r : Rat) : Bool := decide (((r.num.natAbs : Nat) : Int) < 100) && decide ((r.den : Int) < 100)
theorem short_sz {r : Rat} (h : short r = true) : Sz 7 7 r := by
  unfold short at h
  rw [Bool.and_eq_true] at h
  have h1 := of_decide_eq_true h.1
  have h2 := of_decide_eq_true h.2
  exact ⟨by omega, by omega⟩
def spShort (K : PySem.W.Frag) : Sp := fun vs H Q _ => ∃ (x : V) (L : List Rat), vs = [x] ∧ RowV K H x L ∧ L.length ≤ 100 ∧ ∀ H', Ex H H' → Q (.bl ((L.map short).all id)) H'
theorem all_short {L : List Rat} (h : (L.map short).all id = true) : SzL 7 7 L := by
  intro r hr
  rw [List.all_map] at h
  have := List.all_eq_true.mp h r hr
  exact short_sz this
theorem pair_drop {α β : Type} {R : α → β → Prop} : ∀ {xs : List α} {ys : List β} {i : Nat}, Paired R xs ys → Paired R (xs.drop i) (ys.drop i)
  | _, _, 0, h => h
  | _, _, i + 1, .nil => .nil
  | _, _, i + 1, .cons a t => pair_drop (i := i) t
def spNought (K : PySem.W.Frag) : Sp := fun vs H Q _ => ∃ (x y : V) (ls : List (List Sum2)) (L : List Rat) (W D : Nat), vs = [x, y] ∧ LayI K H x ls ∧ RowV K H y L ∧ NetOk L.length ls W ∧ SvL 100 D L ∧ 0 < D ∧ W ≤ 2 ^ 203 ∧ D ≤ 2 ^ 203 ∧
  ∀ v L' D' H', Ex H H' → RowV K H' v L' → L'.length = L.length → SvL 100 D' L' → Fits W D' → Q v H'
def spPlain (K : PySem.W.Frag) : Sp := fun vs H Q _ => ∃ (x : V) (L : List Rat), vs = [x] ∧ RowV K H x L ∧ Q (.bl true) H
/-- a spot put so -/
def putAt (L : List Rat) (i : Nat) (r : Rat) : List Rat := L.take i ++ [r] ++ L.drop (i + 1)
theorem len_put {L : List Rat} {i : Nat} {r : Rat} (h : i < L.length) : (putAt L i r).length = L.length := by
  simp [putAt]
  omega
theorem sv_put {n D E : Nat} {L : List Rat} {i : Nat} {r : Rat} (h : SvL n D L) (hr : Sv n E r) (hD : D ∣ E) : SvL n E (putAt L i r) := by
  intro a ha
  rcases List.mem_append.mp ha with ha | ha
  · rcases List.mem_append.mp ha with ha | ha
    · exact (h a (List.mem_of_mem_take ha)).mono (Nat.le_refl _) hD
    · rw [List.mem_singleton.mp ha]
      exact hr
  · exact (h a (List.mem_of_mem_drop ha)).mono (Nat.le_refl _) hD
theorem sz_put {n d : Nat} {L : List Rat} {i : Nat} {r : Rat} (h : SzL n d L) (hr : Sz n d r) : SzL n d (putAt L i r) := by
  intro a ha
  rcases List.mem_append.mp ha with ha | ha
  · rcases List.mem_append.mp ha with ha | ha
    · exact h a (List.mem_of_mem_take ha)
    · rw [List.mem_singleton.mp ha]
      exact hr
  · exact h a (List.mem_of_mem_drop ha)
theorem fits_put {W D E : Nat} (hW : W ≤ 2 ^ 203) (hD : D ≤ 2 ^ 203) (d0 : 0 < D) (e0 : 0 < E) (hE : E ≤ 2 ^ 70) : Fits W (D * E) := by
  refine ⟨Nat.mul_pos d0 e0, ?_⟩
  have h3 : W ^ 4 * (D * E) ≤ (2 ^ 203) ^ 4 * (2 ^ 203 * 2 ^ 70) := Nat.mul_le_mul (Nat.pow_le_pow_left hW 4) (Nat.mul_le_mul hD hE)
  exact Nat.lt_of_le_of_lt h3 (by decide +kernel)
end Nc
end
section
set_option maxRecDepth 100000
set_option maxHeartbeats 4000000
namespace Nc
open PySem PySem.Spec PyProof.Rows L2 Evl
/-! ### nets beside one another, the opposite: mathematics -/
def wid (a b : Nat) (l : List Sum2) : List Sum2 := l.map fun z => (List.replicate a 0 ++ z.1 ++ List.replicate b 0, z.2)
def besL : Nat → Nat → List (List Sum2) → List (List Sum2) → List (List Sum2)
  | a, b, l :: ls, m :: ms => (wid 0 b l ++ wid a 0 m) :: besL l.length m.length ls ms
  | _, _, [], _ => []
  | _, _, _ :: _, [] => []
theorem wid_len (a b : Nat) (l : List Sum2) : (wid a b l).length = l.length := List.length_map ..
theorem wid_00 (l : List Sum2) : wid 0 0 l = l := by
  unfold wid
  conv => rhs; rw [← List.map_id l]
  refine List.map_congr_left fun z _ => ?_
  show ([] ++ z.1 ++ [], z.2) = z
  rw [List.nil_append, List.append_nil]
theorem weighs_app (l m : List (Rat × Rat)) : weighs (l ++ m) = weighs l + weighs m := by
  have h := foldl_weigh m (weighs l)
  unfold weighs at h ⊢
  rw [List.foldl_append]
  exact h
theorem weighs_z : ∀ (n : Nat) (x : List Rat), weighs ((List.replicate n (0 : Rat)).zip x) = 0
  | 0, _ => rfl
  | n + 1, [] => rfl
  | n + 1, a :: x => by
    show weighs ((0, a) :: (List.replicate n (0 : Rat)).zip x) = 0
    rw [weighs_cons, weighs_z n x]
    grind
theorem tells_fst {z : Sum2} {A B : List Rat} {b : Nat} (h : z.1.length = A.length) : tells (List.replicate 0 0 ++ z.1 ++ List.replicate b 0, z.2) (A ++ B) = tells z A := by
  unfold tells
  show weighs ((([] ++ z.1) ++ List.replicate b 0).zip (A ++ B)) + z.2 = _
  rw [List.nil_append, List.zip_append h, weighs_app, weighs_z, Rat.add_zero]
theorem tells_snd {z : Sum2} {A B : List Rat} {a : Nat} (h : a = A.length) : tells (List.replicate a 0 ++ z.1 ++ List.replicate 0 0, z.2) (A ++ B) = tells z B := by
  unfold tells
  show weighs (((List.replicate a 0 ++ z.1) ++ []).zip (A ++ B)) + z.2 = _
  rw [List.append_nil, List.zip_append (by rw [List.length_replicate]; exact h), weighs_app, weighs_z, Rat.zero_add]
theorem wid_fst {A B : List Rat} {b : Nat} {l : List Sum2} (h : ∀ z ∈ l, z.1.length = A.length) : ((wid 0 b l).map fun z => tells z (A ++ B)) = l.map fun z => tells z A := by
  unfold wid
  rw [List.map_map]
  exact List.map_congr_left fun z hz => tells_fst (h z hz)
theorem wid_snd {A B : List Rat} {a : Nat} {l : List Sum2} (ha : a = A.length) : ((wid a 0 l).map fun z => tells z (A ++ B)) = l.map fun z => tells z B := by
  unfold wid
  rw [List.map_map]
  exact List.map_congr_left fun z _ => tells_snd ha
theorem bes_rows : ∀ {ls ms : List (List Sum2)} {A B : List Rat}, ls.length = ms.length → Over A.length ls → Over B.length ms → rowsAt (besL A.length B.length ls ms) (A ++ B) = List.zipWith (· ++ ·) (rowsAt ls A) (rowsAt ms B)
  | [], [], _, _, _, _, _ => rfl
  | l :: ls, m :: ms, A, B, h, ⟨o1, _, o3⟩, ⟨p1, _, p3⟩ => by
    show ((wid 0 B.length l ++ wid A.length 0 m).map fun z => tells z (A ++ B)) :: rowsAt (besL l.length m.length ls ms) _ = _
    rw [List.map_append, wid_fst o1, wid_snd rfl, List.map_append]
    have e := bes_rows (ls := ls) (ms := ms) (A := (l.map fun z => tells z A).map cutQ) (B := (m.map fun z => tells z B).map cutQ) (by simpa using h) (by simpa using o3) (by simpa using p3)
    rw [List.length_map, List.length_map, List.length_map, List.length_map] at e
    rw [e]
    rfl
theorem bes_rows0 : ∀ {ls ms : List (List Sum2)} {L : List Rat}, ls.length = ms.length → Over L.length ls → Over L.length ms → rowsAt (besL 0 0 ls ms) L = List.zipWith (· ++ ·) (rowsAt ls L) (rowsAt ms L)
  | [], [], _, _, _, _ => rfl
  | l :: ls, m :: ms, L, h, ⟨o1, _, o3⟩, ⟨p1, _, p3⟩ => by
    show ((wid 0 0 l ++ wid 0 0 m).map fun z => tells z L) :: rowsAt (besL l.length m.length ls ms) _ = _
    rw [wid_00, wid_00, List.map_append, List.map_append]
    have e := bes_rows (ls := ls) (ms := ms) (A := (l.map fun z => tells z L).map cutQ) (B := (m.map fun z => tells z L).map cutQ) (by simpa using h) (by simpa using o3) (by simpa using p3)
    rw [List.length_map, List.length_map, List.length_map, List.length_map] at e
    rw [e]
    rfl
/-- of each layer of both nets the nodes are four at most together -/
abbrev Both4 (ls ms : List (List Sum2)) : Prop := Paired (fun l m => l.length + m.length ≤ 4) ls ms
theorem bes_len : ∀ {ls ms : List (List Sum2)} {a b : Nat}, ls.length = ms.length → (besL a b ls ms).length = ls.length
  | [], [], _, _, _ => rfl
  | l :: ls, m :: ms, a, b, h => by
    show (besL l.length m.length ls ms).length + 1 = _
    rw [bes_len (by simpa using h)]
    rfl
theorem bes_over : ∀ {ls ms : List (List Sum2)} {a b : Nat}, Both4 ls ms → Over a ls → Over b ms → Over (a + b) (besL a b ls ms)
  | [], [], _, _, _, _, _ => trivial
  | l :: ls, m :: ms, a, b, .cons h4 h, ⟨o1, o2, o3⟩, ⟨p1, p2, p3⟩ => by
    refine ⟨fun z hz => ?_, ?_, ?_⟩
    · rcases List.mem_append.mp hz with hz | hz <;> obtain ⟨y, hy, rfl⟩ := List.mem_map.mp hz <;> simp only [List.length_append, List.length_replicate]
      · rw [o1 y hy]
        omega
      · rw [p1 y hy]
        omega
    · rw [List.length_append, wid_len, wid_len]
      omega
    · rw [List.length_append, wid_len, wid_len]
      exact bes_over h o3 p3
theorem bes_over0 {ls ms : List (List Sum2)} {n : Nat} (h : Both4 ls ms) (o : Over n ls) (p : Over n ms) : Over n (besL 0 0 ls ms) := by
  cases h with
  | nil => exact trivial
  | @cons l m ls ms h4 h =>
    obtain ⟨o1, o2, o3⟩ := o
    obtain ⟨p1, p2, p3⟩ := p
    show Over n ((wid 0 0 l ++ wid 0 0 m) :: besL l.length m.length ls ms)
    rw [wid_00, wid_00]
    refine ⟨fun z hz => ?_, ?_, ?_⟩
    · rcases List.mem_append.mp hz with hz | hz
      · exact o1 z hz
      · exact p1 z hz
    · rw [List.length_append]
      omega
    · rw [List.length_append]
      exact bes_over h o3 p3
theorem wid_num {W a b : Nat} {l : List Sum2} (h : ∀ z ∈ l, SvL 100 W z.1 ∧ Sv 100 W z.2) : ∀ z ∈ wid a b l, SvL 100 W z.1 ∧ Sv 100 W z.2 := by
  intro z hz
  obtain ⟨y, hy, rfl⟩ := List.mem_map.mp hz
  obtain ⟨h1, h2⟩ := h y hy
  refine ⟨fun r hr => ?_, h2⟩
  rcases List.mem_append.mp hr with hr | hr
  · rcases List.mem_append.mp hr with hr | hr
    · rw [List.eq_of_mem_replicate hr]
      exact (sv_zero (by decide)).mono (Nat.le_refl _) (Nat.one_dvd W)
    · exact h1 r hr
  · rw [List.eq_of_mem_replicate hr]
    exact (sv_zero (by decide)).mono (Nat.le_refl _) (Nat.one_dvd W)
theorem bes_num {W : Nat} : ∀ {ls ms : List (List Sum2)} {a b : Nat}, Num 100 W ls → Num 100 W ms → Num 100 W (besL a b ls ms)
  | [], _, _, _, _, _ => fun _ h => by cases h
  | _ :: _, [], _, _, _, _ => fun _ h => by cases h
  | l :: ls, m :: ms, a, b, h1, h2 => by
    intro x hx z hz
    rcases List.mem_cons.mp hx with rfl | hx
    · rcases List.mem_append.mp hz with hz | hz
      · exact wid_num (h1 l (by simp)) z hz
      · exact wid_num (h2 m (by simp)) z hz
    · exact bes_num (ls := ls) (ms := ms) (fun y hy => h1 y (by simp [hy])) (fun y hy => h2 y (by simp [hy])) x hx z hz
theorem bes_ok {n W : Nat} {ls ms : List (List Sum2)} (h : Both4 ls ms) (o : NetOk n ls W) (p : NetOk n ms W) : NetOk n (besL 0 0 ls ms) W := by
  have e := bes_len (a := 0) (b := 0) (Paired.length h)
  exact ⟨o.n1, o.n3, bes_over0 h o.over p.over, by rw [e]; exact o.l1, by rw [e]; exact o.l4, bes_num o.num p.num, o.w0⟩
theorem bes_at : ∀ {ls ms : List (List Sum2)} {a b i : Nat} {l m l' m' : List Sum2}, ls[i + 1]? = some l → ms[i + 1]? = some m → ls[i]? = some l' → ms[i]? = some m' → (besL a b ls ms)[i + 1]? = some (wid 0 m'.length l ++ wid l'.length 0 m)
  | [], _, _, _, _, _, _, _, _, h, _, _, _ => by cases h
  | _ :: _, [], _, _, _, _, _, _, _, _, h, _, _ => by cases h
  | l0 :: [], _ :: _, _, _, _, _, _, _, _, h, _, _, _ => by cases h
  | _ :: _ :: _, _ :: [], _, _, _, _, _, _, _, _, h, _, _ => by cases h
  | l0 :: l1 :: ls, m0 :: m1 :: ms, a, b, 0, l, m, l', m', h1, h2, h3, h4 => by
    cases h1
    cases h2
    cases h3
    cases h4
    rfl
  | l0 :: l1 :: ls, m0 :: m1 :: ms, a, b, i + 1, l, m, l', m', h1, h2, h3, h4 => by
    show (besL l0.length m0.length (l1 :: ls) (m1 :: ms))[i + 1]? = _
    exact bes_at (ls := l1 :: ls) (ms := m1 :: ms) (by simpa using h1) (by simpa using h2) (by simpa using h3) (by simpa using h4)
theorem bes_zero {ls ms : List (List Sum2)} {a b : Nat} {l m : List Sum2} (h1 : ls[0]? = some l) (h2 : ms[0]? = some m) : (besL a b ls ms)[0]? = some (wid 0 b l ++ wid a 0 m) := by
  cases ls with
  | nil => cases h1
  | cons l0 ls =>
    cases ms with
    | nil => cases h2
    | cons m0 ms =>
      cases h1
      cases h2
      rfl
/-! ### the opposite -/
def negS (z : Sum2) : Sum2 := (z.1.map fun r => -r, -z.2)
theorem negS_is (z : Sum2) : stimes (-1) z = negS z := by
  unfold stimes negS
  have e : ∀ r : Rat, -1 * r = -r := fun r => by grind
  rw [e]
  congr 1
  exact List.map_congr_left fun r _ => e r
theorem tells_neg (z : Sum2) (x : List Rat) : tells (negS z) x = -tells z x := by
  have h := tells_stimes (-1) z x
  rw [negS_is] at h
  rw [h]
  grind
def oppL : List (List Sum2) → List (List Sum2)
  | [] => []
  | [l] => [l.map negS]
  | l :: m :: ls => l :: oppL (m :: ls)
theorem opp_len : ∀ ls : List (List Sum2), (oppL ls).length = ls.length
  | [] => rfl
  | [_] => rfl
  | l :: m :: ls => by
    show (oppL (m :: ls)).length + 1 = _
    rw [opp_len (m :: ls)]
    rfl
theorem opp_eq : ∀ {ls : List (List Sum2)} {l : List Sum2}, ls[ls.length - 1]? = some l → oppL ls = ls.dropLast ++ [l.map negS]
  | [], _, h => by cases h
  | [_], _, h => by
    cases h
    rfl
  | l0 :: m :: ls, l, h => by
    have h' : (m :: ls)[(m :: ls).length - 1]? = some l := h
    show l0 :: oppL (m :: ls) = l0 :: (m :: ls).dropLast ++ _
    rw [opp_eq h']
    rfl
theorem opp_row : ∀ {ls : List (List Sum2)} {x o : List Rat}, (rowsAt ls x)[ls.length - 1]? = some o → (rowsAt (oppL ls) x)[ls.length - 1]? = some (o.map fun r => -r)
  | [], _, _, h => by cases h
  | [l], x, o, h => by
    have e : (l.map fun z => tells z x) = o := Option.some.inj h
    subst e
    show some ((l.map negS).map fun z => tells z x) = _
    rw [List.map_map, List.map_map]
    congr 1
    exact List.map_congr_left fun z _ => tells_neg z x
  | l :: m :: ls, x, o, h => by
    have h' : (rowsAt (m :: ls) ((l.map fun z => tells z x).map cutQ))[(m :: ls).length - 1]? = some o := h
    exact opp_row (ls := m :: ls) h'
theorem opp_over : ∀ {ls : List (List Sum2)} {n : Nat}, Over n ls → Over n (oppL ls)
  | [], _, h => h
  | [l], n, ⟨h1, h2, _⟩ => by
    refine ⟨fun z hz => ?_, by rw [List.length_map]; exact h2, trivial⟩
    obtain ⟨y, hy, rfl⟩ := List.mem_map.mp hz
    show (y.1.map _).length = n
    rw [List.length_map]
    exact h1 y hy
  | l :: m :: ls, n, ⟨h1, h2, h3⟩ => ⟨h1, h2, opp_over (ls := m :: ls) h3⟩
theorem sv_neg {n D : Nat} {r : Rat} (h : Sv n D r) : Sv n D (-r) := by
  refine ⟨?_, ?_⟩
  · rw [Rat.neg_num, Int.natAbs_neg]
    exact h.1
  · rw [Rat.neg_den]
    exact h.2
theorem neg_num {W : Nat} {l : List Sum2} (h : ∀ z ∈ l, SvL 100 W z.1 ∧ Sv 100 W z.2) : ∀ z ∈ l.map negS, SvL 100 W z.1 ∧ Sv 100 W z.2 := by
  intro z hz
  obtain ⟨y, hy, rfl⟩ := List.mem_map.mp hz
  obtain ⟨h1, h2⟩ := h y hy
  refine ⟨fun r hr => ?_, sv_neg h2⟩
  obtain ⟨q, hq, rfl⟩ := List.mem_map.mp hr
  exact sv_neg (h1 q hq)
theorem opp_num {W : Nat} : ∀ {ls : List (List Sum2)}, Num 100 W ls → Num 100 W (oppL ls)
  | [], h => h
  | [l], h => fun x hx z hz => by
    rw [List.mem_singleton.mp hx] at hz
    exact neg_num (h l (by simp)) z hz
  | l :: m :: ls, h => fun x hx z hz => by
    rcases List.mem_cons.mp hx with rfl | hx
    · exact h x (by simp) z hz
    · exact opp_num (ls := m :: ls) (fun y hy => h y (by simp [hy])) x hx z hz
theorem opp_ok {n W : Nat} {ls : List (List Sum2)} (o : NetOk n ls W) : NetOk n (oppL ls) W :=
  ⟨o.n1, o.n3, opp_over o.over, by rw [opp_len]; exact o.l1, by rw [opp_len]; exact o.l4, opp_num o.num, o.w0⟩
/-! ### bits of two nets -/
def bitQ (r : Rat) : Int := if 0 < r.num then 1 else 0
def bstep (pw : Int × Int) (b : Int) : Int × Int := (pw.1 + pw.2 * b, pw.2 * 2)
theorem pstep_bit (st : Int × Int) (r : Rat) : pstep st r = bstep st (bitQ r) := by
  unfold pstep bstep bitQ
  by_cases h : 0 < r.num
  · rw [if_pos h, if_pos h, Int.mul_one, Int.mul_comm]
  · rw [if_neg h, if_neg h, Int.mul_zero, Int.add_zero, Int.mul_comm]
theorem fold_bits : ∀ (r : List Rat) (st : Int × Int), r.foldl pstep st = (r.map bitQ).foldl bstep st
  | [], _ => rfl
  | a :: r, st => by
    show r.foldl pstep (pstep st a) = (r.map bitQ).foldl bstep (bstep st (bitQ a))
    rw [pstep_bit]
    exact fold_bits r _
theorem zip_init : ∀ {xs ys : List (List Rat)}, xs.length = ys.length → (List.zipWith (· ++ ·) xs ys).dropLast = List.zipWith (· ++ ·) xs.dropLast ys.dropLast
  | [], [], _ => rfl
  | [_], [_], _ => rfl
  | x :: x' :: xs, y :: y' :: ys, h => by
    show (x ++ y) :: (List.zipWith (· ++ ·) (x' :: xs) (y' :: ys)).dropLast = (x ++ y) :: List.zipWith (· ++ ·) (x' :: xs).dropLast (y' :: ys).dropLast
    rw [zip_init (xs := x' :: xs) (ys := y' :: ys) (by simpa using h)]
end Nc
end
section
set_option maxRecDepth 100000
set_option maxHeartbeats 4000000
namespace Nc
open PySem PySem.Spec PyProof.Rows L2 Evl
/-! ### like data, like things -/
theorem fd_inj {r q : Rat} (h : PyData.eqv (fd r) (fd q) = true) : r = q := by
  unfold fd at h
  simp only [PyData.eqv, PyData.eqvAll, Bool.and_eq_true, Bool.and_true, beq_iff_eq, decide_eq_true_eq] at h
  exact Rat.ext h.1 (by omega)
theorem inj_all {α : Type} {f : α → PyData} (hf : ∀ a b, PyData.eqv (f a) (f b) = true → a = b) : ∀ {xs ys : List α}, PyData.eqvAll (xs.map f) (ys.map f) = true → xs = ys
  | [], [], _ => rfl
  | [], _ :: _, h => by simp [PyData.eqvAll] at h
  | _ :: _, [], h => by simp [PyData.eqvAll] at h
  | x :: xs, y :: ys, h => by
    simp only [List.map_cons, PyData.eqvAll, Bool.and_eq_true] at h
    rw [hf x y h.1, inj_all hf h.2]
theorem sd_inj {z y : Sum2} (h : PyData.eqv (sd z) (sd y) = true) : z = y := by
  unfold sd at h
  simp only [PyData.eqv, PyData.eqvAll, Bool.and_eq_true, Bool.and_true] at h
  have h1 := inj_all (fun a b => fd_inj) h.1
  have h2 := fd_inj h.2
  exact Prod.ext h1 h2
/-- layers, a list of lists -/
def nl (ls : List (List Sum2)) : List PyData := ls.map fun l => .list (l.map sd)
theorem nl_inj {ls ms : List (List Sum2)} (h : PyData.eqv (.list (nl ls)) (.list (nl ms)) = true) : ls = ms := by
  simp only [PyData.eqv] at h
  exact inj_all (f := fun l : List Sum2 => PyData.list (l.map sd)) (fun a b h => by
    simp only [PyData.eqv] at h
    exact inj_all (fun _ _ => sd_inj) h) h
end Nc
end
section
set_option maxRecDepth 100000
set_option maxHeartbeats 4000000
namespace Nc
open PySem PySem.Spec PyProof.Rows L2 Evl
/-! ### layers of any numbers: the shared bottom is their product -/
theorem Stm.lst {s : Addr} {H : Hp} (h : Stm s H) : Lst s H := by
  obtain ⟨a, b, c, e⟩ := h
  exact ⟨_, e⟩
theorem Stm.ex {s : Addr} {H H' : Hp} (h : Stm s H) (e : Ex H H') : Stm s H' := by
  obtain ⟨a, b, c, k⟩ := h
  exact ⟨a, b, c, e _ _ k⟩
theorem Stm.new {s p : Addr} {H : Hp} {o : HO} (h : Stm s H) (hp : H p = none) : Stm s (upd H p o) := h.ex (Ex.new hp)
theorem Stm.mut {s p : Addr} {H : Hp} {o : HO} (h : Stm s H) (hs : s ≠ p) : Stm s (upd H p o) := by
  obtain ⟨a, b, c, k⟩ := h
  exact ⟨a, b, c, by rw [upd_ne hs]; exact k⟩
theorem Dr.dk {s : Addr} {H H' : Hp} (d : Dr s H H') : Dk s H H' := ⟨d.keep, Stm.lst d.st⟩

/-- tops and bottoms below 2 ^ 100 -/
def NumZ (ls : List (List Sum2)) : Prop := ∀ l ∈ ls, ∀ z ∈ l, SzL 100 100 z.1 ∧ Sz 100 100 z.2
def allR (ls : List (List Sum2)) : List Rat := ls.flatMap fun l => l.flatMap fun z => z.2 :: z.1
def denP : List Rat → Nat
  | [] => 1
  | r :: rs => r.den * denP rs
theorem denP_pos : ∀ rs : List Rat, 0 < denP rs
  | [] => Nat.one_pos
  | r :: rs => Nat.mul_pos (Nat.pos_of_ne_zero r.den_nz) (denP_pos rs)
theorem denP_dvd : ∀ {rs : List Rat} {r : Rat}, r ∈ rs → r.den ∣ denP rs
  | q :: rs, r, h => by
    rcases List.mem_cons.mp h with rfl | h
    · exact Nat.dvd_mul_right _ _
    · exact Nat.dvd_trans (denP_dvd h) (Nat.dvd_mul_left _ _)
theorem netok_z {n : Nat} {ls : List (List Sum2)} (n1 : 1 ≤ n) (n3 : n ≤ 3) (ov : Over n ls) (l1 : 1 ≤ ls.length) (l4 : ls.length ≤ 4) (nu : NumZ ls) : NetOk n ls (denP (allR ls)) := by
  refine ⟨n1, n3, ov, l1, l4, fun l hl z hz => ?_, denP_pos _⟩
  have h2 : z.2 ∈ allR ls := List.mem_flatMap.mpr ⟨l, hl, List.mem_flatMap.mpr ⟨z, hz, by simp⟩⟩
  have h1 : ∀ r ∈ z.1, r ∈ allR ls := fun r hr => List.mem_flatMap.mpr ⟨l, hl, List.mem_flatMap.mpr ⟨z, hz, by simp [hr]⟩⟩
  exact ⟨fun r hr => ⟨((nu l hl z hz).1 r hr).1, denP_dvd (h1 r hr)⟩, (nu l hl z hz).2.1, denP_dvd h2⟩
/-- layers that a net may have -/
structure LysOk (n : Nat) (ls : List (List Sum2)) : Prop where
  n1 : 1 ≤ n
  n3 : n ≤ 3
  over : Over n ls
  l1 : 1 ≤ ls.length
  l4 : ls.length ≤ 4
  nu : NumZ ls
theorem LysOk.ok {n : Nat} {ls : List (List Sum2)} (h : LysOk n ls) : NetOk n ls (denP (allR ls)) := netok_z h.n1 h.n3 h.over h.l1 h.l4 h.nu
def spSize07 : Sp := fun vs H Q _ => ∃ (s : Addr) (m : Nat), vs = [.ref s, .int (m : Int)] ∧ Stm s H ∧ 2 ≤ m ∧ m ≤ 10 ∧ ∀ (d : Nat) H', 1 ≤ d → d ≤ m → Dk s H H' → Stm s H' → Q (.int (d : Int)) H'
def spLays07 (K : PySem.W.Frag) : Sp := fun vs H Q _ => ∃ (s : Addr) (n : Nat), vs = [.ref s, .int (n : Int)] ∧ Stm s H ∧ 1 ≤ n ∧ n ≤ 3 ∧ ∀ D ls H', H D = none → Dk s H H' → Stm s H' → LayS K s H' D ls → LysOk n ls → Q (.ref D) H'
end Nc
end
section
set_option maxRecDepth 100000
set_option maxHeartbeats 4000000
namespace Nc
open PySem PySem.Spec PyProof.Rows L2
/-- an iterator at it over what stands at l: J its place, C what stands -/
structure Itr (it l : Addr) (J : Heap → Nat → Prop) (C : Heap → Array Value → Prop) : Prop where
  keepJ : ∀ {h h' : Heap} {k : Nat}, J h k → h'.get? it = h.get? it → J h' k
  keepC : ∀ {h h' : Heap} {xs : Array Value}, C h xs → h'.get? l = h.get? l → C h' xs
  item : ∀ {prog : Program} {w : World} {A : Around} {E : Value → Shared → Prop} {s : Shared} {k : Nat} {xs : Array Value} {x : Value} {Q : Value → Shared → Prop}, J s.heap k → C s.heap xs → xs[k]? = some x → (∀ h' : Heap, J h' (k + 1) → Heap.SameBut it s.heap h' → Q x { heap := h', gens := s.gens, drawn := s.drawn, toks := s.toks, os := s.os }) → wpAny (model prog w) A (Builtin.SmallTypes.nextOf (Value.ref it)) Q E s
  stop : ∀ {prog : Program} {w : World} {A : Around} {E : Value → Shared → Prop} {s : Shared} {k : Nat} {xs : Array Value} {Q : Value → Shared → Prop}, A.handled = none → J s.heap k → C s.heap xs → xs[k]? = none → (∀ (h' : Heap) (e : Addr), Heap.ExtBut it s.heap h' → (∃ o, h'.get? e = some o ∧ o.cls = Value.type "StopIteration") → E (Value.ref e) { heap := h', gens := s.gens, drawn := s.drawn, toks := s.toks, os := s.os }) → wpAny (model prog w) A (Builtin.SmallTypes.nextOf (Value.ref it)) Q E s
theorem itrL {it l : Addr} : Itr it l (fun h k => h.IsListIter it l k) (fun h xs => h.IsList l xs) :=
  ⟨fun ⟨o, h, r⟩ e => ⟨o, by rw [e]; exact h, r⟩, fun ⟨o, h, r⟩ e => ⟨o, by rw [e]; exact h, r⟩, fun a b c d => wpAny_nextOf_list_item a b c d, fun z a b c d => wpAny_nextOf_list_end z a b c d⟩
theorem itrT {it l : Addr} : Itr it l (fun h k => h.IsTupleIter it l k) (fun h xs => h.IsTuple l xs) :=
  ⟨fun ⟨o, h, r⟩ e => ⟨o, by rw [e]; exact h, r⟩, fun ⟨o, h, r⟩ e => ⟨o, by rw [e]; exact h, r⟩, fun a b c d => RZ.nextOf_tuple_item a b c d, fun z a b c d => RZ.nextOf_tuple_end z a b c d⟩
theorem push_ne {h : Heap} {o : Obj} {c : Addr} (hc : c < h.objs.size) : (h.push o).get? c = h.get? c := by
  cases e : h.get? c with
  | some u => exact Heap.get?_push_of_some _ e
  | none =>
    unfold Heap.get? Heap.push at *
    simp only [Array.getElem?_push] at *
    rw [if_neg (by exact Nat.ne_of_lt hc)]
    exact e
theorem zipG_next_item {J1 J2 : Heap → Nat → Prop} {C1 C2 : Heap → Array Value → Prop} {prog : Program} {w : World} {A : Around} {E : Value → Shared → Prop} {s : Shared} {z TI TO i1 i2 l1 l2 : Addr} {k1 k2 : Nat} {xs ys : Array Value} {x y a b : Value} {Q : Value → Shared → Prop}
    (ap : ZipApart z TI TO i1 i2 l1 l2) (hz : IsZip s.heap z TI TO Value.none) (hI : IsPair s.heap TI (Value.ref i1) (Value.ref i2)) (hO : IsPair s.heap TO a b) (I1 : Itr i1 l1 J1 C1) (I2 : Itr i2 l2 J2 C2) (h1 : J1 s.heap k1) (h2 : J2 s.heap k2) (t1 : C1 s.heap xs) (t2 : C2 s.heap ys)
    (li1 : i1 < s.heap.objs.size) (li2 : i2 < s.heap.objs.size) (x1 : xs[k1]? = some x) (x2 : ys[k2]? = some y)
    (q : ∀ h' : Heap, IsZip h' z TI TO (rawInt ↑s.heap.objs.size) → IsPair h' TO x y → J1 h' (k1 + 1) → J2 h' (k2 + 1) → IsPair h' s.heap.objs.size x y → h'.objs.size = s.heap.objs.size + 1 → (∀ (c : Addr) (o : Obj), c ≠ z → c ≠ TO → c ≠ i1 → c ≠ i2 → s.heap.get? c = some o → h'.get? c = some o) → Q (Value.ref s.heap.objs.size) { heap := h', gens := s.gens, drawn := s.drawn, toks := s.toks, os := s.os }) :
    wpAny (model prog w) A (Builtin.«zip.__next__» { pos := [Value.ref z] }) (fun fin s' => ∃ v, fin = Fin.done (Flow.ret v) ∧ Q v s') E s := by
  obtain ⟨hp, g, d, tk, os⟩ := s
  simp only at hz hI hO q li1 li2
  have ap0 := ap
  obtain ⟨a1, a2, a3, a4, a5, a6, a7, a8, a9, a10, b1, b2, b3, b4, b5, b6, b7, b8⟩ := ap
  wp_walk
  show wpAny (model prog w) A (((Builtin.SmallTypes.nextOf (Value.ref i1)).bind fun x => Sem.pure (some x)).onRaise fun _ => setField (Value.ref z) 0 Value.none) _ _ _
  refine wpAny_onRaise (wpAny_bind ?_)
  refine I1.item (k := k1) (xs := xs) (x := x) ?_ ?_ x1 fun h' t' sb => ?_
  · exact I1.keepJ h1 (Heap.get?_update_ne _ _ _ _ a3)
  · exact I1.keepC t1 (Heap.get?_update_ne _ _ _ _ b1)
  · have hO' : IsPair h' TO a b := by
      show h'.get? TO = _
      rw [sb.2 TO a8]
      show (hp.update z _).get? TO = _
      heap_get
    have h2' : J2 h' k2 := I2.keepJ h2 ((sb.2 i2 (Ne.symm a10)).trans (Heap.get?_update_ne _ _ _ _ a4))
    have t2' : C2 h' ys := I2.keepC t2 ((sb.2 l2 b7).trans (Heap.get?_update_ne _ _ _ _ b5))
    have hz' : h'.get? z = some { cls := Value.type "zip", data := Data.fields #[Value.ellipsis, Value.bool false, Value.bool false, Value.ref TI, Value.ref TO] } := by
      rw [sb.2 z (Ne.symm a3)]
      exact Heap.get?_update_self _ hz rfl
    refine wpAny_pure ?_
    wp_walk
    show wpAny (model prog w) A (((Builtin.SmallTypes.nextOf (Value.ref i2)).bind fun x => Sem.pure (some x)).onRaise fun _ => setField (Value.ref z) 0 Value.none) _ _ _
    refine wpAny_onRaise (wpAny_bind ?_)
    refine I2.item (k := k2) (xs := ys) (x := y) ?_ ?_ x2 fun h'' t'' sb2 => ?_
    · exact I2.keepJ h2' (Heap.get?_update_ne _ _ _ _ (Ne.symm a9))
    · exact I2.keepC t2' (Heap.get?_update_ne _ _ _ _ b6)
    · have hO2 : h''.get? TO = some { cls := Value.type "tuple", data := Data.seq #[x, b] } := by
        rw [sb2.2 TO a9]
        exact Heap.get?_update_self _ hO' rfl
      have hz2 : h''.get? z = some { cls := Value.type "zip", data := Data.fields #[Value.ellipsis, Value.bool false, Value.bool false, Value.ref TI, Value.ref TO] } := by
        rw [sb2.2 z (Ne.symm a4)]
        show (h'.update TO _).get? z = _
        heap_get
      refine wpAny_pure ?_
      wp_walk
      have es : (h''.update TO (Obj.mapSeq fun x => x.setIfInBounds (0 + 1) y)).objs.size = hp.objs.size := by
        rw [Heap.size_update, sb2.1]
        show (h'.update TO _).objs.size = _
        rw [Heap.size_update, sb.1]
        exact Heap.size_update _ _ _
      have k1' : ∀ (c : Addr) (o : Obj), c ≠ z → c ≠ TO → c ≠ i1 → c ≠ i2 → hp.get? c = some o → (h''.update TO (Obj.mapSeq fun x => x.setIfInBounds (0 + 1) y)).get? c = some o := by
        intro c o n1 n2 n3 n4 hc
        rw [Heap.get?_update_ne _ _ _ _ n2, sb2.2 c n4]
        show (h'.update TO _).get? c = some o
        rw [Heap.get?_update_ne _ _ _ _ n2, sb.2 c n3]
        show (hp.update z _).get? c = some o
        rw [Heap.get?_update_ne _ _ _ _ n1]
        exact hc
      have kTO : (h''.update TO (Obj.mapSeq fun x => x.setIfInBounds (0 + 1) y)).get? TO = some { cls := Value.type "tuple", data := Data.seq #[x, y] } := Heap.get?_update_self _ hO2 rfl
      have kz : (h''.update TO (Obj.mapSeq fun x => x.setIfInBounds (0 + 1) y)).get? z = some { cls := Value.type "zip", data := Data.fields #[Value.ellipsis, Value.bool false, Value.bool false, Value.ref TI, Value.ref TO] } := by
        rw [Heap.get?_update_ne _ _ _ _ (Ne.symm a2)]
        exact hz2
      have ki1 : J1 (h''.update TO (Obj.mapSeq fun x => x.setIfInBounds (0 + 1) y)) (k1 + 1) := I1.keepJ t' ((Heap.get?_update_ne _ _ _ _ (Ne.symm a8)).trans ((sb2.2 i1 a10).trans (Heap.get?_update_ne _ _ _ _ (Ne.symm a8))))
      have ki2 : J2 (h''.update TO (Obj.mapSeq fun x => x.setIfInBounds (0 + 1) y)) (k2 + 1) := I2.keepJ t'' (Heap.get?_update_ne _ _ _ _ (Ne.symm a9))
      rw [es]
      generalize h''.update TO (Obj.mapSeq fun x => x.setIfInBounds (0 + 1) y) = hu at es k1' kTO kz ki1 ki2 ⊢
      have up : ∀ {c : Addr} {o : Obj} {t f g}, c ≠ z → hu.get? c = some o → (((hu.push t).update z f).update z g).get? c = some o := fun n hc => by
        rw [Heap.get?_update_ne _ _ _ _ n, Heap.get?_update_ne _ _ _ _ n]
        exact Heap.get?_push_of_some _ hc
      refine ⟨_, rfl, q _ ?_ ?_ ?_ ?_ ?_ ?_ fun c o n1 n2 n3 n4 hc => up n1 (k1' c o n1 n2 n3 n4 hc)⟩
      · exact Heap.get?_update_self _ (Heap.get?_update_self _ (Heap.get?_push_of_some _ kz) rfl) rfl
      · exact up a2 kTO
      · refine I1.keepJ ki1 ?_
        rw [Heap.get?_update_ne _ _ _ _ a3, Heap.get?_update_ne _ _ _ _ a3]
        exact push_ne (by rw [es]; exact li1)
      · refine I2.keepJ ki2 ?_
        rw [Heap.get?_update_ne _ _ _ _ a4, Heap.get?_update_ne _ _ _ _ a4]
        exact push_ne (by rw [es]; exact li2)
      · have nz : hp.objs.size ≠ z := fun e => by
          exact absurd e (Nat.ne_of_gt (Heap.lt_size hz))
        show Heap.get? _ _ = _
        rw [Heap.get?_update_ne _ _ _ _ nz, Heap.get?_update_ne _ _ _ _ nz]
        rw [← es]; exact Heap.get?_push_size _ rfl
      · rw [Heap.size_update, Heap.size_update]
        show (hu.objs.push _).size = _
        rw [Array.size_push, es]
end Nc
end
section
set_option maxRecDepth 100000
set_option maxHeartbeats 4000000
namespace Nc
open PySem PySem.Spec PyProof.Rows L2
theorem zipG_next_end {J1 J2 : Heap → Nat → Prop} {C1 C2 : Heap → Array Value → Prop} {prog : Program} {w : World} {A : Around} {E : Value → Shared → Prop} {s : Shared} {z TI TO i1 i2 l1 l2 : Addr} {k1 k2 : Nat} {xs ys : Array Value} {a b : Value} {Q : PySem.Fin → Shared → Prop}
    (hA : A.handled = none) (ap : ZipApart z TI TO i1 i2 l1 l2) (hz : IsZip s.heap z TI TO Value.none) (hI : IsPair s.heap TI (Value.ref i1) (Value.ref i2)) (hO : IsPair s.heap TO a b) (I1 : Itr i1 l1 J1 C1) (I2 : Itr i2 l2 J2 C2) (h1 : J1 s.heap k1) (h2 : J2 s.heap k2) (t1 : C1 s.heap xs) (t2 : C2 s.heap ys)
    (x12 : xs[k1]? = none ∨ ys[k2]? = none)
    (q : ∀ (h' : Heap) (e : Addr), (∀ (c : Addr) (o : Obj), c ≠ z → c ≠ TO → c ≠ i1 → c ≠ i2 → s.heap.get? c = some o → h'.get? c = some o) → (∃ o, h'.get? e = some o ∧ o.cls = Value.type "StopIteration") → E (Value.ref e) { heap := h', gens := s.gens, drawn := s.drawn, toks := s.toks, os := s.os }) :
    wpAny (model prog w) A (Builtin.«zip.__next__» { pos := [Value.ref z] }) Q E s := by
  obtain ⟨hp, g, d, tk, os⟩ := s
  simp only at hz hI hO q
  obtain ⟨a1, a2, a3, a4, a5, a6, a7, a8, a9, a10, b1, b2, b3, b4, b5, b6, b7, b8⟩ := ap
  have fin : ∀ (h' : Heap) (e : Addr), (∀ (c : Addr) (o : Obj), c ≠ z → c ≠ TO → c ≠ i1 → c ≠ i2 → hp.get? c = some o → h'.get? c = some o) → (∃ o, h'.get? e = some o ∧ o.cls = Value.type "StopIteration") → h'.get? z = some { cls := Value.type "zip", data := Data.fields #[Value.ellipsis, Value.bool false, Value.bool false, Value.ref TI, Value.ref TO] } → E (Value.ref e) { heap := h'.update z (Obj.mapFields fun x => x.setIfInBounds 0 Value.none), gens := g, drawn := d, toks := tk, os := os } := by
    intro h' e kp se hz'
    refine q _ e (fun c o n1 n2 n3 n4 hc => by rw [Heap.get?_update_ne _ _ _ _ n1]; exact kp c o n1 n2 n3 n4 hc) ?_
    obtain ⟨o, ho, hc⟩ := se
    have ne : e ≠ z := fun eq => by
      rw [eq, hz'] at ho
      rw [← Option.some.inj ho] at hc
      have := Value.type.inj hc
      exact absurd this (by decide)
    exact ⟨o, by rw [Heap.get?_update_ne _ _ _ _ ne]; exact ho, hc⟩
  cases x1 : xs[k1]? with
  | none =>
    wp_walk
    show wpAny (model prog w) A (((Builtin.SmallTypes.nextOf (Value.ref i1)).bind fun x => Sem.pure (some x)).onRaise fun _ => setField (Value.ref z) 0 Value.none) _ _ _
    refine wpAny_onRaise (wpAny_bind ?_)
    refine I1.stop (k := k1) (xs := xs) hA ?_ ?_ x1 fun h' e ex se => ?_
    · exact I1.keepJ h1 (Heap.get?_update_ne _ _ _ _ a3)
    · exact I1.keepC t1 (Heap.get?_update_ne _ _ _ _ b1)
    · have hz' : h'.get? z = some { cls := Value.type "zip", data := Data.fields #[Value.ellipsis, Value.bool false, Value.bool false, Value.ref TI, Value.ref TO] } := ex z _ (Ne.symm a3) (Heap.get?_update_self _ hz rfl)
      wp_walk
      exact fin h' e (fun c o n1 n2 n3 n4 hc => ex c o n3 ((Heap.get?_update_ne _ _ _ _ n1).trans hc)) se hz'
  | some x =>
    have x2 : ys[k2]? = none := by
      rcases x12 with h | h
      · rw [x1] at h
        cases h
      · exact h
    wp_walk
    show wpAny (model prog w) A (((Builtin.SmallTypes.nextOf (Value.ref i1)).bind fun x => Sem.pure (some x)).onRaise fun _ => setField (Value.ref z) 0 Value.none) _ _ _
    refine wpAny_onRaise (wpAny_bind ?_)
    refine I1.item (k := k1) (xs := xs) (x := x) ?_ ?_ x1 fun h' t' sb => ?_
    · exact I1.keepJ h1 (Heap.get?_update_ne _ _ _ _ a3)
    · exact I1.keepC t1 (Heap.get?_update_ne _ _ _ _ b1)
    · have hO' : IsPair h' TO a b := by
        show h'.get? TO = _
        rw [sb.2 TO a8]
        show (hp.update z _).get? TO = _
        heap_get
      have h2' : J2 h' k2 := I2.keepJ h2 ((sb.2 i2 (Ne.symm a10)).trans (Heap.get?_update_ne _ _ _ _ a4))
      have t2' : C2 h' ys := I2.keepC t2 ((sb.2 l2 b7).trans (Heap.get?_update_ne _ _ _ _ b5))
      have hz' : h'.get? z = some { cls := Value.type "zip", data := Data.fields #[Value.ellipsis, Value.bool false, Value.bool false, Value.ref TI, Value.ref TO] } := by
        rw [sb.2 z (Ne.symm a3)]
        exact Heap.get?_update_self _ hz rfl
      refine wpAny_pure ?_
      wp_walk
      show wpAny (model prog w) A (((Builtin.SmallTypes.nextOf (Value.ref i2)).bind fun x => Sem.pure (some x)).onRaise fun _ => setField (Value.ref z) 0 Value.none) _ _ _
      refine wpAny_onRaise (wpAny_bind ?_)
      refine I2.stop (k := k2) (xs := ys) hA ?_ ?_ x2 fun h'' e ex se => ?_
      · exact I2.keepJ h2' (Heap.get?_update_ne _ _ _ _ (Ne.symm a9))
      · exact I2.keepC t2' (Heap.get?_update_ne _ _ _ _ b6)
      · have hz2 : h''.get? z = some { cls := Value.type "zip", data := Data.fields #[Value.ellipsis, Value.bool false, Value.bool false, Value.ref TI, Value.ref TO] } := ex z _ (Ne.symm a4) ((Heap.get?_update_ne _ _ _ _ (Ne.symm a2)).trans hz')
        wp_walk
        refine fin h'' e (fun c o n1 n2 n3 n4 hc => ex c o n4 ((Heap.get?_update_ne _ _ _ _ n2).trans ?_)) se hz2
        rw [sb.2 c n3]
        exact (Heap.get?_update_ne _ _ _ _ n1).trans hc
end Nc
end
section
set_option maxRecDepth 100000
set_option maxHeartbeats 4000000
namespace Nc
open PySem PySem.Spec PyProof.Rows L2
/-! zip of any two kinds of sequences: true a tuple, false a list -/
def SqX (K : PySem.W.Frag) : Bool → Hp → Addr → List V → Prop
  | true => fun H a xs => SqT K H a xs
  | false => fun H a xs => SqL K H a xs
def JX : Bool → Addr → Addr → Heap → Nat → Prop
  | true => fun it l h k => h.IsTupleIter it l k
  | false => fun it l h k => h.IsListIter it l k
def CX : Bool → Addr → Heap → Array Value → Prop
  | true => fun l h xs => h.IsTuple l xs
  | false => fun l h xs => h.IsList l xs
def itN : Bool → String
  | true => "tuple_iterator"
  | false => "list_iterator"
theorem itrX {it l : Addr} : (c : Bool) → Itr it l (JX c it l) (CX c l)
  | true => itrT
  | false => itrL
theorem JX.lt {it l : Addr} {h : Heap} {k : Nat} : {c : Bool} → JX c it l h k → it < h.objs.size
  | true, ⟨_, e, _⟩ => Heap.lt_size e
  | false, ⟨_, e, _⟩ => Heap.lt_size e
theorem JX.at' {it l : Addr} {h h' : Heap} {k : Nat} : {c : Bool} → JX c it l h k → (∀ o, h.get? it = some o → h'.get? it = some o) → JX c it l h' k
  | true, j, f => Heap.IsTupleIter.at j f
  | false, j, f => Heap.IsListIter.at j f
theorem CX.lt {l : Addr} {h : Heap} {xs : Array Value} : {c : Bool} → CX c l h xs → l < h.objs.size
  | true, ⟨_, e, _⟩ => Heap.lt_size e
  | false, ⟨_, e, _⟩ => Heap.lt_size e
theorem CX.push {l : Addr} {h : Heap} {xs : Array Value} {o : Obj} : {c : Bool} → CX c l h xs → CX c l (h.push o) xs
  | true, ⟨o', e, r⟩ => ⟨o', Heap.get?_push_of_some _ e, r⟩
  | false, ⟨o', e, r⟩ => ⟨o', Heap.get?_push_of_some _ e, r⟩
theorem invX {X : Cx} {pins : List (Addr × Obj)} {σ : L2.St} {H : Hp} {s : Shared} (I : Inv X pins σ H s) {a : Addr} {xs : List V} : {c : Bool} → SqX X.K c H a xs → ∃ its, Vals xs its ∧ CX c a s.heap its.toArray
  | true, q => by obtain ⟨its, r, p, _⟩ := I.tuple q; exact ⟨its, r, p⟩
  | false, q => by obtain ⟨its, r, p, _⟩ := I.list q; exact ⟨its, r, p.isList⟩
theorem injX {X : Cx} {pins : List (Addr × Obj)} {σ : L2.St} {H : Hp} {s : Shared} (I : Inv X pins σ H s) {a : Addr} {xs ys : List V} : {c : Bool} → SqX X.K c H a xs → SqX X.K c H a ys → xs = ys
  | true, q, r => I.tuple_inj q r
  | false, q, r => I.list_inj q r
section
variable {prog : Program} {w : World} {A : Around} {E : Value → Shared → Prop} {s : Shared}
theorem pyNext_zipX_item {c1 c2 : Bool} {z TI TO i1 i2 l1 l2 : Addr} {k1 k2 : Nat} {xs ys : Array Value} {x y a b : Value} {Q : Option Value → Shared → Prop} (D : ZipApart z TI TO i1 i2 l1 l2)
    (hz : IsZip s.heap z TI TO .none) (hTI : IsPair s.heap TI (.ref i1) (.ref i2)) (hTO : IsPair s.heap TO a b)
    (h1 : JX c1 i1 l1 s.heap k1) (h2 : JX c2 i2 l2 s.heap k2) (hl1 : CX c1 l1 s.heap xs) (hl2 : CX c2 l2 s.heap ys) (hx : xs[k1]? = some x) (hy : ys[k2]? = some y)
    (hQ : ∀ h', IsZip h' z TI TO (rawInt s.heap.objs.size) → IsPair h' TO x y → JX c1 i1 l1 h' (k1 + 1) → JX c2 i2 l2 h' (k2 + 1) → IsPair h' s.heap.objs.size x y → h'.objs.size = s.heap.objs.size + 1 →
      (∀ c o, c ≠ z → c ≠ TO → c ≠ i1 → c ≠ i2 → s.heap.get? c = some o → h'.get? c = some o) → Q (some (.ref s.heap.objs.size)) { s with heap := h' }) :
    wpAny (model prog w) A (pyNext (.ref z)) Q E s := by
  have hT : s.TypeIs (.ref z) "zip" := ⟨_, hz, rfl⟩
  unfold pyNext
  exact wpAny_bind (wpAny_attempt (wpAny_callSpecial?_slot (name := Str.ofString "__next__") hT F.slot_zip_next
    (wpAny_call_entry F.slot_zip_next hT F.entry_zip_next
      (zipG_next_item D hz hTI hTO (itrX c1) (itrX c2) h1 h2 hl1 hl2 h1.lt h2.lt hx hy fun h' a1 a2 a3 a4 a5 a6 a7 => wpAny_pure (hQ h' a1 a2 a3 a4 a5 a6 a7)) (F.args_zip_next_1 _))))
theorem pyNext_zipX_end {c1 c2 : Bool} {z TI TO i1 i2 l1 l2 : Addr} {k1 k2 : Nat} {xs ys : Array Value} {a b : Value} {Q : Option Value → Shared → Prop} (hh : A.handled = none) (D : ZipApart z TI TO i1 i2 l1 l2)
    (hz : IsZip s.heap z TI TO .none) (hTI : IsPair s.heap TI (.ref i1) (.ref i2)) (hTO : IsPair s.heap TO a b)
    (h1 : JX c1 i1 l1 s.heap k1) (h2 : JX c2 i2 l2 s.heap k2) (hl1 : CX c1 l1 s.heap xs) (hl2 : CX c2 l2 s.heap ys) (hend : xs[k1]? = none ∨ ys[k2]? = none)
    (hQ : ∀ h', (∀ c o, c ≠ z → c ≠ TO → c ≠ i1 → c ≠ i2 → s.heap.get? c = some o → h'.get? c = some o) → Q none { s with heap := h' }) : wpAny (model prog w) A (pyNext (.ref z)) Q E s := by
  have hT : s.TypeIs (.ref z) "zip" := ⟨_, hz, rfl⟩
  unfold pyNext
  refine wpAny_bind (wpAny_attempt (wpAny_callSpecial?_slot (name := Str.ofString "__next__") hT F.slot_zip_next
    (wpAny_call_entry F.slot_zip_next hT F.entry_zip_next (zipG_next_end hh D hz hTI hTO (itrX c1) (itrX c2) h1 h2 hl1 hl2 hend fun h' e hk he => ?_) (F.args_zip_next_1 _))))
  obtain ⟨o, ho, hc⟩ := he
  refine wpAny_bind (wpAny_isInstance (T := "StopIteration") (b := true) ⟨o, ho, hc⟩ isSubtype_stop ?_)
  exact wpAny_pure (hQ _ hk)
end
/-- the sequences at a and b as they stand at each turn, the items in new pairs -/
def ItzX (K : PySem.W.Frag) (c1 c2 : Bool) (a b : Addr) : It :=
  ⟨fun i H => ∃ (xs ys : List V) (x y : V), SqX K c1 H a xs ∧ SqX K c2 H b ys ∧ xs[i]? = some x ∧ ys[i]? = some y,
    fun i H v H' => ∃ T x y, v = .ref T ∧ H T = none ∧ H' = upd H T (.tup [x, y]) ∧ (∀ xs, SqX K c1 H a xs → xs[i]? = some x) ∧ ∀ ys, SqX K c2 H b ys → ys[i]? = some y,
    fun i H => ∃ xs ys : List V, SqX K c1 H a xs ∧ SqX K c2 H b ys ∧ (xs.length ≤ i ∨ ys.length ≤ i)⟩
theorem turn_zipX {c1 c2 : Bool} {P : Program} {w : World} {K : PySem.W.Frag} {elts : List Expr} {kk : Nat} {tpos : Pos} {a b z TI TO i1 i2 : Addr} (D : ZipApart z TI TO i1 i2 a b) :
    Turn P w K (.Tuple elts kk tpos) (ItzX K c1 c2 a b) [z, TI, TO, i1, i2] z (fun i h => IsZip h z TI TO .none ∧ IsPair h TI (.ref i1) (.ref i2) ∧ (∃ x y, IsPair h TO x y) ∧ JX c1 i1 a h i ∧ JX c2 i2 b h i) where
  mem := by simp
  obj := fun i h st c hc => by
    obtain ⟨hz, hTI, ⟨x, y, hTO⟩, h1, h2⟩ := st
    have e' : c = z ∨ c = TI ∨ c = TO ∨ c = i1 ∨ c = i2 := by simpa using hc
    rcases e' with q | q | q | q | q
    · rw [q]; exact ⟨_, hz, fun v q => nomatch q⟩
    · rw [q]; exact ⟨_, hTI, fun v q => nomatch q⟩
    · rw [q]; exact ⟨_, hTO, fun v q => nomatch q⟩
    · rw [q]
      cases c1
      · obtain ⟨o1, e1, _, d1⟩ := h1
        exact ⟨o1, e1, fun v q => by rw [d1] at q; cases q⟩
      · obtain ⟨o1, e1, _, d1⟩ := h1
        exact ⟨o1, e1, fun v q => by rw [d1] at q; cases q⟩
    · rw [q]
      cases c2
      · obtain ⟨o1, e1, _, d1⟩ := h2
        exact ⟨o1, e1, fun v q => by rw [d1] at q; cases q⟩
      · obtain ⟨o1, e1, _, d1⟩ := h2
        exact ⟨o1, e1, fun v q => by rw [d1] at q; cases q⟩
  keep := fun i h h' st k => by
    obtain ⟨hz, hTI, ⟨x, y, hTO⟩, h1, h2⟩ := st
    exact ⟨k z (by simp) _ hz, k TI (by simp) _ hTI, ⟨x, y, k TO (by simp) _ hTO⟩, h1.at' fun o q => k i1 (by simp) o q, h2.at' fun o q => k i2 (by simp) o q⟩
  item := by
    intro X hP hw hK hc i pins s σ H E I hf st hg
    subst hP hw hK
    obtain ⟨hz, hTI, ⟨x0, y0, hTO⟩, h1, h2⟩ := st
    obtain ⟨xs, ys, x, y, hqx, hqy, hx, hy⟩ := hg
    obtain ⟨its, rv, p⟩ := invX I hqx
    obtain ⟨its2, rv2, p2⟩ := invX I hqy
    obtain ⟨u, hu, ru⟩ := rv.get hx
    obtain ⟨u2, hu2, ru2⟩ := rv2.get hy
    have hzl : z < s.heap.objs.size := Heap.lt_size hz
    refine pyNext_zipX_item D hz hTI hTO h1 h2 p p2 (x := u) (y := u2) (by simpa using hu) (by simpa using hu2) fun h' z' TO' h1' h2' hT hsz hk => ?_
    refine ⟨_, rfl, wpAny_letOwnedTupleGo_zip (s := { s with heap := h' }) z' fun h'' z'' sb => ?_⟩
    have hT2 : h''.get? s.heap.objs.size = some { cls := .type "tuple", data := .seq #[u, u2] } := (sb.2 _ (Nat.ne_of_gt hzl)).trans hT
    have new : ObjOk X.prog X.w (upd H s.heap.objs.size (.tup [x, y])) h'' s.heap.objs.size (.tup [x, y]) :=
      ⟨by show 2 ≤ sizeLine; decide, [u, u2], .cons ru (.cons ru2 .nil), ⟨_, hT2, rfl, _, rfl⟩⟩
    have I1 : Inv X pins σ (upd H s.heap.objs.size (.tup [x, y])) { s with heap := h'' } :=
      I.turnedNew (t' := s.toks) (ch := [z, TI, TO, i1, i2]) (fun c o hb q => (sb.2 c (fun q' => hb (by simp [q']))).trans (hk c o (fun q' => hb (by simp [q'])) (fun q' => hb (by simp [q'])) (fun q' => hb (by simp [q'])) (fun q' => hb (by simp [q'])) q)) hf (Nat.le_refl _) new
    refine ⟨.ref s.heap.objs.size, _, I1, rfl, ⟨_, x, y, rfl, I.hok.fresh (Nat.le_refl _), rfl, fun l hl => by rw [injX I hl hqx]; exact hx, fun l hl => by rw [injX I hl hqy]; exact hy⟩, ⟨z'', ?_, ⟨u, u2, ?_⟩, ?_, ?_⟩, fun c hcm => ?_⟩
    · exact (sb.2 _ D.TIz).trans (hk _ _ D.TIz D.TITO D.TIi1 D.TIi2 hTI)
    · exact (sb.2 _ D.TOz).trans TO'
    · exact h1'.at' fun o q => (sb.2 _ D.i1z).trans q
    · exact h2'.at' fun o q => (sb.2 _ D.i2z).trans q
    · have hlt : c < s.heap.objs.size := by
        have e' : c = z ∨ c = TI ∨ c = TO ∨ c = i1 ∨ c = i2 := by simpa using hcm
        rcases e' with q | q | q | q | q
        · rw [q]; exact hzl
        · rw [q]; exact Heap.lt_size hTI
        · rw [q]; exact Heap.lt_size hTO
        · rw [q]; exact h1.lt
        · rw [q]; exact h2.lt
      rw [upd_ne (Nat.ne_of_lt hlt)]
      exact (hf c hcm).1
  done := by
    intro X hP hw hK hc i pins s σ H E I hf st hg
    subst hP hw hK
    obtain ⟨hz, hTI, ⟨x0, y0, hTO⟩, h1, h2⟩ := st
    obtain ⟨xs, ys, hqx, hqy, hend⟩ := hg
    obtain ⟨its, rv, p⟩ := invX I hqx
    obtain ⟨its2, rv2, p2⟩ := invX I hqy
    have l1 := rv.length
    have l2 := rv2.length
    have he : its.toArray[i]? = none ∨ its2.toArray[i]? = none := by
      rcases hend with q | q
      · exact .inl (by simp; omega)
      · exact .inr (by simp; omega)
    exact pyNext_zipX_end (I.ok.hd hc) D hz hTI hTO h1 h2 p p2 he fun h' hk => ⟨rfl, I.turnedL (t' := s.toks) (ch := [z, TI, TO, i1, i2]) (fun c o hb q =>
      hk c o (fun q' => hb (by simp [q'])) (fun q' => hb (by simp [q'])) (fun q' => hb (by simp [q'])) (fun q' => hb (by simp [q'])) q) hf⟩
  self := fun A i s Q E st h => wpAny_pyIter_zip st.1 h
end Nc
end
section
set_option maxRecDepth 100000
set_option maxHeartbeats 4000000
namespace Nc
open PySem PySem.Spec PyProof.Rows L2
abbrev zh1 (c : Bool) (h : Heap) (l1 : Addr) : Heap := h.push { cls := .type (itN c), data := .fields #[.ref l1, .int 0 0] }
abbrev zh2 (c c' : Bool) (h : Heap) (l1 l2 : Addr) : Heap := (zh1 c h l1).push { cls := .type (itN c'), data := .fields #[.ref l2, .int 0 0] }
abbrev zh3 (c c' : Bool) (h : Heap) (l1 l2 : Addr) : Heap := (zh2 c c' h l1 l2).push { cls := .type "tuple", data := .seq #[.ref h.objs.size, .ref (zh1 c h l1).objs.size] }
abbrev zh4 (c c' : Bool) (h : Heap) (l1 l2 : Addr) : Heap := (zh3 c c' h l1 l2).push { cls := .type "tuple", data := .seq #[.none, .none] }
abbrev zh5 (c c' : Bool) (h : Heap) (l1 l2 : Addr) : Heap := (zh4 c c' h l1 l2).push { cls := .type "zip", data := .fields #[.none, .bool false, .bool false, .ref (zh2 c c' h l1 l2).objs.size, .ref (zh3 c c' h l1 l2).objs.size] }
theorem pyIterX {c : Bool} {prog : Program} {w : World} {A : Around} {E : Value → Shared → Prop} {s : Shared} {l : Addr} {items : Array Value} {Q : Value → Shared → Prop} (h : CX c l s.heap items)
    (q : Q (Value.ref s.heap.objs.size) { heap := s.heap.push { cls := .type (itN c), data := .fields #[.ref l, .int 0 0] }, gens := s.gens, drawn := s.drawn, toks := s.toks, os := s.os }) : wpAny (model prog w) A (pyIter (Value.ref l)) Q E s := by
  cases c
  · exact wpAny_pyIter_list h q
  · exact wpAny_pyIter_tuple h q
theorem meets_zipX_new (c c' : Bool) (l1 l2 : Addr) (xs ys : Array Value) :
    Meets (Builtin.«zip.__new__» ⟨[.type "zip", .ref l1, .ref l2], []⟩) (fun _ R s => CX c l1 s.heap xs ∧ CX c' l2 s.heap ys ∧
      R (.ok (.ret (.ref (zh4 c c' s.heap l1 l2).objs.size))) { s with heap := zh5 c c' s.heap l1 l2 }) :=
  .of_wp fun prog w A R s h => by
    obtain ⟨hp, g, d, tk, os⟩ := s; obtain ⟨hl1, hl2, h⟩ := h
    have hsub := sub_zip
    have hL1 : CX c l1 (Shared.heap ⟨hp, g, d, tk, os⟩) xs := hl1
    have hL2 : CX c' l2 (Shared.heap ⟨hp.push { cls := .type (itN c), data := .fields #[.ref l1, .int 0 0] }, g, d, tk, os⟩) ys := CX.push hl2
    wp_walk using pyIterX hL1, pyIterX hL2
    exact ⟨_, rfl, h⟩
theorem JX.new {c : Bool} {h : Heap} {it l : Addr} (e : h.get? it = some { cls := .type (itN c), data := .fields #[.ref l, .int 0 0] }) : JX c it l h 0 := by
  cases c
  · exact ⟨_, e, rfl, rfl⟩
  · exact ⟨_, e, rfl, rfl⟩
theorem call_zipX {c c' : Bool} {prog : Program} {w : World} {A : Around} {E : Value → Shared → Prop} {s : Shared} {l1 l2 : Addr} {xs ys : Array Value} {Q : Value → Shared → Prop} (hl1 : CX c l1 s.heap xs) (hl2 : CX c' l2 s.heap ys)
    (h : ∀ h', IsZip h' (s.heap.objs.size + 4) (s.heap.objs.size + 2) (s.heap.objs.size + 3) .none → IsPair h' (s.heap.objs.size + 2) (.ref s.heap.objs.size) (.ref (s.heap.objs.size + 1)) →
      IsPair h' (s.heap.objs.size + 3) .none .none → JX c s.heap.objs.size l1 h' 0 → JX c' (s.heap.objs.size + 1) l2 h' 0 → h'.objs.size = s.heap.objs.size + 5 →
      (∀ c o, s.heap.get? c = some o → h'.get? c = some o) → Q (.ref (s.heap.objs.size + 4)) { s with heap := h' }) :
    wpAny (model prog w) A (call (.type "zip") [.ref l1, .ref l2]) Q E s := by
  refine callType_new F.called_zip (by decide) (F.typeCall_zip_2 _ _) (F.newCall_zip_2 _ _) (fun obj => F.args_object_init_3 obj _ _) F.entry_zip_new
    (meets_zipX_new c c' l1 l2 xs ys) ⟨hl1, hl2, ?_⟩
  have z1 : (zh1 c s.heap l1).objs.size = s.heap.objs.size + 1 := Heap.size_push ..
  have z2 : (zh2 c c' s.heap l1 l2).objs.size = s.heap.objs.size + 2 := by rw [Heap.size_push, z1]
  have z3 : (zh3 c c' s.heap l1 l2).objs.size = s.heap.objs.size + 3 := by rw [Heap.size_push, z2]
  have z4 : (zh4 c c' s.heap l1 l2).objs.size = s.heap.objs.size + 4 := by rw [Heap.size_push, z3]
  have z5 : (zh5 c c' s.heap l1 l2).objs.size = s.heap.objs.size + 5 := by rw [Heap.size_push, z4]
  have g5 : (zh5 c c' s.heap l1 l2).get? (zh4 c c' s.heap l1 l2).objs.size = some _ := Heap.get?_push_size _ rfl
  have g4 : (zh5 c c' s.heap l1 l2).get? (zh3 c c' s.heap l1 l2).objs.size = some _ := Heap.get?_push_of_some _ (Heap.get?_push_size _ rfl)
  have g3 : (zh5 c c' s.heap l1 l2).get? (zh2 c c' s.heap l1 l2).objs.size = some _ := Heap.get?_push_of_some _ (Heap.get?_push_of_some _ (Heap.get?_push_size _ rfl))
  have g2 : (zh5 c c' s.heap l1 l2).get? (zh1 c s.heap l1).objs.size = some _ := Heap.get?_push_of_some _ (Heap.get?_push_of_some _ (Heap.get?_push_of_some _ (Heap.get?_push_size _ rfl)))
  have g1 : (zh5 c c' s.heap l1 l2).get? s.heap.objs.size = some _ := Heap.get?_push_of_some _ (Heap.get?_push_of_some _ (Heap.get?_push_of_some _ (Heap.get?_push_of_some _ (Heap.get?_push_size _ rfl))))
  show _ ∧ _
  rw [z2, z3, z4] at g5
  rw [z1, z2] at g3
  rw [z3] at g4
  rw [z1] at g2
  rw [z4]
  exact ⟨⟨_, g5, rfl⟩, h _ g5 g3 g4 (JX.new g1) (JX.new g2) z5 fun c o x =>
    Heap.get?_push_of_some _ (Heap.get?_push_of_some _ (Heap.get?_push_of_some _ (Heap.get?_push_of_some _ (Heap.get?_push_of_some _ x))))⟩
def iZipX (K : PySem.W.Frag) (ta : TA) : TI := fun σ H R => ta σ H fun vs H1 => ∃ (c c' : Bool) (a b : Addr) (xs ys : List V), vs = [.ref a, .ref b] ∧ SqX K c H1 a xs ∧ SqX K c' H1 b ys ∧ R (ItzX K c c' a b) H1
/-- zip of any two: .. in zip(e, e2) -/
theorem pi_zipX {X : Cx} {e e2 : Expr} {ta : TA} {p pos tpos : Pos} {elts : List Expr} {kk : Nat} (hg : Gl X "zip") (hm : X.mg "zip" = none) (ha : PA X [e, e2] ta)
    (hs : starEach [e, e2] X.env = (false, eval e X.env) :: starEach [e2] X.env := by rfl) (hpl : (backTo pos (starEach [e2] X.env)).any (·.1) = false := by rfl) :
    PI X (.Tuple elts kk tpos) (.Call (.Name "zip" p) [e, e2] [] pos) (iZipX X.K ta) := by
  refine ⟨fun pins s σ H R I h => ?_⟩
  refine Call_ (ld_blt I hg hm PyProof.Rows.boot_zip (PyProof.Rows.callWith_type1 (thn (ha.run pos pins s σ H _ I h) fun us s1 ⟨vs, H1, I1, r1, q1⟩ => ?_) hs hpl))
  obtain ⟨c, c', a, b, xs, ys, ex, hqx, hqy, q⟩ := q1
  subst ex
  cases r1 with
  | cons r rr =>
    cases rr with
    | cons r' rr =>
      cases rr
      cases r
      cases r'
      obtain ⟨its, rv, p1⟩ := invX I1 hqx
      obtain ⟨its2, rv2, p2⟩ := invX I1 hqy
      refine call_zipX p1 p2 fun h' hz hTI hTO h1 h2 hsz hk => wpAny_pyIter_zip hz ?_
      have I2 : Inv X pins σ H1 { s1 with heap := h' } := I1.kept (t' := s1.toks) hk
      refine ⟨s1.heap.objs.size + 4, [s1.heap.objs.size + 4, s1.heap.objs.size + 2, s1.heap.objs.size + 3, s1.heap.objs.size, s1.heap.objs.size + 1], _, _, H1, rfl, I2, turn_zipX (PySem.W.ktu_apart s1.heap.objs.size a b p1.lt p2.lt), ⟨hz, hTI, ⟨_, _, hTO⟩, h1, h2⟩, fun c hcm => ?_, q⟩
      have e' : c = s1.heap.objs.size + 4 ∨ c = s1.heap.objs.size + 2 ∨ c = s1.heap.objs.size + 3 ∨ c = s1.heap.objs.size ∨ c = s1.heap.objs.size + 1 := by simpa using hcm
      have hle : s1.heap.objs.size ≤ c := by
        rcases e' with z | z | z | z | z
        · rw [z]; exact Nat.le_add_right _ _
        · rw [z]; exact Nat.le_add_right _ _
        · rw [z]; exact Nat.le_add_right _ _
        · rw [z]; exact Nat.le_refl _
        · rw [z]; exact Nat.le_add_right _ _
      exact I1.fpOk hle (I1.hok.fresh hle)
/-- a loop over zip of two of one length -/
theorem for_zipX {c c' : Bool} {K : PySem.W.Frag} {a b : Addr} {xs ys : List V} {g : TG} {tb : TS} {D : Ends} {σ : L2.St} {H : Hp} (hl : xs.length = ys.length) (Pv : Nat → L2.St → Hp → Prop) (h0 : Pv 0 σ H) (hq : ∀ i σ H, Pv i σ H → SqX K c H a xs ∧ SqX K c' H b ys)
    (hs : ∀ (i : Nat) (x y : V) (T : Addr) (σ : L2.St) (H : Hp), xs[i]? = some x → ys[i]? = some y → Pv i σ H → H T = none → g (.ref T) σ (upd H T (.tup [x, y])) fun σ2 H2 => tb { D with nx := Pv (i + 1), ct := Pv (i + 1), bk := D.nx } σ2 H2) (hd : ∀ σ H, Pv xs.length σ H → D.nx σ H) :
    ∃ W : Nat → Nat → L2.St → Hp → Prop, (∃ m, W 0 m σ H) ∧ ∀ i m σ H, W i m σ H →
      ((ItzX K c c' a b).stop i H ∧ D.nx σ H) ∨ ((ItzX K c c' a b).go i H ∧ ∃ N : L2.St → Hp → Prop, (∀ σ' H', N σ' H' → ∃ m', m' < m ∧ W (i + 1) m' σ' H') ∧ ∀ v H', (ItzX K c c' a b).yld i H v H' → g v σ H' fun σ2 H2 => tb { D with nx := N, ct := N, bk := D.nx } σ2 H2) := by
  refine ⟨fun i m σ H => m = xs.length - i ∧ i ≤ xs.length ∧ Pv i σ H, ⟨xs.length, rfl, Nat.zero_le _, h0⟩, ?_⟩
  rintro i m σ H ⟨rfl, hi, p⟩
  obtain ⟨qx, qy⟩ := hq i σ H p
  by_cases hlt : i < xs.length
  · have hx : xs[i]? = some xs[i] := List.getElem?_eq_getElem hlt
    have hlt2 : i < ys.length := by omega
    have hy : ys[i]? = some ys[i] := List.getElem?_eq_getElem hlt2
    refine .inr ⟨⟨xs, ys, _, _, qx, qy, hx, hy⟩, Pv (i + 1), fun σ' H' p' => ⟨xs.length - (i + 1), by omega, rfl, hlt, p'⟩, fun v H' y => ?_⟩
    obtain ⟨T, x', y', rfl, hT, rfl, f1, f2⟩ := y
    exact hs i x' y' T σ H (f1 xs qx) (f2 ys qy) p hT
  · have e : i = xs.length := by omega
    subst e
    exact .inl ⟨⟨xs, ys, qx, qy, Or.inl (Nat.le_refl _)⟩, hd σ H p⟩
/-- a comprehension over zip of two of one length -/
theorem lc_zipX {c c' : Bool} {K : PySem.W.Frag} {a b : Addr} {xs ys : List V} {g : TG} {tt : TT} {te : TE} {vs : List Nat} {σ : L2.St} {H1 : Hp} {D : Addr} {Qd : Hp → Prop} (hl : xs.length = ys.length) (Pv : Nat → Hp → Prop) (h0 : Pv 0 (upd H1 D (.lst []))) (hq : ∀ i H, Pv i H → SqX K c H a xs ∧ SqX K c' H b ys)
    (hs : ∀ (i : Nat) (x y : V) (T : Addr) (H : Hp), xs[i]? = some x → ys[i]? = some y → Pv i H → H T = none → g (.ref T) (wipe σ vs) (upd H T (.tup [x, y])) fun σ2 H2 => wipe σ2 vs = wipe σ vs ∧ tt σ2 H2 fun b H3 =>
      if b = true then te σ2 H3 fun y H4 => ∃ acc, H4 D = some (.lst acc) ∧ acc.length < sizeLine ∧ Pv (i + 1) (upd H4 D (.lst (acc ++ [y]))) else Pv (i + 1) H3) (hd : ∀ H, Pv xs.length H → Qd H) :
    ∃ W : Nat → Nat → Hp → Prop, (∃ m, W 0 m (upd H1 D (.lst []))) ∧ ∀ i m H, W i m H →
      ((ItzX K c c' a b).stop i H ∧ Qd H) ∨ ((ItzX K c c' a b).go i H ∧ ∃ Nx : Hp → Prop, (∀ H', Nx H' → ∃ m', m' < m ∧ W (i + 1) m' H') ∧ ∀ x H', (ItzX K c c' a b).yld i H x H' → g x (wipe σ vs) H' fun σ2 H2 => wipe σ2 vs = wipe σ vs ∧ tt σ2 H2 fun b H3 =>
        if b = true then te σ2 H3 fun y H4 => ∃ acc, H4 D = some (.lst acc) ∧ acc.length < sizeLine ∧ Nx (upd H4 D (.lst (acc ++ [y]))) else Nx H3) := by
  refine ⟨fun i m H => m = xs.length - i ∧ i ≤ xs.length ∧ Pv i H, ⟨xs.length, rfl, Nat.zero_le _, h0⟩, ?_⟩
  rintro i m H ⟨rfl, hi, p⟩
  obtain ⟨qx, qy⟩ := hq i H p
  by_cases hlt : i < xs.length
  · have hx : xs[i]? = some xs[i] := List.getElem?_eq_getElem hlt
    have hlt2 : i < ys.length := by omega
    have hy : ys[i]? = some ys[i] := List.getElem?_eq_getElem hlt2
    refine .inr ⟨⟨xs, ys, _, _, qx, qy, hx, hy⟩, Pv (i + 1), fun H' p' => ⟨xs.length - (i + 1), by omega, rfl, hlt, p'⟩, fun v H' y => ?_⟩
    obtain ⟨T, x', y', rfl, hT, rfl, f1, f2⟩ := y
    exact hs i x' y' T H (f1 xs qx) (f2 ys qy) p hT
  · have e : i = xs.length := by omega
    subst e
    exact .inl ⟨⟨xs, ys, qx, qy, Or.inl (Nat.le_refl _)⟩, hd H p⟩
end Nc
end
section
set_option maxRecDepth 100000
set_option maxHeartbeats 4000000
namespace Nc
open PySem PySem.Spec PyProof.Rows L2
/-! zip of any three -/
theorem drX {prog : Program} {w : World} {A : Around} (hh : A.handled = none) (it l : Addr) (hne : l ≠ it) (items : Array Value) : (c : Bool) → Draws prog w A it [it, l] items.size (fun i v => items[i]? = some v) (fun i h => JX c it l h i ∧ CX c l h items)
  | true => Draws.tuple hh it l hne items
  | false => Draws.list hh it l hne items
theorem bgX (l : Addr) (items : Array Value) : (c : Bool) → Begins (.ref l) { cls := .type (itN c), data := .fields #[.ref l, .int 0 0] } fun h => CX c l h items
  | true => begins_tuple l items
  | false => begins_list l items
theorem sep3 {n a b c : Nat} (ha : a < n) (hb : b < n) (hc : c < n) : ZipSep3 (n + 5) (n + 3) (n + 4) n (n + 1) (n + 2) [n, a] [n + 1, b] [n + 2, c] := by
  have f : ∀ {x y : Nat}, x ≠ y → ∀ z : @Eq Addr x y, False := fun h z => h z
  have g : ∀ {x y z : Nat}, x ≠ y → x ≠ z → ¬ (@Membership.mem Addr (List Addr) _ [y, z] x) := fun h1 h2 z => by
    rcases List.mem_cons.mp z with z | z
    · exact h1 z
    · exact h2 (List.mem_singleton.mp z)
  constructor
  all_goals first
    | exact f (by omega)
    | exact g (by omega) (by omega)
    | exact List.mem_cons_self ..
def Itz3 (K : PySem.W.Frag) (c1 c2 c3 : Bool) (a b c : Addr) : It :=
  ⟨fun i H => ∃ (xs ys us : List V) (x y u : V), SqX K c1 H a xs ∧ SqX K c2 H b ys ∧ SqX K c3 H c us ∧ xs[i]? = some x ∧ ys[i]? = some y ∧ us[i]? = some u,
    fun i H v H' => ∃ T x y u, v = .ref T ∧ H T = none ∧ H' = upd H T (.tup [x, y, u]) ∧ (∀ xs, SqX K c1 H a xs → xs[i]? = some x) ∧ (∀ ys, SqX K c2 H b ys → ys[i]? = some y) ∧ ∀ us, SqX K c3 H c us → us[i]? = some u,
    fun i H => ∃ xs ys us : List V, SqX K c1 H a xs ∧ SqX K c2 H b ys ∧ SqX K c3 H c us ∧ i ≤ xs.length ∧ i ≤ ys.length ∧ i ≤ us.length ∧ (i = xs.length ∨ i = ys.length ∨ i = us.length)⟩
theorem turn_zip3 {c1 c2 c3 : Bool} {P : Program} {w : World} {K : PySem.W.Frag} {elts : List Expr} {kk : Nat} {tpos : Pos} {a b c z TI TO i1 i2 i3 : Addr} (S : ZipSep3 z TI TO i1 i2 i3 [i1, a] [i2, b] [i3, c]) (n1 : a ≠ i1) (n2 : b ≠ i2) (n3 : c ≠ i3) :
    Turn P w K (.Tuple elts kk tpos) (Itz3 K c1 c2 c3 a b c) [z, TI, TO, i1, i2, i3] z (fun i h => IsZip h z TI TO .none ∧ IsTupOf3 h TI (.ref i1) (.ref i2) (.ref i3) ∧ (∃ x y u, IsTupOf3 h TO x y u) ∧ JX c1 i1 a h i ∧ JX c2 i2 b h i ∧ JX c3 i3 c h i) where
  mem := by simp
  obj := fun i h st d hd => by
    obtain ⟨hz, hTI, ⟨x, y, u, hTO⟩, h1, h2, h3⟩ := st
    have jx : ∀ {cc : Bool} {it l : Addr} {k : Nat}, JX cc it l h k → ∃ o, h.get? it = some o ∧ ∀ v, o.data ≠ .cell v := by
      intro cc it l k hj
      cases cc
      · obtain ⟨o1, e1, _, d1⟩ := hj
        exact ⟨o1, e1, fun v q => by rw [d1] at q; cases q⟩
      · obtain ⟨o1, e1, _, d1⟩ := hj
        exact ⟨o1, e1, fun v q => by rw [d1] at q; cases q⟩
    have e' : d = z ∨ d = TI ∨ d = TO ∨ d = i1 ∨ d = i2 ∨ d = i3 := by simpa using hd
    rcases e' with q | q | q | q | q | q
    · rw [q]; exact ⟨_, hz, fun v q => nomatch q⟩
    · rw [q]; exact ⟨_, hTI, fun v q => nomatch q⟩
    · rw [q]; exact ⟨_, hTO, fun v q => nomatch q⟩
    · rw [q]; exact jx h1
    · rw [q]; exact jx h2
    · rw [q]; exact jx h3
  keep := fun i h h' st k => by
    obtain ⟨hz, hTI, ⟨x, y, u, hTO⟩, h1, h2, h3⟩ := st
    exact ⟨k z (by simp) _ hz, k TI (by simp) _ hTI, ⟨x, y, u, k TO (by simp) _ hTO⟩, h1.at' fun o q => k i1 (by simp) o q, h2.at' fun o q => k i2 (by simp) o q, h3.at' fun o q => k i3 (by simp) o q⟩
  item := by
    intro X hP hw hK hc i pins s σ H E I hf st hg
    subst hP hw hK
    obtain ⟨hz, hTI, ⟨x0, y0, u0, hTO⟩, h1, h2, h3⟩ := st
    obtain ⟨xs, ys, us, x, y, u, hqx, hqy, hqu, hx, hy, hu⟩ := hg
    obtain ⟨its, rv, p⟩ := invX I hqx
    obtain ⟨its2, rv2, p2⟩ := invX I hqy
    obtain ⟨its3, rv3, p3⟩ := invX I hqu
    obtain ⟨v1, hv1, ru1⟩ := rv.get hx
    obtain ⟨v2, hv2, ru2⟩ := rv2.get hy
    obtain ⟨v3, hv3, ru3⟩ := rv3.get hu
    have hzl : z < s.heap.objs.size := Heap.lt_size hz
    have hh : X.A.in1.handled = none := I.ok.hd hc
    have g1 := (List.getElem?_eq_some_iff.mp hv1).1
    have g2 := (List.getElem?_eq_some_iff.mp hv2).1
    have g3 := (List.getElem?_eq_some_iff.mp hv3).1
    refine wpAny_pyNext_zipD3_item S (drX hh i1 a n1 its.toArray c1) (drX hh i2 b n2 its2.toArray c2) (drX hh i3 c n3 its3.toArray c3) hz hTI hTO ⟨h1, p⟩ ⟨h2, p2⟩ ⟨h3, p3⟩ (by simpa using g1) (by simpa using g2) (by simpa using g3) fun x1 x2 x3 h' tk y1 y2 y3 z' TO' s1 s2 s3 hT hsz hk => ?_
    have e1 : x1 = v1 := by
      have : its[i]? = some x1 := by simpa using y1
      rw [hv1] at this
      exact (Option.some.inj this).symm
    have e2 : x2 = v2 := by
      have : its2[i]? = some x2 := by simpa using y2
      rw [hv2] at this
      exact (Option.some.inj this).symm
    have e3 : x3 = v3 := by
      have : its3[i]? = some x3 := by simpa using y3
      rw [hv3] at this
      exact (Option.some.inj this).symm
    subst e1 e2 e3
    refine ⟨_, rfl, wpAny_letOwnedTupleGo_zip (s := { s with heap := h', toks := tk }) z' fun h'' z'' sb => ?_⟩
    have hT2 : h''.get? s.heap.objs.size = some { cls := .type "tuple", data := .seq #[x1, x2, x3] } := (sb.2 _ (Nat.ne_of_gt hzl)).trans hT
    have new : ObjOk X.prog X.w (upd H s.heap.objs.size (.tup [x, y, u])) h'' s.heap.objs.size (.tup [x, y, u]) :=
      ⟨by show 3 ≤ sizeLine; decide, [x1, x2, x3], .cons ru1 (.cons ru2 (.cons ru3 .nil)), ⟨_, hT2, rfl, _, rfl⟩⟩
    have I1 : Inv X pins σ (upd H s.heap.objs.size (.tup [x, y, u])) { s with heap := h'', toks := tk } :=
      I.turnedNew (t' := tk) (ch := [z, TI, TO, i1, i2, i3]) (fun c o hb q => (sb.2 c (fun q' => hb (by simp [q']))).trans (hk c o (fun q' => hb (by simp [q'])) (fun q' => hb (by simp [q'])) (fun q' => hb (by simp [q'])) (fun q' => hb (by simp [q'])) (fun q' => hb (by simp [q'])) q)) hf (Nat.le_refl _) new
    refine ⟨.ref s.heap.objs.size, _, I1, rfl, ⟨_, x, y, u, rfl, I.hok.fresh (Nat.le_refl _), rfl, fun l hl => by rw [injX I hl hqx]; exact hx, fun l hl => by rw [injX I hl hqy]; exact hy, fun l hl => by rw [injX I hl hqu]; exact hu⟩, ⟨z'', ?_, ⟨x1, x2, x3, ?_⟩, ?_, ?_, ?_⟩, fun d hcm => ?_⟩
    · exact (sb.2 _ S.TIz).trans (hk _ _ S.TIz S.TITO S.TIi1 S.TIi2 S.TIi3 hTI)
    · exact (sb.2 _ S.TOz).trans TO'
    · exact s1.1.at' fun o q => (sb.2 _ S.zi1.symm).trans q
    · exact s2.1.at' fun o q => (sb.2 _ S.zi2.symm).trans q
    · exact s3.1.at' fun o q => (sb.2 _ S.zi3.symm).trans q
    · have hlt : d < s.heap.objs.size := by
        have e' : d = z ∨ d = TI ∨ d = TO ∨ d = i1 ∨ d = i2 ∨ d = i3 := by simpa using hcm
        rcases e' with q | q | q | q | q | q
        · rw [q]; exact hzl
        · rw [q]; exact Heap.lt_size hTI
        · rw [q]; exact Heap.lt_size hTO
        · rw [q]; exact h1.lt
        · rw [q]; exact h2.lt
        · rw [q]; exact h3.lt
      rw [upd_ne (Nat.ne_of_lt hlt)]
      exact (hf d hcm).1
  done := by
    intro X hP hw hK hc i pins s σ H E I hf st hg
    subst hP hw hK
    obtain ⟨hz, hTI, ⟨x0, y0, u0, hTO⟩, h1, h2, h3⟩ := st
    obtain ⟨xs, ys, us, hqx, hqy, hqu, k1, k2, k3, hend⟩ := hg
    obtain ⟨its, rv, p⟩ := invX I hqx
    obtain ⟨its2, rv2, p2⟩ := invX I hqy
    obtain ⟨its3, rv3, p3⟩ := invX I hqu
    have l1 := rv.length
    have l2 := rv2.length
    have l3 := rv3.length
    have hh : X.A.in1.handled = none := I.ok.hd hc
    have m1 : its.toArray.size = its.length := rfl
    have m2 : its2.toArray.size = its2.length := rfl
    have m3 : its3.toArray.size = its3.length := rfl
    refine wpAny_pyNext_zipD3_end S (drX hh i1 a n1 its.toArray c1) (drX hh i2 b n2 its2.toArray c2) (drX hh i3 c n3 its3.toArray c3) hz hTI hTO ⟨h1, p⟩ ⟨h2, p2⟩ ⟨h3, p3⟩ (by omega) (by omega) (by omega) (by omega) fun h' tk hk => ⟨rfl, I.turnedL (t' := tk) (ch := [z, TI, TO, i1, i2, i3]) (fun c o hb q =>
      hk c o (fun q' => hb (by simp [q'])) (fun q' => hb (by simp [q'])) (fun q' => hb (by simp [q'])) (fun q' => hb (by simp [q'])) (fun q' => hb (by simp [q'])) q) hf⟩
  self := fun A i s Q E st h => wpAny_pyIter_zip st.1 h
def iZip3 (K : PySem.W.Frag) (ta : TA) : TI := fun σ H R => ta σ H fun vs H1 => ∃ (c c' c'' : Bool) (a b d : Addr) (xs ys us : List V), vs = [.ref a, .ref b, .ref d] ∧ SqX K c H1 a xs ∧ SqX K c' H1 b ys ∧ SqX K c'' H1 d us ∧ R (Itz3 K c c' c'' a b d) H1
/-- zip of any three: .. in zip(e, e2, e3) -/
theorem pi_zip3 {X : Cx} {e e2 e3 : Expr} {ta : TA} {p pos tpos : Pos} {elts : List Expr} {kk : Nat} (hg : Gl X "zip") (hm : X.mg "zip" = none) (ha : PA X [e, e2, e3] ta)
    (hs : starEach [e, e2, e3] X.env = (false, eval e X.env) :: starEach [e2, e3] X.env := by rfl) (hpl : (backTo pos (starEach [e2, e3] X.env)).any (·.1) = false := by rfl) :
    PI X (.Tuple elts kk tpos) (.Call (.Name "zip" p) [e, e2, e3] [] pos) (iZip3 X.K ta) := by
  refine ⟨fun pins s σ H R I h => ?_⟩
  refine Call_ (ld_blt I hg hm PyProof.Rows.boot_zip (PyProof.Rows.callWith_type1 (thn (ha.run pos pins s σ H _ I h) fun us s1 ⟨vs, H1, I1, r1, q1⟩ => ?_) hs hpl))
  obtain ⟨c, c', c'', a, b, d, xs, ys, zs, ex, hqx, hqy, hqz, q⟩ := q1
  subst ex
  cases r1 with
  | cons r rr =>
    cases rr with
    | cons r' rr =>
      cases rr with
      | cons r'' rr =>
        cases rr
        cases r
        cases r'
        cases r''
        obtain ⟨its, rv, p1⟩ := invX I1 hqx
        obtain ⟨its2, rv2, p2⟩ := invX I1 hqy
        obtain ⟨its3, rv3, p3⟩ := invX I1 hqz
        refine zip_begins3 (bgX a its.toArray c) (bgX b its2.toArray c') (bgX d its3.toArray c'') p1 p2 p3 fun h' hz hTI hTO g1 g2 g3 hsz hk => wpAny_pyIter_zip hz ?_
        have I2 : Inv X pins σ H1 { s1 with heap := h' } := I1.kept (t' := s1.toks) hk
        have la := p1.lt
        have lb := p2.lt
        have ld := p3.lt
        refine ⟨s1.heap.objs.size + 5, [s1.heap.objs.size + 5, s1.heap.objs.size + 3, s1.heap.objs.size + 4, s1.heap.objs.size, s1.heap.objs.size + 1, s1.heap.objs.size + 2], _, _, H1, rfl, I2, turn_zip3 (sep3 la lb ld) (Nat.ne_of_lt la) (Nat.ne_of_lt (Nat.lt_succ_of_lt lb)) (Nat.ne_of_lt (Nat.lt_succ_of_lt (Nat.lt_succ_of_lt ld))), ⟨hz, hTI, ⟨_, _, _, hTO⟩, JX.new g1, JX.new g2, JX.new g3⟩, fun c hcm => ?_, q⟩
        have e' : c = s1.heap.objs.size + 5 ∨ c = s1.heap.objs.size + 3 ∨ c = s1.heap.objs.size + 4 ∨ c = s1.heap.objs.size ∨ c = s1.heap.objs.size + 1 ∨ c = s1.heap.objs.size + 2 := by simpa using hcm
        have hle : s1.heap.objs.size ≤ c := by
          rcases e' with z | z | z | z | z | z
          · rw [z]; exact Nat.le_add_right _ _
          · rw [z]; exact Nat.le_add_right _ _
          · rw [z]; exact Nat.le_add_right _ _
          · rw [z]; exact Nat.le_refl _
          · rw [z]; exact Nat.le_add_right _ _
          · rw [z]; exact Nat.le_add_right _ _
        exact I1.fpOk hle (I1.hok.fresh hle)
/-- a loop over zip of three of one length -/
theorem for_zip3 {c c' c'' : Bool} {K : PySem.W.Frag} {a b d : Addr} {xs ys us : List V} {g : TG} {tb : TS} {D : Ends} {σ : L2.St} {H : Hp} (hl : xs.length = ys.length) (hl2 : xs.length = us.length) (Pv : Nat → L2.St → Hp → Prop) (h0 : Pv 0 σ H) (hq : ∀ i σ H, Pv i σ H → SqX K c H a xs ∧ SqX K c' H b ys ∧ SqX K c'' H d us)
    (hs : ∀ (i : Nat) (x y u : V) (T : Addr) (σ : L2.St) (H : Hp), xs[i]? = some x → ys[i]? = some y → us[i]? = some u → Pv i σ H → H T = none → g (.ref T) σ (upd H T (.tup [x, y, u])) fun σ2 H2 => tb { D with nx := Pv (i + 1), ct := Pv (i + 1), bk := D.nx } σ2 H2) (hd : ∀ σ H, Pv xs.length σ H → D.nx σ H) :
    ∃ W : Nat → Nat → L2.St → Hp → Prop, (∃ m, W 0 m σ H) ∧ ∀ i m σ H, W i m σ H →
      ((Itz3 K c c' c'' a b d).stop i H ∧ D.nx σ H) ∨ ((Itz3 K c c' c'' a b d).go i H ∧ ∃ N : L2.St → Hp → Prop, (∀ σ' H', N σ' H' → ∃ m', m' < m ∧ W (i + 1) m' σ' H') ∧ ∀ v H', (Itz3 K c c' c'' a b d).yld i H v H' → g v σ H' fun σ2 H2 => tb { D with nx := N, ct := N, bk := D.nx } σ2 H2) := by
  refine ⟨fun i m σ H => m = xs.length - i ∧ i ≤ xs.length ∧ Pv i σ H, ⟨xs.length, rfl, Nat.zero_le _, h0⟩, ?_⟩
  rintro i m σ H ⟨rfl, hi, p⟩
  obtain ⟨qx, qy, qu⟩ := hq i σ H p
  by_cases hlt : i < xs.length
  · have hx : xs[i]? = some xs[i] := List.getElem?_eq_getElem hlt
    have hlt2 : i < ys.length := by omega
    have hlt3 : i < us.length := by omega
    have hy : ys[i]? = some ys[i] := List.getElem?_eq_getElem hlt2
    have hu : us[i]? = some us[i] := List.getElem?_eq_getElem hlt3
    refine .inr ⟨⟨xs, ys, us, _, _, _, qx, qy, qu, hx, hy, hu⟩, Pv (i + 1), fun σ' H' p' => ⟨xs.length - (i + 1), by omega, rfl, hlt, p'⟩, fun v H' y => ?_⟩
    obtain ⟨T, x', y', u', rfl, hT, rfl, f1, f2, f3⟩ := y
    exact hs i x' y' u' T σ H (f1 xs qx) (f2 ys qy) (f3 us qu) p hT
  · have e : i = xs.length := by omega
    subst e
    exact .inl ⟨⟨xs, ys, us, qx, qy, qu, Nat.le_refl _, by omega, by omega, Or.inl rfl⟩, hd σ H p⟩
end Nc
end
section
set_option maxRecDepth 100000
set_option maxHeartbeats 4000000
namespace Nc
open PySem PySem.Spec PyProof.Rows L2
/-! enumerate of a list or a tuple -/
theorem meets_enum_new1 {v : Value} {o : Obj} {H : Heap → Prop} (B : Begins v o H) :
    Meets (Builtin.«enumerate.__new__» ⟨[.type "enumerate", v], []⟩) (fun _ R s => H s.heap ∧
      R (.ok (.ret (.ref (s.heap.push o).objs.size))) { s with heap := (s.heap.push o).push { cls := .type "enumerate", data := .fields #[.none, .bool false, .ref s.heap.objs.size, rawInt 0, .none, .none] } }) :=
  .of_wp fun prog w A R s h => by
    obtain ⟨hp, g, d, tk, os⟩ := s; obtain ⟨h1, h⟩ := h
    have hsub := sub_enumerate
    have q1 : ∀ {A' : Around} {E : Value → Shared → Prop} {Q : Value → Shared → Prop}, Q (.ref hp.objs.size) ⟨hp.push o, g, d, tk, os⟩ → wpAny (model prog w) A' (pyIter v) Q E ⟨hp, g, d, tk, os⟩ :=
      fun q => B.iter prog w _ _ ⟨hp, g, d, tk, os⟩ _ h1 q
    wp_walk using q1
    refine wpAny_stack_any fun st => wpAny_pure ?_
    split
    · rename_i c _ _ _ _ _
      cases (c == Value.type "enumerate")
      · wp_walk using q1
        exact ⟨_, rfl, h⟩
      · wp_walk using q1
        exact ⟨_, rfl, h⟩
    · wp_walk using q1
      exact ⟨_, rfl, h⟩
theorem enum_begins1 {prog : Program} {w : World} {A : Around} {E : Value → Shared → Prop} {s : Shared} {v : Value} {o : Obj} {H : Heap → Prop} {Q : Value → Shared → Prop} (B : Begins v o H) (h1 : H s.heap)
    (h : ∀ h', IsEnum h' (s.heap.objs.size + 1) s.heap.objs.size 0 .none → h'.get? s.heap.objs.size = some o → h'.objs.size = s.heap.objs.size + 2 →
      (∀ b o, s.heap.get? b = some o → h'.get? b = some o) → Q (.ref (s.heap.objs.size + 1)) { s with heap := h' }) :
    wpAny (model prog w) A (call (.type "enumerate") [v]) Q E s := by
  refine callType_new F.called_enumerate (by decide) (F.typeCall_enumerate_1 _) (F.newCall_enumerate_1 _) (fun obj => F.args_object_init_2 obj _) F.entry_enumerate_new
    (meets_enum_new1 B) ⟨h1, ?_⟩
  have hz : (s.heap.push o).objs.size = s.heap.objs.size + 1 := Heap.size_push ..
  show _ ∧ _
  rw [hz]
  have he : IsEnum ((s.heap.push o).push { cls := .type "enumerate", data := .fields #[.none, .bool false, .ref s.heap.objs.size, rawInt 0, .none, .none] }) (s.heap.objs.size + 1) s.heap.objs.size 0 .none := by
    have := Heap.get?_push_size (s.heap.push o) (o := { cls := .type "enumerate", data := .fields #[.none, .bool false, .ref s.heap.objs.size, rawInt 0, .none, .none] }) rfl
    rw [hz] at this; exact this
  refine ⟨⟨_, he, rfl⟩, h _ he (Heap.get?_push_of_some _ (Heap.get?_push_size _ B.free)) (by rw [Heap.size_push, hz]) fun b o x => Heap.get?_push_of_some _ (Heap.get?_push_of_some _ x)⟩
def IteX (K : PySem.W.Frag) (c : Bool) (a : Addr) : It :=
  ⟨fun i H => ∃ (xs : List V) (x : V), SqX K c H a xs ∧ xs[i]? = some x, fun i H v H' => ∃ T x, v = .ref T ∧ H T = none ∧ H' = upd H T (.tup [.int (i : Nat), x]) ∧ ∀ xs, SqX K c H a xs → xs[i]? = some x, fun i H => ∃ xs : List V, SqX K c H a xs ∧ xs.length = i⟩
theorem turn_enumX {c : Bool} {P : Program} {w : World} {K : PySem.W.Frag} {elts : List Expr} {kk : Nat} {tpos : Pos} (a e it : Addr) (n1 : a ≠ it) :
    Turn P w K (.Tuple elts kk tpos) (IteX K c a) [e, it] e (fun i h => (∃ old, IsEnum h e it ((i : Nat) : Int) old) ∧ JX c it a h i ∧ e ≠ it ∧ e ≠ a) where
  mem := by simp
  obj := fun i h st b hb => by
    obtain ⟨⟨old, he⟩, hj, _⟩ := st
    have e' : b = e ∨ b = it := by simpa using hb
    rcases e' with z | z
    · rw [z]; exact ⟨_, he, fun v q => nomatch q⟩
    · rw [z]
      cases c
      · obtain ⟨o1, e1, _, d1⟩ := hj
        exact ⟨o1, e1, fun v q => by rw [d1] at q; cases q⟩
      · obtain ⟨o1, e1, _, d1⟩ := hj
        exact ⟨o1, e1, fun v q => by rw [d1] at q; cases q⟩
  keep := fun i h h' st k => by
    obtain ⟨⟨old, he⟩, hi, hne⟩ := st
    exact ⟨⟨old, k e (by simp) _ he⟩, hi.at' fun o q => k it (by simp) o q, hne⟩
  item := by
    intro X hP hw hK hc i pins s σ H E I hf st hg
    subst hP hw hK
    obtain ⟨⟨old, he⟩, hit, hne, hnea⟩ := st
    obtain ⟨xs, x, hq, hx⟩ := hg
    obtain ⟨its, rv, p⟩ := invX I hq
    obtain ⟨u, hu, ru⟩ := rv.get hx
    have hel : e < s.heap.objs.size := Heap.lt_size he
    have hil : it < s.heap.objs.size := hit.lt
    have hh : X.A.in1.handled = none := I.ok.hd hc
    have g1 := (List.getElem?_eq_some_iff.mp hu).1
    have hnm : e ∉ [it, a] := fun z => by
      rcases List.mem_cons.mp z with z | z
      · exact hne z
      · exact hnea (List.mem_singleton.mp z)
    refine wpAny_pyNext_enum_itemD (drX hh it a n1 its.toArray c) he ⟨hit, p⟩ (by simpa using g1) hne hnm fun x1 h' tk y1 ho s1 hT hsz hk => ?_
    have e1 : x1 = u := by
      have : its[i]? = some x1 := by simpa using y1
      rw [hu] at this
      exact (Option.some.inj this).symm
    subst e1
    refine ⟨_, rfl, wpAny_letOwnedTupleGo_enum (s := { s with heap := h', toks := tk + 1 }) ho fun h'' he' sb => ?_⟩
    have hT2 : h''.get? s.heap.objs.size = some { cls := .type "tuple", data := .seq #[.int i tk, x1] } := (sb.2 _ (Nat.ne_of_gt hel)).trans hT
    have new : ObjOk X.prog X.w (upd H s.heap.objs.size (.tup [.int (i : Nat), x])) h'' s.heap.objs.size (.tup [.int (i : Nat), x]) :=
      ⟨by show 2 ≤ sizeLine; decide, [.int i tk, x1], .cons ⟨_, rfl⟩ (.cons ru .nil), ⟨_, hT2, rfl, _, rfl⟩⟩
    have I1 : Inv X pins σ (upd H s.heap.objs.size (.tup [.int (i : Nat), x])) { s with heap := h'', toks := tk + 1 } :=
      I.turnedNew (t' := tk + 1) (ch := [e, it]) (fun b ob hb q => (sb.2 b (fun z => hb (by simp [z]))).trans (hk b ob (fun z => hb (by simp [z])) (fun z => hb (by simp [z])) q)) hf (Nat.le_refl _) new
    refine ⟨.ref s.heap.objs.size, _, I1, rfl, ⟨_, x, rfl, I.hok.fresh (Nat.le_refl _), rfl, fun ys hy => by rw [injX I hy hq]; exact hx⟩, ⟨⟨x1, ?_⟩, s1.1.at' fun o q => (sb.2 it (Ne.symm hne)).trans q, hne, hnea⟩, fun b hb => ?_⟩
    · have e1 : ((i + 1 : Nat) : Int) = (i : Int) + 1 := by omega
      rw [e1]; exact he'
    · have hb' : b < s.heap.objs.size := by
        have e' : b = e ∨ b = it := by simpa using hb
        rcases e' with z | z
        · rw [z]; exact hel
        · rw [z]; exact hil
      rw [upd_ne (Nat.ne_of_lt hb')]
      exact (hf b hb).1
  done := by
    intro X hP hw hK hc i pins s σ H E I hf st hg
    subst hP hw hK
    obtain ⟨⟨old, he⟩, hit, hne, hnea⟩ := st
    obtain ⟨xs, hq, hx⟩ := hg
    obtain ⟨its, rv, p⟩ := invX I hq
    obtain ⟨f0, f1, f2, f3, f4, f5⟩ := hf it (by simp)
    have hl := rv.length
    have hh : X.A.in1.handled = none := I.ok.hd hc
    have m1 : its.toArray.size = its.length := rfl
    have ei : i = its.toArray.size := by omega
    exact wpAny_pyNext_enum_endD (drX hh it a n1 its.toArray c) he ⟨ei ▸ hit, p⟩ fun h' eb => ⟨rfl, I.turned (t' := s.toks) (fun b o hb q => eb b o hb q) f0 f1 f3 f4 f5⟩
  self := fun A i s Q E st h => let ⟨⟨_, he⟩, _⟩ := st; wpAny_pyIter_enum he h
def iEnumX (K : PySem.W.Frag) (ta : TA) : TI := fun σ H R => ta σ H fun vs H1 => ∃ (c : Bool) (a : Addr) (xs : List V), vs = [.ref a] ∧ SqX K c H1 a xs ∧ R (IteX K c a) H1
theorem pi_enumX {X : Cx} {e : Expr} {ta : TA} {p pos tpos : Pos} {elts : List Expr} {kk : Nat} (hg : Gl X "enumerate") (hm : X.mg "enumerate" = none) (ha : PA X [e] ta) (hs : starEach [e] X.env = [(false, eval e X.env)] := by rfl) :
    PI X (.Tuple elts kk tpos) (.Call (.Name "enumerate" p) [e] [] pos) (iEnumX X.K ta) := by
  refine ⟨fun pins s σ H R I h => ?_⟩
  refine Call_ (ld_blt I hg hm boot_enumerate (PyProof.Rows.callWith_type1 (thn (ha.run pos pins s σ H _ I h) fun us s1 ⟨vs, H1, I1, r1, q1⟩ => ?_) hs rfl))
  obtain ⟨c, a, xs, ex, hq, q⟩ := q1
  subst ex
  cases r1 with
  | cons r rr =>
    cases rr
    cases r
    obtain ⟨its, rv, p'⟩ := invX I1 hq
    refine enum_begins1 (bgX a its.toArray c) p' fun h' he hit hsz hk => wpAny_pyIter_enum he ?_
    have I2 : Inv X pins σ H1 { s1 with heap := h' } := I1.kept (t' := s1.toks) hk
    have la := p'.lt
    refine ⟨s1.heap.objs.size + 1, [s1.heap.objs.size + 1, s1.heap.objs.size], _, _, H1, rfl, I2, turn_enumX a (s1.heap.objs.size + 1) s1.heap.objs.size (Nat.ne_of_lt la), ⟨⟨.none, he⟩, JX.new hit, Nat.succ_ne_self _, Nat.ne_of_gt (Nat.lt_succ_of_lt la)⟩, fun b hb => ?_, q⟩
    have e' : b = s1.heap.objs.size + 1 ∨ b = s1.heap.objs.size := by simpa using hb
    have hle : s1.heap.objs.size ≤ b := by
      rcases e' with z | z
      · rw [z]; exact Nat.le_add_right _ _
      · rw [z]; exact Nat.le_refl _
    exact I1.fpOk hle (I1.hok.fresh hle)
theorem for_enumX {c : Bool} {K : PySem.W.Frag} {a : Addr} {xs : List V} {g : TG} {tb : TS} {D : Ends} {σ : L2.St} {H : Hp} (Pv : Nat → L2.St → Hp → Prop) (h0 : Pv 0 σ H) (hq : ∀ i σ H, Pv i σ H → SqX K c H a xs)
    (hs : ∀ (i : Nat) (x : V) (T : Addr) (σ : L2.St) (H : Hp), xs[i]? = some x → Pv i σ H → H T = none → g (.ref T) σ (upd H T (.tup [.int (i : Nat), x])) fun σ2 H2 => tb { D with nx := Pv (i + 1), ct := Pv (i + 1), bk := D.nx } σ2 H2) (hd : ∀ σ H, Pv xs.length σ H → D.nx σ H) :
    ∃ W : Nat → Nat → L2.St → Hp → Prop, (∃ m, W 0 m σ H) ∧ ∀ i m σ H, W i m σ H →
      ((IteX K c a).stop i H ∧ D.nx σ H) ∨ ((IteX K c a).go i H ∧ ∃ N : L2.St → Hp → Prop, (∀ σ' H', N σ' H' → ∃ m', m' < m ∧ W (i + 1) m' σ' H') ∧ ∀ v H', (IteX K c a).yld i H v H' → g v σ H' fun σ2 H2 => tb { D with nx := N, ct := N, bk := D.nx } σ2 H2) := by
  refine ⟨fun i m σ H => m = xs.length - i ∧ i ≤ xs.length ∧ Pv i σ H, ⟨xs.length, rfl, Nat.zero_le _, h0⟩, ?_⟩
  rintro i m σ H ⟨rfl, hi, p⟩
  have qx := hq i σ H p
  by_cases hlt : i < xs.length
  · have hx : xs[i]? = some xs[i] := List.getElem?_eq_getElem hlt
    refine .inr ⟨⟨xs, _, qx, hx⟩, Pv (i + 1), fun σ' H' p' => ⟨xs.length - (i + 1), by omega, rfl, hlt, p'⟩, fun v H' y => ?_⟩
    obtain ⟨T, x', rfl, hT, rfl, f1⟩ := y
    exact hs i x' T σ H (f1 xs qx) p hT
  · have e : i = xs.length := by omega
    subst e
    exact .inl ⟨⟨xs, qx, rfl⟩, hd σ H p⟩
/-- a comprehension over enumerate of a list or a tuple -/
theorem lc_enumX {c : Bool} {K : PySem.W.Frag} {a : Addr} {xs : List V} {g : TG} {tt : TT} {te : TE} {vs : List Nat} {σ : L2.St} {H1 : Hp} {D : Addr} {Qd : Hp → Prop} (Pv : Nat → Hp → Prop) (h0 : Pv 0 (upd H1 D (.lst []))) (hq : ∀ i H, Pv i H → SqX K c H a xs)
    (hs : ∀ (i : Nat) (x : V) (T : Addr) (H : Hp), xs[i]? = some x → Pv i H → H T = none → g (.ref T) (wipe σ vs) (upd H T (.tup [.int (i : Nat), x])) fun σ2 H2 => wipe σ2 vs = wipe σ vs ∧ tt σ2 H2 fun b H3 =>
      if b = true then te σ2 H3 fun y H4 => ∃ acc, H4 D = some (.lst acc) ∧ acc.length < sizeLine ∧ Pv (i + 1) (upd H4 D (.lst (acc ++ [y]))) else Pv (i + 1) H3) (hd : ∀ H, Pv xs.length H → Qd H) :
    ∃ W : Nat → Nat → Hp → Prop, (∃ m, W 0 m (upd H1 D (.lst []))) ∧ ∀ i m H, W i m H →
      ((IteX K c a).stop i H ∧ Qd H) ∨ ((IteX K c a).go i H ∧ ∃ Nx : Hp → Prop, (∀ H', Nx H' → ∃ m', m' < m ∧ W (i + 1) m' H') ∧ ∀ x H', (IteX K c a).yld i H x H' → g x (wipe σ vs) H' fun σ2 H2 => wipe σ2 vs = wipe σ vs ∧ tt σ2 H2 fun b H3 =>
        if b = true then te σ2 H3 fun y H4 => ∃ acc, H4 D = some (.lst acc) ∧ acc.length < sizeLine ∧ Nx (upd H4 D (.lst (acc ++ [y]))) else Nx H3) := by
  refine ⟨fun i m H => m = xs.length - i ∧ i ≤ xs.length ∧ Pv i H, ⟨xs.length, rfl, Nat.zero_le _, h0⟩, ?_⟩
  rintro i m H ⟨rfl, hi, p⟩
  have qx := hq i H p
  by_cases hlt : i < xs.length
  · have hx : xs[i]? = some xs[i] := List.getElem?_eq_getElem hlt
    refine .inr ⟨⟨xs, _, qx, hx⟩, Pv (i + 1), fun H' p' => ⟨xs.length - (i + 1), by omega, rfl, hlt, p'⟩, fun v H' y => ?_⟩
    obtain ⟨T, x', rfl, hT, rfl, f1⟩ := y
    exact hs i x' T H (f1 xs qx) p hT
  · have e : i = xs.length := by omega
    subst e
    exact .inl ⟨⟨xs, qx, rfl⟩, hd H p⟩
end Nc
end
section
set_option maxRecDepth 100000
set_option maxHeartbeats 4000000
namespace Nc
open PySem PySem.Spec PyProof.Rows L2
/-! a, b = a list -/
def gLst (K : PySem.W.Frag) (n : Nat) (t : TGs) : TG := fun v σ H Q => ∃ (a : Addr) (xs : List V), v = .ref a ∧ SqL K H a xs ∧ xs.length = n ∧ t xs σ H Q
theorem pg_lst {X : Cx} {es : List Expr} {k n : Nat} {pos : Pos} {t : TGs} (hc : X.calm = true) (g : PGs X es t) (hn : (assignEach es X.env).length = n := by rfl) (hst : (assignEach es X.env).findIdx? (·.1) = none := by rfl) :
    PG X (.Tuple es k pos) (gLst X.K n t) := by
  refine ⟨fun pins s σ H v u Q I r hw => ?_⟩
  obtain ⟨a, xs, ev, hq, hl, go⟩ := hw
  subst ev
  cases r
  obtain ⟨its, rv, hp, _⟩ := I.list hq
  have hlen : (assignEach es X.env).length = its.toArray.size := by
    have := rv.length
    have m : its.toArray.size = its.length := rfl
    omega
  rw [assign_Tuple]
  refine wpAny_bind (wpAny_standAt ?_)
  unfold unpack
  rw [hlen, hst]
  refine wpAny_bind (wpAny_holding (PySem.W.kun_itemsOf (I.ok.hd hc) hp.isList fun h' hx => ?_))
  have I1 : Inv X pins σ H { s with heap := h' } := I.kept (t' := s.toks) fun b o e => hx b o (Nat.ne_of_lt (Heap.lt_size e)) e
  exact g.run pins _ σ H xs _ Q I1 (by simpa using rv) go
end Nc
end
section
set_option maxRecDepth 100000
set_option maxHeartbeats 4000000
namespace Nc
open PySem PySem.Spec PyProof.Rows L2
/-! xs += ys, two lists: the first grows -/
theorem inplace_lists {M : Model} {A : Around} {E : Value → Shared → Prop} {s : Shared} {a b : Value} {Q : Value → Shared → Prop} (ha : s.TypeIs a "list") (hb : s.TypeIs b "list")
    (go : wpAny M A (call (.builtin "list.__iadd__") [a, b]) Q E s) : wpAny M A (inplaceOp .Add a b) Q E s := by
  have look := F.slot_list_iadd.lookup
  have sq : isSeqSlot (some (.builtin "list.__iadd__")) = true := by decide +kernel
  have no : fillsInplaceSlot (.type "list") "add" (Operator.Add == .Add) = pure false := by
    unfold fillsInplaceSlot
    show (typeLookup (.type "list") (dunderI "add") >>= fun y => pure (y.isSome && !isSeqSlot y)) = _
    rw [look, pure_bind, sq]
    rfl
  unfold inplaceOp
  refine wpAny_holding (wpAny_bind (wpAny_typeOf ha (wpAny_bind (wpAny_of_eq no ?_))))
  show wpAny M A (if false = true then _ else _) Q E s
  rw [if_neg (by decide)]
  refine wpAny_bind (wpAny_binaryOp1_none (nm := "add") ha hb noFill_list_add ?_)
  refine wpAny_bind (wpAny_of_eq (PySem.seqSlot_of look sq) ?_)
  exact wpAny_bind (wpAny_rule go)
def rGrow : R2 := fun x y H Q => ∃ l b xs zs, x = .ref l ∧ y = .ref b ∧ H l = some (.lst xs) ∧ H b = some (.lst zs) ∧ xs.length + zs.length ≤ sizeLine ∧ Q (.ref l) (upd H l (.lst (xs ++ zs)))
theorem iop_grow {X : Cx} : OpR X (inplaceOp .Add) rGrow := by
  intro pins s σ H x y v u Q I rx ry h
  obtain ⟨l, b, xs, zs, rfl, rfl, hH, hB, hz, q⟩ := h
  cases rx
  cases ry
  obtain ⟨z, its, n, r, hl, e⟩ := I.lstM hH
  obtain ⟨z2, its2, n2, r2, hl2, e2⟩ := I.lstM hB
  have fit : its.toArray.size + its2.toArray.size ≤ sizeLine := by
    rw [List.size_toArray, List.size_toArray]
    omega
  have short : ¬ (!its.toArray.isEmpty && Builtin.List.listTooLong (its.toArray.size + its2.toArray.size)) = true := by
    rw [notLongL fit, Bool.and_false]
    decide
  refine inplace_lists ⟨_, e, rfl⟩ ⟨_, e2, rfl⟩ (call_meets F.slot_list_iadd ⟨_, e, rfl⟩ F.entry_list_iadd (F.args_list_iadd_2 _ _)
    (AutoSeq1.list___iadd___list_list_0 l its.toArray n b its2.toArray n2 short (by rw [List.size_toArray]; omega) (by omega)) ⟨e, e2, ?_⟩)
  refine ⟨.ref l, _, I.lset (its' := its ++ its2) hH e (by simp) (r.append r2) (by rw [List.length_append]; omega), rfl, q⟩
end Nc
end
section
set_option maxRecDepth 100000
set_option maxHeartbeats 400000
namespace K07
open PySem Evl Nc PyProof.Rows
open L2 hiding spCell
/-! ### the text -/
def topS (i : Nat) : Stmt := PySem.Challenge.pw_noughtcut_k07_nets_told.main.body.getD i (.Pass ⟨0, 0, 0, 0⟩)
abbrev s__wall : Stmt := topS 1
theorem sc__wall : FnScope ["k"] ["k"] (defScope s__wall) := ⟨rfl, rfl, rfl, by decide +kernel, rfl, by decide +kernel, by decide +kernel⟩
abbrev s_is_whole : Stmt := topS 7
theorem sc_is_whole : FnScope ["thing"] ["thing"] (defScope s_is_whole) := ⟨rfl, rfl, rfl, by decide +kernel, rfl, by decide +kernel, by decide +kernel⟩
abbrev s_is_fraction : Stmt := topS 8
theorem sc_is_fraction : FnScope ["thing", "top", "bottom"] ["thing"] (defScope s_is_fraction) := ⟨rfl, rfl, rfl, by decide +kernel, rfl, by decide +kernel, by decide +kernel⟩
abbrev s_is_row : Stmt := topS 9
theorem sc_is_row : FnScope ["thing", "many", "part"] ["thing", "many"] (defScope s_is_row) := ⟨rfl, rfl, rfl, by decide +kernel, rfl, by decide +kernel, by decide +kernel⟩
abbrev s_fraction_of : Stmt := topS 10
theorem sc_fraction_of : FnScope ["top", "bottom", "shared"] ["top", "bottom"] (defScope s_fraction_of) := ⟨rfl, rfl, rfl, by decide +kernel, rfl, by decide +kernel, by decide +kernel⟩
abbrev s_plus : Stmt := topS 11
theorem sc_plus : FnScope ["one", "other"] ["one", "other"] (defScope s_plus) := ⟨rfl, rfl, rfl, by decide +kernel, rfl, by decide +kernel, by decide +kernel⟩
abbrev s_times : Stmt := topS 12
theorem sc_times : FnScope ["one", "other"] ["one", "other"] (defScope s_times) := ⟨rfl, rfl, rfl, by decide +kernel, rfl, by decide +kernel, by decide +kernel⟩
abbrev s_cut_at_nought : Stmt := topS 13
theorem sc_cut_at_nought : FnScope ["one"] ["one"] (defScope s_cut_at_nought) := ⟨rfl, rfl, rfl, by decide +kernel, rfl, by decide +kernel, by decide +kernel⟩
abbrev s_weigh : Stmt := topS 14
theorem sc_weigh : FnScope ["row", "other", "total", "one", "by"] ["row", "other"] (defScope s_weigh) := ⟨rfl, rfl, rfl, by decide +kernel, rfl, by decide +kernel, by decide +kernel⟩
abbrev s_is_sum : Stmt := topS 16
theorem sc_is_sum : FnScope ["thing", "many", "row", "number"] ["thing", "many"] (defScope s_is_sum) := ⟨rfl, rfl, rfl, by decide +kernel, rfl, by decide +kernel, by decide +kernel⟩
abbrev s_sum_at : Stmt := topS 18
theorem sc_sum_at : FnScope ["one", "row", "weights", "number"] ["one", "row"] (defScope s_sum_at) := ⟨rfl, rfl, rfl, by decide +kernel, rfl, by decide +kernel, by decide +kernel⟩
abbrev s__reckoned : Stmt := topS 22
theorem sc__reckoned : FnScope ["nodes", "ahead", "node"] ["nodes", "ahead"] (defScope s__reckoned) := ⟨rfl, rfl, rfl, by decide +kernel, rfl, by decide +kernel, by decide +kernel⟩
abbrev s_net_of : Stmt := topS 28
theorem sc_net_of : FnScope ["told", "ins", "layers", "nodes"] ["told"] (defScope s_net_of) := ⟨rfl, rfl, rfl, by decide +kernel, rfl, by decide +kernel, by decide +kernel⟩
abbrev s_same_net : Stmt := topS 29
theorem sc_same_net : FnScope ["one", "other"] ["one", "other"] (defScope s_same_net) := ⟨rfl, rfl, rfl, by decide +kernel, rfl, by decide +kernel, by decide +kernel⟩
abbrev s__are_ins : Stmt := topS 30
theorem sc__are_ins : FnScope ["thing"] ["thing"] (defScope s__are_ins) := ⟨rfl, rfl, rfl, by decide +kernel, rfl, by decide +kernel, by decide +kernel⟩
abbrev s__are_layers : Stmt := topS 31
theorem sc__are_layers : FnScope ["thing", "ins", "ahead", "nodes", "node"] ["thing", "ins"] (defScope s__are_layers) := ⟨rfl, rfl, rfl, by decide +kernel, rfl, by decide +kernel, by decide +kernel⟩
abbrev s__law_cell : Stmt := topS 33
theorem sc__law_cell : FnScope ["_law_script", "_law_k"] ["_law_script", "_law_k"] (defScope s__law_cell) := ⟨rfl, rfl, rfl, by decide +kernel, rfl, by decide +kernel, by decide +kernel⟩
abbrev s__law_stream : Stmt := topS 34
theorem sc__law_stream : FnScope ["_law_cell_here"] ["_law_cell_here"] (defScope s__law_stream) := ⟨rfl, rfl, rfl, by decide +kernel, rfl, by decide +kernel, by decide +kernel⟩
abbrev s__law_take : Stmt := topS 35
theorem sc__law_take : FnScope ["_law_stream_here", "_law_many", "_law_digit", "_law_number_here", "_law_more"] ["_law_stream_here", "_law_many"] (defScope s__law_take) := ⟨rfl, rfl, rfl, by decide +kernel, rfl, by decide +kernel, by decide +kernel⟩
abbrev s__law_part : Stmt := topS 36
theorem sc__law_part : FnScope ["_law_top", "_law_bottom", "_law_one", "_law_other_here"] ["_law_top", "_law_bottom"] (defScope s__law_part) := ⟨rfl, rfl, rfl, by decide +kernel, rfl, by decide +kernel, by decide +kernel⟩
abbrev s__law_plus : Stmt := topS 37
theorem sc__law_plus : FnScope ["_law_one", "_law_other_here"] ["_law_one", "_law_other_here"] (defScope s__law_plus) := ⟨rfl, rfl, rfl, by decide +kernel, rfl, by decide +kernel, by decide +kernel⟩
abbrev s__law_times : Stmt := topS 38
theorem sc__law_times : FnScope ["_law_one", "_law_other_here"] ["_law_one", "_law_other_here"] (defScope s__law_times) := ⟨rfl, rfl, rfl, by decide +kernel, rfl, by decide +kernel, by decide +kernel⟩
abbrev s__law_weighs : Stmt := topS 39
theorem sc__law_weighs : FnScope ["_law_one", "_law_other_here", "_law_total", "_law_first", "_law_second"] ["_law_one", "_law_other_here"] (defScope s__law_weighs) := ⟨rfl, rfl, rfl, by decide +kernel, rfl, by decide +kernel, by decide +kernel⟩
abbrev s__law_tells : Stmt := topS 40
theorem sc__law_tells : FnScope ["_law_node_here", "_law_row"] ["_law_node_here", "_law_row"] (defScope s__law_tells) := ⟨rfl, rfl, rfl, by decide +kernel, rfl, by decide +kernel, by decide +kernel⟩
abbrev s__law_long : Stmt := topS 41
theorem sc__law_long : FnScope ["_law_stream_here"] ["_law_stream_here"] (defScope s__law_long) := ⟨rfl, rfl, rfl, by decide +kernel, rfl, by decide +kernel, by decide +kernel⟩
abbrev s__law_number : Stmt := topS 42
theorem sc__law_number : FnScope ["_law_stream_here", "_law_way", "_law_top", "_law_bottom"] ["_law_stream_here"] (defScope s__law_number) := ⟨rfl, rfl, rfl, by decide +kernel, rfl, by decide +kernel, by decide +kernel⟩
abbrev s__law_node : Stmt := topS 43
theorem sc__law_node : FnScope ["_law_stream_here", "_law_many", "_law_k"] ["_law_stream_here", "_law_many"] (defScope s__law_node) := ⟨rfl, rfl, rfl, by decide +kernel, rfl, by decide +kernel, by decide +kernel⟩
abbrev s__law_size : Stmt := topS 44
theorem sc__law_size : FnScope ["_law_stream_here", "_law_most"] ["_law_stream_here", "_law_most"] (defScope s__law_size) := ⟨rfl, rfl, rfl, by decide +kernel, rfl, by decide +kernel, by decide +kernel⟩
abbrev s__law_layers : Stmt := topS 45
theorem sc__law_layers : FnScope ["_law_stream_here", "_law_ins", "_law_layers_here", "_law_ahead", "_law_k", "_law_many", "_law_j"] ["_law_stream_here", "_law_ins"] (defScope s__law_layers) := ⟨rfl, rfl, rfl, by decide +kernel, rfl, by decide +kernel, by decide +kernel⟩
abbrev s__law_shut : Stmt := topS 46
theorem sc__law_shut : FnScope ["_law_stream_here", "_law_layers_here", "_law_rows", "_law_nodes"] ["_law_stream_here", "_law_layers_here"] (defScope s__law_shut) := ⟨rfl, rfl, rfl, by decide +kernel, rfl, by decide +kernel, by decide +kernel⟩
abbrev s__law_told : Stmt := topS 47
theorem sc__law_told : FnScope ["_law_ins", "_law_layers_here", "_law_nodes"] ["_law_ins", "_law_layers_here"] (defScope s__law_told) := ⟨rfl, rfl, rfl, by decide +kernel, rfl, by decide +kernel, by decide +kernel⟩
abbrev s__law_places : Stmt := topS 48
theorem sc__law_places : FnScope ["_law_layers_here", "_law_found", "_law_layer", "_law_node_here"] ["_law_layers_here"] (defScope s__law_places) := ⟨rfl, rfl, rfl, by decide +kernel, rfl, by decide +kernel, by decide +kernel⟩
abbrev s__law_numbers : Stmt := topS 49
theorem sc__law_numbers : FnScope ["_law_net"] ["_law_net"] (defScope s__law_numbers) := ⟨rfl, rfl, rfl, by decide +kernel, rfl, by decide +kernel, by decide +kernel⟩
abbrev s__law_one_right : Stmt := topS 50
theorem sc__law_one_right : FnScope ["_law_net", "_law_ins", "_law_layers_here", "_law_found", "_law_told_here", "_law_places_here", "_law_nodes", "_law_one"] ["_law_net", "_law_ins", "_law_layers_here"] (defScope s__law_one_right) := ⟨rfl, rfl, rfl, by decide +kernel, rfl, by decide +kernel, by decide +kernel⟩
abbrev s__law_unlike : Stmt := topS 51
theorem sc__law_unlike : FnScope ["_law_stream_here", "_law_one", "_law_found"] ["_law_stream_here", "_law_one"] (defScope s__law_unlike) := ⟨rfl, rfl, rfl, by decide +kernel, rfl, by decide +kernel, by decide +kernel⟩
abbrev s__law_other : Stmt := topS 52
theorem sc__law_other : FnScope ["_law_stream_here", "_law_layers_here", "_law_found", "_law_way", "_law_layer", "_law_node_here", "_law_row", "_law_number_here", "_law_place", "_law_nodes"] ["_law_stream_here", "_law_layers_here"] (defScope s__law_other) := ⟨rfl, rfl, rfl, by decide +kernel, rfl, by decide +kernel, by decide +kernel⟩
abbrev s__law_spoilt : Stmt := topS 53
theorem sc__law_spoilt : FnScope ["_law_some", "_law_nodes"] ["_law_some"] (defScope s__law_spoilt) := ⟨rfl, rfl, rfl, by decide +kernel, rfl, by decide +kernel, by decide +kernel⟩
abbrev s__law_right : Stmt := topS 54
theorem sc__law_right : FnScope ["_law_stream_here", "_law_ins", "_law_layers_here", "_law_some", "_law_net", "_law_rows", "_law_other_here", "_law_again", "_law_turn", "_law_found"] ["_law_stream_here"] (defScope s__law_right) := ⟨rfl, rfl, rfl, by decide +kernel, rfl, by decide +kernel, by decide +kernel⟩
abbrev s_law : Stmt := topS 55
theorem sc_law : FnScope ["_law_script", "_law_k"] ["_law_script"] (defScope s_law) := ⟨rfl, rfl, rfl, by decide +kernel, rfl, by decide +kernel, by decide +kernel⟩
abbrev s_CutError___init__ : Stmt := inClass (topS 3) 0
theorem sc_CutError___init__ : FnScope ["self", "text"] ["self", "text"] (defScope s_CutError___init__) := ⟨rfl, rfl, rfl, by decide +kernel, rfl, by decide +kernel, by decide +kernel⟩
abbrev s_NoNet___init__ : Stmt := inClass (topS 4) 0
theorem sc_NoNet___init__ : FnScope ["self", "found"] ["self", "found"] (defScope s_NoNet___init__) := ⟨rfl, rfl, rfl, by decide +kernel, rfl, by decide +kernel, by decide +kernel⟩
abbrev s_Layer___init__ : Stmt := inClass (topS 20) 0
theorem sc_Layer___init__ : FnScope ["self", "nodes"] ["self", "nodes"] (defScope s_Layer___init__) := ⟨rfl, rfl, rfl, by decide +kernel, rfl, by decide +kernel, by decide +kernel⟩
abbrev s_Layer_told : Stmt := inClass (topS 20) 1
theorem sc_Layer_told : FnScope ["self"] ["self"] (defScope s_Layer_told) := ⟨rfl, rfl, rfl, by decide +kernel, rfl, by decide +kernel, by decide +kernel⟩
abbrev s_Layer_sums : Stmt := inClass (topS 20) 2
theorem sc_Layer_sums : FnScope ["self", "ahead"] ["self", "ahead"] (defScope s_Layer_sums) := ⟨rfl, rfl, rfl, by decide +kernel, rfl, by decide +kernel, by decide +kernel⟩
abbrev s_Layer_passed : Stmt := inClass (topS 20) 3
theorem sc_Layer_passed : FnScope ["self", "ahead"] ["self", "ahead"] (defScope s_Layer_passed) := ⟨rfl, rfl, rfl, by decide +kernel, rfl, by decide +kernel, by decide +kernel⟩
abbrev s_CutLayer_told : Stmt := inClass (topS 21) 0
theorem sc_CutLayer_told : FnScope ["self"] ["self"] (defScope s_CutLayer_told) := ⟨rfl, rfl, rfl, by decide +kernel, rfl, by decide +kernel, by decide +kernel⟩
abbrev s_CutLayer_sums : Stmt := inClass (topS 21) 1
theorem sc_CutLayer_sums : FnScope ["self", "ahead"] ["self", "ahead"] (defScope s_CutLayer_sums) := ⟨rfl, rfl, rfl, by decide +kernel, rfl, by decide +kernel, by decide +kernel⟩
abbrev s_CutLayer_passed : Stmt := inClass (topS 21) 2
theorem sc_CutLayer_passed : FnScope ["self", "ahead", "one"] ["self", "ahead"] (defScope s_CutLayer_passed) := ⟨rfl, rfl, rfl, by decide +kernel, rfl, by decide +kernel, by decide +kernel⟩
abbrev s_Net___init__ : Stmt := inClass (topS 27) 0
theorem sc_Net___init__ : FnScope ["self", "ins", "layers", "nodes"] ["self", "ins", "layers"] (defScope s_Net___init__) := ⟨rfl, rfl, rfl, by decide +kernel, rfl, by decide +kernel, by decide +kernel⟩
abbrev s_Net_ins : Stmt := inClass (topS 27) 1
theorem sc_Net_ins : FnScope ["self"] ["self"] (defScope s_Net_ins) := ⟨rfl, rfl, rfl, by decide +kernel, rfl, by decide +kernel, by decide +kernel⟩
abbrev s_Net_outs : Stmt := inClass (topS 27) 2
theorem sc_Net_outs : FnScope ["self"] ["self"] (defScope s_Net_outs) := ⟨rfl, rfl, rfl, by decide +kernel, rfl, by decide +kernel, by decide +kernel⟩
abbrev s_Net_hidden : Stmt := inClass (topS 27) 3
theorem sc_Net_hidden : FnScope ["self", "layer"] ["self"] (defScope s_Net_hidden) := ⟨rfl, rfl, rfl, by decide +kernel, rfl, by decide +kernel, by decide +kernel⟩
abbrev s_Net_layers_told : Stmt := inClass (topS 27) 4
theorem sc_Net_layers_told : FnScope ["self", "layer"] ["self"] (defScope s_Net_layers_told) := ⟨rfl, rfl, rfl, by decide +kernel, rfl, by decide +kernel, by decide +kernel⟩
abbrev s_Net_places : Stmt := inClass (topS 27) 5
theorem sc_Net_places : FnScope ["self", "found", "at", "layer", "node"] ["self"] (defScope s_Net_places) := ⟨rfl, rfl, rfl, by decide +kernel, rfl, by decide +kernel, by decide +kernel⟩
abbrev s_Net_told : Stmt := inClass (topS 27) 6
theorem sc_Net_told : FnScope ["self", "layer"] ["self"] (defScope s_Net_told) := ⟨rfl, rfl, rfl, by decide +kernel, rfl, by decide +kernel, by decide +kernel⟩
abbrev s_Net_outs_at : Stmt := inClass (topS 27) 7
theorem sc_Net_outs_at : FnScope ["self", "spot"] ["self", "spot"] (defScope s_Net_outs_at) := ⟨rfl, rfl, rfl, by decide +kernel, rfl, by decide +kernel, by decide +kernel⟩
abbrev s_Net_sums_at : Stmt := inClass (topS 27) 8
theorem sc_Net_sums_at : FnScope ["self", "spot"] ["self", "spot"] (defScope s_Net_sums_at) := ⟨rfl, rfl, rfl, by decide +kernel, rfl, by decide +kernel, by decide +kernel⟩
abbrev s_Net_pattern_at : Stmt := inClass (topS 27) 9
theorem sc_Net_pattern_at : FnScope ["self", "spot"] ["self", "spot"] (defScope s_Net_pattern_at) := ⟨rfl, rfl, rfl, by decide +kernel, rfl, by decide +kernel, by decide +kernel⟩

end K07
end
section
set_option maxRecDepth 100000
set_option maxHeartbeats 400000
namespace K07
open PySem Evl Nc PyProof.Rows
open L2 hiding spCell
theorem both {W D n : Nat} (hp : 0 < W * D) (hlt : W * D < 2 ^ n) : 0 < W ∧ 0 < D ∧ W < 2 ^ n ∧ D < 2 ^ n := by
  have w0 : 0 < W := Nat.pos_of_ne_zero fun z => by rw [z, Nat.zero_mul] at hp; omega
  have d0 : 0 < D := Nat.pos_of_ne_zero fun z => by rw [z, Nat.mul_zero] at hp; omega
  exact ⟨w0, d0, Nat.lt_of_le_of_lt (Nat.le_mul_of_pos_right W d0) hlt, Nat.lt_of_le_of_lt (Nat.le_mul_of_pos_left D w0) hlt⟩
section
variable {P : Program} {w : World} {K : PySem.W.Frag} {mg : Str → Option Value} {base : Heap}
theorem ok_fraction_of (D : Df K mg "fraction_of" s_fraction_of ["top", "bottom"]) (mgcd : mg "gcd" = some (.builtin "math.gcd")) : Ok P w K mg base 1 "fraction_of" ["top", "bottom"] (spPart K) := by
  refine D.ok fun f fd F => F.ok sc_fraction_of (fun vs H Q E h => ?_) (fun cdv A outer s H vs Q E hr h => ?_)
  · obtain ⟨t, b, n, rfl, _⟩ := h
    rfl
  · obtain ⟨t, b, n, rfl, hb, hn, h0, h9, q⟩ := h
    refine ⟨_, pss_cons (ps_set (i := 2) sc_fraction_of.nd rfl (.inl rfl) (pe_callBfun cr_gcd (by rfl) mgcd (pa_cons (pv 0) (pa_cons (pv 1) pa_nil))))
      (pss_cons (ps_if (pt_cmpR op_lt (pv 1) pe_int (nomark _)) (pss_one (ps_set (i := 2) sc_fraction_of.nd rfl (.inl rfl) (pe_un un_neg (pv 2)))) pss_nil)
      (pss_one (ps_ret (pe_tup (pa_cons (pe_op op_fdivW (pv 0) (pv 2)) (pa_cons (pe_op op_fdivW (pv 1) (pv 2)) pa_nil)))))), ?_⟩
    have g1 := gcd_pos (t := t) hb
    have g2 := gcd_le (t := t) hb
    have dv : ∀ i : Int, CDivW i ((Nat.gcd t.natAbs b.natAbs : Nat) : Int) := fun i => wide_div g1 (wide_le (by omega) g2 hn) h0 h9
    refine ⟨_, rfl, _, rfl, t, b, rfl, _, rfl, b, 0, rfl, rfl, _, rfl, ?_⟩
    rw [decide_eq_false (by omega : ¬ b < 0)]
    refine iteF ⟨_, rfl, _, rfl, t, _, rfl, rfl, dv _, _, rfl, _, rfl, b, _, rfl, rfl, dv _, (by show 2 ≤ sizeLine; decide), fun p hp => ?_⟩
    exact q _ _ (Ex.new hp) (made (num_div hb) (den_div hb))
theorem ok__law_part (D : Df K mg "_law_part" s__law_part ["_law_top", "_law_bottom"]) (mabs : mg "abs" = none) : Ok P w K mg base 1 "_law_part" ["_law_top", "_law_bottom"] (spPart K) := by
  refine D.ok fun f fd F => F.ok sc__law_part (fun vs H Q E h => ?_) (fun cdv A outer s H vs Q E hr h => ?_)
  · obtain ⟨t, b, n, rfl, _⟩ := h
    rfl
  · obtain ⟨t, b, n, rfl, hb, hn, h0, h9, q⟩ := h
    refine ⟨_, pss_cons (ps_set (i := 2) sc__law_part.nd rfl (.inl rfl) (pe_callB call_abs (by rfl) mabs (by decide +kernel) (pa_cons (pv 0) pa_nil)))
      (pss_cons (ps_set (i := 3) sc__law_part.nd rfl (.inl rfl) (pv 1))
      (pss_cons (ps_while PassesOwn.never (pt_cmpR op_gt (pv 3) pe_int (nomark _)) (pss_one (ps_par (i := 2) (j := 3) rfl sc__law_part.nd rfl rfl (by decide) rfl rfl (pa_cons (pv 3) (pa_cons (pe_op op_mod (pv 2) (pv 3)) pa_nil)) (by rfl))))
      (pss_one (ps_ret (pe_tup (pa_cons (pe_op op_fdivW (pv 0) (pv 2)) (pa_cons (pe_op op_fdivW (pv 1) (pv 2)) pa_nil))))))), ?_⟩
    have g1 := gcd_pos (t := t) hb
    have g2 := gcd_le (t := t) hb
    have dv : ∀ i : Int, CDivW i ((Nat.gcd t.natAbs b.natAbs : Nat) : Int) := fun i => wide_div g1 (wide_le (by omega) g2 hn) h0 h9
    refine ⟨_, rfl, t, rfl, _, rfl, ?_⟩
    refine ⟨fun m σ H' => ∃ a c : Int, σ = [some (.int t), some (.int b), some (.int a), some (.int c)] ∧ 0 ≤ a ∧ 0 ≤ c ∧ m = c.toNat ∧ Nat.gcd a.natAbs c.natAbs = Nat.gcd t.natAbs b.natAbs ∧ H' = H,
      ⟨b.toNat, _, b, rfl, by split <;> omega, by omega, rfl, ?_, rfl⟩, ?_⟩
    · split
      · rw [Int.natAbs_neg]
      · rfl
    · rintro m σ H' ⟨a, c, rfl, ha, hc, rfl, hg, rfl⟩
      refine ⟨_, rfl, c, 0, rfl, rfl, _, rfl, ite2 (fun hd => ?_) (fun hd => ?_)⟩
      · have hc1 : 0 < c := of_decide_eq_true hd
        refine ⟨fun σ' H'' => σ' = [some (.int t), some (.int b), some (.int c), some (.int (a % c))] ∧ H'' = H', ?_, ?_⟩
        · rintro σ' H'' ⟨rfl, rfl⟩
          have z1 := Int.emod_nonneg a (b := c) (by omega)
          have z2 := Int.emod_lt_of_pos a hc1
          exact ⟨(a % c).toNat, by omega, c, a % c, rfl, by omega, z1, rfl, (gcd_step ha hc1).trans hg, rfl⟩
        · exact ⟨_, rfl, _, rfl, _, rfl, a, c, rfl, rfl, hc1, _, _, rfl, rfl, rfl⟩
      · have hc1 : ¬ 0 < c := fun z => hd (decide_eq_true z)
        have hc0 : c = 0 := by omega
        subst hc0
        have ea : a = ((Nat.gcd t.natAbs b.natAbs : Nat) : Int) := by
          rw [← hg]
          simp
          omega
        subst ea
        refine ⟨_, rfl, _, rfl, t, _, rfl, rfl, dv _, _, rfl, _, rfl, b, _, rfl, rfl, dv _, (by show 2 ≤ sizeLine; decide), fun p hp => ?_⟩
        exact q _ _ (Ex.new hp) (made (num_div hb) (den_div hb))
theorem ok_plus (D : Df K mg "plus" s_plus ["one", "other"]) (G : Ok P w K mg base 1 "fraction_of" ["top", "bottom"] (spPart K)) : Ok P w K mg base 2 "plus" ["one", "other"] (spPlus K) := by
  refine D.ok fun f fd F => F.ok sc_plus (fun vs H Q E h => ?_) (fun cdv A outer s H vs Q E hr h => ?_)
  · obtain ⟨x, y, r, s, n, d, m, e, rfl, _⟩ := h
    rfl
  · obtain ⟨x, y, r, s, n, d, m, e, rfl, hx, hy, ha, hb, ⟨n0, d0, m0, e0, hde, hnm⟩, q⟩ := h
    refine ⟨_, pss_one (ps_ret (cl G hr (pa_cons (pe_op op_add (pe_op op_mulW (pe_ix ix_tup (pv 0) pe_int (fun _ _ => rfl)) (pe_ix ix_tup (pv 1) pe_int (fun _ _ => rfl))) (pe_op op_mulW (pe_ix ix_tup (pv 1) pe_int (fun _ _ => rfl)) (pe_ix ix_tup (pv 0) pe_int (fun _ _ => rfl)))) (pa_cons (pe_op op_mulW (pe_ix ix_tup (pv 0) pe_int (fun _ _ => rfl)) (pe_ix ix_tup (pv 1) pe_int (fun _ _ => rfl))) pa_nil)))), ?_⟩
    obtain ⟨t, rfl, h1⟩ := hx
    obtain ⟨u, rfl, h2⟩ := hy
    have hm1 := mulOk ha.1 hb.den
    have hm2 := mulOk hb.1 ha.den
    have hm3 := mulOk ha.den hb.den
    refine ⟨_, rfl, _, _, _, _, rfl, rfl, h1, at0, _, rfl, _, _, _, _, rfl, rfl, h2, at1, _, _, rfl, rfl, hm1, _, rfl, _, _, _, _, rfl, rfl, h2, at0, _, rfl, _, _, _, _, rfl, rfl, h1, at1, _, _, rfl, rfl, hm2, _, _, rfl, rfl, _, rfl, _, _, _, _, rfl, rfl, h1, at1, _, rfl, _, _, _, _, rfl, rfl, h2, at1, _, _, rfl, rfl, hm3, ?_⟩
    refine ⟨_, _, d + e, rfl, Int.mul_pos (den_pos r) (den_pos s), lt_mul ha.den hb.den, by omega, by omega, fun v H' e hv => ?_⟩
    rw [add_is] at hv
    exact q v H' e hv
theorem ok_times (D : Df K mg "times" s_times ["one", "other"]) (G : Ok P w K mg base 1 "fraction_of" ["top", "bottom"] (spPart K)) : Ok P w K mg base 2 "times" ["one", "other"] (spTimes K) := by
  refine D.ok fun f fd F => F.ok sc_times (fun vs H Q E h => ?_) (fun cdv A outer s H vs Q E hr h => ?_)
  · obtain ⟨x, y, r, s, n, d, m, e, rfl, _⟩ := h
    rfl
  · obtain ⟨x, y, r, s, n, d, m, e, rfl, hx, hy, ha, hb, ⟨n0, d0, m0, e0, hde, hnm⟩, q⟩ := h
    refine ⟨_, pss_one (ps_ret (cl G hr (pa_cons (pe_op op_mulW (pe_ix ix_tup (pv 0) pe_int (fun _ _ => rfl)) (pe_ix ix_tup (pv 1) pe_int (fun _ _ => rfl))) (pa_cons (pe_op op_mulW (pe_ix ix_tup (pv 0) pe_int (fun _ _ => rfl)) (pe_ix ix_tup (pv 1) pe_int (fun _ _ => rfl))) pa_nil)))), ?_⟩
    obtain ⟨t, rfl, h1⟩ := hx
    obtain ⟨u, rfl, h2⟩ := hy
    have hm1 := mulOk ha.1 hb.1
    have hm3 := mulOk ha.den hb.den
    refine ⟨_, rfl, _, _, _, _, rfl, rfl, h1, at0, _, rfl, _, _, _, _, rfl, rfl, h2, at0, _, _, rfl, rfl, hm1, _, rfl, _, _, _, _, rfl, rfl, h1, at1, _, rfl, _, _, _, _, rfl, rfl, h2, at1, _, _, rfl, rfl, hm3, ?_⟩
    refine ⟨_, _, d + e, rfl, Int.mul_pos (den_pos r) (den_pos s), lt_mul ha.den hb.den, by omega, by omega, fun v H' e hv => ?_⟩
    rw [mul_is] at hv
    exact q v H' e hv
theorem ok_weigh (D : Df K mg "weigh" s_weigh ["row", "other"]) (CN : Cst K mg "NOUGHT" 0) (mzip : mg "zip" = none) (GP : Ok P w K mg base 2 "plus" ["one", "other"] (spPlus K)) (GT : Ok P w K mg base 2 "times" ["one", "other"] (spTimes K)) : Ok P w K mg base 3 "weigh" ["row", "other"] (spWeighD K) := by
  refine D.ok fun f fd F => F.ok sc_weigh (fun vs H Q E h => ?_) (fun cdv A outer s H vs Q E hr h => ?_)
  · obtain ⟨x, y, rs, ss, m, W, D, rfl, _⟩ := h
    rfl
  · obtain ⟨x, y, rs, ss, m, W, D, rfl, ⟨tx, xs, rfl, qx, lx⟩, ⟨ty, ys, rfl, qy, ly⟩, hl, h4, hn, hm, hm1, hp, hlt, q⟩ := h
    obtain ⟨w0, d0, wl, dl⟩ := both hp hlt
    obtain ⟨aN, gN, hN⟩ := CN.ex
    refine ⟨_, pss_cons (ps_set (i := 2) sc_weigh.nd rfl (.inl rfl) (pe_glob (v := .ref aN) (by rfl) gN rfl))
      (pss_cons (ps_for PassesOwn.never rfl (RZ.pi_zipA (by rfl) mzip (pa_cons (pv 0) (pa_cons (pv 1) pa_nil))) (pg_tup rfl (pgs_cons (pg_name (i := 3) sc_weigh.nd rfl (.inl rfl)) (pgs_cons (pg_name (i := 4) sc_weigh.nd rfl (.inl rfl)) pgs_nil)))
        (pss_one (ps_set (i := 2) sc_weigh.nd rfl (.inl rfl) (cl GP hr (pa_cons (pv 2) (pa_cons (cl GT hr (pa_cons (pv 3) (pa_cons (pv 4) pa_nil))) pa_nil))))))
      (pss_one (ps_ret (pv 2)))), ?_⟩
    have e0 := Ex.refl H
    have z0 : FrV K H (.ref aN) (weighs ((rs.zip ss).take 0)) := hN H
    have lx' := Paired.length lx
    have ly' := Paired.length ly
    refine ⟨_, rfl, _, rfl, tx, ty, xs, ys, rfl, .inr ⟨ex_t e0 qx, ex_t e0 qy, RZ.for_zipT (by omega) (fun i σ H' => ∃ (v : V) (o3 o4 : Option V), σ = [some (.ref tx), some (.ref ty), some v, o3, o4] ∧ Ex H H' ∧ FrV K H' v (weighs ((rs.zip ss).take i)))
      ⟨_, none, none, rfl, e0, z0⟩ (fun i σ H' ⟨_, _, _, _, e1, _⟩ => ⟨ex_t e1 qx, ex_t e1 qy⟩) ?_ ?_⟩⟩
    · rintro i x y T σ H' hx hy ⟨v, o3, o4, rfl, e1, hv⟩ hT
      obtain ⟨r, hr1, fr⟩ := pget lx hx
      obtain ⟨u, hu1, fu⟩ := pget ly hy
      have hzip : (rs.zip ss)[i]? = some (r, u) := by
        rw [List.getElem?_zip_eq_some]
        exact ⟨hr1, hu1⟩
      have hi : i < rs.length := (List.getElem?_eq_some_iff.mp hr1).1
      have szr := hn r (List.mem_of_getElem? hr1)
      have szu := hm u (List.mem_of_getElem? hu1)
      have szt := sv_weighs hp hlt i (rs.zip ss) (by rw [List.length_zip]; omega) (fun p hp => ⟨hn _ (List.of_mem_zip hp).1, hm _ (List.of_mem_zip hp).2⟩)
      have b2 : i * (100 + m + 1200 + 1) ≤ 3 * (100 + m + 1200 + 1) := Nat.mul_le_mul_right _ (by omega)
      have eT : Ex H' (upd H' T (.tup [x, y])) := Ex.new hT
      refine ⟨T, [x, y], rfl, st_of upd_same, rfl, x, [y], rfl, y, [], rfl, rfl, ?_⟩
      refine ⟨_, rfl, _, rfl, _, rfl, x, y, r, u, 100, 1200, m + 1, 1200, rfl, fr.ex (e1.trans eT), fu.ex (e1.trans eT), szr.sz w0 wl, (szu.sz d0 dl).mono (by omega) (by omega), ⟨by omega, by omega, by omega, by omega, by omega, by omega⟩, fun v2 H2 e2 hv2 => ?_⟩
      refine ⟨v, v2, _, _, 1 + i * (100 + m + 1200 + 1), 1200, 100 + m, 1200, rfl, hv.ex (eT.trans e2), hv2, szt.sz hp hlt, (sv_mul szr szu).sz hp hlt, ⟨by omega, by omega, by omega, by omega, by omega, by omega⟩, fun v3 H3 e3 hv3 => ?_⟩
      refine ⟨v3, some x, some y, rfl, ((e1.trans eT).trans e2).trans e3, ?_⟩
      rw [weighs_take hzip]
      exact hv3
    · rintro σ H' ⟨v, o3, o4, rfl, e1, hv⟩
      refine ⟨_, rfl, q v H' e1 ?_⟩
      rwa [List.take_of_length_le (by rw [List.length_zip]; omega)] at hv
theorem ok_sum_at (D : Df K mg "sum_at" s_sum_at ["one", "row"]) (GP : Ok P w K mg base 2 "plus" ["one", "other"] (spPlus K)) (GW : Ok P w K mg base 3 "weigh" ["row", "other"] (spWeighD K)) : Ok P w K mg base 4 "sum_at" ["one", "row"] (spTellsD K) := by
  refine D.ok fun f fd F => F.ok sc_sum_at (fun vs H Q E h => ?_) (fun cdv A outer s H vs Q E hr h => ?_)
  · obtain ⟨x, y, z, ss, m, W, D, rfl, _⟩ := h
    rfl
  · obtain ⟨x, y, z, ss, m, W, D, rfl, ⟨t, a, b, rfl, qt, ra, fb⟩, ry, hl, h4, hn, hb, hm, hm1, hp, hlt, q⟩ := h
    obtain ⟨w0, d0, wl, dl⟩ := both hp hlt
    have b2 : z.1.length * (100 + m + 1200 + 1) ≤ 4 * (100 + m + 1200 + 1) := Nat.mul_le_mul_right _ (by omega)
    have sw := sv_of_weighs hp hlt hn hm hl
    refine ⟨_, pss_cons (ps_asg (pv 0) (pg_tup rfl (pgs_cons (pg_name (i := 2) sc_sum_at.nd rfl (.inl rfl)) (pgs_cons (pg_name (i := 3) sc_sum_at.nd rfl (.inl rfl)) pgs_nil))))
      (pss_one (ps_ret (cl GP (hr.mono (by decide)) (pa_cons (cl GW hr (pa_cons (pv 2) (pa_cons (pv 1) pa_nil))) (pa_cons (pv 3) pa_nil))))), ?_⟩
    refine ⟨_, rfl, t, [a, b], rfl, qt, rfl, a, [b], rfl, b, [], rfl, rfl, ?_⟩
    refine ⟨_, rfl, _, rfl, a, y, z.1, ss, m, W, D, rfl, ra, ry, hl, h4, hn, hm, hm1, hp, hlt, fun v H2 e2 hv => ?_⟩
    refine ⟨_, rfl, v, b, _, _, _, 1200, 100, 1200, rfl, hv, fb.ex e2, sw.sz hp hlt, hb.sz w0 wl, ⟨by omega, by omega, by omega, by omega, by omega, by omega⟩, fun v3 H3 e3 hv3 => ?_⟩
    exact q v3 H3 (e2.trans e3) hv3
end

end K07
end
section
set_option maxRecDepth 100000
set_option maxHeartbeats 400000
namespace K07
open PySem Evl Nc PyProof.Rows
open L2 hiding spCell
section
variable {P : Program} {w : World} {K : PySem.W.Frag} {mg : Str → Option Value} {base : Heap}
theorem ok_is_whole (D : Df K mg "is_whole" s_is_whole ["thing"]) (misi : mg "isinstance" = none) (mint : mg "int" = none) (mbool : mg "bool" = none) : Ok P w K mg base 1 "is_whole" ["thing"] (spWh K) := by
  refine D.ok fun f fd F => F.ok sc_is_whole (fun vs H Q E h => ?_) (fun cdv A outer s H vs Q E hr h => ?_)
  · obtain ⟨v, k, rfl, _⟩ := h
    rfl
  · obtain ⟨v, k, rfl, hk, q⟩ := h
    refine ⟨_, pss_one (ps_ret (pe_and (pe_callB call_isi (by rfl) misi (by decide +kernel) (pa_cons (pv 0) (pa_cons (pe_bltn (v := .ty "int") (by rfl) mint (by decide +kernel) rfl) pa_nil))) (pe_one (pe_not (pe_callB call_isi (by rfl) misi (by decide +kernel) (pa_cons (pv 0) (pa_cons (pe_bltn (v := .ty "bool") (by rfl) mbool (by decide +kernel) rfl) pa_nil))))))), ?_⟩
    refine ⟨_, rfl, v, _, _, _, _, rfl, .ty _, hk.1, kit_ty (kd_int k), _, rfl, ifB (fun e => ?_) (fun e => ?_)⟩
    · refine ⟨_, rfl, v, _, _, _, _, rfl, .ty _, hk.1, kit_ty (kd_bool k), _, rfl, ?_⟩
      cases k <;> first | exact q | exact absurd e (by decide)
    · cases k <;> first | exact q | exact absurd e (by decide)
theorem ok_is_fraction (D : Df K mg "is_fraction" s_is_fraction ["thing"]) (GW : Ok P w K mg base 1 "is_whole" ["thing"] (spWh K)) (misi : mg "isinstance" = none) (mtuple : mg "tuple" = none) (mlen : mg "len" = none) (mgcd : mg "gcd" = some (.builtin "math.gcd")) : Ok P w K mg base 2 "is_fraction" ["thing"] (spFr K) := by
  refine D.ok fun f fd F => F.ok sc_is_fraction (fun vs H Q E h => ?_) (fun cdv A outer s H vs Q E hr h => ?_)
  · obtain ⟨v, b, rfl, _⟩ := h
    rfl
  · obtain ⟨v, b, rfl, ht, q⟩ := h
    have hr1 : Room 1 _ := hr.mono (by decide)
    refine ⟨_, (pss_cons (ps_if (PW.pt (pw_or (pt_not (pt_val (pe_callB call_isi (by rfl) misi (by decide +kernel) (pa_cons (pv 0) (pa_cons (pe_bltn (v := .ty "tuple") (by rfl) mtuple (by decide +kernel) rfl) pa_nil))))) (pw_or1 (pt_cmpR op_ne (pe_callB call_len_seq (by rfl) mlen PySem.boot_len (pa_cons (pv 0) pa_nil)) pe_int (nomark _))))) (pss_one (ps_ret pe_bl)) pss_nil)
      (pss_cons (ps_asg (pv 0) (pg_tup rfl (pgs_cons (pg_name (i := 1) sc_is_fraction.nd rfl (.inl rfl)) (pgs_cons (pg_name (i := 2) sc_is_fraction.nd rfl (.inl rfl)) pgs_nil))))
      (pss_one (ps_ret (pe_and (cl GW hr1 (pa_cons (pv 1) pa_nil)) (pe_and (cl GW hr1 (pa_cons (pv 2) pa_nil)) (pe_and (pe_cmpR op_gt (pv 2) pe_int (nomark _)) (pe_one (pe_cmpR op_eq (pe_callBfun cr_gcd (by rfl) mgcd (pa_cons (pv 1) (pa_cons (pv 2) pa_nil))) pe_int (nomark _)))))))))), ?_⟩
    cases ht with
    | oth h n =>
      refine ⟨_, rfl, v, _, _, _, _, rfl, .ty _, h.1, kit_ty (kd_tup _), _, rfl, ?_⟩
      rw [decide_eq_false n]
      exact iteT (iteT q)
    | tupN qt n =>
      refine ⟨_, rfl, _, _, _, _, _, rfl, .ty _, tyT qt, kit_ty (r := true) (by decide +kernel), _, rfl, ?_⟩
      refine iteF ?_
      refine ⟨_, rfl, _, _, rfl, .inr qt, rfl, _, rfl, ifB (fun e => q) (fun e => ?_)⟩
      have e1 := eq_of_nd e
      exact (n (by omega)).elim
    | @two t x y kx ky qt hx hy n =>
      refine ⟨_, rfl, _, _, _, _, _, rfl, .ty _, tyT qt, kit_ty (r := true) (by decide +kernel), _, rfl, ?_⟩
      refine iteF ?_
      refine ⟨_, rfl, _, _, rfl, .inr qt, rfl, _, rfl, iteNS rfl ?_⟩
      refine ⟨_, rfl, t, [x, y], rfl, qt, rfl, x, [y], rfl, y, [], rfl, rfl, ?_⟩
      refine ⟨_, rfl, x, kx, rfl, hx, _, rfl, ifB (fun e => ?_) (fun e => q)⟩
      refine ⟨_, rfl, y, ky, rfl, hy, _, rfl, ifB (fun e2 => ?_) (fun e2 => q)⟩
      exact (n ⟨of_decide_eq_true e, of_decide_eq_true e2⟩).elim
    | @nums t a b qt =>
      refine ⟨_, rfl, _, _, _, _, _, rfl, .ty _, tyT qt, kit_ty (r := true) (by decide +kernel), _, rfl, ?_⟩
      refine iteF ?_
      refine ⟨_, rfl, _, _, rfl, .inr qt, rfl, _, rfl, iteNS rfl ?_⟩
      refine ⟨_, rfl, t, [.int a, .int b], rfl, qt, rfl, _, [_], rfl, _, [], rfl, rfl, ?_⟩
      refine ⟨_, rfl, _, .int, rfl, ⟨tyI a, fun _ => ⟨a, rfl⟩⟩, _, rfl, iteT ?_⟩
      refine ⟨_, rfl, _, .int, rfl, ⟨tyI b, fun _ => ⟨b, rfl⟩⟩, _, rfl, iteT ?_⟩
      refine ⟨_, rfl, _, _, rfl, rfl, _, rfl, ifB (fun e => ?_) (fun e => ?_)⟩
      · refine ⟨_, rfl, _, rfl, a, b, rfl, rfl, ?_⟩
        rw [e, Bool.true_and] at q
        exact q_bl q (dec_int _)
      · rw [e, Bool.false_and] at q
        exact q
theorem ok_is_row (D : Df K mg "is_row" s_is_row ["thing", "many"]) (GF : Ok P w K mg base 2 "is_fraction" ["thing"] (spFr K)) (misi : mg "isinstance" = none) (mtuple : mg "tuple" = none) (mlen : mg "len" = none) (mall : mg "all" = none) : Ok P w K mg base 3 "is_row" ["thing", "many"] (spIsRw K) := by
  refine D.ok fun f fd F => F.ok sc_is_row (fun vs H Q E h => ?_) (fun cdv A outer s H vs Q E hr h => ?_)
  · obtain ⟨v, k, f, rfl, _⟩ := h
    rfl
  · obtain ⟨v, k, f, rfl, hw, q⟩ := h
    refine ⟨_, (pss_cons (ps_if (PW.pt (pw_or (pt_not (pt_val (pe_callB call_isi (by rfl) misi (by decide +kernel) (pa_cons (pv 0) (pa_cons (pe_bltn (v := .ty "tuple") (by rfl) mtuple (by decide +kernel) rfl) pa_nil))))) (pw_or1 (pt_cmpR op_ne (pe_callB call_len_seq (by rfl) mlen PySem.boot_len (pa_cons (pv 0) pa_nil)) (pv 1) (nomark _))))) (pss_one (ps_ret pe_bl)) pss_nil)
      (pss_one (ps_ret (pe_callB (cr_all rfl) (by rfl) mall (by decide +kernel) (pa_cons (pe_lc (own := [("part", 2)]) (g := gName 2) (tt := tYes) rfl sc_is_row.nd (pi_tup (pv 0)) (blkOk_by (N := ["thing", "many", "part"]) (sc := defScope s_is_row) (by decide +kernel)) (fun _ _ _ _ _ => (pg_name (i := 2) sc_is_row.nd rfl (.inl rfl))) (fun _ _ _ _ _ => pts_nil) (fun _ _ _ _ _ => cl GF (hr.mono (by decide)) (pa_cons (pv 2) pa_nil))) pa_nil))))), ?_⟩
    cases hw with
    | oth h n =>
      refine ⟨_, rfl, v, _, _, _, _, rfl, .ty _, h.1, kit_ty (kd_tup _), _, rfl, ?_⟩
      rw [decide_eq_false n]
      exact iteT (iteT (q _ (Ex.refl H)))
    | @tup t xs bs qt p z =>
      have hl := Paired.length p
      refine ⟨_, rfl, _, _, _, _, _, rfl, .ty _, tyT qt, kit_ty (r := true) (by decide +kernel), _, rfl, iteF ?_⟩
      refine ⟨_, rfl, _, _, rfl, .inr qt, _, rfl, rfl, _, rfl, ifB (fun e => ?_) (fun e => ?_)⟩
      · refine q_bl (q _ (Ex.refl H)) ?_
        show _ = (decide ((bs.length : Int) = k) && bs.all id)
        rw [← hl, ne_of_nd e, Bool.false_and]
      · have e1 := eq_of_nd e
        subst e1
        refine ⟨_, rfl, t, rfl, ⟨_, qt⟩, fun D hD => ?_⟩
        refine lc_tup (K := K) (a := t) (xs := xs) (fun i H' => Ex H H' ∧ H' D = some (.lst ((bs.take i).map V.bl))) ⟨Ex.new hD, upd_same⟩ (fun i H' _ b => ex_t b.1 qt) ?_ ?_
        · rintro i x H' hi ⟨e1, k1⟩
          obtain ⟨b, hb, th⟩ := pget p hi
          have hlt := (List.getElem?_eq_some_iff.mp hi).1
          refine ⟨rfl, ?_⟩
          refine ⟨_, rfl, x, b, rfl, th_exx e1 th, _, k1, sz_lt (by rw [List.length_map, List.length_take]; omega), Ex.mut e1 hD, ?_⟩
          rw [List.take_add_one, hb, List.map_append]
          exact upd_same
        · rintro H1 ⟨e1, k1⟩
          refine ⟨D, bs, rfl, sq_of ?_, ?_⟩
          · rw [k1, List.take_of_length_le (by omega)]
          · refine q_bl (q _ e1) ?_
            show _ = (decide ((bs.length : Int) = (xs.length : Int)) && bs.all id)
            rw [decide_eq_true (by omega), Bool.true_and]
theorem ok_is_sum (D : Df K mg "is_sum" s_is_sum ["thing", "many"]) (GR : Ok P w K mg base 3 "is_row" ["thing", "many"] (spIsRw K)) (GF : Ok P w K mg base 2 "is_fraction" ["thing"] (spFr K)) (misi : mg "isinstance" = none) (mtuple : mg "tuple" = none) (mlen : mg "len" = none) : Ok P w K mg base 4 "is_sum" ["thing", "many"] (spIsSum K) := by
  refine D.ok fun f fd F => F.ok sc_is_sum (fun vs H Q E h => ?_) (fun cdv A outer s H vs Q E hr h => ?_)
  · obtain ⟨x, z, rfl, _⟩ := h
    rfl
  · obtain ⟨x, z, rfl, ⟨t, a, b, rfl, qt, ra, fb⟩, hl, q⟩ := h
    have hr2 : Room 2 _ := hr.mono (by decide)
    refine ⟨_, (pss_cons (ps_if (PW.pt (pw_or (pt_not (pt_val (pe_callB call_isi (by rfl) misi (by decide +kernel) (pa_cons (pv 0) (pa_cons (pe_bltn (v := .ty "tuple") (by rfl) mtuple (by decide +kernel) rfl) pa_nil))))) (pw_or1 (pt_cmpR op_ne (pe_callB call_len_seq (by rfl) mlen PySem.boot_len (pa_cons (pv 0) pa_nil)) pe_int (nomark _))))) (pss_one (ps_ret pe_bl)) pss_nil)
      (pss_cons (ps_asg (pv 0) (pg_tup rfl (pgs_cons (pg_name (i := 2) sc_is_sum.nd rfl (.inl rfl)) (pgs_cons (pg_name (i := 3) sc_is_sum.nd rfl (.inl rfl)) pgs_nil))))
      (pss_one (ps_ret (pe_and (cl GR hr (pa_cons (pv 2) (pa_cons (pv 1) pa_nil))) (pe_one (cl GF hr2 (pa_cons (pv 3) pa_nil)))))))), ?_⟩
    refine ⟨_, rfl, _, _, _, _, _, rfl, .ty _, tyT qt, kit_ty (r := true) (by decide +kernel), _, rfl, iteF ?_⟩
    refine ⟨_, rfl, _, _, rfl, .inr qt, rfl, _, rfl, iteNS rfl ?_⟩
    refine ⟨_, rfl, t, [a, b], rfl, qt, rfl, a, [b], rfl, b, [], rfl, rfl, ?_⟩
    refine ⟨_, rfl, _, rfl, a, _, _, rfl, ra.rw hl, fun H1 e1 => ⟨_, rfl, ?_⟩⟩
    rw [rwB_rep]
    exact iteT ⟨_, rfl, b, true, rfl, (fb.ex e1).th, q H1 e1⟩
theorem ok__are_ins (D : Df K mg "_are_ins" s__are_ins ["thing"]) {tMI : Tok} (GW : Ok P w K mg base 1 "is_whole" ["thing"] (spWh K)) (mMI : mg "MOST_INS" = some (.int 3 tMI)) : Ok P w K mg base 2 "_are_ins" ["thing"] spAreIns := by
  refine D.ok fun f fd F => F.ok sc__are_ins (fun vs H Q E h => ?_) (fun cdv A outer s H vs Q E hr h => ?_)
  · obtain ⟨n, rfl, _⟩ := h
    rfl
  · obtain ⟨n, rfl, n1, n3, q⟩ := h
    refine ⟨_, pss_one (ps_ret (pe_and (cl GW hr (pa_cons (pv 0) pa_nil)) (pe_one (pe_chain op_le op_le pe_int (pv 0) (pe_glob (v := .int 3) (by rfl) mMI ⟨_, rfl⟩))))), ?_⟩
    refine ⟨_, rfl, _, .int, rfl, ⟨tyI _, fun _ => ⟨_, rfl⟩⟩, _, rfl, ite_t (decide_eq_true rfl) ?_⟩
    refine ⟨_, rfl, _, _, rfl, rfl, _, rfl, ite_t (decide_eq_true (by omega)) ?_⟩
    exact ⟨_, _, rfl, rfl, q_bl q (decide_eq_true (by omega))⟩
theorem ok__are_layers (D : Df K mg "_are_layers" s__are_layers ["thing", "ins"]) {tML tMN : Tok} (GI : Ok P w K mg base 4 "is_sum" ["thing", "many"] (spIsSum K)) (mML : mg "MOST_LAYERS" = some (.int 4 tML)) (mMN : mg "MOST_NODES" = some (.int 4 tMN)) (misi : mg "isinstance" = none) (mtuple : mg "tuple" = none) (mlist : mg "list" = none) (mlen : mg "len" = none) (mall : mg "all" = none) : Ok P w K mg base 5 "_are_layers" ["thing", "ins"] (spAreLays K) := by
  refine D.ok fun f fd F => F.ok sc__are_layers (fun vs H Q E h => ?_) (fun cdv A outer s H vs Q E hr h => ?_)
  · obtain ⟨x, n, ls, W, rfl, _⟩ := h
    rfl
  · obtain ⟨x, n, ls, W, rfl, ⟨D, ys, rfl, qD, pl⟩, ok, q⟩ := h
    refine ⟨_, (pss_cons (ps_if (PW.pt (pw_or (pt_not (pt_val (pe_callB call_isiT (by rfl) misi (by decide +kernel) (pa_cons (pv 0) (pa_cons (pe_tup (pa_cons (pe_bltn (v := .ty "list") (by rfl) mlist (by decide +kernel) rfl) (pa_cons (pe_bltn (v := .ty "tuple") (by rfl) mtuple (by decide +kernel) rfl) pa_nil))) pa_nil))))) (pw_or1 (pt_not (pt_chain op_le op_le pe_int (pe_callB call_len_seq (by rfl) mlen PySem.boot_len (pa_cons (pv 0) pa_nil)) (pe_glob (v := .int 4) (by rfl) mML ⟨_, rfl⟩)))))) (pss_one (ps_ret pe_bl)) pss_nil)
      (pss_cons (ps_set (i := 2) sc__are_layers.nd rfl (.inr rfl) (pv 1))
      (pss_cons (ps_for PassesOwn.never rfl (pi_list (pv 0)) (pg_name (i := 3) sc__are_layers.nd rfl (.inl rfl)) (pss_cons (ps_if (PW.pt (pw_or (pt_not (pt_val (pe_callB call_isiT (by rfl) misi (by decide +kernel) (pa_cons (pv 3) (pa_cons (pe_tup (pa_cons (pe_bltn (v := .ty "list") (by rfl) mlist (by decide +kernel) rfl) (pa_cons (pe_bltn (v := .ty "tuple") (by rfl) mtuple (by decide +kernel) rfl) pa_nil))) pa_nil))))) (pw_or1 (pt_not (pt_chain op_le op_le pe_int (pe_callB call_len_seq (by rfl) mlen PySem.boot_len (pa_cons (pv 3) pa_nil)) (pe_glob (v := .int 4) (by rfl) mMN ⟨_, rfl⟩)))))) (pss_one (ps_ret pe_bl)) pss_nil)
      (pss_cons (ps_if (pt_not (pt_val (pe_callB (cr_all rfl) (by rfl) mall (by decide +kernel) (pa_cons (pe_lc (own := [("node", 4)]) (g := gName 4) (tt := tYes) rfl sc__are_layers.nd (pi_list (pv 3)) (blkOk_by (N := ["thing", "ins", "ahead", "nodes", "node"]) (sc := defScope s__are_layers) (by decide +kernel)) (fun _ _ _ _ _ => (pg_name (i := 4) sc__are_layers.nd rfl (.inl rfl))) (fun _ _ _ _ _ => pts_nil) (fun _ _ _ _ _ => cl GI hr (pa_cons (pv 4) (pa_cons (pv 2) pa_nil)))) pa_nil)))) (pss_one (ps_ret pe_bl)) pss_nil)
      (pss_one (ps_set (i := 2) sc__are_layers.nd rfl (.inr rfl) (pe_callB call_len_seq (by rfl) mlen PySem.boot_len (pa_cons (pv 3) pa_nil)))))))
      (pss_one (ps_ret pe_bl))))), ?_⟩
    have hly := Paired.length pl
    have l1 := ok.l1
    have l4 := ok.l4
    have n3 := ok.n3
    refine ⟨_, rfl, (by show 2 ≤ sizeLine; decide), fun p hp => ?_⟩
    have e1 : Ex H (upd H p (.tup [.ty "list", .ty "tuple"])) := Ex.new hp
    refine ⟨_, p, _, _, _, _, rfl, upd_same, .cons (.ty _) (.cons (.ty _) .nil), tyL (ex_l e1 qD), kitLT, _, rfl, iteF ?_⟩
    generalize upd H p (.tup [.ty "list", .ty "tuple"]) = H1 at e1 ⊢
    refine ⟨_, rfl, D, _, rfl, .inl (ex_l e1 qD), _, _, rfl, rfl, _, rfl, ite_t (decide_eq_true (by omega)) ⟨_, _, rfl, rfl, _, rfl, ite_nt (decide_eq_true (by omega)) ?_⟩⟩
    refine ⟨_, rfl, _, rfl, D, rfl, ⟨_, ex_l e1 qD⟩, for_list (K := K) (a := D) (xs := ys) (fun i σ H' => ∃ (n' : Nat) (o3 o4 : Option V), σ = [some (.ref D), some (.int (n : Int)), some (.int (n' : Int)), o3, o4] ∧ Ex H H' ∧ n' ≤ 4 ∧ Over n' (ls.drop i)) ⟨n, none, none, rfl, e1, by omega, ok.over⟩ (fun i σ H' _ ⟨_, _, _, _, e, _⟩ => ex_l e qD) ?_ ?_⟩
    · rintro i v σ H2 hi ⟨n', o3, o4, rfl, e2, hn4, ov⟩
      obtain ⟨l, hl, lv⟩ := pget pl hi
      obtain ⟨a, xs, rfl, qa, pz⟩ := lv.ex e2
      rw [drop_at hl] at ov
      obtain ⟨o1, ⟨o2, o2'⟩, o5⟩ := ov
      have hlx := Paired.length pz
      refine ⟨_, rfl, (by show 2 ≤ sizeLine; decide), fun p hp => ?_⟩
      have e3 : Ex H2 (upd H2 p (.tup [.ty "list", .ty "tuple"])) := Ex.new hp
      refine ⟨_, p, _, _, _, _, rfl, upd_same, .cons (.ty _) (.cons (.ty _) .nil), tyL (ex_l e3 qa), kitLT, _, rfl, iteF ?_⟩
      generalize upd H2 p (.tup [.ty "list", .ty "tuple"]) = H3 at e3 ⊢
      have qa3 := ex_l e3 qa
      have pz3 : Paired (SumV K H3) xs l := pmono (fun _ _ => SumV.ex e3) pz
      refine ⟨_, rfl, a, _, rfl, .inl qa3, _, _, rfl, rfl, _, rfl, ite_t (decide_eq_true (by omega)) ⟨_, _, rfl, rfl, _, rfl, ite_nt (decide_eq_true (by omega)) ?_⟩⟩
      refine ⟨_, rfl, a, rfl, ⟨_, qa3⟩, fun G hG => ?_⟩
      refine lc_list (K := K) (a := a) (xs := xs) (fun j H' => Ex H3 H' ∧ H' G = some (.lst ((List.replicate j true).map V.bl))) ⟨Ex.new hG, upd_same⟩ (fun j H' _ b => ex_l b.1 qa3) ?_ ?_
      · rintro j y H' hj ⟨e4, k4⟩
        obtain ⟨z, hz, sz⟩ := pget pz3 hj
        have hjl := (List.getElem?_eq_some_iff.mp hj).1
        have z1 := o1 z (List.mem_of_getElem? hz)
        refine ⟨rfl, ?_⟩
        refine ⟨_, rfl, _, rfl, y, z, (by rw [z1]; rfl), sz.ex e4, by omega, fun H5 e5 => ⟨_, e5 _ _ k4, sz_lt (by simp; omega), Ex.mut (e4.trans e5) hG, ?_⟩⟩
        rw [List.replicate_succ', List.map_append]
        exact upd_same
      · rintro H5 ⟨e5, k5⟩
        refine ⟨G, _, rfl, sq_of k5, _, rfl, ite_nt (by simp) ?_⟩
        have E5 := e3.trans e5
        exact ⟨_, rfl, a, _, rfl, .inl (ex_l E5 qa), xs.length, _, _, rfl, e2.trans E5, by omega, by rw [hlx]; exact o5⟩
    · rintro σ H2 ⟨n', o3, o4, rfl, e2, _, _⟩
      exact q H2 e2
theorem ok_cut_at_nought (D : Df K mg "cut_at_nought" s_cut_at_nought ["one"]) (CN : Cst K mg "NOUGHT" 0) : Ok P w K mg base 1 "cut_at_nought" ["one"] (spCutQ K) := by
  refine D.ok fun f fd F => F.ok sc_cut_at_nought (fun vs H Q E h => ?_) (fun cdv A outer s H vs Q E hr h => ?_)
  · obtain ⟨x, r, rfl, _⟩ := h
    rfl
  · obtain ⟨x, r, rfl, hx, q⟩ := h
    obtain ⟨aN, gN, hN⟩ := CN.ex
    refine ⟨_, pss_cons (ps_if (pt_cmpR op_lt (pe_ix ix_tup (pv 0) pe_int (fun _ _ => rfl)) pe_int (nomark _)) (pss_one (ps_ret (pe_glob (v := .ref aN) (by rfl) gN rfl))) pss_nil) (pss_one (ps_ret (pv 0))), ?_⟩
    have fx := hx
    obtain ⟨t, rfl, qx⟩ := hx
    refine ⟨_, rfl, _, _, _, _, rfl, rfl, qx, at0, _, _, rfl, rfl, _, rfl, ite2 (fun hd => ?_) (fun hd => ?_)⟩
    · refine q _ ?_
      unfold cutQ
      rw [if_pos (of_decide_eq_true hd)]
      exact hN H
    · refine ⟨_, rfl, q _ ?_⟩
      unfold cutQ
      rw [if_neg (fun z => hd (decide_eq_true z))]
      exact fx
theorem ok__reckoned (D : Df K mg "_reckoned" s__reckoned ["nodes", "ahead"]) (GS : Ok P w K mg base 4 "sum_at" ["one", "row"] (spTellsD K)) (mtuple : mg "tuple" = none) : Ok P w K mg base 5 "_reckoned" ["nodes", "ahead"] (spReckD K) := by
  refine D.ok fun f fd F => F.ok sc__reckoned (fun vs H Q E h => ?_) (fun cdv A outer s H vs Q E hr h => ?_)
  · obtain ⟨x, y, l, L, m, W, D, rfl, _⟩ := h
    rfl
  · obtain ⟨x, y, l, L, m, W, D, rfl, ⟨t, xs, rfl, qt, lz⟩, hy, k, q⟩ := h
    refine ⟨_, pss_one (ps_ret (pe_callTy call_tuple_of (by rfl) mtuple (by decide +kernel) (pa_cons (pe_lc (own := [("node", 2)]) (g := gName 2) (tt := tYes) rfl sc__reckoned.nd (pi_tup (pv 0)) (blkOk_by (N := ["nodes", "ahead", "node"]) (sc := defScope s__reckoned) (by decide +kernel)) (fun _ _ _ _ _ => (pg_name (i := 2) sc__reckoned.nd rfl (.inl rfl))) (fun _ _ _ _ _ => pts_nil) (fun _ _ _ _ _ => cl GS hr (pa_cons (pv 2) (pa_cons (pv 1) pa_nil)))) pa_nil))), ?_⟩
    have hlen := Paired.length lz
    have hm := k.many
    have hL4 := k.len
    refine ⟨_, rfl, t, rfl, ⟨_, qt⟩, fun G hG => ?_⟩
    refine lc_tup (xs := xs) (Bld (FrV K) H G (l.map fun z => tells z L)) (bld0 hG) (fun i H' _ b => ex_t b.1 qt) ?_ ?_
    · rintro i x H' hx b
      obtain ⟨z, hz1, fz⟩ := pget lz hx
      obtain ⟨n1, n2, n3⟩ := k.nodes z (List.mem_of_getElem? hz1)
      refine ⟨rfl, ?_⟩
      refine ⟨_, rfl, _, rfl, x, y, z, L, m, W, D, rfl, fz.ex b.1, hy.ex b.1, n1, by omega, n2, n3, k.row, k.top, k.pos, k.lt, fun v H4 e4 hv => ?_⟩
      refine bld_step stF hG b e4 ?_ ?_ hv
      · rw [List.getElem?_map, hz1]
        rfl
      · have := (List.getElem?_eq_some_iff.mp hx).1
        omega
    · intro H' b
      obtain ⟨e1, ws, hws, pz⟩ := bld_end (by simp; omega) b
      refine ⟨G, ws, rfl, .inl ⟨sq_of hws, fun l hl' => ?_⟩⟩
      exact q _ _ (e1.trans (Ex.new hl')) (bld_row (n := 0) hws pz hl')
theorem ok_Layer_told {C : Addr} (D : Md K C "told" "Layer.told" s_Layer_told ["self"]) (T : Cls K C) (nA : NoAttr K C "_nodes") : MOk P w K mg base 1 C "told" ["self"] (spToldL C) := by
  refine D.ok fun f fd F => F.ok sc_Layer_told (fun vs H Q E h => ?_) (fun cdv A outer s H vs Q E hr h => ?_)
  · obtain ⟨p, v, rfl, _⟩ := h
    rfl
  · obtain ⟨p, v, rfl, ⟨dx, hp⟩, q⟩ := h
    refine ⟨_, pss_one (ps_ret (pe_fld (pv 0) rfl)), ?_⟩
    exact ⟨_, rfl, p, C, dx, _, v, rfl, hp, T, nA, rfl, q⟩
theorem ok_CutLayer_told {C : Addr} (D : Md K C "told" "CutLayer.told" s_CutLayer_told ["self"]) (T : Cls K C) (nA : NoAttr K C "_nodes") : MOk P w K mg base 1 C "told" ["self"] (spToldL C) := by
  refine D.ok fun f fd F => F.ok sc_CutLayer_told (fun vs H Q E h => ?_) (fun cdv A outer s H vs Q E hr h => ?_)
  · obtain ⟨p, v, rfl, _⟩ := h
    rfl
  · obtain ⟨p, v, rfl, ⟨dx, hp⟩, q⟩ := h
    refine ⟨_, pss_one (ps_ret (pe_fld (pv 0) rfl)), ?_⟩
    exact ⟨_, rfl, p, C, dx, _, v, rfl, hp, T, nA, rfl, q⟩
theorem ok_Layer_sums {C : Addr} (D : Md K C "sums" "Layer.sums" s_Layer_sums ["self", "ahead"]) (T : Cls K C) (nA : NoAttr K C "_nodes") (GR : Ok P w K mg base 5 "_reckoned" ["nodes", "ahead"] (spReckD K)) : MOk P w K mg base 6 C "sums" ["self", "ahead"] (spPassD K C) := by
  refine D.ok fun f fd F => F.ok sc_Layer_sums (fun vs H Q E h => ?_) (fun cdv A outer s H vs Q E hr h => ?_)
  · obtain ⟨p, v, y, l, L, m, W, D, rfl, _⟩ := h
    rfl
  · obtain ⟨p, v, y, l, L, m, W, D, rfl, ⟨dx, hp⟩, hv, hy, k, q⟩ := h
    refine ⟨_, pss_one (ps_ret (cl GR hr (pa_cons (pe_fld (pv 0) rfl) (pa_cons (pv 1) pa_nil)))), ?_⟩
    exact ⟨_, rfl, p, C, dx, _, v, rfl, hp, T, nA, rfl, _, rfl, v, y, l, L, m, W, D, rfl, hv, hy, k, q⟩
theorem ok_CutLayer_sums {C : Addr} (D : Md K C "sums" "CutLayer.sums" s_CutLayer_sums ["self", "ahead"]) (T : Cls K C) (nA : NoAttr K C "_nodes") (GR : Ok P w K mg base 5 "_reckoned" ["nodes", "ahead"] (spReckD K)) : MOk P w K mg base 6 C "sums" ["self", "ahead"] (spPassD K C) := by
  refine D.ok fun f fd F => F.ok sc_CutLayer_sums (fun vs H Q E h => ?_) (fun cdv A outer s H vs Q E hr h => ?_)
  · obtain ⟨p, v, y, l, L, m, W, D, rfl, _⟩ := h
    rfl
  · obtain ⟨p, v, y, l, L, m, W, D, rfl, ⟨dx, hp⟩, hv, hy, k, q⟩ := h
    refine ⟨_, pss_one (ps_ret (cl GR hr (pa_cons (pe_fld (pv 0) rfl) (pa_cons (pv 1) pa_nil)))), ?_⟩
    exact ⟨_, rfl, p, C, dx, _, v, rfl, hp, T, nA, rfl, _, rfl, v, y, l, L, m, W, D, rfl, hv, hy, k, q⟩
theorem fn_init {C : Addr} {f : Addr} {fd : FuncData} (F : Fun K "__init__" "Layer.__init__" s_Layer___init__ f fd) (T : Cls K C) (nA : NoAttr K C "_nodes") (mtuple : mg "tuple" = none) : FnOk P w K mg base CX0 1 f fd ["self", "nodes"] (spInitL K C) := by
  refine F.ok sc_Layer___init__ (fun vs H Q E h => ?_) (fun cdv A outer s H vs Q E hr h => ?_)
  · obtain ⟨p, dx, a, xs, zs, rfl, _⟩ := h
    rfl
  · obtain ⟨p, dx, a, xs, zs, rfl, hp, hx, lz, q⟩ := h
    refine ⟨_, pss_one (ps_fld (pv 0) (pe_callTy call_tuple_of (by rfl) mtuple (by decide +kernel) (pa_cons (pv 1) pa_nil)) rfl), ?_⟩
    refine ⟨_, rfl, a, xs, rfl, ?_⟩
    have fin : ∀ (H1 : Hp) (t : Addr), Ex H H1 → SqT K H1 t xs → Q .non (upd H1 p (.ins C dx [(("_nodes" : Str), .ref t)])) := by
      intro H1 t e1 ht
      have hp1 := e1 _ _ hp
      have mv : ∀ {u : Addr} {ys : List V}, SqT K H1 u ys → SqT K (upd H1 p (.ins C dx [(("_nodes" : Str), .ref t)])) u ys := by
        intro u ys hq
        rcases hq with (hq | ⟨o, hq⟩) | hq
        · exact .inl (.inl (by rw [upd_ne (ne_of hq hp1 (by intro z; cases z))]; exact hq))
        · exact .inl (.inr ⟨o, by rw [upd_ne (ne_of hq hp1 (by intro z; cases z))]; exact hq⟩)
        · exact .inr hq
      have mf : ∀ {v r}, FrV K H1 v r → FrV K (upd H1 p (.ins C dx [(("_nodes" : Str), .ref t)])) v r := by
        rintro v r ⟨u, rfl, hq⟩
        exact ⟨u, rfl, mv hq⟩
      refine q _ (.ref t) (fun b o hb ho => by rw [upd_ne hb]; exact e1 _ _ ho) ⟨dx, upd_same⟩ ⟨t, xs, rfl, mv ht, pmono (fun v z hz => ?_) lz⟩
      obtain ⟨u, a1, b1, rfl, q1, ⟨u2, ys, rfl, q2, l2⟩, f1⟩ := hz.ex e1
      exact ⟨u, _, _, rfl, mv q1, ⟨u2, ys, rfl, mv q2, pmono (fun _ _ => mf) l2⟩, mf f1⟩
    rcases hx with hx | hx
    · exact .inl ⟨hx, fun l hl => ⟨_, rfl, p, C, dx, [], rfl, (by rw [upd_ne (ne_of_none hp hl)]; exact hp), T, nA, (by show 0 < 1000; decide), fin _ l (Ex.new hl) (st_of upd_same)⟩⟩
    · exact .inr ⟨hx, _, rfl, p, C, dx, [], rfl, hp, T, nA, (by show 0 < 1000; decide), fin H a (Ex.refl H) hx⟩
end

end K07
end
section
set_option maxRecDepth 100000
set_option maxHeartbeats 400000
namespace K07
open PySem Evl Nc PyProof.Rows
open L2 hiding spCell
theorem call_lenK {X : Cx} (K : PySem.W.Frag) (h : X.K = K := by rfl) : CallR X (.builtin "len") fun xs H Q => ∃ p ys, xs = [V.ref p] ∧ (SqL K H p ys ∨ SqT K H p ys) ∧ Q (V.int (ys.length : Int)) H := by
  subst h
  exact call_len_seq
section
variable {P : Program} {w : World} {K : PySem.W.Frag} {mg : Str → Option Value} {base : Heap}
theorem ok_Net_ins {CN CL CC : Addr} (D : Md K CN "ins" "Net.ins" s_Net_ins ["self"]) (N : NDefs P w K mg base CN CL CC) : MOk P w K mg base 1 CN "ins" ["self"] (spInsN K CN CL CC) := by
  obtain ⟨fTL, dTL, mTL, FTL, bTL⟩ := N.toldL.ex
  obtain ⟨fTC, dTC, mTC, FTC, bTC⟩ := N.toldC.ex
  obtain ⟨fSL, dSL, mSL, FSL, bSL⟩ := N.sumsL.ex
  obtain ⟨fSC, dSC, mSC, FSC, bSC⟩ := N.sumsC.ex
  refine D.ok fun f fd F => F.ok sc_Net_ins (fun vs H Q E h => ?_) (fun cdv A outer s H vs Q E hr h => ?_)
  · obtain ⟨p, n, ls, rfl, _⟩ := h
    rfl
  · obtain ⟨p, n, ls, rfl, ⟨dx, t, ps, hp, qt, pl⟩, q⟩ := h
    refine ⟨_, pss_one (ps_ret (pe_fld (pv 0) rfl)), ?_⟩
    exact ⟨_, rfl, p, CN, dx, _, _, rfl, hp, N.tN, N.nI, rfl, q⟩
theorem ok_Net_told {CN CL CC : Addr} (D : Md K CN "told" "Net.told" s_Net_told ["self"]) (N : NDefs P w K mg base CN CL CC) (mtuple : mg "tuple" = none) : MOk P w K mg base 2 CN "told" ["self"] (spToldN K CN CL CC) := by
  obtain ⟨fTL, dTL, mTL, FTL, bTL⟩ := N.toldL.ex
  obtain ⟨fTC, dTC, mTC, FTC, bTC⟩ := N.toldC.ex
  obtain ⟨fSL, dSL, mSL, FSL, bSL⟩ := N.sumsL.ex
  obtain ⟨fSC, dSC, mSC, FSC, bSC⟩ := N.sumsC.ex
  refine D.ok fun f fd F => F.ok sc_Net_told (fun vs H Q E h => ?_) (fun cdv A outer s H vs Q E hr h => ?_)
  · obtain ⟨p, n, ls, rfl, _⟩ := h
    rfl
  · obtain ⟨p, n, ls, rfl, ⟨dx, t, ps, hp, qt, pl⟩, hl, q⟩ := h
    refine ⟨_, pss_one (ps_ret (pe_tup (pa_cons (pe_fld (pv 0) rfl) (pa_cons (pe_callTy call_tuple_of (by rfl) mtuple (by decide +kernel) (pa_cons (pe_lc (own := [("layer", 1)]) (g := gName 1) (tt := tYes) rfl sc_Net_told.nd (pi_tup (pe_fld (pv 0) rfl)) (blkOk_by (N := ["self", "layer"]) (sc := defScope s_Net_told) (by decide +kernel)) (fun _ _ _ _ _ => (pg_name (i := 1) sc_Net_told.nd rfl (.inl rfl))) (fun _ _ _ _ _ => pts_nil) (fun _ _ _ _ _ => (pe_or (pe_meth0 (pv 1) N.tL mTL FTL hr bTL .nil pass0) (pe_meth0 (pv 1) N.tC mTC FTC hr bTC .nil pass0)))) pa_nil)) pa_nil)))), ?_⟩
    have hlen := Paired.length pl
    refine ⟨_, rfl, p, CN, dx, _, _, rfl, hp, N.tN, N.nI, rfl, ?_⟩
    refine ⟨_, rfl, p, CN, dx, _, _, rfl, hp, N.tN, N.nL, rfl, ?_⟩
    refine ⟨t, rfl, ⟨_, qt⟩, fun G hG => ?_⟩
    refine lc_tup (K := K) (a := t) (xs := ps) (Bld (NodesV K) H G ls) (bld0 hG) (fun i H' _ b => ex_t b.1 qt) ?_ ?_
    · rintro i x H' hx b
      obtain ⟨l, hl1, lv0⟩ := pget pl hx
      have lv := lv0.ex b.1
      have hi := (List.getElem?_eq_some_iff.mp hx).1
      obtain ⟨a, C, nv, rfl, hc, ⟨dy, la⟩, nn⟩ := lv
      have la' : LayerAt C H' a nv := ⟨dy, la⟩
      have nT : List.lookup ("told" : Str) [(("_nodes" : Str), nv)] = none := no_m (by decide +kernel)
      refine ⟨rfl, ?_⟩
      have go := bld_step stN hG b (Ex.refl H') hl1 (by omega) nn
      rcases hc with rfl | rfl
      · exact Or.inl ⟨_, rfl, a, dy, _, rfl, la, nT, a, nv, rfl, la', go⟩
      · exact Or.inr ⟨_, rfl, a, dy, _, rfl, la, nT, a, nv, rfl, la', go⟩
    · intro H' b
      obtain ⟨e1, ws, hws, pz⟩ := bld_end (by omega) b
      refine ⟨G, ws, rfl, .inl ⟨sq_of hws, fun u hu => ⟨(by show 2 ≤ sizeLine; decide), fun tt htt => ?_⟩⟩⟩
      have e2 : Ex H' (upd H' u (.tup ws)) := Ex.new hu
      have k2 : upd H' u (.tup ws) u = some (.tup ws) := upd_same
      generalize upd H' u (.tup ws) = H2 at e2 k2 htt ⊢
      have e3 : Ex H2 (upd H2 tt (.tup [.int (n : Int), .ref u])) := Ex.new htt
      exact q _ _ ((e1.trans e2).trans e3) ⟨tt, u, ws, rfl, st_of upd_same, ex_t e3 (st_of k2), pmono (fun _ _ => NodesV.ex (e2.trans e3)) pz⟩
def FrL2 (K : PySem.W.Frag) (H : Hp) (F : Addr) (H' : Hp) (v : V) (l : List Sum2) : Prop := ∃ a xs, v = .ref a ∧ H a = none ∧ a ≠ F ∧ H' a = some (.lst xs) ∧ Paired (SumV K H') xs l
theorem ok_Net_layers_told {CN CL CC : Addr} (D : Md K CN "layers_told" "Net.layers_told" s_Net_layers_told ["self"]) (N : NDefs P w K mg base CN CL CC) (mlist : mg "list" = none) : MOk P w K mg base 2 CN "layers_told" ["self"] (spLaysTold K CN CL CC) := by
  obtain ⟨fTL, dTL, mTL, FTL, bTL⟩ := N.toldL.ex
  obtain ⟨fTC, dTC, mTC, FTC, bTC⟩ := N.toldC.ex
  obtain ⟨fSL, dSL, mSL, FSL, bSL⟩ := N.sumsL.ex
  obtain ⟨fSC, dSC, mSC, FSC, bSC⟩ := N.sumsC.ex
  refine D.ok fun f fd F => F.ok sc_Net_layers_told (fun vs H Q E h => ?_) (fun cdv A outer s H vs Q E hr h => ?_)
  · obtain ⟨p, n, ls, rfl, _⟩ := h
    rfl
  · obtain ⟨p, n, ls, rfl, ⟨dx, t, ps, hp, qt, pl⟩, hl, hl2, q⟩ := h
    refine ⟨_, pss_one (ps_ret (pe_lc (own := [("layer", 1)]) (g := gName 1) (tt := tYes) rfl sc_Net_layers_told.nd (pi_tup (pe_fld (pv 0) rfl)) (blkOk_by (N := ["self", "layer"]) (sc := defScope s_Net_layers_told) (by decide +kernel)) (fun _ _ _ _ _ => (pg_name (i := 1) sc_Net_layers_told.nd rfl (.inl rfl))) (fun _ _ _ _ _ => pts_nil) (fun _ _ _ _ _ => pe_callTy (T := "list") (call_lstK K) (by rfl) mlist (by decide +kernel) (pa_cons (pe_or (pe_meth0 (pv 1) N.tL mTL FTL hr bTL .nil pass0) (pe_meth0 (pv 1) N.tC mTC FTC hr bTC .nil pass0)) pa_nil)))), ?_⟩
    have hlen := Paired.length pl
    refine ⟨_, rfl, p, CN, dx, _, _, rfl, hp, N.tN, N.nL, rfl, ?_⟩
    refine ⟨t, rfl, ⟨_, qt⟩, fun G hG => ?_⟩
    refine lc_tup (K := K) (a := t) (xs := ps) (fun i H' => Ex H H' ∧ ∃ ys, H' G = some (.lst ys) ∧ ys.length = i ∧ Paired (FrL2 K H G H') ys (ls.take i)) ⟨Ex.new hG, [], upd_same, rfl, .nil⟩ (fun i H' _ b => ex_t b.1 qt) ?_ ?_
    · rintro i x H' hx ⟨e1, ys, hys, hn, pz⟩
      obtain ⟨l, hl1, lv0⟩ := pget pl hx
      have lv := lv0.ex e1
      have hi := (List.getElem?_eq_some_iff.mp hx).1
      obtain ⟨a, C, nv, rfl, hc, ⟨dy, la⟩, nn⟩ := lv
      have la' : LayerAt C H' a nv := ⟨dy, la⟩
      have nT : List.lookup ("told" : Str) [(("_nodes" : Str), nv)] = none := no_m (by decide +kernel)
      refine ⟨rfl, ?_⟩
      obtain ⟨u, xs, rfl, qu, lu⟩ := nn
      have go : ∀ c, H' c = none → ∃ acc, upd H' c (.lst xs) G = some (.lst acc) ∧ acc.length < sizeLine ∧ Ex H (upd (upd H' c (.lst xs)) G (.lst (acc ++ [.ref c]))) ∧ ∃ zs, upd (upd H' c (.lst xs)) G (.lst (acc ++ [.ref c])) G = some (.lst zs) ∧ zs.length = i + 1 ∧ Paired (FrL2 K H G (upd (upd H' c (.lst xs)) G (.lst (acc ++ [.ref c])))) zs (ls.take (i + 1)) := by
        intro c hc0
        have e2 : Ex H' (upd H' c (.lst xs)) := Ex.new hc0
        have k2 : upd H' c (.lst xs) c = some (.lst xs) := upd_same
        have hcH : H c = none := Option.eq_none_iff_forall_ne_some.mpr fun o ho => by
          rw [e1 _ _ ho] at hc0
          cases hc0
        have hcG : c ≠ G := fun z => by
          rw [z, hys] at hc0
          cases hc0
        have g2 := e2 _ _ hys
        generalize upd H' c (.lst xs) = H2 at e2 k2 g2 ⊢
        refine ⟨ys, g2, sz_lt (by omega), Ex.mut (e1.trans e2) hG, ys ++ [.ref c], upd_same, by simp [hn], ?_⟩
        rw [List.take_add_one, hl1]
        refine Paired.snoc (pmono (fun v l q => ?_) pz) ⟨c, xs, rfl, hcH, hcG, by rw [upd_ne hcG]; exact k2, pmono (fun _ _ q => SumV.mut g2 (SumV.ex e2 q)) lu⟩
        obtain ⟨b, us, rfl, n1, n2, q1, q2⟩ := q
        exact ⟨b, us, rfl, n1, n2, by rw [upd_ne n2]; exact e2 _ _ q1, pmono (fun _ _ q => SumV.mut g2 (SumV.ex e2 q)) q2⟩
      rcases hc with rfl | rfl
      · exact Or.inl ⟨_, rfl, a, dy, _, rfl, la, nT, a, _, rfl, la', u, xs, rfl, .inr qu, go⟩
      · exact Or.inr ⟨_, rfl, a, dy, _, rfl, la, nT, a, _, rfl, la', u, xs, rfl, .inr qu, go⟩
    · rintro H' ⟨e1, ys, hys, hn, pz⟩
      refine q G ys H' hG e1 hys ?_
      rw [hlen, List.take_length] at pz
      exact pz
theorem ok_Net_outs {CN CL CC : Addr} (D : Md K CN "outs" "Net.outs" s_Net_outs ["self"]) (N : NDefs P w K mg base CN CL CC) (mlen : mg "len" = none) : MOk P w K mg base 2 CN "outs" ["self"] (spOutsN K CN CL CC) := by
  obtain ⟨fTL, dTL, mTL, FTL, bTL⟩ := N.toldL.ex
  obtain ⟨fTC, dTC, mTC, FTC, bTC⟩ := N.toldC.ex
  obtain ⟨fSL, dSL, mSL, FSL, bSL⟩ := N.sumsL.ex
  obtain ⟨fSC, dSC, mSC, FSC, bSC⟩ := N.sumsC.ex
  refine D.ok fun f fd F => F.ok sc_Net_outs (fun vs H Q E h => ?_) (fun cdv A outer s H vs Q E hr h => ?_)
  · obtain ⟨p, n, ls, l, rfl, _⟩ := h
    rfl
  · obtain ⟨p, n, ls, l, rfl, ⟨dx, t, ps, hp, qt, pl⟩, hl1, q⟩ := h
    refine ⟨_, pss_one (ps_ret (pe_callB call_len_seq (by rfl) mlen PySem.boot_len (pa_cons (pe_or (pe_meth0 (pe_ix ix_tup (pe_fld (pv 0) rfl) (pe_un un_neg pe_int) (fun _ _ => rfl)) N.tL mTL FTL hr bTL .nil pass0) (pe_meth0 (pe_ix ix_tup (pe_fld (pv 0) rfl) (pe_un un_neg pe_int) (fun _ _ => rfl)) N.tC mTC FTC hr bTC .nil pass0)) pa_nil))), ?_⟩
    have hlen := Paired.length pl
    obtain ⟨v, hv, lv⟩ := pget' pl hl1
    rw [← hlen] at hv
    obtain ⟨a, C, nv, rfl, hc, ⟨dy, la⟩, nn⟩ := lv
    have la' : LayerAt C H a nv := ⟨dy, la⟩
    have nT : List.lookup ("told" : Str) [(("_nodes" : Str), nv)] = none := no_m (by decide +kernel)
    obtain ⟨u, xs, rfl, qu, pz⟩ := nn
    have hxl := Paired.length pz
    have q2 : Q (.int (xs.length : Int)) H := by
      rw [hxl]
      exact q
    have hix := at_last hv
    rcases hc with rfl | rfl
    · exact Or.inl ⟨_, rfl, p, CN, dx, _, _, rfl, hp, N.tN, N.nL, rfl, 1, rfl, t, ps, _, _, rfl, rfl, qt, hix, a, dy, _, rfl, la, nT, a, _, rfl, la', u, _, rfl, .inr qu, q2⟩
    · exact Or.inr ⟨_, rfl, p, CN, dx, _, _, rfl, hp, N.tN, N.nL, rfl, 1, rfl, t, ps, _, _, rfl, rfl, qt, hix, a, dy, _, rfl, la, nT, a, _, rfl, la', u, _, rfl, .inr qu, q2⟩
/-- how many nodes are hidden -/
def hid (ls : List (List Sum2)) : Nat := (ls.dropLast.map List.length).sum
def spHidN (K : PySem.W.Frag) (CN CL CC : Addr) : Sp := fun vs H Q _ => ∃ (p : Addr) (n : Nat) (ls : List (List Sum2)), vs = [.ref p] ∧ NetV K CN CL CC H p n ls ∧ 1 ≤ ls.length ∧ ls.length ≤ 100 ∧ ∀ H', Ex H H' → Q (.int ((hid ls : Nat) : Int)) H'
theorem sum_castC : ∀ ls : List (List Sum2), (ls.map fun x => ((x.length : Nat) : Int)).sum = (((ls.map List.length).sum : Nat) : Int)
  | [] => rfl
  | l :: ls => by
    rw [List.map_cons, List.map_cons, List.sum_cons, List.sum_cons, sum_castC ls]
    omega
theorem ok_Net_hidden {CN CL CC : Addr} (D : Md K CN "hidden" "Net.hidden" s_Net_hidden ["self"]) (N : NDefs P w K mg base CN CL CC) (mlen : mg "len" = none) (msum : mg "sum" = none) : MOk P w K mg base 2 CN "hidden" ["self"] (spHidN K CN CL CC) := by
  obtain ⟨fTL, dTL, mTL, FTL, bTL⟩ := N.toldL.ex
  obtain ⟨fTC, dTC, mTC, FTC, bTC⟩ := N.toldC.ex
  obtain ⟨fSL, dSL, mSL, FSL, bSL⟩ := N.sumsL.ex
  obtain ⟨fSC, dSC, mSC, FSC, bSC⟩ := N.sumsC.ex
  refine D.ok fun f fd F => F.ok sc_Net_hidden (fun vs H Q E h => ?_) (fun cdv A outer s H vs Q E hr h => ?_)
  · obtain ⟨p, n, ls, rfl, _⟩ := h
    rfl
  · obtain ⟨p, n, ls, rfl, ⟨dx, t, ps, hp, qt, pl⟩, h1, h100, q⟩ := h
    refine ⟨_, pss_one (ps_ret (pe_callB (cr_sum rfl) (by rfl) msum (by decide +kernel) (pa_cons (pe_lc (own := [("layer", 1)]) (g := gName 1) (tt := tYes) rfl sc_Net_hidden.nd (pi_tup (pe_slice (sl_tupE K) (pe_fld (pv 0) rfl) po_none (po_some (pe_un un_neg pe_int)))) (blkOk_by (N := ["self", "layer"]) (sc := defScope s_Net_hidden) (by decide +kernel)) (fun _ _ _ _ _ => (pg_name (i := 1) sc_Net_hidden.nd rfl (.inl rfl))) (fun _ _ _ _ _ => pts_nil) (fun _ _ _ _ _ => pe_callB (call_lenK K) (by rfl) mlen PySem.boot_len (pa_cons (pe_or (pe_meth0 (pv 1) N.tL mTL FTL hr bTL .nil pass0) (pe_meth0 (pv 1) N.tC mTC FTC hr bTC .nil pass0)) pa_nil))) pa_nil))), ?_⟩
    have hlen := Paired.length pl
    have hne : ps ≠ [] := fun z => by
      rw [z] at hlen
      simp at hlen
      omega
    refine ⟨_, rfl, p, CN, dx, _, _, rfl, hp, N.tN, N.nL, rfl, ?_⟩
    refine ⟨_, rfl, _, rfl, t, _, rfl, qt, fun pS H1 eS qS => ?_⟩
    rw [cut_init hne] at qS
    have pl1 := pair_init (pmono (fun _ _ => LayV.ex eS) pl)
    refine ⟨pS, rfl, ⟨_, qS⟩, fun G hG => ?_⟩
    refine lc_tup (K := K) (a := pS) (xs := ps.dropLast) (fun k H' => Ex H1 H' ∧ H' G = some (.lst ((((ls.dropLast.map fun x => ((x.length : Nat) : Int))).take k).map V.int))) ⟨Ex.new hG, upd_same⟩ (fun k H' _ b => ex_t b.1 qS) ?_ ?_
    · rintro i x H' hx ⟨e1, k1⟩
      obtain ⟨l, hl1, lv0⟩ := pget pl1 hx
      have lv := lv0.ex e1
      have hi := (List.getElem?_eq_some_iff.mp hx).1
      rw [List.length_dropLast] at hi
      obtain ⟨a, C, nv, rfl, hc, ⟨dy, la⟩, nn⟩ := lv
      have la' : LayerAt C H' a nv := ⟨dy, la⟩
      have nT : List.lookup ("told" : Str) [(("_nodes" : Str), nv)] = none := no_m (by decide +kernel)
      refine ⟨rfl, ?_⟩
      obtain ⟨u, xs, rfl, qu, lu⟩ := nn
      have go : ∃ acc, H' G = some (.lst acc) ∧ acc.length < sizeLine ∧ Ex H1 (upd H' G (.lst (acc ++ [V.int ((xs.length : Nat) : Int)]))) ∧ upd H' G (.lst (acc ++ [V.int ((xs.length : Nat) : Int)])) G = some (.lst ((((ls.dropLast.map fun x => ((x.length : Nat) : Int))).take (i + 1)).map V.int)) := by
        refine ⟨_, k1, sz_lt (by simp; omega), Ex.mut e1 hG, ?_⟩
        rw [List.take_add_one, List.getElem?_map, hl1, List.map_append, Paired.length lu]
        exact upd_same
      rcases hc with rfl | rfl
      · exact Or.inl ⟨_, rfl, a, dy, _, rfl, la, nT, a, _, rfl, la', u, xs, rfl, .inr qu, go⟩
      · exact Or.inr ⟨_, rfl, a, dy, _, rfl, la, nT, a, _, rfl, la', u, xs, rfl, .inr qu, go⟩
    · rintro H' ⟨e1, k1⟩
      refine ⟨G, (ls.dropLast.map fun x => ((x.length : Nat) : Int)), rfl, sq_of ?_, ?_⟩
      · rw [k1, List.take_of_length_le (by simp; omega)]
      · rw [sum_castC]
        exact q H' (eS.trans e1)
end

end K07
end
section
set_option maxRecDepth 100000
set_option maxHeartbeats 400000
namespace K07
open PySem Evl Nc PyProof.Rows
open L2 hiding spCell
section
variable {P : Program} {w : World} {K : PySem.W.Frag} {mg : Str → Option Value} {base : Heap}
theorem ok__law_cell (D : Df K mg "_law_cell" s__law_cell ["_law_script", "_law_k"]) (mlen : mg "len" = none) : Ok P w K mg base 1 "_law_cell" ["_law_script", "_law_k"] (spCell K) := by
  refine D.ok fun f fd F => F.ok sc__law_cell (fun vs H Q E h => ?_) (fun cdv A outer s H vs Q E hr h => ?_)
  · obtain ⟨a, ns, k, rfl, _⟩ := h
    rfl
  · obtain ⟨a, ns, k, rfl, hS, hk, q⟩ := h
    refine ⟨_, pss_cons (ps_if (pt_cmpR op_lt (pv 1) (pe_callB call_len_seq (by rfl) mlen PySem.boot_len (pa_cons (pv 0) pa_nil)) (nomark _)) (pss_one (ps_ret (pe_ix ix_list (pv 0) (pv 1) (fun _ _ => rfl)))) pss_nil)
      (pss_one (ps_ret (pe_op op_add (pe_op op_mul pe_int (pv 1)) pe_int))), ?_⟩
    refine ⟨_, rfl, _, rfl, a, _, rfl, .inl hS, _, _, rfl, rfl, _, rfl, ite2 (fun hd => ?_) (fun hd => ?_)⟩
    · have hlt := of_decide_eq_true hd
      rw [List.length_map] at hlt
      have hn : k < ns.length := by omega
      refine ⟨_, rfl, _, rfl, a, _, _, .int ns[k], rfl, rfl, hS, atI_nat ?_, q _⟩
      rw [List.getElem?_map, List.getElem?_eq_getElem hn]
      rfl
    · exact ⟨_, rfl, _, _, rfl, rfl, .inl ⟨by decide, by decide⟩, _, _, rfl, rfl, q _⟩
theorem ok__law_stream (D : Df K mg "_law_stream" s__law_stream ["_law_cell_here"]) (mint : mg "int" = none) : Ok P w K mg base 1 "_law_stream" ["_law_cell_here"] spStream := by
  refine D.ok fun f fd F => F.ok sc__law_stream (fun vs H Q E h => ?_) (fun cdv A outer s H vs Q E hr h => ?_)
  · obtain ⟨c, rfl, _⟩ := h
    rfl
  · obtain ⟨c, rfl, q⟩ := h
    refine ⟨_, pss_one (ps_ret (pe_lst (pa_cons (pe_op op_mul (pv 0) (pe_callTy call_int1 (by rfl) mint (by decide +kernel) (pa_cons (pe_cmpR op_ge (pv 0) (pe_op op_pow pe_int pe_int) (nomark _)) pa_nil))) (pa_cons (pe_op op_mod (pv 0) pe_int) (pa_cons pe_int pa_nil))))), ?_⟩
    refine ⟨_, rfl, _, rfl, _, _, rfl, rfl, ⟨by decide, by decide, by decide⟩, _, _, rfl, rfl, .inr ⟨_, rfl, _, _, rfl, rfl, .inr (b01 _), _, rfl, _, _, rfl, rfl, (by show (0 : Int) < _; decide), (by show 3 ≤ sizeLine; decide), fun p hp => ?_⟩⟩
    exact q _ _ _ _ hp
theorem ok__law_take (D : Df K mg "_law_take" s__law_take ["_law_stream_here", "_law_many"]) : Ok P w K mg base 1 "_law_take" ["_law_stream_here", "_law_many"] spTake := by
  refine D.ok fun f fd F => F.ok sc__law_take (fun vs H Q E h => ?_) (fun cdv A outer s H vs Q E hr h => ?_)
  · obtain ⟨s, m, rfl, _⟩ := h
    rfl
  · obtain ⟨s, m, rfl, ⟨a, b, c, hS⟩, m0, m1, q⟩ := h
    refine ⟨_, pss_cons (ps_if (pt_cmpR op_gt (pe_ix ix_list (pv 0) pe_int (fun _ _ => rfl)) pe_int (nomark _)) (pss_cons (ps_set (i := 2) sc__law_take.nd rfl (.inl rfl) (pe_op op_mod (pe_ix ix_list (pv 0) pe_int (fun _ _ => rfl)) (pv 1))) (pss_cons (ps_asg (pe_op op_fdivW (pe_ix ix_list (pv 0) pe_int (fun _ _ => rfl)) (pv 1)) (pg_sub (pv 0) pe_int set_list)) (pss_one (ps_ret (pv 2))))) pss_nil)
      (pss_cons (ps_asg (pe_op op_add (pe_ix ix_list (pv 0) pe_int (fun _ _ => rfl)) pe_int) (pg_sub (pv 0) pe_int set_list))
      (pss_cons (ps_set (i := 3) sc__law_take.nd rfl (.inl rfl) (pe_op op_mod (pe_op op_add (pe_op op_add (pe_op op_mul (pe_ix ix_list (pv 0) pe_int (fun _ _ => rfl)) pe_int) (pe_op op_mul pe_int (pe_ix ix_list (pv 0) pe_int (fun _ _ => rfl)))) pe_int) pe_int))
      (pss_cons (ps_set (i := 3) sc__law_take.nd rfl (.inl rfl) (pe_op op_mod (pe_op op_mul (pv 3) (pv 3)) pe_int))
      (pss_cons (ps_set (i := 4) sc__law_take.nd rfl (.inl rfl) (pe_op op_mod (pe_op op_add (pe_op op_mul (pv 3) pe_int) (pe_op op_mul pe_int (pe_ix ix_list (pv 0) pe_int (fun _ _ => rfl)))) pe_int))
      (pss_one (ps_ret (pe_op op_mod (pe_op op_fdiv (pe_op op_mod (pe_op op_mul (pv 4) (pv 3)) pe_int) pe_int) (pv 1)))))))), ?_⟩
    have hL : SqL K H s [.int a, .int b, .int c] := sq_of hS
    refine ⟨_, rfl, _, _, _, _, rfl, rfl, hL, at0, _, _, rfl, rfl, _, rfl, ite2 (fun hd => ?_) (fun hd => ?_)⟩
    · refine ⟨_, rfl, _, _, _, _, rfl, rfl, hL, at0, _, rfl, _, _, rfl, rfl, m0, _, rfl, _, _, _, _, rfl, rfl, hL, at0, _, rfl, _, _, rfl, rfl, cdivT m0 m1, _, rfl, s, _, _, 0, rfl, rfl, hS, rfl, _, rfl, ?_⟩
      exact q _ _ (Int.emod_nonneg _ (by omega)) (Int.emod_lt_of_pos _ m0) (Dr.put hS)
    · refine ⟨_, rfl, _, _, _, _, rfl, rfl, hL, at2, _, _, rfl, rfl, _, rfl, s, _, _, 2, rfl, rfl, hS, rfl, ?_⟩
      have d1 : Dr s H (upd H s (.lst [.int a, .int b, .int (c + 1)])) := Dr.put hS
      have hL2 : SqL K (upd H s (.lst [.int a, .int b, .int (c + 1)])) s [.int a, .int b, .int (c + 1)] := sq_of upd_same
      refine ⟨_, rfl, _, _, _, _, rfl, rfl, hL2, at1, _, _, rfl, rfl, .inr ⟨by decide, by decide⟩, _, rfl, _, _, _, _, rfl, rfl, hL2, at2, _, _, rfl, rfl, .inl ⟨by decide, by decide⟩, _, _, rfl, rfl, _, _, rfl, rfl, _, _, rfl, rfl, (by show (0 : Int) < _; decide), ?_⟩
      refine ⟨_, rfl, _, rfl, _, _, rfl, rfl, .inl (modb _ (by decide) (by decide)), _, _, rfl, rfl, (by show (0 : Int) < _; decide), ?_⟩
      refine ⟨_, rfl, _, _, rfl, rfl, .inr ⟨by decide, by decide⟩, _, rfl, _, _, _, _, rfl, rfl, hL2, at2, _, _, rfl, rfl, .inl ⟨by decide, by decide⟩, _, _, rfl, rfl, _, _, rfl, rfl, (by show (0 : Int) < _; decide), ?_⟩
      refine ⟨_, rfl, _, rfl, _, _, rfl, rfl, .inl (modb _ (by decide) (by decide)), _, _, rfl, rfl, (by show (0 : Int) < _; decide), _, _, rfl, rfl, ⟨by decide, by decide⟩, _, rfl, _, _, rfl, rfl, m0, ?_⟩
      exact q _ _ (Int.emod_nonneg _ (by omega)) (Int.emod_lt_of_pos _ m0) d1
theorem ok__law_long (D : Df K mg "_law_long" s__law_long ["_law_stream_here"]) (GT : Ok P w K mg base 1 "_law_take" ["_law_stream_here", "_law_many"] spTake) : Ok P w K mg base 2 "_law_long" ["_law_stream_here"] (spDraw 100) := by
  refine D.ok fun f fd F => F.ok sc__law_long (fun vs H Q E h => ?_) (fun cdv A outer s H vs Q E hr h => ?_)
  · obtain ⟨s, rfl, _⟩ := h
    rfl
  · obtain ⟨s, rfl, hS, q⟩ := h
    refine ⟨_, pss_one (ps_ret (pe_op op_add (pe_op op_pow pe_int pe_int) (pe_op op_mulW (cl GT hr (pa_cons (pv 0) (pa_cons (pe_op op_pow pe_int pe_int) pa_nil))) (pe_ix ix_list (pe_lst (pa_cons pe_int (pa_cons (pe_op op_pow pe_int pe_int) (pa_cons (pe_op op_pow pe_int pe_int) (pa_cons (pe_op op_mul pe_int (pe_op op_pow pe_int pe_int)) pa_nil))))) (cl GT hr (pa_cons (pv 0) (pa_cons pe_int pa_nil))) (fun _ _ => rfl))))), ?_⟩
    refine ⟨_, _, rfl, rfl, ⟨by decide, by decide, by decide⟩, _, rfl, _, _, rfl, rfl, ⟨by decide, by decide, by decide⟩, s, _, rfl, hS, by decide, by decide, fun d1 H1 k0 k1 r1 => ?_⟩
    refine ⟨_, _, rfl, rfl, ⟨by decide, by decide, by decide⟩, _, _, rfl, rfl, ⟨by decide, by decide, by decide⟩, _, _, rfl, rfl, ⟨by decide, by decide, by decide⟩, _, _, rfl, rfl, .inl ⟨by decide, by decide⟩, (by show 4 ≤ sizeLine; decide), fun p hp => ?_⟩
    refine ⟨_, rfl, s, _, rfl, (r1.trans (Dr.new r1.st hp)).st, by decide, by decide, fun d2 H2 j0 j1 r2 => ?_⟩
    obtain ⟨v, hv, hm⟩ := at_mem (xs := [.int 1, .int ((10 : Int) ^ (9 : Int).toNat), .int ((10 : Int) ^ (18 : Int).toNat), .int (8 * (10 : Int) ^ (20 : Int).toNat)]) j0 (by simpa using j1)
    have hv2 : ∃ z : Int, v = .int z ∧ 0 < z ∧ z ≤ 800000000000000000000 := by
      simp only [List.mem_cons, List.not_mem_nil, or_false] at hm
      rcases hm with rfl | rfl | rfl | rfl
      · exact ⟨_, rfl, by decide, by decide⟩
      · exact ⟨_, rfl, by decide, by decide⟩
      · exact ⟨_, rfl, by decide, by decide⟩
      · exact ⟨_, rfl, by decide, by decide⟩
    obtain ⟨z, rfl, z0, z1⟩ := hv2
    have k1' : d1 < 1000000000 := k1
    have b1 : d1 * z ≤ 1000000000 * 800000000000000000000 := Int.le_trans (Int.mul_le_mul_of_nonneg_right (by omega) (by omega)) (Int.mul_le_mul_of_nonneg_left z1 (by omega))
    have b0 : 0 ≤ d1 * z := Int.mul_nonneg k0 (by omega)
    have e10 : ((10 : Int) ^ (29 : Int).toNat) = 100000000000000000000000000000 := by decide
    have hp2 := r2.keep p _ (Ne.symm (r1.st.ne hp)) upd_same
    refine ⟨p, _, d2, _, rfl, rfl, sq_of hp2, hv, _, _, rfl, rfl, mulOk (a := 100) (b := 100) (by omega) (by omega), _, _, rfl, rfl, ?_⟩
    refine q _ _ ?_ ?_ ((r1.trans (Dr.new r1.st hp)).trans r2)
    · rw [e10]
      omega
    · rw [e10]
      omega
theorem ok__law_number (D : Df K mg "_law_number" s__law_number ["_law_stream_here"]) (GT : Ok P w K mg base 1 "_law_take" ["_law_stream_here", "_law_many"] spTake) (GL : Ok P w K mg base 2 "_law_long" ["_law_stream_here"] (spDraw 100))
    (GP : Ok P w K mg base 1 "_law_part" ["_law_top", "_law_bottom"] (spPart K)) : Ok P w K mg base 3 "_law_number" ["_law_stream_here"] (spNum K 100 100) := by
  refine D.ok fun f fd F => F.ok sc__law_number (fun vs H Q E h => ?_) (fun cdv A outer s H vs Q E hr h => ?_)
  · obtain ⟨s, rfl, _⟩ := h
    rfl
  · obtain ⟨s, rfl, hS, q⟩ := h
    have hr1 : Room 1 _ := hr.mono (by decide)
    refine ⟨_, pss_cons (ps_set (i := 1) sc__law_number.nd rfl (.inl rfl) (cl GT hr1 (pa_cons (pv 0) (pa_cons pe_int pa_nil))))
      (pss_cons (ps_if (pt_cmpR op_lt (pv 1) pe_int (nomark _)) (pss_one (ps_ret (pe_tup (pa_cons pe_int (pa_cons pe_int pa_nil))))) pss_nil)
      (pss_cons (ps_set (i := 2) sc__law_number.nd rfl (.inl rfl) (pe_op op_sub (cl GT hr1 (pa_cons (pv 0) (pa_cons pe_int pa_nil))) pe_int))
      (pss_cons (ps_set (i := 3) sc__law_number.nd rfl (.inl rfl) (pe_op op_add pe_int (cl GT hr1 (pa_cons (pv 0) (pa_cons pe_int pa_nil)))))
      (pss_cut (ps_if (pt_cmpR op_in_seq (pv 1) (pe_tup (pa_cons pe_int (pa_cons pe_int pa_nil))) (by rfl)) (pss_one (ps_set (i := 2) sc__law_number.nd rfl (.inl rfl) (pe_op op_mulW (cl GL hr (pa_cons (pv 0) pa_nil)) (pe_ix ix_list (pe_lst (pa_cons pe_int (pa_cons (pe_un un_neg pe_int) pa_nil))) (cl GT hr1 (pa_cons (pv 0) (pa_cons pe_int pa_nil))) (fun _ _ => rfl))))) pss_nil)
      (pss_cut (ps_if (pt_cmpR op_in_seq (pv 1) (pe_tup (pa_cons pe_int (pa_cons pe_int pa_nil))) (by rfl)) (pss_one (ps_set (i := 3) sc__law_number.nd rfl (.inl rfl) (cl GL hr (pa_cons (pv 0) pa_nil)))) pss_nil)
      (pss_one (ps_ret (cl GP hr1 (pa_cons (pv 2) (pa_cons (pv 3) pa_nil)))))))))), ?_⟩
    refine ⟨_, rfl, s, _, rfl, hS, by decide, by decide, fun wy H1 w0 w1 r1 => ?_⟩
    refine ⟨_, rfl, _, _, rfl, rfl, _, rfl, ite2 (fun _ => ?_) (fun _ => ?_)⟩
    · refine ⟨(by show 2 ≤ sizeLine; decide), fun p hp => ?_⟩
      exact q _ 0 _ (r1.trans (Dr.new r1.st hp)) (made rfl rfl) (sz_zero.mono (by decide) (by decide))
    refine ⟨_, rfl, s, _, rfl, r1.st, by decide, by decide, fun t0 H2 t1 t2 r2 => ?_⟩
    refine ⟨_, _, rfl, rfl, _, rfl, s, _, rfl, r2.st, by decide, by decide, fun c0 H3 c1 c2 r3 => ?_⟩
    refine ⟨_, _, rfl, rfl, ?_⟩
    have r13 := (r1.trans r2).trans r3
    -- the top
    refine ⟨fun σ H' => ∃ t : Int, σ = [some (.ref s), some (.int wy), some (.int t), some (.int (1 + c0))] ∧ t.natAbs < 2 ^ 100 ∧ Dr s H H', ?_, ?_⟩
    · refine ⟨_, rfl, (by show 2 ≤ sizeLine; decide), fun p hp => ?_⟩
      have r4 := r13.trans (Dr.new (o := .tup [.int 6, .int 8]) r13.st hp)
      refine ⟨p, _, rfl, .inr (st_of upd_same), rfl, rfl, _, rfl, ite2 (fun _ => ?_) (fun _ => ?_)⟩
      · refine ⟨_, rfl, s, rfl, r4.st, fun l H5 l0 l1 r5 => ?_⟩
        refine ⟨_, rfl, (by show 2 ≤ sizeLine; decide), fun p2 hp2 => ?_⟩
        have r6 := r5.trans (Dr.new (o := .lst [.int 1, .int (-1)]) r5.st hp2)
        refine ⟨_, rfl, s, _, rfl, r6.st, by decide, by decide, fun d2 H7 j0 j1 r7 => ?_⟩
        obtain ⟨v, hv, hm⟩ := at_mem (xs := [.int 1, .int (-1)]) j0 (by simpa using j1)
        have hv2 : ∃ z : Int, v = .int z ∧ (z = 1 ∨ z = -1) := by
          simp only [List.mem_cons, List.not_mem_nil, or_false] at hm
          rcases hm with rfl | rfl
          · exact ⟨_, rfl, .inl rfl⟩
          · exact ⟨_, rfl, .inr rfl⟩
        obtain ⟨z, rfl, hz⟩ := hv2
        have hp3 := r7.keep p2 _ (Ne.symm (r5.st.ne hp2)) upd_same
        have z2 : z.natAbs < 2 ^ 1 := by
          rcases hz with rfl | rfl <;> decide
        refine ⟨p2, _, d2, _, rfl, rfl, sq_of hp3, hv, _, _, rfl, rfl, mulOk l1 z2, l * z, rfl, ?_, ((r4.trans r5).trans (Dr.new r5.st hp2)).trans r7⟩
        rcases hz with rfl | rfl
        · rw [Int.mul_one]
          exact l1
        · rw [show l * -1 = -l by omega, Int.natAbs_neg]
          exact l1
      · exact ⟨t0 - 4, rfl, by omega, r4⟩
    · rintro σ H4 ⟨t, rfl, ht, r4⟩
      refine ⟨fun σ H' => ∃ b : Int, σ = [some (.ref s), some (.int wy), some (.int t), some (.int b)] ∧ 0 < b ∧ b.natAbs < 2 ^ 100 ∧ Dr s H H', ?_, ?_⟩
      · refine ⟨_, rfl, (by show 2 ≤ sizeLine; decide), fun p hp => ?_⟩
        have r5 := r4.trans (Dr.new (o := .tup [.int 7, .int 8]) r4.st hp)
        refine ⟨p, _, rfl, .inr (st_of upd_same), rfl, rfl, _, rfl, ite2 (fun _ => ?_) (fun _ => ?_)⟩
        · exact ⟨_, rfl, s, rfl, r5.st, fun l H5 l0 l1 r6 => ⟨l, rfl, l0, l1, r5.trans r6⟩⟩
        · exact ⟨1 + c0, rfl, by omega, by omega, r5⟩
      · rintro σ H5 ⟨b, rfl, b0, b1, r5⟩
        refine ⟨_, rfl, _, rfl, t, b, 100, rfl, b0, b1, by decide, by decide, fun v H' e hv => ?_⟩
        exact q v _ H' (r5.trans (Dr.ex r5.st e)) hv (sz_div b0 ht b1)
theorem row_turn {K : PySem.W.Frag} {s D : Addr} {H H' H4 : Hp} {i n d : Nat} {v : V} {r : Rat} (hS : Stm s H) (hD : H D = none) (hi : i < 1000) (h : ∃ L xs, H' D = some (.lst xs) ∧ FrL K H' xs L ∧ L.length = i ∧ SzL n d L ∧ Dr s H H') (r4 : Dr s H' H4) (hv : FrV K H4 v r) (hs : Sz n d r) :
    ∃ acc, H4 D = some (.lst acc) ∧ acc.length < sizeLine ∧ ∃ L xs, upd H4 D (.lst (acc ++ [v])) D = some (.lst xs) ∧ FrL K (upd H4 D (.lst (acc ++ [v]))) xs L ∧ L.length = i + 1 ∧ SzL n d L ∧ Dr s H (upd H4 D (.lst (acc ++ [v]))) := by
  obtain ⟨L, xs, hx, hl, hn, hz, r1⟩ := h
  have h4 := r4.keep D _ (Ne.symm (hS.ne hD)) hx
  have hln := Paired.length hl
  refine ⟨xs, h4, sz_lt (by omega), L ++ [r], xs ++ [v], upd_same, ?_, by simp [hn], ?_, (r1.trans r4).mut hD (hS.ne hD)⟩
  · exact Paired.snoc (pmono (fun _ _ q => FrV.mut h4 (FrV.dr r1.st r4 q)) hl) (FrV.mut h4 hv)
  · intro a ha
    rcases List.mem_append.mp ha with ha | ha
    · exact hz a ha
    · rw [List.mem_singleton.mp ha]
      exact hs
theorem ok__law_node (D : Df K mg "_law_node" s__law_node ["_law_stream_here", "_law_many"]) (GN : Ok P w K mg base 3 "_law_number" ["_law_stream_here"] (spNum K 100 100)) (mtuple : mg "tuple" = none) (mrange : mg "range" = none) : Ok P w K mg base 4 "_law_node" ["_law_stream_here", "_law_many"] (spNode K) := by
  refine D.ok fun f fd F => F.ok sc__law_node (fun vs H Q E h => ?_) (fun cdv A outer s H vs Q E hr h => ?_)
  · obtain ⟨s, k, rfl, _⟩ := h
    rfl
  · obtain ⟨s, k, rfl, hS, hk, q⟩ := h
    refine ⟨_, pss_one (ps_ret (pe_tup (pa_cons (pe_callTy call_tuple_of (by rfl) mtuple (by decide +kernel) (pa_cons (pe_lc (own := [("_law_k", 2)]) (g := gName 2) (tt := tYes) rfl sc__law_node.nd (pi_range1 (by rfl) mrange (pa_cons (pv 1) pa_nil)) (blkOk_by (N := ["_law_stream_here", "_law_many", "_law_k"]) (sc := defScope s__law_node) (by decide +kernel)) (fun _ _ _ _ _ => (pg_name (i := 2) sc__law_node.nd rfl (.inl rfl))) (fun _ _ _ _ _ => pts_nil) (fun _ _ _ _ _ => cl GN hr (pa_cons (pv 0) pa_nil))) pa_nil)) (pa_cons (cl GN hr (pa_cons (pv 0) pa_nil)) pa_nil)))), ?_⟩
    refine ⟨_, rfl, (k : Int), rfl, by omega, by omega, fun D hD => ?_⟩
    refine lc_range (lo := 0) (n := ((k : Int)).toNat) (fun i H' => ∃ L xs, H' D = some (.lst xs) ∧ FrL K H' xs L ∧ L.length = i ∧ SzL 100 100 L ∧ Dr s H H')
      ⟨[], [], upd_same, .nil, rfl, (fun _ z => by cases z), Dr.new hS hD⟩ ?_ ?_
    · rintro i H' hi h
      rw [Int.toNat_natCast] at hi
      have hst : Stm s H' := by
        obtain ⟨L, xs, _, _, _, _, r1⟩ := h
        exact r1.st
      refine ⟨rfl, ?_⟩
      refine ⟨_, rfl, s, rfl, hst, fun v r H4 r4 hv hs => ?_⟩
      exact row_turn hS hD (by omega) h r4 hv hs
    · rintro H' ⟨L, xs, hx, hl, hn, hz, r1⟩
      rw [Int.toNat_natCast] at hn
      refine ⟨D, xs, rfl, .inl ⟨sq_of hx, fun l hl' => ?_⟩⟩
      have r2 := r1.trans (Dr.new (o := .tup xs) r1.st hl')
      have row : RowV K (upd H' l (.tup xs)) (.ref l) L := ⟨l, xs, rfl, st_of upd_same, FrL.ex (Ex.new hl') hl⟩
      refine ⟨_, rfl, s, rfl, r2.st, fun v r H4 r4 hv hs => ⟨(by show 2 ≤ sizeLine; decide), fun p hp => ?_⟩⟩
      exact q _ (L, r) _ ((r2.trans r4).trans (Dr.new r4.st hp)) ⟨p, _, _, rfl, st_of upd_same, (row.dr r2.st r4).ex (Ex.new hp), hv.ex (Ex.new hp)⟩ hn hz hs
theorem ok__law_size (D : Df K mg "_law_size" s__law_size ["_law_stream_here", "_law_most"]) (GT : Ok P w K mg base 1 "_law_take" ["_law_stream_here", "_law_many"] spTake) (mint : mg "int" = none) : Ok P w K mg base 2 "_law_size" ["_law_stream_here", "_law_most"] spSize07 := by
  refine D.ok fun f fd F => F.ok sc__law_size (fun vs H Q E h => ?_) (fun cdv A outer s H vs Q E hr h => ?_)
  · obtain ⟨s, m, rfl, _⟩ := h
    rfl
  · obtain ⟨s, m, rfl, hS, m2, m10, q⟩ := h
    refine ⟨_, pss_one (ps_ret (pe_op op_add pe_int (pe_ix ix_list (pe_lst (pa_cons (cl GT hr (pa_cons (pv 0) (pa_cons (pe_op op_sub (pv 1) pe_int) pa_nil))) (pa_cons (pe_op op_sub (pv 1) pe_int) pa_nil))) (pe_callTy call_int1 (by rfl) mint (by decide +kernel) (pa_cons (pe_cmpR op_eq (cl GT hr (pa_cons (pv 0) (pa_cons pe_int pa_nil))) pe_int (nomark _)) pa_nil)) (fun _ _ => rfl)))), ?_⟩
    refine ⟨_, rfl, _, rfl, _, _, rfl, rfl, s, _, rfl, hS, by omega, by omega, fun d H1 a0 a1 r1' => ⟨_, rfl, _, _, rfl, rfl, (by show 2 ≤ sizeLine; decide), fun p hp => ?_⟩⟩
    refine ⟨_, rfl, s, _, rfl, r1'.st.new hp, by decide, by decide, fun d2 H2 b0 b1 r2' => ?_⟩
    have t1 := r1'.st
    have r1 := r1'.dk
    have r2 := r2'.dk
    have t2 := r2'.st
    have hp2 := r2.keep p _ (Ne.symm (t1.lst.ne hp)) upd_same
    obtain ⟨v, hv, hmm⟩ := at_mem (xs := [.int d, .int ((m : Int) - 1)]) (d := if decide (V.int d2 = V.int 0) = true then 1 else 0) (by split <;> decide) (by
      show (if decide (V.int d2 = V.int 0) = true then (1 : Int) else 0) < 2
      split <;> decide)
    have hv2 : ∃ z : Int, v = .int z ∧ 0 ≤ z ∧ z ≤ (m : Int) - 1 := by
      simp only [List.mem_cons, List.not_mem_nil, or_false] at hmm
      rcases hmm with rfl | rfl
      · exact ⟨_, rfl, a0, by omega⟩
      · exact ⟨_, rfl, by omega, by omega⟩
    obtain ⟨z, rfl, z0, z1⟩ := hv2
    refine ⟨rfl, .inr ⟨_, rfl, p, _, _, _, rfl, rfl, sq_of hp2, hv, _, _, rfl, rfl, ?_⟩⟩
    have e : 1 + z = (((1 + z).toNat : Nat) : Int) := by omega
    show Q (.int (1 + z)) H2
    rw [e]
    exact q _ _ (by omega) (by omega) ((r1.trans (Dk.new t1.lst hp)).trans r2) t2
def LyX (K : PySem.W.Frag) (s D : Addr) (H : Hp) (v : V) (l : List Sum2) : Prop := LyS K s H v l ∧ v ≠ .ref D
theorem ok__law_layers (D : Df K mg "_law_layers" s__law_layers ["_law_stream_here", "_law_ins"]) (GS : Ok P w K mg base 2 "_law_size" ["_law_stream_here", "_law_most"] spSize07) (GD : Ok P w K mg base 4 "_law_node" ["_law_stream_here", "_law_many"] (spNode K)) (mrange : mg "range" = none) : Ok P w K mg base 5 "_law_layers" ["_law_stream_here", "_law_ins"] (spLays07 K) := by
  refine D.ok fun f fd F => F.ok sc__law_layers (fun vs H Q E h => ?_) (fun cdv A outer s H vs Q E hr h => ?_)
  · obtain ⟨s, n, rfl, _⟩ := h
    rfl
  · obtain ⟨s, n, rfl, hS, hn1, hn3, q⟩ := h
    have hr2 : Room 2 _ := hr.mono (by decide)
    refine ⟨_, (pss_cons (ps_set (i := 2) sc__law_layers.nd rfl (.inl rfl) (pe_lst pa_nil))
      (pss_cons (ps_set (i := 3) sc__law_layers.nd rfl (.inr rfl) (pv 1))
      (pss_cons (ps_for PassesOwn.never rfl (pi_range1 (by rfl) mrange (pa_cons (cl GS hr2 (pa_cons (pv 0) (pa_cons pe_int pa_nil))) pa_nil)) (pg_name (i := 4) sc__law_layers.nd rfl (.inl rfl)) (pss_cons (ps_set (i := 5) sc__law_layers.nd rfl (.inl rfl) (cl GS hr2 (pa_cons (pv 0) (pa_cons pe_int pa_nil))))
      (pss_cons (ps_expr (pe_bm PySem.F.plainAttrs_list PySem.F.slot_list_append PySem.F.type_list_append mt_append (pv 2) (pa_cons (pe_lc (own := [("_law_j", 6)]) (g := gName 6) (tt := tYes) rfl sc__law_layers.nd (pi_range1 (by rfl) mrange (pa_cons (pv 5) pa_nil)) (blkOk_by (N := ["_law_stream_here", "_law_ins", "_law_layers_here", "_law_ahead", "_law_k", "_law_many", "_law_j"]) (sc := defScope s__law_layers) (by decide +kernel)) (fun _ _ _ _ _ => (pg_name (i := 6) sc__law_layers.nd rfl (.inl rfl))) (fun _ _ _ _ _ => pts_nil) (fun _ _ _ _ _ => cl GD hr (pa_cons (pv 0) (pa_cons (pv 3) pa_nil)))) pa_nil)))
      (pss_one (ps_set (i := 3) sc__law_layers.nd rfl (.inr rfl) (pv 5))))))
      (pss_one (ps_ret (pv 2)))))), ?_⟩
    refine ⟨(by show 0 ≤ sizeLine; decide), fun D hD => ?_⟩
    have hsD := hS.lst.ne hD
    have e0 : Ex H (upd H D (.lst [])) := Ex.new hD
    have k0 : upd H D (.lst []) D = some (.lst []) := upd_same
    have S0 := hS.ex e0
    have D0 : Dk s H (upd H D (.lst [])) := Dk.ex hS.lst e0
    generalize upd H D (.lst []) = H0 at e0 k0 S0 D0 ⊢
    refine ⟨_, rfl, _, rfl, s, 4, rfl, S0, by decide, by decide, fun c H1 c1 c4 r1 t1 => ?_⟩
    have D1 := D0.trans r1
    have k1 := r1.keep D _ (Ne.symm hsD) k0
    refine ⟨(c : Int), rfl, by omega, by omega, for_range (lo := 0) (n := ((c : Int)).toNat) (fun i σ H' => ∃ (o4 o5 o6 : Option V) (n' : Nat) (ls : List (List Sum2)) (ys : List V), σ = [some (.ref s), some (.int (n : Int)), some (.ref D), some (.int (n' : Int)), o4, o5, o6] ∧ H' D = some (.lst ys) ∧ Paired (LyX K s D H') ys ls ∧ ls.length = i ∧ Over n ls ∧ lastN n ls = n' ∧ 1 ≤ n' ∧ n' ≤ 4 ∧ NumZ ls ∧ Dk s H H' ∧ Stm s H')
      ⟨none, none, none, n, [], [], rfl, k1, .nil, rfl, trivial, rfl, hn1, by omega, (fun _ z => by cases z), D1, t1⟩ ?_ ?_⟩
    · rintro i σ H2 hi ⟨o4, o5, o6, n', ls, ys, rfl, hx, pl, hn, ov, la, a1, a4, nu, r2, t2⟩
      rw [Int.toNat_natCast] at hi
      refine ⟨_, rfl, s, 4, rfl, t2, by decide, by decide, fun m H3 m1 m4 r3 t3 => ?_⟩
      have x3 := r3.keep D _ (Ne.symm hsD) hx
      have p3 : Paired (LyX K s D H3) ys ls := pmono (fun _ _ q => ⟨LyS.dk r2.st r3 q.1, q.2⟩) pl
      have R3 := r2.trans r3
      refine ⟨_, rfl, .inl ⟨rfl, _, sq_of x3⟩, _, rfl, (m : Int), rfl, by omega, by omega, fun G hG => ?_⟩
      have hsG := t3.lst.ne hG
      have hDG : D ≠ G := ne_of_none x3 hG
      refine lc_range (lo := 0) (n := ((m : Int)).toNat) (fun j H' => ∃ (l : List Sum2) (xs : List V), H' G = some (.lst xs) ∧ Paired (SumV K H') xs l ∧ l.length = j ∧ (∀ z ∈ l, z.1.length = n' ∧ SzL 100 100 z.1 ∧ Sz 100 100 z.2) ∧ Dk s H3 H' ∧ Stm s H')
        ⟨[], [], upd_same, .nil, rfl, (fun _ z => by cases z), Dk.new t3.lst hG, t3.new hG⟩ ?_ ?_
      · rintro j H4 hj ⟨l, xs, hxs, pz, hl, hz, r4, t4⟩
        rw [Int.toNat_natCast] at hj
        refine ⟨rfl, ?_⟩
        refine ⟨_, rfl, _, rfl, s, n', rfl, t4, by omega, fun v z H5 r5' hv z1 z2 z3 => ?_⟩
        have r5 := r5'.dk
        have t5 := r5'.st
        have x5 := r5.keep G _ (Ne.symm hsG) hxs
        have hln := Paired.length pz
        refine ⟨xs, x5, sz_lt (by omega), l ++ [z], xs ++ [v], upd_same, ?_, by simp [hl], ?_, (r4.trans r5).mut hG hsG, t5.mut hsG⟩
        · exact Paired.snoc (pmono (fun _ _ q => SumV.mut x5 (SumV.dk r4.st r5 q)) pz) (SumV.mut x5 hv)
        · intro a ha
          rcases List.mem_append.mp ha with ha | ha
          · obtain ⟨w1, w2, w3⟩ := hz a ha
            exact ⟨w1, w2, w3⟩
          · rw [List.mem_singleton.mp ha]
            exact ⟨z1, z2, z3⟩
      · rintro H4 ⟨l, xs, hxs, pz, hl, hz, r4, t4⟩
        rw [Int.toNat_natCast] at hl
        have x4 := r4.keep D _ (Ne.symm hsD) x3
        have p4 : Paired (LyX K s D H4) ys ls := pmono (fun _ _ q => ⟨LyS.dk t3.lst r4 q.1, q.2⟩) p3
        have hly := Paired.length p4
        refine ⟨D, ys, _, rfl, rfl, x4, sz_lt (by omega), ?_⟩
        have em : ∀ {b : Addr} {o : HO}, b ≠ D → H4 b = some o → upd H4 D (.lst (ys ++ [.ref G])) b = some o := fun hb ho => by
          rw [upd_ne hb]
          exact ho
        have lm : ∀ {v l}, LyX K s D H4 v l → LyX K s D (upd H4 D (.lst (ys ++ [.ref G]))) v l := by
          rintro v l ⟨⟨a, zs, rfl, na, qa, pa⟩, nv⟩
          exact ⟨⟨a, zs, rfl, na, em (fun z => nv (by rw [z])) qa, pmono (fun _ _ => SumV.mut x4) pa⟩, nv⟩
        obtain ⟨v1, v2⟩ := over_snoc ov (l := l) (by rw [la]; exact fun z hz' => (hz z hz').1) (by omega) (by omega)
        refine ⟨_, rfl, _, some (.int (m : Int)), _, m, ls ++ [l], ys ++ [.ref G], rfl, upd_same, ?_, by simp [hn], v1, v2.trans (by omega), m1, m4, ?_, (R3.trans r4).mut hD hsD, t4.mut hsD⟩
        · exact Paired.snoc (pmono (fun _ _ => lm) p4) ⟨⟨G, xs, rfl, Ne.symm hsG, em (Ne.symm hDG) hxs, pmono (fun _ _ => SumV.mut x4) pz⟩, fun e => hDG (V.ref.inj e).symm⟩
        · intro a ha z hz'
          rcases List.mem_append.mp ha with ha | ha
          · obtain ⟨w2, w3⟩ := nu a ha z hz'
            exact ⟨w2, w3⟩
          · rw [List.mem_singleton.mp ha] at hz'
            obtain ⟨_, w2, w3⟩ := hz z hz'
            exact ⟨w2, w3⟩
    · rintro σ H2 ⟨o4, o5, o6, n', ls, ys, rfl, hx, pl, hn, ov, la, a1, a4, nu, r2, t2⟩
      rw [Int.toNat_natCast] at hn
      refine ⟨_, rfl, q D ls H2 hD r2 t2 ⟨Ne.symm hsD, ys, hx, pmono (fun _ _ q => q.1) pl⟩ ⟨hn1, hn3, ov, by omega, by omega, nu⟩⟩
end

end K07
end
section
set_option maxRecDepth 100000
set_option maxHeartbeats 400000
namespace K07
open PySem Evl Nc PyProof.Rows
open L2 hiding spCell
/-- a pair of whole numbers -/
def PrV (K : PySem.W.Frag) (H : Hp) (v : V) (p : Nat × Nat) : Prop := ∃ t, v = .ref t ∧ SqT K H t [.int (p.1 : Int), .int (p.2 : Int)]
theorem stPr {K : PySem.W.Frag} : Stays (PrV K) := ⟨fun e ⟨t, h, q⟩ => ⟨t, h, ex_t e q⟩, fun hD ⟨t, h, q⟩ => ⟨t, h, sqt_mut hD q⟩⟩
def plN : Nat → List (List Sum2) → List (Nat × Nat)
  | _, [] => []
  | k, l :: ls => ((List.range l.length).map fun j => (k, j)) ++ plN (k + 1) ls
theorem plN_snoc (l : List Sum2) : ∀ (xs : List (List Sum2)) (k : Nat), plN k (xs ++ [l]) = plN k xs ++ (List.range l.length).map fun j => (k + xs.length, j)
  | [], k => by
    show ((List.range l.length).map fun j => (k, j)) ++ [] = [] ++ _
    rw [List.append_nil, List.nil_append]
    rfl
  | x :: xs, k => by
    show ((List.range x.length).map fun j => (k, j)) ++ plN (k + 1) (xs ++ [l]) = ((List.range x.length).map fun j => (k, j)) ++ plN (k + 1) xs ++ _
    rw [plN_snoc l xs (k + 1), List.append_assoc, List.length_cons]
    simp only [Nat.add_assoc, Nat.add_comm 1]
theorem plN_len : ∀ (xs : List (List Sum2)) (k : Nat), (plN k xs).length = (xs.map List.length).sum
  | [], _ => rfl
  | x :: xs, k => by
    show (((List.range x.length).map fun j => (k, j)) ++ plN (k + 1) xs).length = _
    rw [List.length_append, List.length_map, List.length_range, plN_len xs (k + 1)]
    rfl
theorem plN_le {xs : List (List Sum2)} {k : Nat} (h : ∀ l ∈ xs, l.length ≤ 100) : (plN k xs).length ≤ 100 * xs.length := by
  rw [plN_len]
  induction xs with
  | nil => exact Nat.le_refl _
  | cons x xs ih =>
    have h1 := h x (by simp)
    have h2 := ih fun l hl => h l (by simp [hl])
    rw [List.map_cons, List.sum_cons, List.length_cons]
    omega
theorem take_snoc {α : Type} {ls : List α} {i : Nat} {l : α} (h : ls[i]? = some l) : ls.take (i + 1) = ls.take i ++ [l] := by
  rw [List.take_add_one, h]
  rfl
theorem none_of {H H' : Hp} {a : Addr} (e : Ex H H') (h : H' a = none) : H a = none := Option.eq_none_iff_forall_ne_some.mpr fun o ho => by
  rw [e _ _ ho] at h
  cases h
section
variable {P : Program} {w : World} {K : PySem.W.Frag} {mg : Str → Option Value} {base : Heap}
def spPlacesN (K : PySem.W.Frag) (CN CL CC : Addr) : Sp := fun vs H Q _ => ∃ (p : Addr) (n : Nat) (ls : List (List Sum2)), vs = [.ref p] ∧ NetV K CN CL CC H p n ls ∧ 1 ≤ ls.length ∧ ls.length ≤ 100 ∧ (∀ l ∈ ls, l.length ≤ 100) ∧
  ∀ F rs H', H F = none → Ex H H' → H' F = some (.lst rs) → Paired (PrV K H') rs (plN 0 ls.dropLast) → Q (.ref F) H'
theorem ok_Net_places {CN CL CC : Addr} (D : Md K CN "places" "Net.places" s_Net_places ["self"]) (N : NDefs P w K mg base CN CL CC) (mlen : mg "len" = none) (mrange : mg "range" = none) (menum : mg "enumerate" = none) : MOk P w K mg base 2 CN "places" ["self"] (spPlacesN K CN CL CC) := by
  obtain ⟨fTL, dTL, mTL, FTL, bTL⟩ := N.toldL.ex
  obtain ⟨fTC, dTC, mTC, FTC, bTC⟩ := N.toldC.ex
  obtain ⟨fSL, dSL, mSL, FSL, bSL⟩ := N.sumsL.ex
  obtain ⟨fSC, dSC, mSC, FSC, bSC⟩ := N.sumsC.ex
  refine D.ok fun f fd F => F.ok sc_Net_places (fun vs H Q E h => ?_) (fun cdv A outer s H vs Q E hr h => ?_)
  · obtain ⟨p, n, ls, rfl, _⟩ := h
    rfl
  · obtain ⟨p, n, ls, rfl, ⟨dx, t, ps, hp, qt, pl⟩, h1, h100, hl2, q⟩ := h
    refine ⟨_, (pss_cons (ps_set (i := 1) sc_Net_places.nd rfl (.inl rfl) (pe_lst pa_nil))
      (pss_cons (ps_for PassesOwn.never rfl (pi_enumX (by rfl) menum (pa_cons (pe_slice (sl_tupE K) (pe_fld (pv 0) rfl) po_none (po_some (pe_un un_neg pe_int))) pa_nil)) (pg_tup rfl (pgs_cons (pg_name (i := 2) sc_Net_places.nd rfl (.inr rfl)) (pgs_cons (pg_name (i := 3) sc_Net_places.nd rfl (.inl rfl)) pgs_nil))) (pss_one (ps_aug (i := 1) sc_Net_places.nd rfl (.inl rfl) (pe_lc (own := [("node", 4)]) (g := gName 4) (tt := tYes) rfl sc_Net_places.nd (pi_range1 (by rfl) mrange (pa_cons (pe_callB call_len_seq (by rfl) mlen PySem.boot_len (pa_cons (pe_or (pe_meth0 (pv 3) N.tL mTL FTL hr bTL .nil pass0) (pe_meth0 (pv 3) N.tC mTC FTC hr bTC .nil pass0)) pa_nil)) pa_nil)) (blkOk_by (N := ["self", "found", "at", "layer", "node"]) (sc := defScope s_Net_places) (by decide +kernel)) (fun _ _ _ _ _ => (pg_name (i := 4) sc_Net_places.nd rfl (.inl rfl))) (fun _ _ _ _ _ => pts_nil) (fun _ _ _ _ _ => pe_tup (pa_cons (pv 2) (pa_cons (pv 4) pa_nil)))) iop_grow)))
      (pss_one (ps_ret (pv 1))))), ?_⟩
    have hlen := Paired.length pl
    have hne : ps ≠ [] := fun z => by
      rw [z] at hlen
      simp at hlen
      omega
    refine ⟨(by show 0 ≤ sizeLine; decide), fun F hF => ?_⟩
    have e1 : Ex H (upd H F (.lst [])) := Ex.new hF
    have k1 : upd H F (.lst []) F = some (.lst []) := upd_same
    generalize upd H F (.lst []) = H1 at e1 k1 ⊢
    refine ⟨_, rfl, p, CN, dx, _, _, rfl, e1 _ _ hp, N.tN, N.nL, rfl, ?_⟩
    refine ⟨_, rfl, _, rfl, t, _, rfl, ex_t e1 qt, fun pS H2 e2 qS => ?_⟩
    rw [cut_init hne] at qS
    have E2 := e1.trans e2
    have hpl : ps.dropLast.length = ls.dropLast.length := by rw [List.length_dropLast, List.length_dropLast, hlen]
    have hlm : ∀ l ∈ ls.dropLast, l.length ≤ 100 := fun l h => hl2 l ((List.dropLast_sublist _).subset h)
    have pl1 : Paired (LayV K CL CC H2) ps.dropLast ls.dropLast := pair_init (pmono (fun _ _ => LayV.ex E2) pl)
    have dl : ls.dropLast.length ≤ 100 := by rw [List.length_dropLast]; omega
    generalize ls.dropLast = ms at hpl hlm pl1 dl q
    generalize ps.dropLast = us at hpl qS pl1
    have qSX : SqX K true H2 pS us := qS
    refine ⟨true, pS, us, rfl, qSX, ?_⟩
    have lF2 : Lst F H2 := ⟨_, e2 _ _ k1⟩
    refine for_enumX (K := K) (fun i σ H' => ∃ (o2 o3 o4 : Option V) (fs : List V), σ = [some (.ref p), some (.ref F), o2, o3, o4] ∧ Ex H H' ∧ Dk F H2 H' ∧ H' F = some (.lst fs) ∧ Paired (PrV K H') fs (plN 0 (ms.take i))) ⟨none, none, none, [], rfl, E2, Dk.refl lF2, e2 _ _ k1, .nil⟩ (fun i σ H' ⟨_, _, _, _, _, _, d, _⟩ => sqt_dk lF2 d qS) ?_ ?_
    · rintro i x T σ H3 hx ⟨o2, o3, o4, fs, rfl, e3, d3, kF, pF⟩ hT
      obtain ⟨l, hl1, lv0⟩ := pget pl1 hx
      have hi := (List.getElem?_eq_some_iff.mp hl1).1
      have hll := hlm l (List.mem_of_getElem? hl1)
      have fl := Paired.length pF
      have ple := plN_le (xs := ms.take i) (k := 0) fun x h => hlm x (List.mem_of_mem_take h)
      rw [List.length_take] at ple
      have eT : Ex H3 (upd H3 T (.tup [V.int (i : Nat), x])) := Ex.new hT
      refine ⟨T, [V.int (i : Nat), x], rfl, st_of upd_same, rfl, V.int (i : Nat), [x], rfl, x, [], rfl, rfl, ?_⟩
      generalize upd H3 T (.tup [V.int (i : Nat), x]) = H' at eT ⊢
      have lv := LayV.ex eT (LayV.dk lF2 d3 lv0)
      have kF' := eT _ _ kF
      obtain ⟨a, C, nv, rfl, hc, ⟨dy, la⟩, nn⟩ := lv
      have la' : LayerAt C H' a nv := ⟨dy, la⟩
      have nT : List.lookup ("told" : Str) [(("_nodes" : Str), nv)] = none := no_m (by decide +kernel)
      obtain ⟨u, xs, rfl, qu, lu⟩ := nn
      have hxl := Paired.length lu
      rcases hc with rfl | rfl
      · refine ⟨_, rfl, Or.inl ⟨_, rfl, a, dy, _, rfl, la, nT, a, _, rfl, la', u, xs, rfl, .inr qu, (xs.length : Int), rfl, by omega, by omega, fun G hG => ?_⟩⟩
        refine lc_range (lo := 0) (n := ((xs.length : Int)).toNat) (Bld (PrV K) H' G ((List.range l.length).map fun j => (i, j))) (bld0 hG) ?_ ?_
        · rintro j H5 hj b
          rw [Int.toNat_natCast] at hj
          rw [show (0 : Int) + (j : Int) = (j : Int) by omega]
          refine ⟨rfl, ?_⟩
          refine ⟨_, rfl, _, rfl, (by show 2 ≤ sizeLine; decide), fun pq hpq => bld_step (a := (i, j)) stPr hG b (Ex.new hpq) ?_ (by omega) ⟨pq, rfl, st_of upd_same⟩⟩
          rw [List.getElem?_map, List.getElem?_range (by omega)]
          rfl
        intro H5 b5
        rw [Int.toNat_natCast] at b5
        obtain ⟨e5, gs, hgs, pgs⟩ := bld_end (by rw [List.length_map, List.length_range]; exact hxl) b5
        have gl := Paired.length pgs
        rw [List.length_map, List.length_range] at gl
        have kF5 := e5 _ _ kF'
        refine ⟨F, G, fs, gs, rfl, rfl, kF5, hgs, Nat.le_of_lt (sz_lt (by omega)), ?_⟩
        refine ⟨_, _, _, fs ++ gs, rfl, Ex.mut (e3.trans (eT.trans e5)) hF, (d3.then (eT.trans e5)).trans (Dk.put kF5), upd_same, ?_⟩
        rw [take_snoc hl1, plN_snoc, List.length_take, Nat.min_eq_left (by omega), Nat.zero_add]
        exact pair_app (pmono (fun _ _ z => stPr.mt kF5 (stPr.ex (eT.trans e5) z)) pF) (pmono (fun _ _ z => stPr.mt kF5 z) pgs)
      · refine ⟨_, rfl, Or.inr ⟨_, rfl, a, dy, _, rfl, la, nT, a, _, rfl, la', u, xs, rfl, .inr qu, (xs.length : Int), rfl, by omega, by omega, fun G hG => ?_⟩⟩
        refine lc_range (lo := 0) (n := ((xs.length : Int)).toNat) (Bld (PrV K) H' G ((List.range l.length).map fun j => (i, j))) (bld0 hG) ?_ ?_
        · rintro j H5 hj b
          rw [Int.toNat_natCast] at hj
          rw [show (0 : Int) + (j : Int) = (j : Int) by omega]
          refine ⟨rfl, ?_⟩
          refine ⟨_, rfl, _, rfl, (by show 2 ≤ sizeLine; decide), fun pq hpq => bld_step (a := (i, j)) stPr hG b (Ex.new hpq) ?_ (by omega) ⟨pq, rfl, st_of upd_same⟩⟩
          rw [List.getElem?_map, List.getElem?_range (by omega)]
          rfl
        intro H5 b5
        rw [Int.toNat_natCast] at b5
        obtain ⟨e5, gs, hgs, pgs⟩ := bld_end (by rw [List.length_map, List.length_range]; exact hxl) b5
        have gl := Paired.length pgs
        rw [List.length_map, List.length_range] at gl
        have kF5 := e5 _ _ kF'
        refine ⟨F, G, fs, gs, rfl, rfl, kF5, hgs, Nat.le_of_lt (sz_lt (by omega)), ?_⟩
        refine ⟨_, _, _, fs ++ gs, rfl, Ex.mut (e3.trans (eT.trans e5)) hF, (d3.then (eT.trans e5)).trans (Dk.put kF5), upd_same, ?_⟩
        rw [take_snoc hl1, plN_snoc, List.length_take, Nat.min_eq_left (by omega), Nat.zero_add]
        exact pair_app (pmono (fun _ _ z => stPr.mt kF5 (stPr.ex (eT.trans e5) z)) pF) (pmono (fun _ _ z => stPr.mt kF5 z) pgs)
    · rintro σ H3 ⟨o2, o3, o4, fs, rfl, e3, d3, kF, pF⟩
      rw [hpl, List.take_length] at pF
      exact ⟨_, rfl, q F fs H3 hF e3 kF pF⟩
def spLPlaces (K : PySem.W.Frag) : Sp := fun vs H Q _ => ∃ (x : V) (ls : List (List Sum2)), vs = [x] ∧ LayI K H x ls ∧ 1 ≤ ls.length ∧ ls.length ≤ 100 ∧ (∀ l ∈ ls, l.length ≤ 100) ∧
  ∀ F rs H', H F = none → Ex H H' → H' F = some (.lst rs) → Paired (PrV K H') rs (plN 0 ls.dropLast) → Q (.ref F) H'
theorem ok__law_places (D : Df K mg "_law_places" s__law_places ["_law_layers_here"]) (mlen : mg "len" = none) (mrange : mg "range" = none) : Ok P w K mg base 1 "_law_places" ["_law_layers_here"] (spLPlaces K) := by
  refine D.ok fun f fd F => F.ok sc__law_places (fun vs H Q E h => ?_) (fun cdv A outer s H vs Q E hr h => ?_)
  · obtain ⟨x, ls, rfl, _⟩ := h
    rfl
  · obtain ⟨x, ls, rfl, ⟨B, ys, rfl, qB, py⟩, h1, h100, hl2, q⟩ := h
    refine ⟨_, (pss_cons (ps_set (i := 1) sc__law_places.nd rfl (.inl rfl) (pe_lst pa_nil))
      (pss_cons (ps_for PassesOwn.never rfl (pi_range1 (by rfl) mrange (pa_cons (pe_op op_sub (pe_callB call_len_seq (by rfl) mlen PySem.boot_len (pa_cons (pv 0) pa_nil)) pe_int) pa_nil)) (pg_name (i := 2) sc__law_places.nd rfl (.inr rfl)) (pss_one (ps_set (i := 1) sc__law_places.nd rfl (.inl rfl) (pe_op op_catE (pv 1) (pe_lc (own := [("_law_node_here", 3)]) (g := gName 3) (tt := tYes) rfl sc__law_places.nd (pi_range1 (by rfl) mrange (pa_cons (pe_callB call_len_seq (by rfl) mlen PySem.boot_len (pa_cons (pe_ix ix_list (pv 0) (pv 2) (fun _ _ => rfl)) pa_nil)) pa_nil)) (blkOk_by (N := ["_law_layers_here", "_law_found", "_law_layer", "_law_node_here"]) (sc := defScope s__law_places) (by decide +kernel)) (fun _ _ _ _ _ => (pg_name (i := 3) sc__law_places.nd rfl (.inl rfl))) (fun _ _ _ _ _ => pts_nil) (fun _ _ _ _ _ => pe_tup (pa_cons (pv 2) (pa_cons (pv 3) pa_nil))))))))
      (pss_one (ps_ret (pv 1))))), ?_⟩
    have yl := Paired.length py
    have etake : ls.dropLast = ls.take (ls.length - 1) := List.dropLast_eq_take
    refine ⟨(by show 0 ≤ sizeLine; decide), fun F hF => ?_⟩
    have e1 : Ex H (upd H F (.lst [])) := Ex.new hF
    have k1 : upd H F (.lst []) F = some (.lst []) := upd_same
    generalize upd H F (.lst []) = H1 at e1 k1 ⊢
    refine ⟨_, rfl, B, ys, rfl, .inl (ex_l e1 qB), _, _, rfl, rfl, ((ys.length : Int) - 1), rfl, by omega, by omega, ?_⟩
    refine for_range (lo := 0) (n := ((ys.length : Int) - 1).toNat) (fun i σ H' => ∃ (F : Addr) (o2 o3 : Option V) (fs : List V), σ = [some (.ref B), some (.ref F), o2, o3] ∧ H F = none ∧ Ex H H' ∧ H' F = some (.lst fs) ∧ Paired (PrV K H') fs (plN 0 (ls.take i))) ⟨F, none, none, [], rfl, hF, e1, k1, .nil⟩ ?_ ?_
    · rintro i σ H3 hi ⟨F, o2, o3, fs, rfl, hF, e3, kF, pF⟩
      have hi' : i < ls.length := by omega
      rw [show (0 : Int) + (i : Int) = (i : Int) by omega]
      obtain ⟨l, hl1⟩ : ∃ l, ls[i]? = some l := ⟨_, List.getElem?_eq_getElem hi'⟩
      have hll := hl2 l (List.mem_of_getElem? hl1)
      have fl := Paired.length pF
      have ple := plN_le (xs := ls.take i) (k := 0) fun x h => hl2 x (List.mem_of_mem_take h)
      rw [List.length_take] at ple
      obtain ⟨vl, hvl, lv0⟩ := pget' py hl1
      obtain ⟨a, xs, rfl, qa, pa⟩ := lv0.ex e3
      have hxl := Paired.length pa
      refine ⟨_, rfl, _, rfl, _, rfl, B, ys, _, _, rfl, rfl, ex_l e3 qB, atI_nat hvl, a, xs, rfl, .inl qa, (xs.length : Int), rfl, by omega, by omega, fun G hG => ?_⟩
      refine lc_range (lo := 0) (n := ((xs.length : Int)).toNat) (Bld (PrV K) H3 G ((List.range l.length).map fun j => (i, j))) (bld0 hG) ?_ ?_
      · rintro j H5 hj b
        rw [Int.toNat_natCast] at hj
        rw [show (0 : Int) + (j : Int) = (j : Int) by omega]
        refine ⟨rfl, ?_⟩
        refine ⟨_, rfl, _, rfl, (by show 2 ≤ sizeLine; decide), fun pq hpq => bld_step (a := (i, j)) stPr hG b (Ex.new hpq) ?_ (by omega) ⟨pq, rfl, st_of upd_same⟩⟩
        rw [List.getElem?_map, List.getElem?_range (by omega)]
        rfl
      intro H5 b5
      rw [Int.toNat_natCast] at b5
      obtain ⟨e5, gs, hgs, pgs⟩ := bld_end (by rw [List.length_map, List.length_range]; exact hxl) b5
      have gl := Paired.length pgs
      rw [List.length_map, List.length_range] at gl
      have kF5 := e5 _ _ kF
      refine ⟨F, G, fs, gs, rfl, rfl, kF5, hgs, Nat.le_of_lt (sz_lt (by omega)), fun pc H6 hpc e6 k6 => ?_⟩
      have E6 := e3.trans (e5.trans e6)
      refine ⟨pc, _, _, fs ++ gs, rfl, none_of (e3.trans e5) hpc, E6, k6, ?_⟩
      rw [take_snoc hl1, plN_snoc, List.length_take, Nat.min_eq_left (by omega), Nat.zero_add]
      exact pair_app (pmono (fun _ _ z => stPr.ex (e5.trans e6) z) pF) (pmono (fun _ _ z => stPr.ex e6 z) pgs)
    · rintro σ H3 ⟨F, o2, o3, fs, rfl, hF, e3, kF, pF⟩
      refine ⟨_, rfl, q F fs H3 hF e3 kF ?_⟩
      rw [etake]
      rwa [show ((ys.length : Int) - 1).toNat = ls.length - 1 by omega] at pF
end

end K07
end
section
set_option maxRecDepth 100000
set_option maxHeartbeats 400000
namespace K07
open PySem Evl Nc PyProof.Rows
open L2 hiding spCell
section
variable {P : Program} {w : World} {K : PySem.W.Frag} {mg : Str → Option Value} {base : Heap}
def spNumbers (K : PySem.W.Frag) (CN CL CC : Addr) : Sp := fun vs H Q _ => ∃ (p : Addr) (n : Nat) (ls : List (List Sum2)) (l : List Sum2), vs = [.ref p] ∧ NetV K CN CL CC H p n ls ∧ ls[ls.length - 1]? = some l ∧ 1 ≤ ls.length ∧ ls.length ≤ 100 ∧ ∀ F H', H F = none → Ex H H' → H' F = some (.lst [.int (n : Int), .int (l.length : Int), .int ((hid ls : Nat) : Int)]) → Q (.ref F) H'
theorem ok__law_numbers (D : Df K mg "_law_numbers" s__law_numbers ["_law_net"]) {CN CL CC : Addr} (N : NDefs P w K mg base CN CL CC) (GI : MOk P w K mg base 1 CN "ins" ["self"] (spInsN K CN CL CC)) (GO : MOk P w K mg base 2 CN "outs" ["self"] (spOutsN K CN CL CC)) (GH : MOk P w K mg base 2 CN "hidden" ["self"] (spHidN K CN CL CC)) : Ok P w K mg base 3 "_law_numbers" ["_law_net"] (spNumbers K CN CL CC) := by
  refine D.ok fun f fd F => F.ok sc__law_numbers (fun vs H Q E h => ?_) (fun cdv A outer s H vs Q E hr h => ?_)
  · obtain ⟨p, n, ls, l, rfl, _⟩ := h
    rfl
  · obtain ⟨p, n, ls, l, rfl, hN, hl, h1, h100, q⟩ := h
    obtain ⟨fIN, dIN, mIN, FIN, bIN⟩ := GI.ex
    obtain ⟨fOU, dOU, mOU, FOU, bOU⟩ := GO.ex
    obtain ⟨fHI, dHI, mHI, FHI, bHI⟩ := GH.ex
    have hr1 : Room 1 _ := hr.mono (by decide)
    refine ⟨_, pss_one (ps_ret (pe_lst (pa_cons (pe_meth0 (pv 0) N.tN mIN FIN hr1 bIN .nil pass0) (pa_cons (pe_meth0 (pv 0) N.tN mOU FOU hr bOU .nil pass0) (pa_cons (pe_meth0 (pv 0) N.tN mHI FHI hr bHI .nil pass0) pa_nil))))), ?_⟩
    have hN0 := hN
    obtain ⟨dx, t, ps, hp, qt, pl⟩ := hN
    have nIN : List.lookup ("ins" : Str) [(("_ins" : Str), V.int (n : Int)), (("_layers" : Str), V.ref t)] = none := no_n (by decide +kernel) (by decide +kernel)
    have nOU : List.lookup ("outs" : Str) [(("_ins" : Str), V.int (n : Int)), (("_layers" : Str), V.ref t)] = none := no_n (by decide +kernel) (by decide +kernel)
    have nHI : List.lookup ("hidden" : Str) [(("_ins" : Str), V.int (n : Int)), (("_layers" : Str), V.ref t)] = none := no_n (by decide +kernel) (by decide +kernel)
    refine ⟨_, rfl, p, dx, _, rfl, hp, nIN, p, n, ls, rfl, hN0, _, rfl, p, dx, _, rfl, hp, nOU, p, n, ls, l, rfl, hN0, hl, _, rfl, p, dx, _, rfl, hp, nHI, p, n, ls, rfl, hN0, h1, h100, fun H1 e1 => ⟨(by show 3 ≤ sizeLine; decide), fun F hF => ?_⟩⟩
    exact q F _ (none_of e1 hF) (e1.trans (Ex.new hF)) upd_same
def tdD (n : Nat) (ls : List (List Sum2)) : PyData := .tuple [.int (n : Int), .tuple (nd ls)]
def spSame (K : PySem.W.Frag) (CN CL CC : Addr) : Sp := fun vs H Q _ => ∃ (p p' : Addr) (n m : Nat) (ls ms : List (List Sum2)), vs = [.ref p, .ref p'] ∧ NetV K CN CL CC H p n ls ∧ NetV K CN CL CC H p' m ms ∧ ls.length ≤ 100 ∧ ms.length ≤ 100 ∧ ∀ H', Ex H H' → Q (.bl (PyData.eqv (tdD n ls) (tdD m ms))) H'
theorem ok_same_net (D : Df K mg "same_net" s_same_net ["one", "other"]) {CN CL CC : Addr} (N : NDefs P w K mg base CN CL CC) (GT : MOk P w K mg base 2 CN "told" ["self"] (spToldN K CN CL CC)) : Ok P w K mg base 3 "same_net" ["one", "other"] (spSame K CN CL CC) := by
  refine D.ok fun f fd F => F.ok sc_same_net (fun vs H Q E h => ?_) (fun cdv A outer s H vs Q E hr h => ?_)
  · obtain ⟨p, p', n, m, ls, ms, rfl, _⟩ := h
    rfl
  · obtain ⟨p, p', n, m, ls, ms, rfl, hN, hM, h1, h2, q⟩ := h
    obtain ⟨fTD, dTD, mTD, FTD, bTD⟩ := GT.ex
    refine ⟨_, pss_one (ps_ret (pe_cmpR (op_eqD hr.units) (pe_meth0 (pv 0) N.tN mTD FTD hr bTD .nil pass0) (pe_meth0 (pv 1) N.tN mTD FTD hr bTD .nil pass0) (nomark _))), ?_⟩
    have hN0 := hN
    have hM0 := hM
    obtain ⟨dx, t, ps, hp, qt, pl⟩ := hN
    obtain ⟨dy, t', ps', hp', qt', pl'⟩ := hM
    have nTD : List.lookup ("told" : Str) [(("_ins" : Str), V.int (n : Int)), (("_layers" : Str), V.ref t)] = none := no_n (by decide +kernel) (by decide +kernel)
    have nTD2 : List.lookup ("told" : Str) [(("_ins" : Str), V.int (m : Int)), (("_layers" : Str), V.ref t')] = none := no_n (by decide +kernel) (by decide +kernel)
    refine ⟨_, rfl, p, dx, _, rfl, hp, nTD, p, n, ls, rfl, hN0, h1, fun v H1 e1 hv => ?_⟩
    refine ⟨_, rfl, p', dy, _, rfl, e1 _ _ hp', nTD2, p', m, ms, rfl, hM0.ex e1, h2, fun v2 H2 e2 hv2 => ?_⟩
    exact ⟨_, _, (hv.ex e2).dp, hv2.dp, shaped_td _ _, shaped_td _ _, q H2 (e1.trans e2)⟩
end

end K07
end
section
set_option maxRecDepth 100000
set_option maxHeartbeats 400000
namespace K07
open PySem Evl Nc PyProof.Rows
open L2 hiding spCell
section
variable {P : Program} {w : World} {K : PySem.W.Frag} {mg : Str → Option Value} {base : Heap}
def spShown (K : PySem.W.Frag) : Sp := fun vs H Q _ => ∃ (n : Nat) (x : V) (ls : List (List Sum2)), vs = [.int (n : Int), x] ∧ LayI K H x ls ∧ ls.length ≤ 100 ∧ ∀ v H', Ex H H' → TdV K H' v n ls → Q v H'
theorem ok__law_told (D : Df K mg "_law_told" s__law_told ["_law_ins", "_law_layers_here"]) (mtuple : mg "tuple" = none) : Ok P w K mg base 1 "_law_told" ["_law_ins", "_law_layers_here"] (spShown K) := by
  refine D.ok fun f fd F => F.ok sc__law_told (fun vs H Q E h => ?_) (fun cdv A outer s H vs Q E hr h => ?_)
  · obtain ⟨n, x, ls, rfl, _⟩ := h
    rfl
  · obtain ⟨n, x, ls, rfl, ⟨B, ys, rfl, qB, py⟩, hl, q⟩ := h
    refine ⟨_, pss_one (ps_ret (pe_tup (pa_cons (pv 0) (pa_cons (pe_callTy call_tuple_of (by rfl) mtuple (by decide +kernel) (pa_cons (pe_lc (own := [("_law_nodes", 2)]) (g := gName 2) (tt := tYes) rfl sc__law_told.nd (pi_list (pv 1)) (blkOk_by (N := ["_law_ins", "_law_layers_here", "_law_nodes"]) (sc := defScope s__law_told) (by decide +kernel)) (fun _ _ _ _ _ => (pg_name (i := 2) sc__law_told.nd rfl (.inl rfl))) (fun _ _ _ _ _ => pts_nil) (fun _ _ _ _ _ => pe_callTy (T := "tuple") (call_tupK K) (by rfl) mtuple (by decide +kernel) (pa_cons (pv 2) pa_nil))) pa_nil)) pa_nil)))), ?_⟩
    have yl := Paired.length py
    refine ⟨_, rfl, _, rfl, B, rfl, ⟨_, qB⟩, fun G hG => ?_⟩
    refine lc_list (K := K) (a := B) (xs := ys) (Bld (NodesV K) H G ls) (bld0 hG) (fun k H' _ b => ex_l b.1 qB) ?_ ?_
    · rintro k v H' hk b
      obtain ⟨l, hl1, lv⟩ := pget py hk
      obtain ⟨b1, us, rfl, qb, pu⟩ := lv.ex b.1
      have hk1 := (List.getElem?_eq_some_iff.mp hk).1
      refine ⟨rfl, ?_⟩
      refine ⟨_, rfl, b1, us, rfl, .inl ⟨qb, fun t ht => ?_⟩⟩
      exact bld_step stN hG b (Ex.new ht) hl1 (by omega) ⟨t, us, rfl, st_of upd_same, pmono (fun _ _ => SumV.ex (Ex.new ht)) pu⟩
    intro H3 b3
    obtain ⟨e3, ws, hws, pw⟩ := bld_end yl b3
    refine ⟨G, ws, rfl, .inl ⟨sq_of hws, fun t1 ht1 => ⟨(by show 2 ≤ sizeLine; decide), fun t2 ht2 => ?_⟩⟩⟩
    have e4 : Ex H3 (upd H3 t1 (.tup ws)) := Ex.new ht1
    have k4 : upd H3 t1 (.tup ws) t1 = some (.tup ws) := upd_same
    generalize upd H3 t1 (.tup ws) = H4 at e4 k4 ht2 ⊢
    have e5 : Ex H4 (upd H4 t2 (.tup [.int (n : Int), .ref t1])) := Ex.new ht2
    exact q _ _ (e3.trans (e4.trans e5)) ⟨t2, t1, ws, rfl, st_of upd_same, st_of (e5 _ _ k4), pmono (fun _ _ => NodesV.ex (e4.trans e5)) pw⟩
end

end K07
end
section
set_option maxRecDepth 100000
set_option maxHeartbeats 400000
namespace K07
open PySem Evl Nc PyProof.Rows
open L2 hiding spCell
section
variable {P : Program} {w : World} {K : PySem.W.Frag} {mg : Str → Option Value} {base : Heap}
theorem fn_netinit {CN CL CC fI f : Addr} {fd fdI : FuncData} (F : Fun K "__init__" "Net.__init__" s_Net___init__ f fd) (N : NDefs P w K mg base CN CL CC) (ML : Mk K CL fI) (MC : Mk K CC fI) (FL : FnOk P w K mg base CX0 1 fI fdI ["self", "nodes"] (spInitL K CL)) (FC : FnOk P w K mg base CX0 1 fI fdI ["self", "nodes"] (spInitL K CC))
    (bL : Binds K fdI ["self", "nodes"] []) (mgL : mg "Layer" = some (.ref CL)) (mgC : mg "CutLayer" = some (.ref CC)) (GAI : Ok P w K mg base 2 "_are_ins" ["thing"] spAreIns) (GAL : Ok P w K mg base 5 "_are_layers" ["thing", "ins"] (spAreLays K)) (mtuple : mg "tuple" = none) : FnOk P w K mg base CX0 6 f fd ["self", "ins", "layers"] (spInitN K CN CL CC) := by
  have bC := bL
  refine F.ok sc_Net___init__ (fun vs H Q E h => ?_) (fun cdv A outer s H vs Q E hr h => ?_)
  · obtain ⟨p, dx, x, n, ls, W, rfl, _⟩ := h
    rfl
  · obtain ⟨p, dx, x, n, ls, W, rfl, hp, hx, ok, q⟩ := h
    have hr2 : Room (1 + 1) _ := hr.mono (by decide)
    have hr2' : Room 2 _ := hr.mono (by decide)
    refine ⟨_, (pss_cons (ps_if (pt_not (pt_val (cl GAI hr2' (pa_cons (pv 1) pa_nil)))) (pss_one ps_never) pss_nil)
      (pss_cons (ps_if (pt_not (pt_val (cl GAL hr (pa_cons (pv 2) (pa_cons (pv 1) pa_nil))))) (pss_one ps_never) pss_nil)
      (pss_cons (ps_fld (pv 0) (pv 1) rfl)
      (pss_one (ps_fld (pv 0) (pe_callTy call_tuple_of (by rfl) mtuple (by decide +kernel) (pa_cons (pe_op op_catE (pe_lc (own := [("nodes", 3)]) (g := gName 3) (tt := tYes) rfl sc_Net___init__.nd (pi_list (pe_slice sl_listE (pv 2) po_none (po_some (pe_un un_neg pe_int)))) (blkOk_by (N := ["self", "ins", "layers", "nodes"]) (sc := defScope s_Net___init__) (by decide +kernel)) (fun _ _ _ _ _ => (pg_name (i := 3) sc_Net___init__.nd rfl (.inl rfl))) (fun _ _ _ _ _ => pts_nil) (fun _ _ _ _ _ => pe_make MC FC hr2 (by rfl) mgC bC .nil pass0 (pa_cons (pv 3) pa_nil))) (pe_lst (pa_cons (pe_make ML FL hr2 (by rfl) mgL bL .nil pass0 (pa_cons (pe_ix ix_list (pv 2) (pe_un un_neg pe_int) (fun _ _ => rfl)) pa_nil)) pa_nil))) pa_nil)) rfl))))), ?_⟩
    refine ⟨_, rfl, n, rfl, ok.n1, ok.n3, _, rfl, iteF ?_⟩
    refine ⟨_, rfl, _, rfl, x, n, ls, W, rfl, hx, ok, fun H1 e1 => ⟨_, rfl, iteF ?_⟩⟩
    have hp1 := e1 _ _ hp
    refine ⟨_, rfl, _, rfl, p, CN, dx, [], rfl, hp1, N.tN, N.nI, (by show 0 < 1000; decide), ?_⟩
    have c2 : Ch p H (upd H1 p (.ins CN dx (putF ("_ins" : Str) (.int (n : Int)) []))) := (Ch.ex e1).trans Ch.put
    have k2 : upd H1 p (.ins CN dx (putF ("_ins" : Str) (.int (n : Int)) [])) p = some (.ins CN dx [(("_ins" : Str), .int (n : Int))]) := upd_same
    have x2 := hx.ch hp c2
    generalize upd H1 p (.ins CN dx (putF ("_ins" : Str) (.int (n : Int)) [])) = H2 at c2 k2 x2 ⊢
    obtain ⟨D0, ys, rfl, qD, pl⟩ := x2
    have hly := Paired.length pl
    have l1 := ok.l1
    have l4 := ok.l4
    have hne : ys ≠ [] := fun z => by
      rw [z] at hly
      simp at hly
      omega
    have hgl : ls[ls.length - 1]? = some (ls[ls.length - 1]'(by omega)) := List.getElem?_eq_getElem _
    generalize ls[ls.length - 1]'(by omega) = lastL at hgl
    obtain ⟨vL, hvL, lyL⟩ := pget' pl hgl
    rw [← hly] at hvL
    have pin := pair_init pl
    -- the cut ones
    refine ⟨_, rfl, _, rfl, _, rfl, D0, ys, rfl, qD, fun pS H3 hS eS kS => ?_⟩
    rw [cut_init hne] at kS
    refine ⟨pS, rfl, ⟨_, sq_of kS⟩, fun G hG => ?_⟩
    have pin3 : Paired (LyV K H3) ys.dropLast ls.dropLast := pmono (fun _ _ => LyV.ex eS) pin
    refine lc_list (K := K) (a := pS) (xs := ys.dropLast) (Bld (LayV K CL CC) H3 G ls.dropLast) (bld0 hG) (fun i H' _ b => ex_l b.1 (sq_of kS)) ?_ ?_
    · rintro i v H' hi b
      obtain ⟨l, hl, lv0⟩ := pget pin3 hi
      obtain ⟨a, xs, rfl, qa, pz⟩ := lv0.ex b.1
      have hlt := (List.getElem?_eq_some_iff.mp hi).1
      rw [List.length_dropLast] at hlt
      refine ⟨rfl, ?_⟩
      refine ⟨_, rfl, fun p2 dx2 np2 nd2 ne2 => ?_⟩
      have eC : Ex H' (upd (upd H' dx2 (.own p2)) p2 (.ins CC dx2 [])) := fun b o hb => by
        rw [upd_ne (ne_of_none hb np2), upd_ne (ne_of_none hb nd2)]
        exact hb
      have kC : upd (upd H' dx2 (.own p2)) p2 (.ins CC dx2 []) p2 = some (.ins CC dx2 []) := upd_same
      generalize upd (upd H' dx2 (.own p2)) p2 (.ins CC dx2 []) = HC at eC kC ⊢
      refine ⟨p2, dx2, a, xs, l, rfl, kC, .inl (ex_l eC qa), pmono (fun _ _ => SumV.ex eC) pz, fun HD v2 kpD lD nD => ⟨rfl, ?_⟩⟩
      have eD : Ex H' HD := fun b o hb => kpD b o (ne_of_none hb np2) (eC b o hb)
      exact bld_step stL hG b eD hl (by omega) ⟨p2, CC, v2, rfl, .inr rfl, lD, nD⟩
    intro H4 b4
    obtain ⟨e4, ws, hws, pw⟩ := bld_end (by rw [List.length_dropLast, List.length_dropLast]; omega) b4
    have E4 := eS.trans e4
    have hwl := Paired.length pw
    rw [List.length_dropLast] at hwl
    -- the last one
    obtain ⟨a, xs, rfl, qa, pz⟩ := lyL.ex E4
    refine ⟨_, rfl, 1, rfl, D0, ys, _, .ref a, rfl, rfl, ex_l E4 qD, at_last hvL, fun p2 dx2 np2 nd2 ne2 => ?_⟩
    have eC : Ex H4 (upd (upd H4 dx2 (.own p2)) p2 (.ins CL dx2 [])) := fun b o hb => by
      rw [upd_ne (ne_of_none hb np2), upd_ne (ne_of_none hb nd2)]
      exact hb
    have kC : upd (upd H4 dx2 (.own p2)) p2 (.ins CL dx2 []) p2 = some (.ins CL dx2 []) := upd_same
    generalize upd (upd H4 dx2 (.own p2)) p2 (.ins CL dx2 []) = HC at eC kC ⊢
    refine ⟨p2, dx2, a, xs, lastL, rfl, kC, .inl (ex_l eC qa), pmono (fun _ _ => SumV.ex eC) pz, fun H5 v2 kpD lD nD => ⟨rfl, ?_⟩⟩
    have e5 : Ex H4 H5 := fun b o hb => kpD b o (ne_of_none hb np2) (eC b o hb)
    refine ⟨(by show 1 ≤ sizeLine; decide), fun pl1 hpl1 => ?_⟩
    have e6 : Ex H5 (upd H5 pl1 (.lst [.ref p2])) := Ex.new hpl1
    have k6 : upd H5 pl1 (.lst [.ref p2]) pl1 = some (.lst [.ref p2]) := upd_same
    generalize upd H5 pl1 (.lst [.ref p2]) = H6 at e6 k6 ⊢
    have E6 := e5.trans e6
    refine ⟨G, pl1, ws, [.ref p2], rfl, rfl, E6 _ _ hws, k6, Nat.le_of_lt (sz_lt (by simp; omega)), fun p7 H7 hp7 e7 k7 => ?_⟩
    refine ⟨p7, _, rfl, .inl ⟨sq_of k7, fun p8 hp8 => ?_⟩⟩
    have e8 : Ex H7 (upd H7 p8 (.tup (ws ++ [.ref p2]))) := Ex.new hp8
    have k8 : upd H7 p8 (.tup (ws ++ [.ref p2])) p8 = some (.tup (ws ++ [.ref p2])) := upd_same
    generalize upd H7 p8 (.tup (ws ++ [.ref p2])) = H8 at e8 k8 ⊢
    have E8 : Ex H4 H8 := E6.trans (e7.trans e8)
    have E28 : Ex H2 H8 := E4.trans E8
    have kp := E28 _ _ k2
    have pAll : Paired (LayV K CL CC H8) (ws ++ [.ref p2]) ls := by
      have h1 : Paired (LayV K CL CC H8) ws ls.dropLast := pmono (fun _ _ => LayV.ex E8) pw
      have h2 : LayV K CL CC H8 (.ref p2) lastL := LayV.ex (e6.trans (e7.trans e8)) ⟨p2, CL, v2, rfl, .inl rfl, lD, nD⟩
      have h3 := pair_app h1 (.cons h2 .nil)
      rwa [init_last hgl] at h3
    refine ⟨_, rfl, p, CN, dx, _, rfl, kp, N.tN, N.nL, (by show 1 < 1000; decide), ?_⟩
    have kF : upd H8 p (.ins CN dx [(("_ins" : Str), .int (n : Int)), (("_layers" : Str), .ref p8)]) p = some (.ins CN dx [(("_ins" : Str), .int (n : Int)), (("_layers" : Str), .ref p8)]) := upd_same
    have cF : Ch p H8 (upd H8 p (.ins CN dx [(("_ins" : Str), .int (n : Int)), (("_layers" : Str), .ref p8)])) := Ch.put
    exact q _ ((c2.trans (Ch.ex E28)).trans cF) ⟨dx, p8, _, kF, sqt_ch kp cF (st_of k8), pmono (fun _ _ => LayV.ch kp cF) pAll⟩
end

end K07
end
section
set_option maxRecDepth 100000
set_option maxHeartbeats 400000
namespace K07
open PySem Evl Nc PyProof.Rows
open L2 hiding spCell
def LyM (K : PySem.W.Frag) (H : Hp) (v : V) (l : List Sum2) : Prop := LyV K H v l ∨ NodesV K H v l
theorem LyM.ex' {K : PySem.W.Frag} {H H' : Hp} {v : V} {l : List Sum2} (e : Ex H H') (h : LyM K H v l) : LyM K H' v l := h.imp (LyV.ex e) (NodesV.ex e)
theorem LyM.ch' {K : PySem.W.Frag} {H H' : Hp} {p C dx : Addr} {fs : List (Str × V)} {v : V} {l : List Sum2} (hp : H p = some (.ins C dx fs)) (c : Ch p H H') (h : LyM K H v l) : LyM K H' v l := h.imp (LyV.ch hp c) (NodesV.ch hp c)
def LayM (K : PySem.W.Frag) (c : Bool) (H : Hp) (v : V) (ls : List (List Sum2)) : Prop := ∃ D ys, v = .ref D ∧ SqX K c H D ys ∧ Paired (LyM K H) ys ls
def spAreLaysM (K : PySem.W.Frag) : Sp := fun vs H Q _ => ∃ (c : Bool) (x : V) (n : Nat) (ls : List (List Sum2)) (W : Nat), vs = [x, .int (n : Int)] ∧ LayM K c H x ls ∧ NetOk n ls W ∧ ∀ H', Ex H H' → Q (.bl true) H'
def spInitM (K : PySem.W.Frag) (CN CL CC : Addr) : Sp := fun vs H Q _ => ∃ (c : Bool) (p dx : Addr) (x : V) (n : Nat) (ls : List (List Sum2)) (W : Nat), vs = [.ref p, .int (n : Int), x] ∧ H p = some (.ins CN dx []) ∧ LayM K c H x ls ∧ NetOk n ls W ∧
  ∀ H', (∀ b o, b ≠ p → H b = some o → H' b = some o) → NetV K CN CL CC H' p n ls → Q .non H'
theorem pi_or {X : Cx} {tg it : Expr} {w1 w2 : TI} (h1 : PI X tg it w1) (h2 : PI X tg it w2) : PI X tg it (fun σ H R => w1 σ H R ∨ w2 σ H R) :=
  ⟨fun pins s σ H R I h => h.elim (h1.run pins s σ H R I) (h2.run pins s σ H R I)⟩
theorem ix_sK {X : Cx} (K : PySem.W.Frag) (h : X.K = K := by rfl) : IxR X (fun x y H Q => rIxL K x y H Q ∨ rIxT K x y H Q) := by
  subst h
  intro value slice pins s σ H x y v u Q I r1 r2 h e
  rcases h with h | h
  · exact ix_list value slice pins s σ H x y v u Q I r1 r2 h e
  · exact ix_tup value slice pins s σ H x y v u Q I r1 r2 h e
section
variable {P : Program} {w : World} {K : PySem.W.Frag} {mg : Str → Option Value} {base : Heap}
theorem okM__are_layers (D : Df K mg "_are_layers" s__are_layers ["thing", "ins"]) {tML tMN : Tok} (GI : Ok P w K mg base 4 "is_sum" ["thing", "many"] (spIsSum K)) (mML : mg "MOST_LAYERS" = some (.int 4 tML)) (mMN : mg "MOST_NODES" = some (.int 4 tMN)) (misi : mg "isinstance" = none) (mtuple : mg "tuple" = none) (mlist : mg "list" = none) (mlen : mg "len" = none) (mall : mg "all" = none) : Ok P w K mg base 5 "_are_layers" ["thing", "ins"] (spAreLaysM K) := by
  refine D.ok fun f fd F => F.ok sc__are_layers (fun vs H Q E h => ?_) (fun cdv A outer s H vs Q E hr h => ?_)
  · obtain ⟨c, x, n, ls, W, rfl, _⟩ := h
    rfl
  · obtain ⟨c, x, n, ls, W, rfl, ⟨D, ys, rfl, qD, pl⟩, ok, q⟩ := h
    cases c
    · have qD : SqL K H D ys := qD
      refine ⟨_, (pss_cons (ps_if (PW.pt (pw_or (pt_not (pt_val (pe_callB call_isiT (by rfl) misi (by decide +kernel) (pa_cons (pv 0) (pa_cons (pe_tup (pa_cons (pe_bltn (v := .ty "list") (by rfl) mlist (by decide +kernel) rfl) (pa_cons (pe_bltn (v := .ty "tuple") (by rfl) mtuple (by decide +kernel) rfl) pa_nil))) pa_nil))))) (pw_or1 (pt_not (pt_chain op_le op_le pe_int (pe_callB call_len_seq (by rfl) mlen PySem.boot_len (pa_cons (pv 0) pa_nil)) (pe_glob (v := .int 4) (by rfl) mML ⟨_, rfl⟩)))))) (pss_one (ps_ret pe_bl)) pss_nil)
        (pss_cons (ps_set (i := 2) sc__are_layers.nd rfl (.inr rfl) (pv 1))
        (pss_cons (ps_for PassesOwn.never rfl (pi_list (pv 0)) (pg_name (i := 3) sc__are_layers.nd rfl (.inl rfl)) (pss_cons (ps_if (PW.pt (pw_or (pt_not (pt_val (pe_callB call_isiT (by rfl) misi (by decide +kernel) (pa_cons (pv 3) (pa_cons (pe_tup (pa_cons (pe_bltn (v := .ty "list") (by rfl) mlist (by decide +kernel) rfl) (pa_cons (pe_bltn (v := .ty "tuple") (by rfl) mtuple (by decide +kernel) rfl) pa_nil))) pa_nil))))) (pw_or1 (pt_not (pt_chain op_le op_le pe_int (pe_callB call_len_seq (by rfl) mlen PySem.boot_len (pa_cons (pv 3) pa_nil)) (pe_glob (v := .int 4) (by rfl) mMN ⟨_, rfl⟩)))))) (pss_one (ps_ret pe_bl)) pss_nil)
        (pss_cons (ps_if (pt_not (pt_val (pe_callB (cr_all rfl) (by rfl) mall (by decide +kernel) (pa_cons (pe_lc (own := [("node", 4)]) (g := gName 4) (tt := tYes) rfl sc__are_layers.nd (pi_or (pi_list (pv 3)) (pi_tup (pv 3))) (blkOk_by (N := ["thing", "ins", "ahead", "nodes", "node"]) (sc := defScope s__are_layers) (by decide +kernel)) (fun _ _ _ _ _ => (pg_name (i := 4) sc__are_layers.nd rfl (.inl rfl))) (fun _ _ _ _ _ => pts_nil) (fun _ _ _ _ _ => cl GI hr (pa_cons (pv 4) (pa_cons (pv 2) pa_nil)))) pa_nil)))) (pss_one (ps_ret pe_bl)) pss_nil)
        (pss_one (ps_set (i := 2) sc__are_layers.nd rfl (.inr rfl) (pe_callB call_len_seq (by rfl) mlen PySem.boot_len (pa_cons (pv 3) pa_nil)))))))
        (pss_one (ps_ret pe_bl))))), ?_⟩
      have hly := Paired.length pl
      have l1 := ok.l1
      have l4 := ok.l4
      have n3 := ok.n3
      refine ⟨_, rfl, (by show 2 ≤ sizeLine; decide), fun p hp => ?_⟩
      have e1 : Ex H (upd H p (.tup [.ty "list", .ty "tuple"])) := Ex.new hp
      refine ⟨_, p, _, _, _, _, rfl, upd_same, .cons (.ty _) (.cons (.ty _) .nil), tyL (ex_l e1 qD), kitLT, _, rfl, iteF ?_⟩
      generalize upd H p (.tup [.ty "list", .ty "tuple"]) = H1 at e1 ⊢
      refine ⟨_, rfl, D, _, rfl, .inl (ex_l e1 qD), _, _, rfl, rfl, _, rfl, ite_t (decide_eq_true (by omega)) ⟨_, _, rfl, rfl, _, rfl, ite_nt (decide_eq_true (by omega)) ?_⟩⟩
      refine ⟨_, rfl, _, rfl, D, rfl, ⟨_, ex_l e1 qD⟩, for_list (K := K) (a := D) (xs := ys) (fun i σ H' => ∃ (n' : Nat) (o3 o4 : Option V), σ = [some (.ref D), some (.int (n : Int)), some (.int (n' : Int)), o3, o4] ∧ Ex H H' ∧ n' ≤ 4 ∧ Over n' (ls.drop i)) ⟨n, none, none, rfl, e1, by omega, ok.over⟩ (fun i σ H' _ ⟨_, _, _, _, e, _⟩ => ex_l e qD) ?_ ?_⟩
      · rintro i v σ H2 hi ⟨n', o3, o4, rfl, e2, hn4, ov⟩
        obtain ⟨l, hl, lv⟩ := pget pl hi
        rcases lv.ex' e2 with ⟨a, xs, rfl, qa, pz⟩ | ⟨a, xs, rfl, qa, pz⟩
        · skip
          rw [drop_at hl] at ov
          obtain ⟨o1, ⟨o2, o2'⟩, o5⟩ := ov
          have hlx := Paired.length pz
          refine ⟨_, rfl, (by show 2 ≤ sizeLine; decide), fun p hp => ?_⟩
          have e3 : Ex H2 (upd H2 p (.tup [.ty "list", .ty "tuple"])) := Ex.new hp
          refine ⟨_, p, _, _, _, _, rfl, upd_same, .cons (.ty _) (.cons (.ty _) .nil), tyL (ex_l e3 qa), kitLT, _, rfl, iteF ?_⟩
          generalize upd H2 p (.tup [.ty "list", .ty "tuple"]) = H3 at e3 ⊢
          have qa3 := ex_l e3 qa
          have pz3 : Paired (SumV K H3) xs l := pmono (fun _ _ => SumV.ex e3) pz
          refine ⟨_, rfl, a, _, rfl, .inl qa3, _, _, rfl, rfl, _, rfl, ite_t (decide_eq_true (by omega)) ⟨_, _, rfl, rfl, _, rfl, ite_nt (decide_eq_true (by omega)) ?_⟩⟩
          refine .inl ⟨_, rfl, a, rfl, ⟨_, qa3⟩, fun G hG => ?_⟩
          refine lc_list (K := K) (a := a) (xs := xs) (fun j H' => Ex H3 H' ∧ H' G = some (.lst ((List.replicate j true).map V.bl))) ⟨Ex.new hG, upd_same⟩ (fun j H' _ b => ex_l b.1 qa3) ?_ ?_
          · rintro j y H' hj ⟨e4, k4⟩
            obtain ⟨z, hz, sz⟩ := pget pz3 hj
            have hjl := (List.getElem?_eq_some_iff.mp hj).1
            have z1 := o1 z (List.mem_of_getElem? hz)
            refine ⟨rfl, ?_⟩
            refine ⟨_, rfl, _, rfl, y, z, (by rw [z1]; rfl), sz.ex e4, by omega, fun H5 e5 => ⟨_, e5 _ _ k4, sz_lt (by simp; omega), Ex.mut (e4.trans e5) hG, ?_⟩⟩
            rw [List.replicate_succ', List.map_append]
            exact upd_same
          · rintro H5 ⟨e5, k5⟩
            refine ⟨G, _, rfl, sq_of k5, _, rfl, ite_nt (by simp) ?_⟩
            have E5 := e3.trans e5
            exact ⟨_, rfl, a, _, rfl, .inl (ex_l E5 qa), xs.length, _, _, rfl, e2.trans E5, by omega, by rw [hlx]; exact o5⟩
        · skip
          rw [drop_at hl] at ov
          obtain ⟨o1, ⟨o2, o2'⟩, o5⟩ := ov
          have hlx := Paired.length pz
          refine ⟨_, rfl, (by show 2 ≤ sizeLine; decide), fun p hp => ?_⟩
          have e3 : Ex H2 (upd H2 p (.tup [.ty "list", .ty "tuple"])) := Ex.new hp
          refine ⟨_, p, _, _, _, _, rfl, upd_same, .cons (.ty _) (.cons (.ty _) .nil), tyT (ex_t e3 qa), kitTT, _, rfl, iteF ?_⟩
          generalize upd H2 p (.tup [.ty "list", .ty "tuple"]) = H3 at e3 ⊢
          have qa3 := ex_t e3 qa
          have pz3 : Paired (SumV K H3) xs l := pmono (fun _ _ => SumV.ex e3) pz
          refine ⟨_, rfl, a, _, rfl, .inr qa3, _, _, rfl, rfl, _, rfl, ite_t (decide_eq_true (by omega)) ⟨_, _, rfl, rfl, _, rfl, ite_nt (decide_eq_true (by omega)) ?_⟩⟩
          refine .inr ⟨_, rfl, a, rfl, ⟨_, qa3⟩, fun G hG => ?_⟩
          refine lc_tup (K := K) (a := a) (xs := xs) (fun j H' => Ex H3 H' ∧ H' G = some (.lst ((List.replicate j true).map V.bl))) ⟨Ex.new hG, upd_same⟩ (fun j H' _ b => ex_t b.1 qa3) ?_ ?_
          · rintro j y H' hj ⟨e4, k4⟩
            obtain ⟨z, hz, sz⟩ := pget pz3 hj
            have hjl := (List.getElem?_eq_some_iff.mp hj).1
            have z1 := o1 z (List.mem_of_getElem? hz)
            refine ⟨rfl, ?_⟩
            refine ⟨_, rfl, _, rfl, y, z, (by rw [z1]; rfl), sz.ex e4, by omega, fun H5 e5 => ⟨_, e5 _ _ k4, sz_lt (by simp; omega), Ex.mut (e4.trans e5) hG, ?_⟩⟩
            rw [List.replicate_succ', List.map_append]
            exact upd_same
          · rintro H5 ⟨e5, k5⟩
            refine ⟨G, _, rfl, sq_of k5, _, rfl, ite_nt (by simp) ?_⟩
            have E5 := e3.trans e5
            exact ⟨_, rfl, a, _, rfl, .inr (ex_t E5 qa), xs.length, _, _, rfl, e2.trans E5, by omega, by rw [hlx]; exact o5⟩
      · rintro σ H2 ⟨n', o3, o4, rfl, e2, _, _⟩
        exact q H2 e2
    · have qD : SqT K H D ys := qD
      refine ⟨_, (pss_cons (ps_if (PW.pt (pw_or (pt_not (pt_val (pe_callB call_isiT (by rfl) misi (by decide +kernel) (pa_cons (pv 0) (pa_cons (pe_tup (pa_cons (pe_bltn (v := .ty "list") (by rfl) mlist (by decide +kernel) rfl) (pa_cons (pe_bltn (v := .ty "tuple") (by rfl) mtuple (by decide +kernel) rfl) pa_nil))) pa_nil))))) (pw_or1 (pt_not (pt_chain op_le op_le pe_int (pe_callB call_len_seq (by rfl) mlen PySem.boot_len (pa_cons (pv 0) pa_nil)) (pe_glob (v := .int 4) (by rfl) mML ⟨_, rfl⟩)))))) (pss_one (ps_ret pe_bl)) pss_nil)
        (pss_cons (ps_set (i := 2) sc__are_layers.nd rfl (.inr rfl) (pv 1))
        (pss_cons (ps_for PassesOwn.never rfl (pi_tup (pv 0)) (pg_name (i := 3) sc__are_layers.nd rfl (.inl rfl)) (pss_cons (ps_if (PW.pt (pw_or (pt_not (pt_val (pe_callB call_isiT (by rfl) misi (by decide +kernel) (pa_cons (pv 3) (pa_cons (pe_tup (pa_cons (pe_bltn (v := .ty "list") (by rfl) mlist (by decide +kernel) rfl) (pa_cons (pe_bltn (v := .ty "tuple") (by rfl) mtuple (by decide +kernel) rfl) pa_nil))) pa_nil))))) (pw_or1 (pt_not (pt_chain op_le op_le pe_int (pe_callB call_len_seq (by rfl) mlen PySem.boot_len (pa_cons (pv 3) pa_nil)) (pe_glob (v := .int 4) (by rfl) mMN ⟨_, rfl⟩)))))) (pss_one (ps_ret pe_bl)) pss_nil)
        (pss_cons (ps_if (pt_not (pt_val (pe_callB (cr_all rfl) (by rfl) mall (by decide +kernel) (pa_cons (pe_lc (own := [("node", 4)]) (g := gName 4) (tt := tYes) rfl sc__are_layers.nd (pi_or (pi_list (pv 3)) (pi_tup (pv 3))) (blkOk_by (N := ["thing", "ins", "ahead", "nodes", "node"]) (sc := defScope s__are_layers) (by decide +kernel)) (fun _ _ _ _ _ => (pg_name (i := 4) sc__are_layers.nd rfl (.inl rfl))) (fun _ _ _ _ _ => pts_nil) (fun _ _ _ _ _ => cl GI hr (pa_cons (pv 4) (pa_cons (pv 2) pa_nil)))) pa_nil)))) (pss_one (ps_ret pe_bl)) pss_nil)
        (pss_one (ps_set (i := 2) sc__are_layers.nd rfl (.inr rfl) (pe_callB call_len_seq (by rfl) mlen PySem.boot_len (pa_cons (pv 3) pa_nil)))))))
        (pss_one (ps_ret pe_bl))))), ?_⟩
      have hly := Paired.length pl
      have l1 := ok.l1
      have l4 := ok.l4
      have n3 := ok.n3
      refine ⟨_, rfl, (by show 2 ≤ sizeLine; decide), fun p hp => ?_⟩
      have e1 : Ex H (upd H p (.tup [.ty "list", .ty "tuple"])) := Ex.new hp
      refine ⟨_, p, _, _, _, _, rfl, upd_same, .cons (.ty _) (.cons (.ty _) .nil), tyT (ex_t e1 qD), kitTT, _, rfl, iteF ?_⟩
      generalize upd H p (.tup [.ty "list", .ty "tuple"]) = H1 at e1 ⊢
      refine ⟨_, rfl, D, _, rfl, .inr (ex_t e1 qD), _, _, rfl, rfl, _, rfl, ite_t (decide_eq_true (by omega)) ⟨_, _, rfl, rfl, _, rfl, ite_nt (decide_eq_true (by omega)) ?_⟩⟩
      refine ⟨_, rfl, _, rfl, D, rfl, ⟨_, ex_t e1 qD⟩, for_tup (K := K) (a := D) (xs := ys) (fun i σ H' => ∃ (n' : Nat) (o3 o4 : Option V), σ = [some (.ref D), some (.int (n : Int)), some (.int (n' : Int)), o3, o4] ∧ Ex H H' ∧ n' ≤ 4 ∧ Over n' (ls.drop i)) ⟨n, none, none, rfl, e1, by omega, ok.over⟩ (fun i σ H' _ ⟨_, _, _, _, e, _⟩ => ex_t e qD) ?_ ?_⟩
      · rintro i v σ H2 hi ⟨n', o3, o4, rfl, e2, hn4, ov⟩
        obtain ⟨l, hl, lv⟩ := pget pl hi
        rcases lv.ex' e2 with ⟨a, xs, rfl, qa, pz⟩ | ⟨a, xs, rfl, qa, pz⟩
        · skip
          rw [drop_at hl] at ov
          obtain ⟨o1, ⟨o2, o2'⟩, o5⟩ := ov
          have hlx := Paired.length pz
          refine ⟨_, rfl, (by show 2 ≤ sizeLine; decide), fun p hp => ?_⟩
          have e3 : Ex H2 (upd H2 p (.tup [.ty "list", .ty "tuple"])) := Ex.new hp
          refine ⟨_, p, _, _, _, _, rfl, upd_same, .cons (.ty _) (.cons (.ty _) .nil), tyL (ex_l e3 qa), kitLT, _, rfl, iteF ?_⟩
          generalize upd H2 p (.tup [.ty "list", .ty "tuple"]) = H3 at e3 ⊢
          have qa3 := ex_l e3 qa
          have pz3 : Paired (SumV K H3) xs l := pmono (fun _ _ => SumV.ex e3) pz
          refine ⟨_, rfl, a, _, rfl, .inl qa3, _, _, rfl, rfl, _, rfl, ite_t (decide_eq_true (by omega)) ⟨_, _, rfl, rfl, _, rfl, ite_nt (decide_eq_true (by omega)) ?_⟩⟩
          refine .inl ⟨_, rfl, a, rfl, ⟨_, qa3⟩, fun G hG => ?_⟩
          refine lc_list (K := K) (a := a) (xs := xs) (fun j H' => Ex H3 H' ∧ H' G = some (.lst ((List.replicate j true).map V.bl))) ⟨Ex.new hG, upd_same⟩ (fun j H' _ b => ex_l b.1 qa3) ?_ ?_
          · rintro j y H' hj ⟨e4, k4⟩
            obtain ⟨z, hz, sz⟩ := pget pz3 hj
            have hjl := (List.getElem?_eq_some_iff.mp hj).1
            have z1 := o1 z (List.mem_of_getElem? hz)
            refine ⟨rfl, ?_⟩
            refine ⟨_, rfl, _, rfl, y, z, (by rw [z1]; rfl), sz.ex e4, by omega, fun H5 e5 => ⟨_, e5 _ _ k4, sz_lt (by simp; omega), Ex.mut (e4.trans e5) hG, ?_⟩⟩
            rw [List.replicate_succ', List.map_append]
            exact upd_same
          · rintro H5 ⟨e5, k5⟩
            refine ⟨G, _, rfl, sq_of k5, _, rfl, ite_nt (by simp) ?_⟩
            have E5 := e3.trans e5
            exact ⟨_, rfl, a, _, rfl, .inl (ex_l E5 qa), xs.length, _, _, rfl, e2.trans E5, by omega, by rw [hlx]; exact o5⟩
        · skip
          rw [drop_at hl] at ov
          obtain ⟨o1, ⟨o2, o2'⟩, o5⟩ := ov
          have hlx := Paired.length pz
          refine ⟨_, rfl, (by show 2 ≤ sizeLine; decide), fun p hp => ?_⟩
          have e3 : Ex H2 (upd H2 p (.tup [.ty "list", .ty "tuple"])) := Ex.new hp
          refine ⟨_, p, _, _, _, _, rfl, upd_same, .cons (.ty _) (.cons (.ty _) .nil), tyT (ex_t e3 qa), kitTT, _, rfl, iteF ?_⟩
          generalize upd H2 p (.tup [.ty "list", .ty "tuple"]) = H3 at e3 ⊢
          have qa3 := ex_t e3 qa
          have pz3 : Paired (SumV K H3) xs l := pmono (fun _ _ => SumV.ex e3) pz
          refine ⟨_, rfl, a, _, rfl, .inr qa3, _, _, rfl, rfl, _, rfl, ite_t (decide_eq_true (by omega)) ⟨_, _, rfl, rfl, _, rfl, ite_nt (decide_eq_true (by omega)) ?_⟩⟩
          refine .inr ⟨_, rfl, a, rfl, ⟨_, qa3⟩, fun G hG => ?_⟩
          refine lc_tup (K := K) (a := a) (xs := xs) (fun j H' => Ex H3 H' ∧ H' G = some (.lst ((List.replicate j true).map V.bl))) ⟨Ex.new hG, upd_same⟩ (fun j H' _ b => ex_t b.1 qa3) ?_ ?_
          · rintro j y H' hj ⟨e4, k4⟩
            obtain ⟨z, hz, sz⟩ := pget pz3 hj
            have hjl := (List.getElem?_eq_some_iff.mp hj).1
            have z1 := o1 z (List.mem_of_getElem? hz)
            refine ⟨rfl, ?_⟩
            refine ⟨_, rfl, _, rfl, y, z, (by rw [z1]; rfl), sz.ex e4, by omega, fun H5 e5 => ⟨_, e5 _ _ k4, sz_lt (by simp; omega), Ex.mut (e4.trans e5) hG, ?_⟩⟩
            rw [List.replicate_succ', List.map_append]
            exact upd_same
          · rintro H5 ⟨e5, k5⟩
            refine ⟨G, _, rfl, sq_of k5, _, rfl, ite_nt (by simp) ?_⟩
            have E5 := e3.trans e5
            exact ⟨_, rfl, a, _, rfl, .inr (ex_t E5 qa), xs.length, _, _, rfl, e2.trans E5, by omega, by rw [hlx]; exact o5⟩
      · rintro σ H2 ⟨n', o3, o4, rfl, e2, _, _⟩
        exact q H2 e2
end

end K07
end
section
set_option maxRecDepth 100000
set_option maxHeartbeats 400000
namespace K07
open PySem Evl Nc PyProof.Rows
open L2 hiding spCell
theorem LyM.un {K : PySem.W.Frag} {H : Hp} {v : V} {l : List Sum2} (h : LyM K H v l) : ∃ a xs, v = .ref a ∧ (SqL K H a xs ∨ SqT K H a xs) ∧ Paired (SumV K H) xs l := by
  rcases h with ⟨a, xs, e, q, p⟩ | ⟨a, xs, e, q, p⟩
  · exact ⟨a, xs, e, .inl q, p⟩
  · exact ⟨a, xs, e, .inr q, p⟩
theorem LayM.ch' {K : PySem.W.Frag} {c : Bool} {H H' : Hp} {p C dx : Addr} {fs : List (Str × V)} {v : V} {ls : List (List Sum2)} (hp : H p = some (.ins C dx fs)) (c2 : Ch p H H') (h : LayM K c H v ls) : LayM K c H' v ls := by
  obtain ⟨D, ys, rfl, q, l⟩ := h
  refine ⟨D, ys, rfl, ?_, pmono (fun _ _ => LyM.ch' hp c2) l⟩
  cases c
  · exact sql_ch hp c2 q
  · exact sqt_ch hp c2 q
section
variable {P : Program} {w : World} {K : PySem.W.Frag} {mg : Str → Option Value} {base : Heap}
theorem fnM_netinit {CN CL CC fI f : Addr} {fd fdI : FuncData} (F : Fun K "__init__" "Net.__init__" s_Net___init__ f fd) (N : NDefs P w K mg base CN CL CC) (ML : Mk K CL fI) (MC : Mk K CC fI) (FL : FnOk P w K mg base CX0 1 fI fdI ["self", "nodes"] (spInitL K CL)) (FC : FnOk P w K mg base CX0 1 fI fdI ["self", "nodes"] (spInitL K CC))
    (bL : Binds K fdI ["self", "nodes"] []) (mgL : mg "Layer" = some (.ref CL)) (mgC : mg "CutLayer" = some (.ref CC)) (GAI : Ok P w K mg base 2 "_are_ins" ["thing"] spAreIns) (GAL : Ok P w K mg base 5 "_are_layers" ["thing", "ins"] (spAreLaysM K)) (mtuple : mg "tuple" = none) : FnOk P w K mg base CX0 6 f fd ["self", "ins", "layers"] (spInitM K CN CL CC) := by
  have bC := bL
  refine F.ok sc_Net___init__ (fun vs H Q E h => ?_) (fun cdv A outer s H vs Q E hr h => ?_)
  · obtain ⟨c, p, dx, x, n, ls, W, rfl, _⟩ := h
    rfl
  · obtain ⟨c, p, dx, x, n, ls, W, rfl, hp, hx, ok, q⟩ := h
    cases c
    · skip
      have hr2 : Room (1 + 1) _ := hr.mono (by decide)
      have hr2' : Room 2 _ := hr.mono (by decide)
      refine ⟨_, (pss_cons (ps_if (pt_not (pt_val (cl GAI hr2' (pa_cons (pv 1) pa_nil)))) (pss_one ps_never) pss_nil)
        (pss_cons (ps_if (pt_not (pt_val (cl GAL hr (pa_cons (pv 2) (pa_cons (pv 1) pa_nil))))) (pss_one ps_never) pss_nil)
        (pss_cons (ps_fld (pv 0) (pv 1) rfl)
        (pss_one (ps_fld (pv 0) (pe_callTy call_tuple_of (by rfl) mtuple (by decide +kernel) (pa_cons (pe_op op_catE (pe_lc (own := [("nodes", 3)]) (g := gName 3) (tt := tYes) rfl sc_Net___init__.nd (pi_list (pe_slice sl_listE (pv 2) po_none (po_some (pe_un un_neg pe_int)))) (blkOk_by (N := ["self", "ins", "layers", "nodes"]) (sc := defScope s_Net___init__) (by decide +kernel)) (fun _ _ _ _ _ => (pg_name (i := 3) sc_Net___init__.nd rfl (.inl rfl))) (fun _ _ _ _ _ => pts_nil) (fun _ _ _ _ _ => pe_make MC FC hr2 (by rfl) mgC bC .nil pass0 (pa_cons (pv 3) pa_nil))) (pe_lst (pa_cons (pe_make ML FL hr2 (by rfl) mgL bL .nil pass0 (pa_cons (pe_ix ix_list (pv 2) (pe_un un_neg pe_int) (fun _ _ => rfl)) pa_nil)) pa_nil))) pa_nil)) rfl))))), ?_⟩
      refine ⟨_, rfl, n, rfl, ok.n1, ok.n3, _, rfl, iteF ?_⟩
      refine ⟨_, rfl, _, rfl, false, x, n, ls, W, rfl, hx, ok, fun H1 e1 => ⟨_, rfl, iteF ?_⟩⟩
      have hp1 := e1 _ _ hp
      refine ⟨_, rfl, _, rfl, p, CN, dx, [], rfl, hp1, N.tN, N.nI, (by show 0 < 1000; decide), ?_⟩
      have c2 : Ch p H (upd H1 p (.ins CN dx (putF ("_ins" : Str) (.int (n : Int)) []))) := (Ch.ex e1).trans Ch.put
      have k2 : upd H1 p (.ins CN dx (putF ("_ins" : Str) (.int (n : Int)) [])) p = some (.ins CN dx [(("_ins" : Str), .int (n : Int))]) := upd_same
      have x2 := LayM.ch' hp c2 hx
      generalize upd H1 p (.ins CN dx (putF ("_ins" : Str) (.int (n : Int)) [])) = H2 at c2 k2 x2 ⊢
      obtain ⟨D0, ys, rfl, qD, pl⟩ := x2
      have qD : SqL K H2 D0 ys := qD
      have hly := Paired.length pl
      have l1 := ok.l1
      have l4 := ok.l4
      have hne : ys ≠ [] := fun z => by
        rw [z] at hly
        simp at hly
        omega
      have hgl : ls[ls.length - 1]? = some (ls[ls.length - 1]'(by omega)) := List.getElem?_eq_getElem _
      generalize ls[ls.length - 1]'(by omega) = lastL at hgl
      obtain ⟨vL, hvL, lyL⟩ := pget' pl hgl
      rw [← hly] at hvL
      have pin := pair_init pl
      -- the cut ones
      refine ⟨_, rfl, _, rfl, _, rfl, D0, ys, rfl, qD, fun pS H3 hS eS kS => ?_⟩
      rw [cut_init hne] at kS
      refine ⟨pS, rfl, ⟨_, sq_of kS⟩, fun G hG => ?_⟩
      have pin3 : Paired (LyM K H3) ys.dropLast ls.dropLast := pmono (fun _ _ => LyM.ex' eS) pin
      refine lc_list (K := K) (a := pS) (xs := ys.dropLast) (Bld (LayV K CL CC) H3 G ls.dropLast) (bld0 hG) (fun i H' _ b => ex_l b.1 (sq_of kS)) ?_ ?_
      · rintro i v H' hi b
        obtain ⟨l, hl, lv0⟩ := pget pin3 hi
        obtain ⟨a, xs, rfl, qa, pz⟩ := LyM.un (lv0.ex' b.1)
        have hlt := (List.getElem?_eq_some_iff.mp hi).1
        rw [List.length_dropLast] at hlt
        refine ⟨rfl, ?_⟩
        refine ⟨_, rfl, fun p2 dx2 np2 nd2 ne2 => ?_⟩
        have eC : Ex H' (upd (upd H' dx2 (.own p2)) p2 (.ins CC dx2 [])) := fun b o hb => by
          rw [upd_ne (ne_of_none hb np2), upd_ne (ne_of_none hb nd2)]
          exact hb
        have kC : upd (upd H' dx2 (.own p2)) p2 (.ins CC dx2 []) p2 = some (.ins CC dx2 []) := upd_same
        generalize upd (upd H' dx2 (.own p2)) p2 (.ins CC dx2 []) = HC at eC kC ⊢
        refine ⟨p2, dx2, a, xs, l, rfl, kC, qa.imp (ex_l eC) (ex_t eC), pmono (fun _ _ => SumV.ex eC) pz, fun HD v2 kpD lD nD => ⟨rfl, ?_⟩⟩
        have eD : Ex H' HD := fun b o hb => kpD b o (ne_of_none hb np2) (eC b o hb)
        exact bld_step stL hG b eD hl (by omega) ⟨p2, CC, v2, rfl, .inr rfl, lD, nD⟩
      intro H4 b4
      obtain ⟨e4, ws, hws, pw⟩ := bld_end (by rw [List.length_dropLast, List.length_dropLast]; omega) b4
      have E4 := eS.trans e4
      have hwl := Paired.length pw
      rw [List.length_dropLast] at hwl
      -- the last one
      obtain ⟨a, xs, rfl, qa, pz⟩ := LyM.un (lyL.ex' E4)
      refine ⟨_, rfl, 1, rfl, D0, ys, _, .ref a, rfl, rfl, ex_l E4 qD, at_last hvL, fun p2 dx2 np2 nd2 ne2 => ?_⟩
      have eC : Ex H4 (upd (upd H4 dx2 (.own p2)) p2 (.ins CL dx2 [])) := fun b o hb => by
        rw [upd_ne (ne_of_none hb np2), upd_ne (ne_of_none hb nd2)]
        exact hb
      have kC : upd (upd H4 dx2 (.own p2)) p2 (.ins CL dx2 []) p2 = some (.ins CL dx2 []) := upd_same
      generalize upd (upd H4 dx2 (.own p2)) p2 (.ins CL dx2 []) = HC at eC kC ⊢
      refine ⟨p2, dx2, a, xs, lastL, rfl, kC, qa.imp (ex_l eC) (ex_t eC), pmono (fun _ _ => SumV.ex eC) pz, fun H5 v2 kpD lD nD => ⟨rfl, ?_⟩⟩
      have e5 : Ex H4 H5 := fun b o hb => kpD b o (ne_of_none hb np2) (eC b o hb)
      refine ⟨(by show 1 ≤ sizeLine; decide), fun pl1 hpl1 => ?_⟩
      have e6 : Ex H5 (upd H5 pl1 (.lst [.ref p2])) := Ex.new hpl1
      have k6 : upd H5 pl1 (.lst [.ref p2]) pl1 = some (.lst [.ref p2]) := upd_same
      generalize upd H5 pl1 (.lst [.ref p2]) = H6 at e6 k6 ⊢
      have E6 := e5.trans e6
      refine ⟨G, pl1, ws, [.ref p2], rfl, rfl, E6 _ _ hws, k6, Nat.le_of_lt (sz_lt (by simp; omega)), fun p7 H7 hp7 e7 k7 => ?_⟩
      refine ⟨p7, _, rfl, .inl ⟨sq_of k7, fun p8 hp8 => ?_⟩⟩
      have e8 : Ex H7 (upd H7 p8 (.tup (ws ++ [.ref p2]))) := Ex.new hp8
      have k8 : upd H7 p8 (.tup (ws ++ [.ref p2])) p8 = some (.tup (ws ++ [.ref p2])) := upd_same
      generalize upd H7 p8 (.tup (ws ++ [.ref p2])) = H8 at e8 k8 ⊢
      have E8 : Ex H4 H8 := E6.trans (e7.trans e8)
      have E28 : Ex H2 H8 := E4.trans E8
      have kp := E28 _ _ k2
      have pAll : Paired (LayV K CL CC H8) (ws ++ [.ref p2]) ls := by
        have h1 : Paired (LayV K CL CC H8) ws ls.dropLast := pmono (fun _ _ => LayV.ex E8) pw
        have h2 : LayV K CL CC H8 (.ref p2) lastL := LayV.ex (e6.trans (e7.trans e8)) ⟨p2, CL, v2, rfl, .inl rfl, lD, nD⟩
        have h3 := pair_app h1 (.cons h2 .nil)
        rwa [init_last hgl] at h3
      refine ⟨_, rfl, p, CN, dx, _, rfl, kp, N.tN, N.nL, (by show 1 < 1000; decide), ?_⟩
      have kF : upd H8 p (.ins CN dx [(("_ins" : Str), .int (n : Int)), (("_layers" : Str), .ref p8)]) p = some (.ins CN dx [(("_ins" : Str), .int (n : Int)), (("_layers" : Str), .ref p8)]) := upd_same
      have cF : Ch p H8 (upd H8 p (.ins CN dx [(("_ins" : Str), .int (n : Int)), (("_layers" : Str), .ref p8)])) := Ch.put
      exact q _ ((c2.trans (Ch.ex E28)).trans cF) ⟨dx, p8, _, kF, sqt_ch kp cF (st_of k8), pmono (fun _ _ => LayV.ch kp cF) pAll⟩
    · skip
      have hr2 : Room (1 + 1) _ := hr.mono (by decide)
      have hr2' : Room 2 _ := hr.mono (by decide)
      refine ⟨_, (pss_cons (ps_if (pt_not (pt_val (cl GAI hr2' (pa_cons (pv 1) pa_nil)))) (pss_one ps_never) pss_nil)
        (pss_cons (ps_if (pt_not (pt_val (cl GAL hr (pa_cons (pv 2) (pa_cons (pv 1) pa_nil))))) (pss_one ps_never) pss_nil)
        (pss_cons (ps_fld (pv 0) (pv 1) rfl)
        (pss_one (ps_fld (pv 0) (pe_callTy call_tuple_of (by rfl) mtuple (by decide +kernel) (pa_cons (pe_op op_catE (pe_lc (own := [("nodes", 3)]) (g := gName 3) (tt := tYes) rfl sc_Net___init__.nd (pi_tup (pe_slice (sl_tupE K) (pv 2) po_none (po_some (pe_un un_neg pe_int)))) (blkOk_by (N := ["self", "ins", "layers", "nodes"]) (sc := defScope s_Net___init__) (by decide +kernel)) (fun _ _ _ _ _ => (pg_name (i := 3) sc_Net___init__.nd rfl (.inl rfl))) (fun _ _ _ _ _ => pts_nil) (fun _ _ _ _ _ => pe_make MC FC hr2 (by rfl) mgC bC .nil pass0 (pa_cons (pv 3) pa_nil))) (pe_lst (pa_cons (pe_make ML FL hr2 (by rfl) mgL bL .nil pass0 (pa_cons (pe_ix ix_tup (pv 2) (pe_un un_neg pe_int) (fun _ _ => rfl)) pa_nil)) pa_nil))) pa_nil)) rfl))))), ?_⟩
      refine ⟨_, rfl, n, rfl, ok.n1, ok.n3, _, rfl, iteF ?_⟩
      refine ⟨_, rfl, _, rfl, true, x, n, ls, W, rfl, hx, ok, fun H1 e1 => ⟨_, rfl, iteF ?_⟩⟩
      have hp1 := e1 _ _ hp
      refine ⟨_, rfl, _, rfl, p, CN, dx, [], rfl, hp1, N.tN, N.nI, (by show 0 < 1000; decide), ?_⟩
      have c2 : Ch p H (upd H1 p (.ins CN dx (putF ("_ins" : Str) (.int (n : Int)) []))) := (Ch.ex e1).trans Ch.put
      have k2 : upd H1 p (.ins CN dx (putF ("_ins" : Str) (.int (n : Int)) [])) p = some (.ins CN dx [(("_ins" : Str), .int (n : Int))]) := upd_same
      have x2 := LayM.ch' hp c2 hx
      generalize upd H1 p (.ins CN dx (putF ("_ins" : Str) (.int (n : Int)) [])) = H2 at c2 k2 x2 ⊢
      obtain ⟨D0, ys, rfl, qD, pl⟩ := x2
      have qD : SqT K H2 D0 ys := qD
      have hly := Paired.length pl
      have l1 := ok.l1
      have l4 := ok.l4
      have hne : ys ≠ [] := fun z => by
        rw [z] at hly
        simp at hly
        omega
      have hgl : ls[ls.length - 1]? = some (ls[ls.length - 1]'(by omega)) := List.getElem?_eq_getElem _
      generalize ls[ls.length - 1]'(by omega) = lastL at hgl
      obtain ⟨vL, hvL, lyL⟩ := pget' pl hgl
      rw [← hly] at hvL
      have pin := pair_init pl
      -- the cut ones
      refine ⟨_, rfl, _, rfl, _, rfl, D0, ys, rfl, qD, fun pS H3 eS kS => ?_⟩
      rw [cut_init hne] at kS
      refine ⟨pS, rfl, ⟨_, kS⟩, fun G hG => ?_⟩
      have pin3 : Paired (LyM K H3) ys.dropLast ls.dropLast := pmono (fun _ _ => LyM.ex' eS) pin
      refine lc_tup (K := K) (a := pS) (xs := ys.dropLast) (Bld (LayV K CL CC) H3 G ls.dropLast) (bld0 hG) (fun i H' _ b => ex_t b.1 kS) ?_ ?_
      · rintro i v H' hi b
        obtain ⟨l, hl, lv0⟩ := pget pin3 hi
        obtain ⟨a, xs, rfl, qa, pz⟩ := LyM.un (lv0.ex' b.1)
        have hlt := (List.getElem?_eq_some_iff.mp hi).1
        rw [List.length_dropLast] at hlt
        refine ⟨rfl, ?_⟩
        refine ⟨_, rfl, fun p2 dx2 np2 nd2 ne2 => ?_⟩
        have eC : Ex H' (upd (upd H' dx2 (.own p2)) p2 (.ins CC dx2 [])) := fun b o hb => by
          rw [upd_ne (ne_of_none hb np2), upd_ne (ne_of_none hb nd2)]
          exact hb
        have kC : upd (upd H' dx2 (.own p2)) p2 (.ins CC dx2 []) p2 = some (.ins CC dx2 []) := upd_same
        generalize upd (upd H' dx2 (.own p2)) p2 (.ins CC dx2 []) = HC at eC kC ⊢
        refine ⟨p2, dx2, a, xs, l, rfl, kC, qa.imp (ex_l eC) (ex_t eC), pmono (fun _ _ => SumV.ex eC) pz, fun HD v2 kpD lD nD => ⟨rfl, ?_⟩⟩
        have eD : Ex H' HD := fun b o hb => kpD b o (ne_of_none hb np2) (eC b o hb)
        exact bld_step stL hG b eD hl (by omega) ⟨p2, CC, v2, rfl, .inr rfl, lD, nD⟩
      intro H4 b4
      obtain ⟨e4, ws, hws, pw⟩ := bld_end (by rw [List.length_dropLast, List.length_dropLast]; omega) b4
      have E4 := eS.trans e4
      have hwl := Paired.length pw
      rw [List.length_dropLast] at hwl
      -- the last one
      obtain ⟨a, xs, rfl, qa, pz⟩ := LyM.un (lyL.ex' E4)
      refine ⟨_, rfl, 1, rfl, D0, ys, _, .ref a, rfl, rfl, ex_t E4 qD, at_last hvL, fun p2 dx2 np2 nd2 ne2 => ?_⟩
      have eC : Ex H4 (upd (upd H4 dx2 (.own p2)) p2 (.ins CL dx2 [])) := fun b o hb => by
        rw [upd_ne (ne_of_none hb np2), upd_ne (ne_of_none hb nd2)]
        exact hb
      have kC : upd (upd H4 dx2 (.own p2)) p2 (.ins CL dx2 []) p2 = some (.ins CL dx2 []) := upd_same
      generalize upd (upd H4 dx2 (.own p2)) p2 (.ins CL dx2 []) = HC at eC kC ⊢
      refine ⟨p2, dx2, a, xs, lastL, rfl, kC, qa.imp (ex_l eC) (ex_t eC), pmono (fun _ _ => SumV.ex eC) pz, fun H5 v2 kpD lD nD => ⟨rfl, ?_⟩⟩
      have e5 : Ex H4 H5 := fun b o hb => kpD b o (ne_of_none hb np2) (eC b o hb)
      refine ⟨(by show 1 ≤ sizeLine; decide), fun pl1 hpl1 => ?_⟩
      have e6 : Ex H5 (upd H5 pl1 (.lst [.ref p2])) := Ex.new hpl1
      have k6 : upd H5 pl1 (.lst [.ref p2]) pl1 = some (.lst [.ref p2]) := upd_same
      generalize upd H5 pl1 (.lst [.ref p2]) = H6 at e6 k6 ⊢
      have E6 := e5.trans e6
      refine ⟨G, pl1, ws, [.ref p2], rfl, rfl, E6 _ _ hws, k6, Nat.le_of_lt (sz_lt (by simp; omega)), fun p7 H7 hp7 e7 k7 => ?_⟩
      refine ⟨p7, _, rfl, .inl ⟨sq_of k7, fun p8 hp8 => ?_⟩⟩
      have e8 : Ex H7 (upd H7 p8 (.tup (ws ++ [.ref p2]))) := Ex.new hp8
      have k8 : upd H7 p8 (.tup (ws ++ [.ref p2])) p8 = some (.tup (ws ++ [.ref p2])) := upd_same
      generalize upd H7 p8 (.tup (ws ++ [.ref p2])) = H8 at e8 k8 ⊢
      have E8 : Ex H4 H8 := E6.trans (e7.trans e8)
      have E28 : Ex H2 H8 := E4.trans E8
      have kp := E28 _ _ k2
      have pAll : Paired (LayV K CL CC H8) (ws ++ [.ref p2]) ls := by
        have h1 : Paired (LayV K CL CC H8) ws ls.dropLast := pmono (fun _ _ => LayV.ex E8) pw
        have h2 : LayV K CL CC H8 (.ref p2) lastL := LayV.ex (e6.trans (e7.trans e8)) ⟨p2, CL, v2, rfl, .inl rfl, lD, nD⟩
        have h3 := pair_app h1 (.cons h2 .nil)
        rwa [init_last hgl] at h3
      refine ⟨_, rfl, p, CN, dx, _, rfl, kp, N.tN, N.nL, (by show 1 < 1000; decide), ?_⟩
      have kF : upd H8 p (.ins CN dx [(("_ins" : Str), .int (n : Int)), (("_layers" : Str), .ref p8)]) p = some (.ins CN dx [(("_ins" : Str), .int (n : Int)), (("_layers" : Str), .ref p8)]) := upd_same
      have cF : Ch p H8 (upd H8 p (.ins CN dx [(("_ins" : Str), .int (n : Int)), (("_layers" : Str), .ref p8)])) := Ch.put
      exact q _ ((c2.trans (Ch.ex E28)).trans cF) ⟨dx, p8, _, kF, sqt_ch kp cF (st_of k8), pmono (fun _ _ => LayV.ch kp cF) pAll⟩
end

end K07
end
section
set_option maxRecDepth 100000
set_option maxHeartbeats 400000
namespace K07
open PySem Evl Nc PyProof.Rows
open L2 hiding spCell
section
variable {P : Program} {w : World} {K : PySem.W.Frag} {mg : Str → Option Value} {base : Heap}
theorem call_isiE {X : Cx} (K : PySem.W.Frag) (h : X.K = K := by rfl) : CallR X (.builtin "isinstance") (rIsi K) := by
  subst h
  exact call_isi
def spNetOf (K : PySem.W.Frag) (CN CL CC : Addr) : Sp := fun vs H Q _ => ∃ (v : V) (n : Nat) (ls : List (List Sum2)) (W : Nat), vs = [v] ∧ TdV K H v n ls ∧ NetOk n ls W ∧ ∀ p H', Ex H H' → NetV K CN CL CC H' p n ls → Q (.ref p) H'
theorem ok_net_of (D : Df K mg "net_of" s_net_of ["told"]) {CN CL CC fN : Addr} {fdN : FuncData} (MN : Mk K CN fN) (FN : FnOk P w K mg base CX0 6 fN fdN ["self", "ins", "layers"] (spInitM K CN CL CC)) (bN : Binds K fdN ["self", "ins", "layers"] []) (mgN : mg "Net" = some (.ref CN)) (GAI : Ok P w K mg base 2 "_are_ins" ["thing"] spAreIns) (GAL : Ok P w K mg base 5 "_are_layers" ["thing", "ins"] (spAreLaysM K)) (misi : mg "isinstance" = none) (mtuple : mg "tuple" = none) (mlen : mg "len" = none) (mall : mg "all" = none) : Ok P w K mg base 8 "net_of" ["told"] (spNetOf K CN CL CC) := by
  refine D.ok fun f fd F => F.ok sc_net_of (fun vs H Q E h => ?_) (fun cdv A outer s H vs Q E hr h => ?_)
  · obtain ⟨v, n, ls, W, rfl, _⟩ := h
    rfl
  · obtain ⟨v, n, ls, W, rfl, ⟨t, u, ys, rfl, qt, qu, py⟩, ok, q⟩ := h
    have hr7 : Room (6 + 1) _ := hr
    have hr2 : Room 2 _ := hr.mono (by decide)
    have hr5 : Room 5 _ := hr.mono (by decide)
    refine ⟨_, (pss_cons (ps_if (PW.pt (pw_or (pt_not (pt_val (pe_callB call_isi (by rfl) misi (by decide +kernel) (pa_cons (pv 0) (pa_cons (pe_bltn (v := .ty "tuple") (by rfl) mtuple (by decide +kernel) rfl) pa_nil))))) (pw_or1 (pt_cmpR op_ne (pe_callB call_len_seq (by rfl) mlen PySem.boot_len (pa_cons (pv 0) pa_nil)) pe_int (nomark _))))) (pss_one ps_never) pss_nil)
      (pss_cons (ps_asg (pv 0) (pg_tup rfl (pgs_cons (pg_name (i := 1) sc_net_of.nd rfl (.inl rfl)) (pgs_cons (pg_name (i := 2) sc_net_of.nd rfl (.inl rfl)) pgs_nil))))
      (pss_cons (ps_if (PW.pt (pw_or (pt_not (pt_val (pe_callB call_isi (by rfl) misi (by decide +kernel) (pa_cons (pv 2) (pa_cons (pe_bltn (v := .ty "tuple") (by rfl) mtuple (by decide +kernel) rfl) pa_nil))))) (pw_or1 (pt_not (pt_val (pe_callB (cr_all rfl) (by rfl) mall (by decide +kernel) (pa_cons (pe_lc (own := [("nodes", 3)]) (g := gName 3) (tt := tYes) rfl sc_net_of.nd (pi_tup (pv 2)) (blkOk_by (N := ["told", "ins", "layers", "nodes"]) (sc := defScope s_net_of) (by decide +kernel)) (fun _ _ _ _ _ => (pg_name (i := 3) sc_net_of.nd rfl (.inl rfl))) (fun _ _ _ _ _ => pts_nil) (fun _ _ _ _ _ => pe_callB (call_isiE K) (by rfl) misi (by decide +kernel) (pa_cons (pv 3) (pa_cons (pe_bltn (v := .ty "tuple") (by rfl) mtuple (by decide +kernel) rfl) pa_nil)))) pa_nil))))))) (pss_one ps_never) pss_nil)
      (pss_cons (ps_if (PW.pt (pw_or (pt_not (pt_val (cl GAI hr2 (pa_cons (pv 1) pa_nil)))) (pw_or1 (pt_not (pt_val (cl GAL hr5 (pa_cons (pv 2) (pa_cons (pv 1) pa_nil)))))))) (pss_one ps_never) pss_nil)
      (pss_one (ps_ret (pe_make MN FN hr7 (by rfl) mgN bN .nil pass0 (pa_cons (pv 1) (pa_cons (pv 2) pa_nil))))))))), ?_⟩
    have yl := Paired.length py
    have l4 := ok.l4
    refine ⟨_, rfl, _, _, _, _, _, rfl, .ty _, tyT qt, kit_ty (r := true) (by decide +kernel), _, rfl, iteF ?_⟩
    refine ⟨_, rfl, _, _, rfl, .inr qt, rfl, _, rfl, iteNS rfl ?_⟩
    refine ⟨_, rfl, t, [.int (n : Int), .ref u], rfl, qt, rfl, .int (n : Int), [.ref u], rfl, .ref u, [], rfl, rfl, ?_⟩
    refine ⟨_, rfl, _, _, _, _, _, rfl, .ty _, tyT qu, kit_ty (r := true) (by decide +kernel), _, rfl, iteF ?_⟩
    refine ⟨_, rfl, u, rfl, ⟨_, qu⟩, fun G hG => ?_⟩
    refine lc_tup (K := K) (a := u) (xs := ys) (fun j H' => Ex H H' ∧ H' G = some (.lst ((List.replicate j true).map V.bl))) ⟨Ex.new hG, upd_same⟩ (fun j H' _ b => ex_t b.1 qu) ?_ ?_
    · rintro j x H' hj ⟨e4, k4⟩
      obtain ⟨l, hl, b, us, rfl, qb, pb⟩ := pget py hj
      have hjl := (List.getElem?_eq_some_iff.mp hl).1
      refine ⟨rfl, ?_⟩
      refine ⟨_, rfl, _, _, _, _, _, rfl, .ty _, tyT (ex_t e4 qb), kit_ty (r := true) (by decide +kernel), _, k4, sz_lt (by simp; omega), Ex.mut e4 hG, ?_⟩
      rw [List.replicate_succ', List.map_append]
      exact upd_same
    rintro H5 ⟨e5, k5⟩
    refine ⟨G, _, rfl, sq_of k5, _, rfl, ite_nt (by simp) ?_⟩
    refine ⟨_, rfl, n, rfl, ok.n1, ok.n3, _, rfl, iteF ?_⟩
    have lay : LayM K true H5 (.ref u) ls := ⟨u, ys, rfl, ex_t e5 qu, pmono (fun _ _ z => .inr (NodesV.ex e5 z)) py⟩
    refine ⟨_, rfl, _, rfl, true, .ref u, n, ls, W, rfl, lay, ok, fun H6 e6 => ⟨_, rfl, iteF ?_⟩⟩
    refine ⟨_, rfl, _, rfl, ?_⟩
    refine fun x dx2 np nd ne => ?_
    have eX : Ex H6 (upd (upd H6 dx2 (.own x)) x (.ins CN dx2 [])) := fun b o hb => by
      rw [upd_ne (ne_of_none hb np), upd_ne (ne_of_none hb nd)]
      exact hb
    have kX : upd (upd H6 dx2 (.own x)) x (.ins CN dx2 []) x = some (.ins CN dx2 []) := upd_same
    generalize upd (upd H6 dx2 (.own x)) x (.ins CN dx2 []) = H7 at eX kX ⊢
    have e57 := e6.trans eX
    refine ⟨true, x, dx2, .ref u, n, ls, W, rfl, kX, ⟨u, ys, rfl, ex_t (e5.trans e57) qu, pmono (fun _ _ z => .inr (NodesV.ex (e5.trans e57) z)) py⟩, ok, fun HA kp hNA => ⟨rfl, ?_⟩⟩
    exact q x HA (fun b o hb => kp b o (ne_of_none ((e5.trans e6) _ _ hb) np) (eX _ _ ((e5.trans e6) _ _ hb))) hNA
end

end K07
end
section
set_option maxRecDepth 100000
set_option maxHeartbeats 400000
namespace K07
open PySem Evl Nc PyProof.Rows
open L2 hiding spCell
section
variable {P : Program} {w : World} {K : PySem.W.Frag} {mg : Str → Option Value} {base : Heap}
/-- the layers as they are told, and stay -/
def LyN (K : PySem.W.Frag) (H : Hp) (v : V) (l : List Sum2) : Prop := ∃ a xs, v = .ref a ∧ H a = some (.lst xs) ∧ Paired (SumV K H) xs l
theorem LyN.ex' {K : PySem.W.Frag} {H H' : Hp} {v : V} {l : List Sum2} (e : Ex H H') (h : LyN K H v l) : LyN K H' v l := by
  obtain ⟨a, xs, rfl, q, p⟩ := h
  exact ⟨a, xs, rfl, e _ _ q, pmono (fun _ _ => SumV.ex e) p⟩
theorem LyN.ly' {K : PySem.W.Frag} {H : Hp} {v : V} {l : List Sum2} (h : LyN K H v l) : LyV K H v l := by
  obtain ⟨a, xs, rfl, q, p⟩ := h
  exact ⟨a, xs, rfl, sq_of q, p⟩
theorem nl_lay : ∀ ls : List (List Sum2), PyData.canLayAll0 (nl ls) = true
  | [] => rfl
  | z :: zs => by
    show (PyData.canLayAll0 (z.map sd) && PyData.canLayAll0 (nl zs)) = true
    rw [lay_sds, nl_lay zs]
    rfl
theorem nl_depth : ∀ ls : List (List Sum2), PyData.depthAll (nl ls) ≤ 5
  | [] => Nat.zero_le _
  | z :: zs => by
    have ih := nl_depth zs
    have h1 := depth_sds z
    show max (PyData.depthAll (z.map sd) + 1) (PyData.depthAll (nl zs)) ≤ 5
    omega
theorem nl_shaped (ls : List (List Sum2)) : SeqAt.shaped (.list (nl ls)) = true := by
  unfold SeqAt.shaped
  have h : (PyData.list (nl ls)).canLay0 = true := nl_lay ls
  rw [h, Bool.true_and]
  refine decide_eq_true ?_
  have := nl_depth ls
  show PyData.depthAll (nl ls) + 1 ≤ 64
  omega
theorem eqv_nl (ls : List (List Sum2)) : PyData.eqv (.list (nl ls)) (.list (nl ls)) = true := SeqAt.eqv_refl _ (nl_lay ls)
theorem lyn_dp {K : PySem.W.Frag} {H : Hp} : ∀ {xs : List V} {ls : List (List Sum2)}, Paired (LyN K H) xs ls → DpAll K H xs (nl ls)
  | _, _, .nil => .nil
  | _, _, .cons ⟨a, us, e, q, p⟩ t => by
    subst e
    exact .cons (.lst (sq_of q) (sums_dp p)) (lyn_dp t)
theorem frl_n {K : PySem.W.Frag} {H0 H : Hp} {F : Addr} {v : V} {l : List Sum2} (h : FrL2 K H0 F H v l) : LyN K H v l := by
  obtain ⟨a, xs, e, _, _, q, p⟩ := h
  exact ⟨a, xs, e, q, p⟩
theorem dp_ints {K : PySem.W.Frag} {H : Hp} : ∀ cs : List Nat, DpAll K H (cs.map fun (c : Nat) => V.int (c : Int)) (cs.map fun (c : Nat) => PyData.int (c : Int))
  | [] => .nil
  | c :: cs => .cons (.int _) (dp_ints cs)
theorem shaped_3 (a b c : Nat) : SeqAt.shaped (.list [.int (a : Int), .int (b : Int), .int (c : Int)]) = true := rfl
theorem eqv_3 (a b c : Nat) : PyData.eqv (.list [.int (a : Int), .int (b : Int), .int (c : Int)]) (.list [.int (a : Int), .int (b : Int), .int (c : Int)]) = true := SeqAt.eqv_refl _ rfl
theorem depth_ints : ∀ cs : List Nat, PyData.depthAll (cs.map fun (c : Nat) => PyData.int (c : Int)) = 0
  | [] => rfl
  | c :: cs => by
    show max 0 (PyData.depthAll (cs.map fun (c : Nat) => PyData.int (c : Int))) = 0
    rw [depth_ints cs]
    rfl
theorem lay_ints : ∀ cs : List Nat, PyData.canLayAll0 (cs.map fun (c : Nat) => PyData.int (c : Int)) = true
  | [] => rfl
  | c :: cs => by
    show (true && PyData.canLayAll0 (cs.map fun (c : Nat) => PyData.int (c : Int))) = true
    rw [lay_ints cs]
    rfl
theorem shaped_ints (cs : List Nat) : SeqAt.shaped (.list (cs.map fun (c : Nat) => PyData.int (c : Int))) = true := by
  unfold SeqAt.shaped
  have h : (PyData.list (cs.map fun (c : Nat) => PyData.int (c : Int))).canLay0 = true := lay_ints cs
  rw [h, Bool.true_and]
  refine decide_eq_true ?_
  show PyData.depthAll (cs.map fun (c : Nat) => PyData.int (c : Int)) + 1 ≤ 64
  rw [depth_ints]
  decide
theorem eqv_ints (cs : List Nat) : PyData.eqv (.list (cs.map fun (c : Nat) => PyData.int (c : Int))) (.list (cs.map fun (c : Nat) => PyData.int (c : Int))) = true := SeqAt.eqv_refl _ (lay_ints cs)
/-- pairs as data -/
def prD (ps : List (Nat × Nat)) : List PyData := ps.map fun p => .tuple [.int (p.1 : Int), .int (p.2 : Int)]
theorem prD_lay : ∀ ps, PyData.canLayAll0 (prD ps) = true
  | [] => rfl
  | p :: ps => by
    show (true && PyData.canLayAll0 (prD ps)) = true
    rw [prD_lay ps]
    rfl
theorem prD_depth : ∀ ps, PyData.depthAll (prD ps) ≤ 1
  | [] => Nat.zero_le _
  | p :: ps => by
    have ih := prD_depth ps
    show max 1 (PyData.depthAll (prD ps)) ≤ 1
    omega
theorem prD_shaped (ps : List (Nat × Nat)) : SeqAt.shaped (.list (prD ps)) = true := by
  unfold SeqAt.shaped
  have h : (PyData.list (prD ps)).canLay0 = true := prD_lay ps
  rw [h, Bool.true_and]
  refine decide_eq_true ?_
  have := prD_depth ps
  show PyData.depthAll (prD ps) + 1 ≤ 64
  omega
theorem eqv_prD (ps : List (Nat × Nat)) : PyData.eqv (.list (prD ps)) (.list (prD ps)) = true := SeqAt.eqv_refl _ (prD_lay ps)
theorem prs_dp {K : PySem.W.Frag} {H : Hp} : ∀ {xs : List V} {ps : List (Nat × Nat)}, Paired (PrV K H) xs ps → DpAll K H xs (prD ps)
  | _, _, .nil => .nil
  | _, _, .cons ⟨t, e, q⟩ h => by
    subst e
    exact .cons (.tup q (.cons (.int _) (.cons (.int _) .nil))) (prs_dp h)
def spOneR (K : PySem.W.Frag) (CN CL CC : Addr) : Sp := fun vs H Q _ => ∃ (p D : Addr) (ys : List V) (n : Nat) (ls : List (List Sum2)), vs = [.ref p, .int (n : Int), .ref D] ∧ NetV K CN CL CC H p n ls ∧ H D = some (.lst ys) ∧ Paired (LyN K H) ys ls ∧ LysOk n ls ∧ ∀ H', Ex H H' → Q (.bl true) H'
theorem ok__law_one_right (D : Df K mg "_law_one_right" s__law_one_right ["_law_net", "_law_ins", "_law_layers_here"]) {CN CL CC : Addr} (N : NDefs P w K mg base CN CL CC) (GN : Ok P w K mg base 3 "_law_numbers" ["_law_net"] (spNumbers K CN CL CC)) (GP : Ok P w K mg base 1 "_law_places" ["_law_layers_here"] (spLPlaces K)) (GTo : Ok P w K mg base 1 "_law_told" ["_law_ins", "_law_layers_here"] (spShown K)) (GL : MOk P w K mg base 2 CN "layers_told" ["self"] (spLaysTold K CN CL CC)) (GPl : MOk P w K mg base 2 CN "places" ["self"] (spPlacesN K CN CL CC)) (GT : MOk P w K mg base 2 CN "told" ["self"] (spToldN K CN CL CC)) (misi : mg "isinstance" = none) (mlist : mg "list" = none) (mbool : mg "bool" = none) (mlen : mg "len" = none) (many : mg "any" = none) : Ok P w K mg base 4 "_law_one_right" ["_law_net", "_law_ins", "_law_layers_here"] (spOneR K CN CL CC) := by
  refine D.ok fun f fd F => F.ok sc__law_one_right (fun vs H Q E h => ?_) (fun cdv A outer s H vs Q E hr h => ?_)
  · obtain ⟨p, D, ys, n, ls, rfl, _⟩ := h
    rfl
  · obtain ⟨p, D, ys, n, ls, rfl, hN, kD, py, ok, q⟩ := h
    obtain ⟨fLT, dLT, mLT, FLT, bLT⟩ := GL.ex
    obtain ⟨fPL, dPL, mPL, FPL, bPL⟩ := GPl.ex
    obtain ⟨fTD, dTD, mTD, FTD, bTD⟩ := GT.ex
    have hr1 : Room 1 _ := hr.mono (by decide)
    have hr2 : Room 2 _ := hr.mono (by decide)
    refine ⟨_, (pss_cons (ps_set (i := 3) sc__law_one_right.nd rfl (.inl rfl) (cl GN hr (pa_cons (pv 0) pa_nil)))
      (pss_cons (ps_if (PW.pt (pw_or (pt_cmpR (op_neD hr.units) (pv 3) (pe_lstE (pa_cons (pv 1) (pa_cons (pe_callB call_len_seq (by rfl) mlen PySem.boot_len (pa_cons (pe_ix ix_list (pv 2) (pe_un un_neg pe_int) (fun _ _ => rfl)) pa_nil)) (pa_cons (pe_callB call_len_seq (by rfl) mlen PySem.boot_len (pa_cons (cl GP hr1 (pa_cons (pv 2) pa_nil)) pa_nil)) pa_nil)))) (nomark _)) (pw_or1 (pt_val (pe_callB (cr_any rfl) (by rfl) many (by decide +kernel) (pa_cons (pe_lc (own := [("_law_one", 7)]) (g := gName 7) (tt := tYes) rfl sc__law_one_right.nd (pi_list (pv 3)) (blkOk_by (N := ["_law_net", "_law_ins", "_law_layers_here", "_law_found", "_law_told_here", "_law_places_here", "_law_nodes", "_law_one"]) (sc := defScope s__law_one_right) (by decide +kernel)) (fun _ _ _ _ _ => (pg_name (i := 7) sc__law_one_right.nd rfl (.inl rfl))) (fun _ _ _ _ _ => pts_nil) (fun _ _ _ _ _ => pe_callB (call_isiE K) (by rfl) misi (by decide +kernel) (pa_cons (pv 7) (pa_cons (pe_bltn (v := .ty "bool") (by rfl) mbool (by decide +kernel) rfl) pa_nil)))) pa_nil)))))) (pss_one (ps_ret pe_bl)) pss_nil)
      (pss_cons (ps_set (i := 4) sc__law_one_right.nd rfl (.inl rfl) (pe_meth0 (pv 0) N.tN mLT FLT hr2 bLT .nil pass0))
      (pss_cons (ps_set (i := 5) sc__law_one_right.nd rfl (.inl rfl) (pe_meth0 (pv 0) N.tN mPL FPL hr2 bPL .nil pass0))
      (pss_cons (ps_if (PW.pt (pw_or (pt_cmpR (op_neD hr.units) (pv 4) (pv 2) (nomark _)) (pw_or (pt_not (pt_val (pe_callB call_isi (by rfl) misi (by decide +kernel) (pa_cons (pv 4) (pa_cons (pe_bltn (v := .ty "list") (by rfl) mlist (by decide +kernel) rfl) pa_nil))))) (pw_or (pt_cmpR (op_neD hr.units) (pv 5) (cl GP hr1 (pa_cons (pv 2) pa_nil)) (nomark _)) (pw_or1 (pt_not (pt_val (pe_callB call_isi (by rfl) misi (by decide +kernel) (pa_cons (pv 5) (pa_cons (pe_bltn (v := .ty "list") (by rfl) mlist (by decide +kernel) rfl) pa_nil)))))))))) (pss_one (ps_ret pe_bl)) pss_nil)
      (pss_cons (ps_for PassesOwn.never rfl (pi_list (pv 4)) (pg_name (i := 6) sc__law_one_right.nd rfl (.inl rfl)) (pss_cons (ps_if (pt_not (pt_val (pe_callB call_isi (by rfl) misi (by decide +kernel) (pa_cons (pv 6) (pa_cons (pe_bltn (v := .ty "list") (by rfl) mlist (by decide +kernel) rfl) pa_nil))))) (pss_one (ps_ret pe_bl)) pss_nil)
      (pss_one (ps_expr (pe_bm0 PySem.F.plainAttrs_list PySem.F.slot_list_clear PySem.F.type_list_clear mt_clear (pv 6))))))
      (pss_cons (ps_expr (pe_bm0 PySem.F.plainAttrs_list PySem.F.slot_list_clear PySem.F.type_list_clear mt_clear (pv 4)))
      (pss_cons (ps_expr (pe_bm PySem.F.plainAttrs_list PySem.F.slot_list_append PySem.F.type_list_append mt_append (pv 5) (pa_cons (pe_tup (pa_cons pe_int (pa_cons pe_int pa_nil))) pa_nil)))
      (pss_one (ps_ret (pe_and (pe_cmpR (op_eqD hr.units) (pe_meth0 (pv 0) N.tN mTD FTD hr2 bTD .nil pass0) (cl GTo hr1 (pa_cons (pv 1) (pa_cons (pv 2) pa_nil))) (nomark _)) (pe_one (pe_cmpR (op_eqD hr.units) (pe_meth0 (pv 0) N.tN mLT FLT hr2 bLT .nil pass0) (pv 2) (nomark _)))))))))))))), ?_⟩
    have l1 := ok.l1
    have l4 := ok.l4
    have yl := Paired.length py
    have lx : ∀ l ∈ ls, l.length ≤ 100 := fun l h => by
      have := over_len ok.over l h
      omega
    have hN0 := hN
    obtain ⟨dx, t, ps, hp, qt, pl⟩ := hN
    have nLT : List.lookup ("layers_told" : Str) [(("_ins" : Str), V.int (n : Int)), (("_layers" : Str), V.ref t)] = none := no_n (by decide +kernel) (by decide +kernel)
    have nPL : List.lookup ("places" : Str) [(("_ins" : Str), V.int (n : Int)), (("_layers" : Str), V.ref t)] = none := no_n (by decide +kernel) (by decide +kernel)
    have nTD : List.lookup ("told" : Str) [(("_ins" : Str), V.int (n : Int)), (("_layers" : Str), V.ref t)] = none := no_n (by decide +kernel) (by decide +kernel)
    obtain ⟨lL, hlL⟩ : ∃ l, ls[ls.length - 1]? = some l := ⟨_, List.getElem?_eq_getElem (by omega)⟩
    obtain ⟨vL, hvL, a, us, rfl, ka, pa⟩ := pget' py hlL
    have hvL2 : ys[ys.length - 1]? = some (V.ref a) := by rw [yl]; exact hvL
    have ul := Paired.length pa
    have layI : ∀ {H'}, Ex H H' → LayI K H' (.ref D) ls := fun e => ⟨D, ys, rfl, sq_of (e _ _ kD), pmono (fun _ _ z => LyN.ly' (LyN.ex' e z)) py⟩
    -- the numbers
    refine ⟨_, rfl, p, n, ls, lL, rfl, hN0, hlL, l1, by omega, fun F H1 hF e1 kF => ?_⟩
    refine ⟨_, rfl, _, rfl, _, rfl, 1, rfl, D, ys, _, _, rfl, rfl, sq_of (e1 _ _ kD), at_last hvL2, a, us, rfl, .inl (sq_of (e1 _ _ ka)), _, rfl, .ref D, ls, rfl, layI e1, l1, by omega, lx, fun F2 rs2 H2 hF2 e2 kF2 pF2 => ⟨F2, rs2, rfl, .inl (sq_of kF2), (by show 3 ≤ sizeLine; decide), fun p3 H3 n3 e3 k3 => ?_⟩⟩
    have E3 := e1.trans (e2.trans e3)
    have rl2 : rs2.length = hid ls := by
      rw [Paired.length pF2, plN_len]
      rfl
    rw [ul, rl2] at k3
    have kF3 := (e2.trans e3) _ _ kF
    refine ⟨_, _, .lst (sq_of kF3) (dp_ints [n, lL.length, hid ls]), .lst (sq_of k3) (dp_ints [n, lL.length, hid ls]), shaped_ints _, shaped_ints _, _, rfl, ?_⟩
    rw [eqv_ints]
    refine iteF ?_
    refine ⟨_, rfl, F, rfl, ⟨_, sq_of kF3⟩, fun G hG => ?_⟩
    refine lc_list (K := K) (a := F) (xs := [V.int (n : Int), .int (lL.length : Int), .int ((hid ls : Nat) : Int)]) (fun j H' => Ex H3 H' ∧ H' G = some (.lst ((List.replicate j false).map V.bl))) ⟨Ex.new hG, upd_same⟩ (fun j H' _ b => sq_of (b.1 _ _ kF3)) ?_ ?_
    · rintro j v H' hj ⟨e5, k5⟩
      have hjl := (List.getElem?_eq_some_iff.mp hj).1
      have hv : ∃ i : Int, v = .int i := by
        have hm := List.mem_of_getElem? hj
        simp only [List.mem_cons, List.not_mem_nil, or_false] at hm
        rcases hm with rfl | rfl | rfl <;> exact ⟨_, rfl⟩
      obtain ⟨i, rfl⟩ := hv
      refine ⟨rfl, ?_⟩
      refine ⟨_, rfl, _, _, _, _, _, rfl, .ty _, tyI _, kit_ty (r := false) (by decide +kernel), _, k5, sz_lt (by rw [List.length_map, List.length_replicate]; simp at hjl; omega), Ex.mut e5 hG, ?_⟩
      rw [List.replicate_succ', List.map_append]
      exact upd_same
    rintro H4 ⟨e4, k4⟩
    refine ⟨G, _, rfl, sq_of k4, _, rfl, ite_f (by simp) ?_⟩
    have E4 := E3.trans e4
    -- told, places
    refine ⟨_, rfl, p, dx, _, rfl, E4 _ _ hp, nLT, p, n, ls, rfl, hN0.ex E4, by omega, lx, fun F3 ys3 H5 hF3 e5 kF3' pz => ?_⟩
    have E5 := E4.trans e5
    have hz : Paired (LyN K H5) ys3 ls := pmono (fun _ _ => frl_n) pz
    refine ⟨_, rfl, p, dx, _, rfl, E5 _ _ hp, nPL, p, n, ls, rfl, hN0.ex E5, l1, by omega, lx, fun F4 rs4 H6 hF4 e6 kF4 pF4 => ?_⟩
    have E6 := E5.trans e6
    refine ⟨_, rfl, _, rfl, _, _, .lst (sq_of (e6 _ _ kF3')) (lyn_dp (pmono (fun _ _ => LyN.ex' e6) hz)), .lst (sq_of (E6 _ _ kD)) (lyn_dp (pmono (fun _ _ => LyN.ex' E6) py)), nl_shaped _, nl_shaped _, _, rfl, ?_⟩
    rw [eqv_nl]
    refine iteF ?_
    refine ⟨_, rfl, _, _, _, _, _, rfl, .ty _, .base (.lst (e6 _ _ kF3')), kit_ty (r := true) (by decide +kernel), _, rfl, iteF ?_⟩
    refine ⟨_, rfl, _, rfl, .ref D, ls, rfl, layI E6, l1, by omega, lx, fun F7 rs7 H7 hF7 e7 kF7 pF7 => ?_⟩
    have E7 := E6.trans e7
    refine ⟨_, _, .lst (sq_of (e7 _ _ kF4)) (prs_dp (pmono (fun _ _ => stPr.ex e7) pF4)), .lst (sq_of kF7) (prs_dp pF7), prD_shaped _, prD_shaped _, _, rfl, ?_⟩
    rw [eqv_prD]
    refine iteF ?_
    have kF47 := e7 _ _ kF4
    refine ⟨_, rfl, _, _, _, _, _, rfl, .ty _, .base (.lst kF47), kit_ty (r := true) (by decide +kernel), _, rfl, iteF ?_⟩
    have kF37 := (e6.trans e7) _ _ kF3'
    have h34 : F3 ≠ F4 := fun z => by rw [z, hF4] at kF3'; cases kF3'
    have rl4 := Paired.length pF4
    have ple := plN_le (xs := ls.dropLast) (k := 0) fun x h => lx x ((List.dropLast_sublist _).subset h)
    rw [List.length_dropLast] at ple
    refine ⟨_, rfl, F3, rfl, ⟨_, sq_of kF37⟩, for_list (K := K) (a := F3) (xs := ys3) (fun i σ H' => ∃ o6, σ = [some (.ref p), some (.int (n : Int)), some (.ref D), some (.ref F), some (.ref F3), some (.ref F4), o6, none] ∧ Ex H4 H' ∧ H' F3 = some (.lst ys3) ∧ H' F4 = some (.lst rs4) ∧ ∀ u ∈ ys3, ∃ a zs, u = .ref a ∧ H4 a = none ∧ a ≠ F3 ∧ a ≠ F4 ∧ H' a = some (.lst zs)) ⟨none, rfl, e5.trans (e6.trans e7), kF37, kF47, fun u hu => ?_⟩ (fun i σ H' _ ⟨_, _, _, e, _⟩ => sq_of e) ?_ ?_⟩
    · obtain ⟨k, hk⟩ := List.mem_iff_getElem?.mp hu
      obtain ⟨l, hl, a, zs, rfl, na, aF, qa, _⟩ := pget pz hk
      exact ⟨a, zs, rfl, na, aF, (fun z => by rw [z, hF4] at qa; cases qa), (e6.trans e7) _ _ qa⟩
    · rintro i u σ H8 hi ⟨o6, rfl, e8, k3', k4', al⟩
      obtain ⟨a, zs, rfl, na, aF, aF4, qa⟩ := al u (List.mem_of_getElem? hi)
      refine ⟨_, rfl, _, _, _, _, _, rfl, .ty _, .base (.lst qa), kit_ty (r := true) (by decide +kernel), _, rfl, iteF ?_⟩
      refine ⟨_, rfl, .inl ⟨rfl, _, sq_of qa⟩, a, _, rfl, rfl, qa, _, rfl, Ex.mut e8 na, by rw [upd_ne (Ne.symm aF)]; exact k3', by rw [upd_ne (Ne.symm aF4)]; exact k4', fun u hu => ?_⟩
      obtain ⟨b, ws, rfl, nb, bF, bF4, qb⟩ := al u hu
      by_cases hba : b = a
      · subst hba
        exact ⟨b, _, rfl, nb, bF, bF4, upd_same⟩
      · exact ⟨b, ws, rfl, nb, bF, bF4, by rw [upd_ne hba]; exact qb⟩
    · rintro σ H8 ⟨o6, rfl, e8, k3', k4', _⟩
      refine ⟨_, rfl, .inl ⟨rfl, _, sq_of k3'⟩, F3, ys3, rfl, rfl, k3', ?_⟩
      have e9 : Ex H4 (upd H8 F3 (.lst [])) := Ex.mut e8 hF3
      have k49 : upd H8 F3 (.lst []) F4 = some (.lst rs4) := by rw [upd_ne (Ne.symm h34)]; exact k4'
      generalize upd H8 F3 (.lst []) = H9 at e9 k49 ⊢
      refine ⟨_, rfl, .inl ⟨rfl, _, sq_of k49⟩, (by show 2 ≤ sizeLine; decide), fun p0 hp0 => ?_⟩
      have eA : Ex H9 (upd H9 p0 (.tup [.int 0, .int 0])) := Ex.new hp0
      have kA := eA _ _ k49
      generalize upd H9 p0 (.tup [.int 0, .int 0]) = HA at eA kA ⊢
      refine ⟨F4, rs4, .ref p0, rfl, rfl, kA, sz_lt (by omega), ?_⟩
      have eB : Ex H4 (upd HA F4 (.lst (rs4 ++ [.ref p0]))) := Ex.mut (e9.trans eA) (none_of e5 hF4)
      generalize upd HA F4 (.lst (rs4 ++ [.ref p0])) = HB at eB ⊢
      have EB := E4.trans eB
      refine ⟨_, rfl, p, dx, _, rfl, EB _ _ hp, nTD, p, n, ls, rfl, hN0.ex EB, by omega, fun v HC eC hv => ?_⟩
      refine ⟨_, rfl, _, rfl, n, .ref D, ls, rfl, layI (EB.trans eC), by omega, fun v2 HD eD hv2 => ?_⟩
      refine ⟨_, _, (hv.ex eD).dp, hv2.dp, shaped_td _ _, shaped_td _ _, _, rfl, ite_t (eqv_td _ _) ?_⟩
      have ED := EB.trans (eC.trans eD)
      refine ⟨_, rfl, p, dx, _, rfl, ED _ _ hp, nLT, p, n, ls, rfl, hN0.ex ED, by omega, lx, fun F5 ys5 HE hF5 eE kF5 pz5 => ?_⟩
      have EE := ED.trans eE
      refine ⟨_, rfl, _, _, .lst (sq_of kF5) (lyn_dp (pmono (fun _ _ => frl_n) pz5)), .lst (sq_of (EE _ _ kD)) (lyn_dp (pmono (fun _ _ => LyN.ex' EE) py)), nl_shaped _, nl_shaped _, ?_⟩
      rw [eqv_nl]
      exact q _ EE
end

end K07
end
section
set_option maxRecDepth 100000
set_option maxHeartbeats 400000
namespace K07
open PySem Evl Nc PyProof.Rows
open L2 hiding spCell
section
variable {P : Program} {w : World} {K : PySem.W.Frag} {mg : Str → Option Value} {base : Heap}
theorem pair_of_get {α β : Type} {R : α → β → Prop} : ∀ {xs : List α} {ys : List β}, xs.length = ys.length → (∀ (k : Nat) x y, xs[k]? = some x → ys[k]? = some y → R x y) → Paired R xs ys
  | [], [], _, _ => .nil
  | x :: xs, y :: ys, h, f => .cons (f 0 x y rfl rfl) (pair_of_get (by simpa using h) fun k a b h1 h2 => f (k + 1) a b (by simpa using h1) (by simpa using h2))
/-- a layer as a new list or a tuple -/
def InnM (K : PySem.W.Frag) (H0 H : Hp) (v : V) (l : List Sum2) : Prop := (∃ b us, v = .ref b ∧ H0 b = none ∧ H b = some (.lst us) ∧ Paired (SumV K H) us l) ∨ NodesV K H v l
theorem InnM.m {K : PySem.W.Frag} {H0 H : Hp} {v : V} {l : List Sum2} (h : InnM K H0 H v l) : LyM K H v l := by
  rcases h with ⟨b, us, e, _, q, p⟩ | h
  · exact .inl ⟨b, us, e, sq_of q, p⟩
  · exact .inr h
theorem InnM.dk' {K : PySem.W.Frag} {s : Addr} {H0 H H' : Hp} {v : V} {l : List Sum2} (h0 : Lst s H0) (hs : Lst s H) (d : Dk s H H') (h : InnM K H0 H v l) : InnM K H0 H' v l := by
  rcases h with ⟨b, us, e, n, q, p⟩ | h
  · exact .inl ⟨b, us, e, n, d.keep b _ (Ne.symm (h0.ne n)) q, pmono (fun _ _ => SumV.dk hs d) p⟩
  · exact .inr (NodesV.dk hs d h)
theorem InnM.put' {K : PySem.W.Frag} {H0 H : Hp} {G : Addr} {xs : List V} {o : HO} {v : V} {l : List Sum2} (hG : H G = some (.lst xs)) (n : v ≠ .ref G) (h : InnM K H0 H v l) : InnM K H0 (upd H G o) v l := by
  rcases h with ⟨b, us, rfl, nb, q, p⟩ | h
  · exact .inl ⟨b, us, rfl, nb, by rw [upd_ne (fun z => n (by rw [z]))]; exact q, pmono (fun _ _ => SumV.mut hG) p⟩
  · exact .inr (NodesV.mut hG h)
theorem InnM.ex' {K : PySem.W.Frag} {H0 H H' : Hp} {v : V} {l : List Sum2} (e : Ex H H') (h : InnM K H0 H v l) : InnM K H0 H' v l := by
  rcases h with ⟨b, us, rfl, nb, q, p⟩ | h
  · exact .inl ⟨b, us, rfl, nb, e _ _ q, pmono (fun _ _ => SumV.ex e) p⟩
  · exact .inr (NodesV.ex e h)
/-- layers as lists and tuples: those that are lists are new since H0 -/
def ShutV (K : PySem.W.Frag) (H0 : Hp) (c : Bool) (H : Hp) (v : V) (ls : List (List Sum2)) : Prop := ∃ a ys, v = .ref a ∧ SqX K c H a ys ∧ (c = false → H0 a = none ∧ H a = some (.lst ys) ∧ ∀ y ∈ ys, y ≠ .ref a) ∧ Paired (InnM K H0 H) ys ls
theorem ShutV.m {K : PySem.W.Frag} {H0 H : Hp} {c : Bool} {v : V} {ls : List (List Sum2)} (h : ShutV K H0 c H v ls) : LayM K c H v ls := by
  obtain ⟨a, ys, e, q, _, p⟩ := h
  exact ⟨a, ys, e, q, pmono (fun _ _ => InnM.m) p⟩
def spShut (K : PySem.W.Frag) : Sp := fun vs H Q _ => ∃ (s D : Addr) (ls : List (List Sum2)), vs = [.ref s, .ref D] ∧ Stm s H ∧ LayS K s H D ls ∧ ls.length ≤ 100 ∧ (∀ l ∈ ls, l.length ≤ 100) ∧ ∀ c v H', Dk s H H' → Stm s H' → ShutV K H c H' v ls → Q v H'
theorem ok__law_shut (D : Df K mg "_law_shut" s__law_shut ["_law_stream_here", "_law_layers_here"]) (GT : Ok P w K mg base 1 "_law_take" ["_law_stream_here", "_law_many"] spTake) (mtuple : mg "tuple" = none) (mlist : mg "list" = none) : Ok P w K mg base 2 "_law_shut" ["_law_stream_here", "_law_layers_here"] (spShut K) := by
  refine D.ok fun f fd F => F.ok sc__law_shut (fun vs H Q E h => ?_) (fun cdv A outer s H vs Q E hr h => ?_)
  · obtain ⟨s, D, ls, rfl, _⟩ := h
    rfl
  · obtain ⟨s, D, ls, rfl, hS, lay, h100, hl2, q⟩ := h
    refine ⟨_, (pss_cons (ps_setLc (i := 2) (own := [("_law_nodes", 3)]) (g := gName 3) (tt := tYes) rfl sc__law_shut.nd rfl rfl (sw_true rfl rfl rfl (by decide +kernel)) (pi_list (pv 1)) (blkOk_by (N := ["_law_stream_here", "_law_layers_here", "_law_rows", "_law_nodes"]) (sc := defScope s__law_shut) (by decide +kernel)) (fun _ _ _ _ _ => (pg_name (i := 3) sc__law_shut.nd rfl (.inl rfl))) (fun _ _ _ _ _ => pts_nil) (fun _ _ _ _ _ => pe_ix (ix_lK K) (pe_lst (pa_cons (pe_callTy (T := "list") (call_lstK K) (by rfl) mlist (by decide +kernel) (pa_cons (pv 3) pa_nil)) (pa_cons (pe_callTy (T := "tuple") (call_tupK K) (by rfl) mtuple (by decide +kernel) (pa_cons (pv 3) pa_nil)) pa_nil))) (cl GT hr (pa_cons (pv 0) (pa_cons pe_int pa_nil))) (fun _ _ => rfl)))
      (pss_one (ps_ret (pe_ix (ix_lK K) (pe_lst (pa_cons (pv 2) (pa_cons (pe_callTy call_tuple_of (by rfl) mtuple (by decide +kernel) (pa_cons (pv 2) pa_nil)) pa_nil))) (cl GT hr (pa_cons (pv 0) (pa_cons pe_int pa_nil))) (fun _ _ => rfl))))), ?_⟩
    obtain ⟨hDs, ys, kD, py⟩ := id lay
    have yl := Paired.length py
    refine ⟨_, rfl, D, rfl, ⟨_, sq_of kD⟩, fun G hG => ?_⟩
    have hGs := Ne.symm (hS.ne hG)
    refine lc_list (K := K) (a := D) (xs := ys) (fun i H' => ∃ xs, H' G = some (.lst xs) ∧ Paired (InnM K H H') xs (ls.take i) ∧ (∀ y ∈ xs, y ≠ .ref G) ∧ Dk s H H' ∧ Stm s H') ⟨[], upd_same, .nil, (fun _ z => by cases z), Dk.new hS.lst hG, hS.new hG⟩ (fun i H' _ ⟨_, _, _, _, d, _⟩ => sq_of (d.keep D _ hDs kD)) ?_ ?_
    · rintro i x H1 hi ⟨xs, kG, px, hx, d1, t1⟩
      obtain ⟨l, hl1, a, us, rfl, na, ka, pa⟩ := pget py hi
      have hi' := (List.getElem?_eq_some_iff.mp hl1).1
      have xl := Paired.length px
      rw [List.length_take] at xl
      have ul := Paired.length pa
      have hll := hl2 l (List.mem_of_getElem? hl1)
      have ka1 := d1.keep a _ na ka
      have pa1 : Paired (SumV K H1) us l := pmono (fun _ _ => SumV.dk hS.lst d1) pa
      refine ⟨rfl, ?_⟩
      refine ⟨_, rfl, a, us, rfl, .inl (sq_of ka1), fun c1 hc1 => ?_⟩
      have e2 : Ex H1 (upd H1 c1 (.lst us)) := Ex.new hc1
      have k2 : upd H1 c1 (.lst us) c1 = some (.lst us) := upd_same
      have c1G : c1 ≠ G := fun z => by rw [z, kG] at hc1; cases hc1
      have c1H : H c1 = none := by
        refine Option.eq_none_iff_forall_ne_some.mpr fun o ho => ?_
        have hcs : c1 ≠ s := Ne.symm (t1.ne hc1)
        rw [d1.keep c1 o hcs ho] at hc1
        cases hc1
      generalize upd H1 c1 (.lst us) = H2 at e2 k2 ⊢
      refine ⟨_, rfl, a, us, rfl, .inl ⟨sq_of (e2 _ _ ka1), fun t ht => ⟨(by show 2 ≤ sizeLine; decide), fun p hp => ?_⟩⟩⟩
      have e3 : Ex H2 (upd H2 t (.tup us)) := Ex.new ht
      have k3 : upd H2 t (.tup us) t = some (.tup us) := upd_same
      generalize upd H2 t (.tup us) = H3 at e3 k3 hp ⊢
      have e4 : Ex H3 (upd H3 p (.lst [.ref c1, .ref t])) := Ex.new hp
      have k4 : upd H3 p (.lst [.ref c1, .ref t]) p = some (.lst [.ref c1, .ref t]) := upd_same
      have ps : p ≠ s := Ne.symm ((t1.ex (e2.trans e3)).ne hp)
      generalize upd H3 p (.lst [.ref c1, .ref t]) = H4 at e4 k4 ⊢
      have E4 := e2.trans (e3.trans e4)
      refine ⟨_, rfl, s, _, rfl, t1.ex E4, by decide, by decide, fun d H5 a0 b0 r5 => ?_⟩
      obtain ⟨v, hv, hm⟩ := at_mem (xs := [V.ref c1, .ref t]) (d := d) a0 (by show d < 2; omega)
      refine ⟨p, _, d, v, rfl, rfl, sq_of (r5.keep p _ ps k4), hv, ?_⟩
      have d15 := (Dk.ex t1.lst E4).trans r5.dk
      have kG5 := d15.keep G _ hGs kG
      have new : InnM K H H5 v l ∧ v ≠ .ref G := by
        simp only [List.mem_cons, List.not_mem_nil, or_false] at hm
        rcases hm with rfl | rfl
        · refine ⟨.inl ⟨c1, us, rfl, c1H, r5.keep c1 _ (Ne.symm (t1.ne hc1)) ((e3.trans e4) _ _ k2), pmono (fun _ _ => SumV.dk t1.lst d15) pa1⟩, fun z => c1G (V.ref.inj z)⟩
        · refine ⟨.inr ⟨t, us, rfl, sqt_dk (t1.ex E4).lst r5.dk (st_of (e4 _ _ k3)), pmono (fun _ _ => SumV.dk t1.lst d15) pa1⟩, fun z => ?_⟩
          have := V.ref.inj z
          rw [this, e2 _ _ kG] at ht
          cases ht
      refine ⟨xs, kG5, sz_lt (by omega), xs ++ [v], upd_same, ?_, fun y hy => ?_, (d1.trans d15).mut hG (Ne.symm hGs), r5.st.mut (Ne.symm hGs)⟩
      · rw [take_snoc hl1]
        refine Paired.snoc (pair_of_get (Paired.length px) fun k y l' h1 h2 => ?_) (InnM.put' kG5 new.2 new.1)
        obtain ⟨l2, hl2', iy⟩ := pget px h1
        rw [h2] at hl2'
        cases hl2'
        exact InnM.put' kG5 (hx y (List.mem_of_getElem? h1)) (InnM.dk' hS.lst t1.lst d15 iy)
      · rcases List.mem_append.mp hy with h | h
        · exact hx y h
        · rw [List.mem_singleton.mp h]
          exact new.2
    rintro H1 ⟨xs, kG, px, hx, d1, t1⟩
    rw [yl, List.take_length] at px
    have xl := Paired.length px
    refine ⟨_, rfl, _, rfl, G, xs, rfl, .inl ⟨sq_of kG, fun t ht => ⟨(by show 2 ≤ sizeLine; decide), fun p hp => ?_⟩⟩⟩
    have e3 : Ex H1 (upd H1 t (.tup xs)) := Ex.new ht
    have k3 : upd H1 t (.tup xs) t = some (.tup xs) := upd_same
    generalize upd H1 t (.tup xs) = H3 at e3 k3 hp ⊢
    have e4 : Ex H3 (upd H3 p (.lst [.ref G, .ref t])) := Ex.new hp
    have k4 : upd H3 p (.lst [.ref G, .ref t]) p = some (.lst [.ref G, .ref t]) := upd_same
    have ps : p ≠ s := Ne.symm ((t1.ex e3).ne hp)
    generalize upd H3 p (.lst [.ref G, .ref t]) = H4 at e4 k4 ⊢
    have E4 := e3.trans e4
    refine ⟨_, rfl, s, _, rfl, t1.ex E4, by decide, by decide, fun d H5 a0 b0 r5 => ?_⟩
    obtain ⟨v, hv, hm⟩ := at_mem (xs := [V.ref G, .ref t]) (d := d) a0 (by show d < 2; omega)
    refine ⟨p, _, d, v, rfl, rfl, sq_of (r5.keep p _ ps k4), hv, ?_⟩
    have d15 := (Dk.ex t1.lst E4).trans r5.dk
    have px5 : Paired (InnM K H H5) xs ls := pmono (fun _ _ z => InnM.dk' hS.lst t1.lst d15 z) px
    have kG5 := d15.keep G _ hGs kG
    simp only [List.mem_cons, List.not_mem_nil, or_false] at hm
    rcases hm with rfl | rfl
    · exact q false _ H5 (d1.trans d15) r5.st ⟨G, xs, rfl, sq_of kG5, fun _ => ⟨hG, kG5, hx⟩, px5⟩
    · exact q true _ H5 (d1.trans d15) r5.st ⟨t, xs, rfl, sqt_dk (t1.ex E4).lst r5.dk (st_of (e4 _ _ k3)), (fun z => by cases z), px5⟩
end

end K07
end
section
set_option maxRecDepth 100000
set_option maxHeartbeats 400000
namespace K07
open PySem Evl Nc PyProof.Rows
open L2 hiding spCell
section
variable {P : Program} {w : World} {K : PySem.W.Frag} {mg : Str → Option Value} {base : Heap}
def spUnlike (K : PySem.W.Frag) : Sp := fun vs H Q _ => ∃ (s : Addr) (x : V) (r : Rat), vs = [.ref s, x] ∧ Stm s H ∧ FrV K H x r ∧ ∀ v u H', Dk s H H' → Stm s H' → FrV K H' v u → Sz 100 100 u → Q v H'
theorem ok__law_unlike (D : Df K mg "_law_unlike" s__law_unlike ["_law_stream_here", "_law_one"]) (GN : Ok P w K mg base 3 "_law_number" ["_law_stream_here"] (spNum K 100 100)) (mint : mg "int" = none) : Ok P w K mg base 4 "_law_unlike" ["_law_stream_here", "_law_one"] (spUnlike K) := by
  refine D.ok fun f fd F => F.ok sc__law_unlike (fun vs H Q E h => ?_) (fun cdv A outer s H vs Q E hr h => ?_)
  · obtain ⟨s, x, r, rfl, _⟩ := h
    rfl
  · obtain ⟨s, x, r, rfl, hS, hx, q⟩ := h
    refine ⟨_, (pss_cons (ps_set (i := 2) sc__law_unlike.nd rfl (.inl rfl) (cl GN hr (pa_cons (pv 0) pa_nil)))
      (pss_cons (ps_if (pt_cmpR (op_eqD hr.units) (pv 2) (pv 1) (nomark _)) (pss_one (ps_ret (pe_ix ix_list (pe_lstE (pa_cons (pe_tupE (pa_cons pe_int (pa_cons pe_int pa_nil))) (pa_cons (pe_tupE (pa_cons pe_int (pa_cons pe_int pa_nil))) pa_nil))) (pe_callTy call_int1 (by rfl) mint (by decide +kernel) (pa_cons (pe_cmpR (op_eqD hr.units) (pv 1) (pe_tupE (pa_cons pe_int (pa_cons pe_int pa_nil))) (nomark _)) pa_nil)) (fun _ _ => rfl)))) pss_nil)
      (pss_one (ps_ret (pv 2))))), ?_⟩
    refine ⟨_, rfl, s, rfl, hS, fun v u H1 r1 hv hs => ?_⟩
    have hx1 := hx.dk hS.lst r1.dk
    refine ⟨_, rfl, _, rfl, _, _, hv.dp, hx1.dp, shaped_fd _, shaped_fd _, _, rfl, ite2 (fun _ => ?_) (fun _ => ⟨_, rfl, q v u H1 r1.dk r1.st hv hs⟩)⟩
    refine ⟨(by show 2 ≤ sizeLine; decide), fun p1 H2 n2 e2 k2 => ⟨(by show 2 ≤ sizeLine; decide), fun p2 H3 n3 e3 k3 => ⟨(by show 2 ≤ sizeLine; decide), fun pL H4 n4 e4 k4 => ⟨_, rfl, (by show 2 ≤ sizeLine; decide), fun p3 H5 n5 e5 k5 => ?_⟩⟩⟩⟩
    have E5 := e2.trans (e3.trans (e4.trans e5))
    have f1 : FrV K H5 (.ref p1) 0 := ⟨p1, rfl, st_of ((e3.trans (e4.trans e5)) _ _ k2)⟩
    have n13 : ((1 : Rat) / 3).num = 1 ∧ ((1 : Rat) / 3).den = 3 := by decide +kernel
    have f2 : FrV K H5 (.ref p2) (1 / 3) := ⟨p2, rfl, by rw [n13.1, n13.2]; exact st_of ((e4.trans e5) _ _ k3)⟩
    have f3 : FrV K H5 (.ref p3) 0 := ⟨p3, rfl, st_of k5⟩
    refine ⟨_, _, (hx1.ex E5).dp, f3.dp, shaped_fd _, shaped_fd _, .inr ⟨_, rfl, ?_⟩⟩
    obtain ⟨w, hw, hm⟩ := at_mem (xs := [V.ref p1, .ref p2]) (d := if PyData.eqv (Nc.fd r) (Nc.fd 0) = true then 1 else 0) (by split <;> decide) (by
      show (if PyData.eqv (Nc.fd r) (Nc.fd 0) = true then (1 : Int) else 0) < 2
      split <;> decide)
    refine ⟨pL, _, _, w, rfl, rfl, sq_of (e5 _ _ k4), hw, ?_⟩
    simp only [List.mem_cons, List.not_mem_nil, or_false] at hm
    rcases hm with rfl | rfl
    · exact q _ _ H5 (r1.dk.then E5) (r1.st.ex E5) f1 ⟨by decide +kernel, by decide +kernel⟩
    · exact q _ _ H5 (r1.dk.then E5) (r1.st.ex E5) f2 ⟨by decide +kernel, by decide +kernel⟩
end

end K07
end
section
set_option maxRecDepth 100000
set_option maxHeartbeats 400000
namespace K07
open PySem Evl Nc PyProof.Rows
open L2 hiding spCell
section
variable {P : Program} {w : World} {K : PySem.W.Frag} {mg : Str → Option Value} {base : Heap}
theorem nodup_at {α : Type} {xs : List α} {i j : Nat} {a : α} (nd : xs.Nodup) (hi : xs[i]? = some a) (hj : xs[j]? = some a) : i = j := by
  obtain ⟨i1, rfl⟩ := List.getElem?_eq_some_iff.mp hi
  obtain ⟨j1, e⟩ := List.getElem?_eq_some_iff.mp hj
  rcases Nat.lt_trichotomy i j with h | h | h
  · exact absurd e.symm (List.pairwise_iff_getElem.mp nd i j i1 j1 h)
  · exact h
  · exact absurd e (List.pairwise_iff_getElem.mp nd j i j1 i1 h)
theorem over_init : ∀ {n : Nat} {ls : List (List Sum2)}, Over n ls → Over n ls.dropLast
  | _, [], _ => trivial
  | _, [_], _ => trivial
  | _, l :: l2 :: ls, ⟨o1, o2, o3⟩ => ⟨o1, o2, over_init (ls := l2 :: ls) o3⟩
theorem over_put : ∀ {n i : Nat} {ls : List (List Sum2)} {l l' : List Sum2}, Over n ls → ls[i]? = some l → (l'.length = l.length ∨ (i = ls.length - 1 ∧ 1 ≤ l'.length ∧ l'.length ≤ 4)) → (∀ m, (∀ z ∈ l, z.1.length = m) → ∀ z ∈ l', z.1.length = m) → Over n (ls.set i l')
  | _, _, [], _, _, _, h, _, _ => by simp at h
  | n, 0, l0 :: ls, l, l', ⟨o1, o2, o3⟩, h, hc, hm => by
    have e : l0 = l := by simpa using h
    subst e
    refine ⟨hm n o1, ?_, ?_⟩
    · rcases hc with e | ⟨_, c1, c2⟩
      · rw [e]
        exact o2
      · exact ⟨c1, c2⟩
    · rcases hc with e | ⟨e, _⟩
      · rw [e]
        exact o3
      · have : ls = [] := List.eq_nil_of_length_eq_zero (by simp at e; omega)
        subst this
        exact trivial
  | n, i + 1, l0 :: ls, l, l', ⟨o1, o2, o3⟩, h, hc, hm => by
    have h' : ls[i]? = some l := by simpa using h
    have hi := (List.getElem?_eq_some_iff.mp h').1
    refine ⟨o1, o2, over_put o3 h' ?_ hm⟩
    rcases hc with e | ⟨e, c⟩
    · exact .inl e
    · exact .inr ⟨by simp at e; omega, c⟩
theorem lys_put {n i : Nat} {ls : List (List Sum2)} {l l' : List Sum2} (ok : LysOk n ls) (hl : ls[i]? = some l) (hc : l'.length = l.length ∨ (i = ls.length - 1 ∧ 1 ≤ l'.length ∧ l'.length ≤ 4)) (hm : ∀ m, (∀ z ∈ l, z.1.length = m) → ∀ z ∈ l', z.1.length = m) (hn : ∀ z ∈ l', SzL 100 100 z.1 ∧ Sz 100 100 z.2) : LysOk n (ls.set i l') := by
  refine ⟨ok.n1, ok.n3, over_put ok.over hl hc hm, by rw [List.length_set]; exact ok.l1, by rw [List.length_set]; exact ok.l4, fun x hx z hz => ?_⟩
  rcases List.mem_or_eq_of_mem_set hx with h | rfl
  · exact ok.nu x h z hz
  · exact hn z hz
theorem lys_init {n : Nat} {ls : List (List Sum2)} (ok : LysOk n ls) (h : 1 < ls.length) : LysOk n ls.dropLast :=
  ⟨ok.n1, ok.n3, over_init ok.over, by rw [List.length_dropLast]; omega, by have := ok.l4; rw [List.length_dropLast]; omega, fun l hl => ok.nu l ((List.dropLast_sublist _).subset hl)⟩
theorem over_pos : ∀ {n : Nat} {ls : List (List Sum2)}, 1 ≤ n → Over n ls → ∀ l ∈ ls, 1 ≤ l.length ∧ l.length ≤ 4 ∧ ∀ z ∈ l, 1 ≤ z.1.length
  | _, [], _, _, l, h => by cases h
  | n, l0 :: ls, hn, ⟨o1, o2, o3⟩, l, h => by
    rcases List.mem_cons.mp h with rfl | h
    · exact ⟨o2.1, o2.2, fun z hz => by rw [o1 z hz]; exact hn⟩
    · exact over_pos o2.1 o3 l h
theorem over_rl : ∀ {n : Nat} {ls : List (List Sum2)}, n ≤ 4 → Over n ls → ∀ l ∈ ls, ∀ z ∈ l, z.1.length ≤ 4
  | _, [], _, _, l, h => by cases h
  | n, l0 :: ls, hn, ⟨o1, o2, o3⟩, l, h => by
    rcases List.mem_cons.mp h with rfl | h
    · intro z hz
      rw [o1 z hz]
      exact hn
    · exact over_rl o2.2 o3 l h
/-- a new list of sums -/
def LyC (K : PySem.W.Frag) (H0 H : Hp) (v : V) (l : List Sum2) : Prop := ∃ b us, v = .ref b ∧ H0 b = none ∧ H b = some (.lst us) ∧ Paired (SumV K H) us l
/-- a new list of new lists -/
def LayC (K : PySem.W.Frag) (H0 H : Hp) (F : Addr) (ls : List (List Sum2)) : Prop := ∃ xs, H F = some (.lst xs) ∧ H0 F = none ∧ xs.Nodup ∧ (∀ y ∈ xs, y ≠ .ref F) ∧ Paired (LyC K H0 H) xs ls
theorem LyC.dk' {K : PySem.W.Frag} {s : Addr} {H0 H H' : Hp} {v : V} {l : List Sum2} (h0 : Lst s H0) (hs : Lst s H) (d : Dk s H H') (h : LyC K H0 H v l) : LyC K H0 H' v l := by
  obtain ⟨b, us, e, n, k, p⟩ := h
  exact ⟨b, us, e, n, d.keep b _ (Ne.symm (h0.ne n)) k, pmono (fun _ _ => SumV.dk hs d) p⟩
theorem LayC.dk' {K : PySem.W.Frag} {s F : Addr} {H0 H H' : Hp} {ls : List (List Sum2)} (h0 : Lst s H0) (hs : Lst s H) (d : Dk s H H') (h : LayC K H0 H F ls) : LayC K H0 H' F ls := by
  obtain ⟨xs, k, n, nd, ne, p⟩ := h
  exact ⟨xs, d.keep F _ (Ne.symm (h0.ne n)) k, n, nd, ne, pmono (fun _ _ => LyC.dk' h0 hs d) p⟩
theorem LayC.put' {K : PySem.W.Frag} {F b : Addr} {H0 H : Hp} {ls : List (List Sum2)} {xs us us' : List V} {i : Nat} {l l' : List Sum2} (h : LayC K H0 H F ls) (kF : H F = some (.lst xs)) (hb : xs[i]? = some (.ref b)) (kb : H b = some (.lst us)) (hl : ls[i]? = some l) (p' : Paired (SumV K H) us' l') : LayC K H0 (upd H b (.lst us')) F (ls.set i l') := by
  obtain ⟨ys, k, n, nd, ne, p⟩ := h
  rw [kF] at k
  cases k
  have hbF : F ≠ b := fun z => ne _ (List.mem_of_getElem? hb) (by rw [z])
  have hi := (List.getElem?_eq_some_iff.mp hl).1
  refine ⟨xs, by rw [upd_ne hbF]; exact kF, n, nd, ne, pair_of_get (by rw [List.length_set]; exact Paired.length p) fun j y m h1 h2 => ?_⟩
  obtain ⟨m', hm', c, ws, rfl, nc, kc, pc⟩ := pget p h1
  by_cases e : j = i
  · subst e
    rw [hb] at h1
    cases h1
    rw [List.getElem?_set_self hi] at h2
    cases h2
    exact ⟨_, us', rfl, nc, upd_same, pmono (fun _ _ => SumV.mut kb) p'⟩
  · rw [List.getElem?_set_ne (Ne.symm e)] at h2
    rw [h2] at hm'
    cases hm'
    have hcb : c ≠ b := fun z => by
      subst z
      exact e (nodup_at nd h1 hb)
    exact ⟨c, ws, rfl, nc, by rw [upd_ne hcb]; exact kc, pmono (fun _ _ => SumV.mut kb) pc⟩
theorem LayC.s' {K : PySem.W.Frag} {s F : Addr} {H0 H : Hp} {ls : List (List Sum2)} (h0 : Lst s H0) (h : LayC K H0 H F ls) : LayS K s H F ls := by
  obtain ⟨xs, k, n, nd, ne, p⟩ := h
  exact ⟨Ne.symm (h0.ne n), xs, k, pmono (fun _ _ ⟨b, us, e, nb, kb, pb⟩ => ⟨b, us, e, Ne.symm (h0.ne nb), kb, pb⟩) p⟩
theorem pair_rev {α β : Type} {R : α → β → Prop} : ∀ {xs : List α} {ys : List β}, Paired R xs ys → Paired R xs.reverse ys.reverse
  | _, _, .nil => .nil
  | x :: xs, y :: ys, .cons h t => by
    rw [List.reverse_cons, List.reverse_cons]
    exact pair_app (pair_rev t) (.cons h .nil)
theorem pair_set {α β : Type} {R : α → β → Prop} {xs : List α} {ys : List β} {j : Nat} {v : α} {z : β} (p : Paired R xs ys) (h : R v z) : Paired R (xs.set j v) (ys.set j z) := by
  have hl := Paired.length p
  refine pair_of_get (by rw [List.length_set, List.length_set]; exact hl) fun k x y h1 h2 => ?_
  by_cases e : k = j
  · subst e
    by_cases hk : k < xs.length
    · rw [List.getElem?_set_self hk] at h1
      rw [List.getElem?_set_self (by omega)] at h2
      cases h1
      cases h2
      exact h
    · rw [List.getElem?_eq_none (by rw [List.length_set]; omega)] at h1
      cases h1
  · rw [List.getElem?_set_ne (Ne.symm e)] at h1 h2
    obtain ⟨y', hy, r⟩ := pget p h1
    rw [h2] at hy
    cases hy
    exact r
def spOther (K : PySem.W.Frag) : Sp := fun vs H Q _ => ∃ (s D : Addr) (n : Nat) (ls : List (List Sum2)), vs = [.ref s, .ref D] ∧ Stm s H ∧ LayS K s H D ls ∧ LysOk n ls ∧ ∀ D' ls' H', Dk s H H' → Stm s H' → LayS K s H' D' ls' → LysOk n ls' → Q (.ref D') H'
/-- the row put so: its parts, read from the left -/
theorem put_row {K : PySem.W.Frag} {H : Hp} {xs : List V} {L : List Rat} {i : Nat} {v : V} {r : Rat} (pl : FrL K H xs L) (hv : FrV K H v r) : FrL K H (xs.take i ++ [v] ++ xs.drop (i + 1)) (putAt L i r) :=
  pair_app (pair_app (pair_take pl) (.cons hv .nil)) (pair_drop pl)
theorem ok__law_other (D : Df K mg "_law_other" s__law_other ["_law_stream_here", "_law_layers_here"]) (GT : Ok P w K mg base 1 "_law_take" ["_law_stream_here", "_law_many"] spTake) (GU : Ok P w K mg base 4 "_law_unlike" ["_law_stream_here", "_law_one"] (spUnlike K)) (mlen : mg "len" = none) (mlist : mg "list" = none) : Ok P w K mg base 5 "_law_other" ["_law_stream_here", "_law_layers_here"] (spOther K) := by
  refine D.ok fun f fd F => F.ok sc__law_other (fun vs H Q E h => ?_) (fun cdv A outer s H vs Q E hr h => ?_)
  · obtain ⟨s, D, n, ls, rfl, _⟩ := h
    rfl
  · obtain ⟨s, D, n, ls, rfl, hS, lay, ok, q⟩ := h
    have hr1 : Room 1 _ := hr.mono (by decide)
    refine ⟨_, (pss_cons (ps_setLc (i := 2) (own := [("_law_nodes", 9)]) (g := gName 9) (tt := tYes) rfl sc__law_other.nd rfl rfl (sw_true rfl rfl rfl (by decide +kernel)) (pi_list (pv 1)) (blkOk_by (N := ["_law_stream_here", "_law_layers_here", "_law_found", "_law_way", "_law_layer", "_law_node_here", "_law_row", "_law_number_here", "_law_place", "_law_nodes"]) (sc := defScope s__law_other) (by decide +kernel)) (fun _ _ _ _ _ => (pg_name (i := 9) sc__law_other.nd rfl (.inl rfl))) (fun _ _ _ _ _ => pts_nil) (fun _ _ _ _ _ => pe_callTy (T := "list") (call_lstK K) (by rfl) mlist (by decide +kernel) (pa_cons (pv 9) pa_nil)))
      (pss_cons (ps_set (i := 3) sc__law_other.nd rfl (.inl rfl) (cl GT hr1 (pa_cons (pv 0) (pa_cons pe_int pa_nil))))
      (pss_cons (ps_set (i := 4) sc__law_other.nd rfl (.inl rfl) (cl GT hr1 (pa_cons (pv 0) (pa_cons (pe_callB call_len_seq (by rfl) mlen PySem.boot_len (pa_cons (pv 2) pa_nil)) pa_nil))))
      (pss_cons (ps_set (i := 5) sc__law_other.nd rfl (.inl rfl) (cl GT hr1 (pa_cons (pv 0) (pa_cons (pe_callB call_len_seq (by rfl) mlen PySem.boot_len (pa_cons (pe_ix ix_list (pv 2) (pv 4) (fun _ _ => rfl)) pa_nil)) pa_nil))))
      (pss_cut (ps_if (PW.pt (pw_and (pt_cmpR op_eq (pv 3) pe_int (nomark _)) (pw_and1 (pt_cmpR op_gt (pe_callB call_len_seq (by rfl) mlen PySem.boot_len (pa_cons (pv 2) pa_nil)) pe_int (nomark _))))) (pss_one (ps_ret (pe_slice sl_listE (pv 2) po_none (po_some (pe_un un_neg pe_int))))) pss_nil)
      (pss_cut (ps_if (PW.pt (pw_and (pt_cmpR op_eq (pv 3) pe_int (nomark _)) (pw_and1 (pt_cmpR op_gt (pe_callB call_len_seq (by rfl) mlen PySem.boot_len (pa_cons (pe_ix ix_list (pv 2) (pe_un un_neg pe_int) (fun _ _ => rfl)) pa_nil)) pe_int (nomark _))))) (pss_cons (ps_expr (pe_bm0 PySem.F.plainAttrs_list PySem.F.slot_list_pop PySem.F.type_list_pop mt_pop (pe_ix ix_list (pv 2) (pe_un un_neg pe_int) (fun _ _ => rfl))))
      (pss_one (ps_ret (pv 2)))) pss_nil)
      (pss_cut (ps_if (pt_cmpR op_eq (pv 3) pe_int (nomark _)) (pss_cons (ps_expr (pe_bm0 PySem.F.plainAttrs_list PySem.F.slot_list_reverse PySem.F.type_list_reverse mt_reverse (pe_ix ix_list (pv 2) (pe_un un_neg pe_int) (fun _ _ => rfl))))
      (pss_one (ps_ret (pv 2)))) pss_nil)
      (pss_cons (ps_asg (pe_ix ix_list (pe_ix ix_list (pv 2) (pv 4) (fun _ _ => rfl)) (pv 5) (fun _ _ => rfl)) (pg_tup rfl (pgs_cons (pg_name (i := 6) sc__law_other.nd rfl (.inl rfl)) (pgs_cons (pg_name (i := 7) sc__law_other.nd rfl (.inl rfl)) pgs_nil))))
      (pss_cons (ps_set (i := 8) sc__law_other.nd rfl (.inl rfl) (cl GT hr1 (pa_cons (pv 0) (pa_cons (pe_callB call_len_seq (by rfl) mlen PySem.boot_len (pa_cons (pv 6) pa_nil)) pa_nil))))
      (pss_cut (ps_if (pt_cmpR op_eq (pv 3) pe_int (nomark _)) (pss_one (ps_asg (pe_tup (pa_cons (pe_op (op_catTE K) (pe_op (op_catTE K) (pe_slice (sl_tupE K) (pv 6) po_none (po_some (pv 8))) (pe_tup (pa_cons (cl GU hr (pa_cons (pv 0) (pa_cons (pe_ix ix_tup (pv 6) (pv 8) (fun _ _ => rfl)) pa_nil))) pa_nil))) (pe_slice (sl_tupE K) (pv 6) (po_some (pe_op op_add (pv 8) pe_int)) po_none)) (pa_cons (pv 7) pa_nil))) (pg_sub (pe_ix ix_list (pv 2) (pv 4) (fun _ _ => rfl)) (pv 5) set_list))) (pss_one (ps_if (pt_cmpR op_eq (pv 3) pe_int (nomark _)) (pss_one (ps_asg (pe_tup (pa_cons (pe_op (op_catTE K) (pe_slice (sl_tupE K) (pv 6) (po_some (pv 8)) po_none) (pe_slice (sl_tupE K) (pv 6) po_none (po_some (pv 8)))) (pa_cons (pv 7) pa_nil))) (pg_sub (pe_ix ix_list (pv 2) (pv 4) (fun _ _ => rfl)) (pv 5) set_list))) (pss_one (ps_asg (pe_tup (pa_cons (pv 6) (pa_cons (cl GU hr (pa_cons (pv 0) (pa_cons (pv 7) pa_nil))) pa_nil))) (pg_sub (pe_ix ix_list (pv 2) (pv 4) (fun _ _ => rfl)) (pv 5) set_list))))))
      (pss_one (ps_ret (pv 2))))))))))))), ?_⟩
    obtain ⟨hDs, ys, kD, py⟩ := id lay
    have yl := Paired.length py
    have l1 := ok.l1
    have l4 := ok.l4
    have n1 := ok.n1
    have n3 := ok.n3
    refine ⟨_, rfl, D, rfl, ⟨_, sq_of kD⟩, fun F hF => ?_⟩
    have hFs := Ne.symm (hS.ne hF)
    refine lc_list (K := K) (a := D) (xs := ys) (fun i H' => ∃ xs, H' F = some (.lst xs) ∧ xs.Nodup ∧ (∀ y ∈ xs, y ≠ .ref F) ∧ Paired (LyC K H H') xs (ls.take i) ∧ Ex H H') ⟨[], upd_same, .nil, (fun _ z => by cases z), .nil, Ex.new hF⟩ (fun i H' _ ⟨_, _, _, _, _, e⟩ => sq_of (e _ _ kD)) ?_ ?_
    · rintro i x H1 hi ⟨xs, kF, nd, hx, px, e1⟩
      obtain ⟨l, hl1, a, us, rfl, na, ka, pa⟩ := pget py hi
      have hi' := (List.getElem?_eq_some_iff.mp hl1).1
      have xl := Paired.length px
      rw [List.length_take] at xl
      refine ⟨rfl, ?_⟩
      refine ⟨_, rfl, a, us, rfl, .inl (sq_of (e1 _ _ ka)), fun b hb => ?_⟩
      have e2 : Ex H1 (upd H1 b (.lst us)) := Ex.new hb
      have k2 : upd H1 b (.lst us) b = some (.lst us) := upd_same
      have bF : b ≠ F := fun z => by rw [z, kF] at hb; cases hb
      have bH := none_of e1 hb
      have kF2 := e2 _ _ kF
      have nd2 : (xs ++ [V.ref b]).Nodup := by
        rw [List.nodup_append]
        refine ⟨nd, by simp, fun y hy z hz => ?_⟩
        rw [List.mem_singleton.mp hz]
        rintro rfl
        obtain ⟨k, hk⟩ := List.mem_iff_getElem?.mp hy
        obtain ⟨_, _, c, ws, ec, _, kc, _⟩ := pget px hk
        cases ec
        rw [hb] at kc
        cases kc
      generalize upd H1 b (.lst us) = H2 at e2 k2 kF2 ⊢
      refine ⟨xs, kF2, sz_lt (by omega), xs ++ [.ref b], upd_same, nd2, fun y hy => ?_, ?_, Ex.mut (e1.trans e2) hF⟩
      · rcases List.mem_append.mp hy with h | h
        · exact hx y h
        · rw [List.mem_singleton.mp h]
          exact fun z => bF (V.ref.inj z)
      · rw [take_snoc hl1]
        refine Paired.snoc (pair_of_get (Paired.length px) fun k y m h1 h2 => ?_) ⟨b, us, rfl, bH, by rw [upd_ne bF]; exact k2, pmono (fun _ _ z => SumV.mut kF2 (SumV.ex (e1.trans e2) z)) pa⟩
        obtain ⟨m', hm', c, ws, rfl, nc, kc, pc⟩ := pget px h1
        rw [h2] at hm'
        cases hm'
        have cF : c ≠ F := fun z => hx _ (List.mem_of_getElem? h1) (by rw [z])
        exact ⟨c, ws, rfl, nc, by rw [upd_ne cF]; exact e2 _ _ kc, pmono (fun _ _ z => SumV.mut kF2 (SumV.ex e2 z)) pc⟩
    rintro H1 ⟨xs, kF, nd, hx, px, e1⟩
    rw [yl, List.take_length] at px
    have xl := Paired.length px
    have cp1 : LayC K H H1 F ls := ⟨xs, kF, hF, nd, hx, px⟩
    have t1 := hS.ex e1
    have D01 := Dk.ex hS.lst e1
    -- which way, which layer, which node
    refine ⟨_, rfl, s, _, rfl, t1, by decide, by decide, fun wy H2 w0 w1 r2 => ?_⟩
    have cp2 := LayC.dk' hS.lst t1.lst r2.dk cp1
    have kF2 := r2.keep F _ hFs kF
    refine ⟨_, rfl, _, rfl, F, xs, rfl, .inl (sq_of kF2), s, _, rfl, r2.st, by omega, by omega, fun dl H3 a3 b3 r3 => ?_⟩
    obtain ⟨i, rfl⟩ : ∃ i : Nat, dl = (i : Int) := ⟨dl.toNat, by omega⟩
    have hil : i < ls.length := by omega
    obtain ⟨l, hl⟩ : ∃ l, ls[i]? = some l := ⟨_, List.getElem?_eq_getElem hil⟩
    have cp3 := LayC.dk' hS.lst r2.st.lst r3.dk cp2
    have kF3 := r3.keep F _ hFs kF2
    obtain ⟨xs', kF3', _, _, _, p3⟩ := id cp3
    rw [kF3] at kF3'
    cases kF3'
    obtain ⟨vb, hvb, b, us, rfl, nb, kb, pb⟩ := pget' p3 hl
    have ul := Paired.length pb
    obtain ⟨lp1, lp4, lrow⟩ := over_pos n1 ok.over l (List.mem_of_getElem? hl)
    have lr4 := over_rl (by omega) ok.over l (List.mem_of_getElem? hl)
    refine ⟨_, rfl, _, rfl, _, rfl, F, xs, _, _, rfl, rfl, sq_of kF3, atI_nat hvb, b, us, rfl, .inl (sq_of kb), s, _, rfl, r3.st, by omega, by omega, fun dn H4 a4 b4 r4 => ?_⟩
    obtain ⟨j, rfl⟩ : ∃ j : Nat, dn = (j : Int) := ⟨dn.toNat, by omega⟩
    have cp4 := LayC.dk' hS.lst r3.st.lst r4.dk cp3
    have kF4 := r4.keep F _ hFs kF3
    have D04 := ((D01.trans r2.dk).trans r3.dk).trans r4.dk
    have t4 := r4.st
    have lays4 := LayC.s' hS.lst cp4
    have ret : ∀ {H5 ls'}, Dk s H H5 → Stm s H5 → LayC K H H5 F ls' → LysOk n ls' → Q (.ref F) H5 := fun d t c k => q F _ _ d t (LayC.s' hS.lst c) k
    have hneX : xs ≠ [] := fun z => by rw [z] at xl; simp at xl; omega
    -- the last layer
    obtain ⟨lL, hlL⟩ : ∃ l, ls[ls.length - 1]? = some l := ⟨_, List.getElem?_eq_getElem (by omega)⟩
    obtain ⟨xs4, kF4', _, nd4, _, p4⟩ := id cp4
    rw [kF4] at kF4'
    cases kF4'
    obtain ⟨vL, hvL, bL, usL, rfl, nbL, kbL, pbL⟩ := pget' p4 hlL
    have ulL := Paired.length pbL
    obtain ⟨lL1, lL4, lLrow⟩ := over_pos n1 ok.over lL (List.mem_of_getElem? hlL)
    have hvL2 : xs[xs.length - 1]? = some (V.ref bL) := by rw [xl]; exact hvL
    have nuL := ok.nu lL (List.mem_of_getElem? hlL)
    have bLs := Ne.symm (hS.ne nbL)
    -- all but the last layer
    refine ⟨fun σ H' => σ = [some (.ref s), some (.ref D), some (.ref F), some (.int wy), some (.int (i : Int)), some (.int (j : Int)), none, none, none, none] ∧ H4 = H', ?_, ?_⟩
    · refine ⟨_, rfl, rfl, _, rfl, ite2 (fun h1 => ⟨_, rfl, F, xs, rfl, .inl (sq_of kF4), _, _, rfl, rfl, _, rfl, ite2 (fun h2 => ?_) (fun _ => ⟨rfl, rfl⟩)⟩) (fun _ => iteF ⟨rfl, rfl⟩)⟩
      have h2 := of_decide_eq_true h2
      refine ⟨_, rfl, _, rfl, _, rfl, F, xs, rfl, sq_of kF4, fun pS H5 hS5 e5 kS => ?_⟩
      rw [cut_init hneX] at kS
      obtain ⟨_, zs, kz, pz⟩ := lays4
      rw [kF4] at kz
      cases kz
      exact q pS ls.dropLast H5 (D04.then e5) (t4.ex e5) ⟨Ne.symm (t4.ne hS5), xs.dropLast, kS, pair_init (pmono (fun _ _ => LyS.ex e5) pz)⟩ (lys_init ok (by omega))
    rintro σ H' ⟨rfl, rfl⟩
    refine ⟨fun σ H' => σ = [some (.ref s), some (.ref D), some (.ref F), some (.int wy), some (.int (i : Int)), some (.int (j : Int)), none, none, none, none] ∧ H4 = H', ?_, ?_⟩
    · refine ⟨_, rfl, rfl, _, rfl, ite2 (fun h1 => ⟨_, rfl, 1, rfl, F, xs, _, _, rfl, rfl, sq_of kF4, at_last hvL2, bL, usL, rfl, .inl (sq_of kbL), _, _, rfl, rfl, _, rfl, ite2 (fun h2 => ?_) (fun _ => ⟨rfl, rfl⟩)⟩) (fun _ => iteF ⟨rfl, rfl⟩)⟩
      have h2 := of_decide_eq_true h2
      obtain ⟨y, hy⟩ : ∃ y, usL[usL.length - 1]? = some y := ⟨_, List.getElem?_eq_getElem (by omega)⟩
      refine ⟨_, rfl, 1, rfl, F, xs, _, _, rfl, rfl, sq_of kF4, at_last hvL2, .inl ⟨rfl, _, sq_of kbL⟩, bL, usL, y, rfl, rfl, kbL, hy, _, rfl, ?_⟩
      refine ret (D04.mut nbL (Ne.symm bLs)) (t4.mut (Ne.symm bLs)) (LayC.put' cp4 kF4 hvL kbL hlL (pair_init pbL)) (lys_put ok hlL (.inr ⟨rfl, by rw [List.length_dropLast]; omega, by rw [List.length_dropLast]; omega⟩) (fun m hm z hz => hm z ((List.dropLast_sublist _).subset hz)) (fun z hz => nuL z ((List.dropLast_sublist _).subset hz)))
    rintro σ H' ⟨rfl, rfl⟩
    refine ⟨fun σ H' => σ = [some (.ref s), some (.ref D), some (.ref F), some (.int wy), some (.int (i : Int)), some (.int (j : Int)), none, none, none, none] ∧ H4 = H', ?_, ?_⟩
    · refine ⟨_, rfl, rfl, _, rfl, ite2 (fun h1 => ?_) (fun _ => ⟨rfl, rfl⟩)⟩
      refine ⟨_, rfl, 1, rfl, F, xs, _, _, rfl, rfl, sq_of kF4, at_last hvL2, .inl ⟨rfl, _, sq_of kbL⟩, bL, usL, rfl, rfl, kbL, _, rfl, ?_⟩
      refine ret (D04.mut nbL (Ne.symm bLs)) (t4.mut (Ne.symm bLs)) (LayC.put' cp4 kF4 hvL kbL hlL (pair_rev pbL)) (lys_put ok hlL (.inl (List.length_reverse ..)) (fun m hm z hz => hm z (List.mem_reverse.mp hz)) (fun z hz => nuL z (List.mem_reverse.mp hz)))
    rintro σ H' ⟨rfl, rfl⟩
    -- the node
    have hkb4 : H4 b = some (.lst us) := r4.keep b _ (Ne.symm (hS.ne nb)) kb
    have pb4 : Paired (SumV K H4) us l := pmono (fun _ _ => SumV.dk r3.st.lst r4.dk) pb
    have hjl : j < l.length := by omega
    obtain ⟨z, hz⟩ : ∃ z, l[j]? = some z := ⟨_, List.getElem?_eq_getElem hjl⟩
    have hzm := List.mem_of_getElem? hz
    have nul := ok.nu l (List.mem_of_getElem? hl)
    have zr1 := lrow z hzm
    have zr4 := lr4 z hzm
    obtain ⟨vz, hvz, t, vr, vn, rfl, qt, ⟨ta, rs, rfl, qa, pa⟩, fn⟩ := pget' pb4 hz
    have rl := Paired.length pa
    refine ⟨_, rfl, _, rfl, F, xs, _, _, rfl, rfl, sq_of kF4, atI_nat hvb, _, rfl, b, us, _, _, rfl, rfl, sq_of hkb4, atI_nat hvz, t, [.ref ta, vn], rfl, qt, rfl, .ref ta, [vn], rfl, vn, [], rfl, rfl, ?_⟩
    refine ⟨_, rfl, _, rfl, ta, rs, rfl, .inr qa, s, _, rfl, t4, by omega, by omega, fun dp H5 a5 b5 r5 => ?_⟩
    obtain ⟨k, rfl⟩ : ∃ k : Nat, dp = (k : Int) := ⟨dp.toNat, by omega⟩
    have hkr : k < z.1.length := by omega
    have D05 := D04.trans r5.dk
    have cp5 := LayC.dk' hS.lst t4.lst r5.dk cp4
    have bs : b ≠ s := Ne.symm (hS.ne nb)
    have qa5 := sqt_dk t4.lst r5.dk qa
    have pa5 : FrL K H5 rs z.1 := pmono (fun _ _ => FrV.dk t4.lst r5.dk) pa
    have fn5 := fn.dk t4.lst r5.dk
    -- a new node put there
    have fin : ∀ {H6 : Hp} {v : V} {z' : Sum2}, Dk s H5 H6 → Stm s H6 → SumV K H6 v z' → z'.1.length = z.1.length → SzL 100 100 z'.1 → Sz 100 100 z'.2 → H6 F = some (.lst xs) ∧ H6 b = some (.lst us) ∧ ∃ ls', Dk s H (upd H6 b (.lst (us.set j v))) ∧ Stm s (upd H6 b (.lst (us.set j v))) ∧ LayC K H (upd H6 b (.lst (us.set j v))) F ls' ∧ LysOk n ls' := by
      intro H6 v z' d t6 hv e s1 s2
      have kF6 := d.keep F _ hFs (r5.keep F _ hFs kF4)
      have kb6 := d.keep b _ bs (r5.keep b _ bs hkb4)
      have cp6 := LayC.dk' hS.lst r5.st.lst d cp5
      have pb6 : Paired (SumV K H6) us l := pmono (fun _ _ h => SumV.dk r5.st.lst d (SumV.dk t4.lst r5.dk h)) pb4
      refine ⟨kF6, kb6, ls.set i (l.set j z'), (D05.trans d).mut nb (Ne.symm bs), t6.mut (Ne.symm bs), LayC.put' cp6 kF6 hvb kb6 hl (pair_set pb6 hv), lys_put ok hl (.inl (List.length_set ..)) (fun m hm y hy => ?_) (fun y hy => ?_)⟩
      · rcases List.mem_or_eq_of_mem_set hy with h | rfl
        · exact hm y h
        · rw [e]
          exact hm z hzm
      · rcases List.mem_or_eq_of_mem_set hy with h | rfl
        · exact nul y h
        · exact ⟨s1, s2⟩
    have hixj : ixN us.length (j : Int) = some j := by
      unfold ixN
      rw [if_pos (by omega), if_pos (by omega)]
      rfl
    obtain ⟨sz1, sz2⟩ := nul z hzm
    refine ⟨fun σ H' => (∃ o6 o7 o8, σ = [some (.ref s), some (.ref D), some (.ref F), some (.int wy), some (.int (i : Int)), some (.int (j : Int)), o6, o7, o8, none]) ∧ ∃ ls', Dk s H H' ∧ Stm s H' ∧ LayC K H H' F ls' ∧ LysOk n ls', ?_, ?_⟩
    · refine ⟨_, rfl, rfl, _, rfl, ite2 (fun _ => ?_) (fun _ => ⟨_, rfl, rfl, _, rfl, ite2 (fun _ => ?_) (fun _ => ?_)⟩)⟩
      · refine ⟨_, rfl, _, rfl, _, rfl, ta, rs, rfl, qa5, fun p1 H6 e6 q6 => ?_⟩
        rw [cut_to (by omega)] at q6
        obtain ⟨r0, hr0⟩ : ∃ r, z.1[k]? = some r := ⟨_, List.getElem?_eq_getElem hkr⟩
        obtain ⟨w0, hw0, fw0⟩ := pget' pa5 hr0
        have t6 := r5.st.ex e6
        refine ⟨_, rfl, _, rfl, _, rfl, ta, rs, _, _, rfl, rfl, ex_t e6 qa5, atI_nat hw0, s, w0, r0, rfl, t6, fw0.ex e6, fun w u H7 d7 t7 hw su => ⟨(by show 1 ≤ sizeLine; decide), fun p2 hp2 => ?_⟩⟩
        have e8 : Ex H7 (upd H7 p2 (.tup [w])) := Ex.new hp2
        have k8 : upd H7 p2 (.tup [w]) p2 = some (.tup [w]) := upd_same
        generalize upd H7 p2 (.tup [w]) = H8 at e8 k8 ⊢
        have d68 := d7.then e8
        have q68 := sqt_dk t6.lst d68 q6
        refine ⟨p1, p2, _, _, rfl, rfl, q68, st_of k8, Nat.le_of_lt (sz_lt (by simp; omega)), fun p3 H9 e9 q9 => ?_⟩
        have d59 := ((Dk.ex r5.st.lst e6).trans d68).then e9
        have qa9 := sqt_dk r5.st.lst d59 qa5
        refine ⟨_, rfl, _, rfl, _, _, rfl, rfl, _, rfl, ta, rs, rfl, qa9, fun p4 HA eA qA => ?_⟩
        rw [show (k : Int) + 1 = ((k + 1 : Nat) : Int) by omega, cut_from (by omega)] at qA
        refine ⟨p3, p4, _, _, rfl, rfl, ex_t eA q9, qA, Nat.le_of_lt (sz_lt (by simp; omega)), fun p5 HB eB qB => ⟨_, rfl, (by show 2 ≤ sizeLine; decide), fun p6 hp6 => ?_⟩⟩
        have eC : Ex HB (upd HB p6 (.tup [.ref p5, vn])) := Ex.new hp6
        have kC : upd HB p6 (.tup [.ref p5, vn]) p6 = some (.tup [.ref p5, vn]) := upd_same
        generalize upd HB p6 (.tup [.ref p5, vn]) = HC at eC kC ⊢
        have e9C := eA.trans (eB.trans eC)
        have d5C := d59.then e9C
        have tC := (t7.ex e8).ex (e9.trans e9C)
        have node : SumV K HC (.ref p6) (putAt z.1 k u, z.2) := ⟨p6, .ref p5, vn, rfl, st_of kC, ⟨p5, _, rfl, ex_t eC qB, put_row (pmono (fun _ _ h => FrV.dk r5.st.lst d5C h) pa5) (hw.ex (e8.trans (e9.trans e9C)))⟩, fn5.dk r5.st.lst d5C⟩
        obtain ⟨kFC, kbC, ls', h1, h2, h3, h4⟩ := fin d5C tC node (len_put hkr) (sz_put sz1 su) sz2
        exact ⟨_, rfl, _, rfl, F, xs, _, _, rfl, rfl, sq_of kFC, atI_nat hvb, _, rfl, b, us, _, j, rfl, rfl, kbC, hixj, ⟨_, _, _, rfl⟩, ls', h1, h2, h3, h4⟩
      · refine ⟨_, rfl, _, rfl, _, rfl, ta, rs, rfl, qa5, fun p1 H6 e6 q6 => ?_⟩
        rw [cut_from (by omega)] at q6
        refine ⟨_, rfl, _, rfl, _, rfl, ta, rs, rfl, ex_t e6 qa5, fun p2 H7 e7 q7 => ?_⟩
        rw [cut_to (by omega)] at q7
        refine ⟨p1, p2, _, _, rfl, rfl, ex_t e7 q6, q7, Nat.le_of_lt (sz_lt (by simp; omega)), fun p5 HB eB qB => ⟨_, rfl, (by show 2 ≤ sizeLine; decide), fun p6 hp6 => ?_⟩⟩
        have eC : Ex HB (upd HB p6 (.tup [.ref p5, vn])) := Ex.new hp6
        have kC : upd HB p6 (.tup [.ref p5, vn]) p6 = some (.tup [.ref p5, vn]) := upd_same
        generalize upd HB p6 (.tup [.ref p5, vn]) = HC at eC kC ⊢
        have e5C := e6.trans (e7.trans (eB.trans eC))
        have pz : FrL K HC (rs.drop k ++ rs.take k) (z.1.drop k ++ z.1.take k) := pair_app (pair_drop (FrL.ex e5C pa5)) (pair_take (FrL.ex e5C pa5))
        have node : SumV K HC (.ref p6) (z.1.drop k ++ z.1.take k, z.2) := ⟨p6, .ref p5, vn, rfl, st_of kC, ⟨p5, _, rfl, ex_t eC qB, pz⟩, fn5.ex e5C⟩
        obtain ⟨kFC, kbC, ls', h1, h2, h3, h4⟩ := fin (Dk.ex r5.st.lst e5C) (r5.st.ex e5C) node (by simp; omega) (fun r hr => sz1 r (by
          rcases List.mem_append.mp hr with h | h
          · exact List.mem_of_mem_drop h
          · exact List.mem_of_mem_take h)) sz2
        exact ⟨_, rfl, _, rfl, F, xs, _, _, rfl, rfl, sq_of kFC, atI_nat hvb, _, rfl, b, us, _, j, rfl, rfl, kbC, hixj, ⟨_, _, _, rfl⟩, ls', h1, h2, h3, h4⟩
      · refine ⟨_, rfl, _, rfl, _, rfl, s, vn, z.2, rfl, r5.st, fn5, fun w u H7 d7 t7 hw su => ⟨(by show 2 ≤ sizeLine; decide), fun p6 hp6 => ?_⟩⟩
        have eC : Ex H7 (upd H7 p6 (.tup [.ref ta, w])) := Ex.new hp6
        have kC : upd H7 p6 (.tup [.ref ta, w]) p6 = some (.tup [.ref ta, w]) := upd_same
        generalize upd H7 p6 (.tup [.ref ta, w]) = HC at eC kC ⊢
        have d5C := d7.then eC
        have node : SumV K HC (.ref p6) (z.1, u) := ⟨p6, .ref ta, w, rfl, st_of kC, ⟨ta, rs, rfl, sqt_dk r5.st.lst d5C qa5, pmono (fun _ _ h => FrV.dk r5.st.lst d5C h) pa5⟩, hw.ex eC⟩
        obtain ⟨kFC, kbC, ls', h1, h2, h3, h4⟩ := fin d5C (t7.ex eC) node rfl sz1 su
        exact ⟨_, rfl, _, rfl, F, xs, _, _, rfl, rfl, sq_of kFC, atI_nat hvb, _, rfl, b, us, _, j, rfl, rfl, kbC, hixj, ⟨_, _, _, rfl⟩, ls', h1, h2, h3, h4⟩
    · rintro σ H6 ⟨⟨o6, o7, o8, rfl⟩, ls', h1, h2, h3, h4⟩
      exact ⟨_, rfl, ret h1 h2 h3 h4⟩
end

end K07
end
section
set_option maxRecDepth 100000
set_option maxHeartbeats 400000
namespace K07
open PySem Evl Nc PyProof.Rows
open L2 hiding spCell
section
variable {P : Program} {w : World} {K : PySem.W.Frag} {mg : Str → Option Value} {base : Heap}
/-- what changes is a list that is new since H0 -/
def Mu (H0 H H' : Hp) : Prop := ∀ b o, H b = some o → ((∃ o', H0 b = some o') ∨ ∀ xs, o ≠ .lst xs) → H' b = some o
theorem Mu.put' {H0 H H' : Hp} {a : Addr} {xs : List V} {o : HO} (m : Mu H0 H H') (n : H0 a = none) (k : H' a = some (.lst xs)) : Mu H0 H (upd H' a o) := fun b u hb hc => by
  have h := m b u hb hc
  by_cases e : b = a
  · subst e
    rcases hc with ⟨o', h0⟩ | h1
    · rw [n] at h0
      cases h0
    · rw [k] at h
      exact absurd (Option.some.inj h).symm (h1 xs)
  · rw [upd_ne e]
    exact h
theorem sqt_mu {K : PySem.W.Frag} {H0 H H' : Hp} {t : Addr} {xs : List V} (m : Mu H0 H H') (h : SqT K H t xs) : SqT K H' t xs := by
  rcases h with (h | ⟨ob, h⟩) | h
  · exact .inl (.inl (m _ _ h (.inr fun xs z => by cases z)))
  · exact .inl (.inr ⟨ob, m _ _ h (.inr fun xs z => by cases z)⟩)
  · exact .inr h
theorem FrV.mu' {K : PySem.W.Frag} {H0 H H' : Hp} {v : V} {r : Rat} (m : Mu H0 H H') (h : FrV K H v r) : FrV K H' v r := by
  obtain ⟨t, e, q⟩ := h
  exact ⟨t, e, sqt_mu m q⟩
theorem SumV.mu' {K : PySem.W.Frag} {H0 H H' : Hp} {v : V} {z : Sum2} (m : Mu H0 H H') (h : SumV K H v z) : SumV K H' v z := by
  obtain ⟨t, a, b, e, q, ⟨t2, xs, e2, q2, p2⟩, n⟩ := h
  exact ⟨t, a, b, e, sqt_mu m q, ⟨t2, xs, e2, sqt_mu m q2, pmono (fun _ _ => FrV.mu' m) p2⟩, FrV.mu' m n⟩
theorem NodesV.mu' {K : PySem.W.Frag} {H0 H H' : Hp} {v : V} {l : List Sum2} (m : Mu H0 H H') (h : NodesV K H v l) : NodesV K H' v l := by
  obtain ⟨t, xs, e, q, p⟩ := h
  exact ⟨t, xs, e, sqt_mu m q, pmono (fun _ _ => SumV.mu' m) p⟩
theorem NetV.mu' {K : PySem.W.Frag} {CN CL CC : Addr} {H0 H H' : Hp} {p : Addr} {n : Nat} {ls : List (List Sum2)} (m : Mu H0 H H') (h : NetV K CN CL CC H p n ls) : NetV K CN CL CC H' p n ls := by
  obtain ⟨dx, t, ps, hp, q, l⟩ := h
  refine ⟨dx, t, ps, m _ _ hp (.inr fun xs z => by cases z), sqt_mu m q, pmono (fun _ _ h => ?_) l⟩
  obtain ⟨p, C, nv, e, c, ⟨dy, la⟩, nn⟩ := h
  exact ⟨p, C, nv, e, c, ⟨dy, m _ _ la (.inr fun xs z => by cases z)⟩, NodesV.mu' m nn⟩
/-- an inner one, as spoilt meets it -/
def InnK (K : PySem.W.Frag) (H0 H : Hp) (v : V) : Prop := (∃ b us, v = .ref b ∧ H0 b = none ∧ H b = some (.lst us)) ∨ ∃ b us, v = .ref b ∧ SqT K H b us
theorem InnK.put' {K : PySem.W.Frag} {H0 H : Hp} {a : Addr} {us ws : List V} {v : V} (k : H a = some (.lst us)) (h : InnK K H0 H v) : InnK K H0 (upd H a (.lst ws)) v := by
  rcases h with ⟨b, xs, rfl, n, q⟩ | ⟨b, xs, rfl, q⟩
  · by_cases e : b = a
    · subst e
      exact .inl ⟨b, ws, rfl, n, upd_same⟩
    · exact .inl ⟨b, xs, rfl, n, by rw [upd_ne e]; exact q⟩
  · exact .inr ⟨b, xs, rfl, sqt_mut k q⟩
def spSpoilt (K : PySem.W.Frag) : Sp := fun vs H Q _ => ∃ (c : Bool) (H0 : Hp) (v : V) (a : Addr) (ys : List V), vs = [v] ∧ v = .ref a ∧ SqX K c H a ys ∧ (c = false → H0 a = none ∧ H a = some (.lst ys) ∧ ∀ y ∈ ys, y ≠ .ref a) ∧ (∀ y ∈ ys, InnK K H0 H y) ∧ ys.length ≤ 100 ∧ ∀ H', Mu H0 H H' → Q .non H'
theorem ok__law_spoilt (D : Df K mg "_law_spoilt" s__law_spoilt ["_law_some"]) (misi : mg "isinstance" = none) (mlist : mg "list" = none) : Ok P w K mg base 1 "_law_spoilt" ["_law_some"] (spSpoilt K) := by
  refine D.ok fun f fd F => F.ok sc__law_spoilt (fun vs H Q E h => ?_) (fun cdv A outer s H vs Q E hr h => ?_)
  · obtain ⟨c, H0, v, a, ys, rfl, _⟩ := h
    rfl
  · obtain ⟨c, H0, v, a, ys, rfl, rfl, qa, hc, hI, h100, q⟩ := h
    cases c
    · obtain ⟨na, ka, nya⟩ := hc rfl
      refine ⟨_, (pss_cons (ps_for PassesOwn.never rfl (pi_list (pv 0)) (pg_name (i := 1) sc__law_spoilt.nd rfl (.inl rfl)) (pss_one (ps_if (pt_val (pe_callB call_isi (by rfl) misi (by decide +kernel) (pa_cons (pv 1) (pa_cons (pe_bltn (v := .ty "list") (by rfl) mlist (by decide +kernel) rfl) pa_nil)))) (pss_one (ps_expr (pe_bm0 PySem.F.plainAttrs_list PySem.F.slot_list_clear PySem.F.type_list_clear mt_clear (pv 1)))) pss_nil)))
      (pss_one (ps_if (pt_val (pe_callB call_isi (by rfl) misi (by decide +kernel) (pa_cons (pv 0) (pa_cons (pe_bltn (v := .ty "list") (by rfl) mlist (by decide +kernel) rfl) pa_nil)))) (pss_one (ps_expr (pe_bm PySem.F.plainAttrs_list PySem.F.slot_list_append PySem.F.type_list_append mt_append (pv 0) (pa_cons pe_non pa_nil)))) pss_nil))), ?_⟩
      refine ⟨_, rfl, a, rfl, ⟨_, sq_of ka⟩, for_list (K := K) (a := a) (xs := ys) (fun i σ H' => ∃ o1, σ = [some (.ref a), o1] ∧ Mu H0 H H' ∧ H' a = some (.lst ys) ∧ ∀ y ∈ ys, InnK K H0 H' y) ⟨none, rfl, fun _ _ h _ => h, ka, hI⟩ (fun i σ H1 _ ⟨_, _, _, k, _⟩ => sq_of k) ?_ ?_⟩
      · rintro i y σ H2 hi ⟨o1, rfl, m2, k2, hI2⟩
        rcases hI2 y (List.mem_of_getElem? hi) with ⟨b, us, rfl, nb, hk⟩ | ⟨b, us, rfl, qb⟩
        · refine ⟨_, rfl, _, _, _, _, _, rfl, .ty _, .base (.lst hk), kit_ty (r := true) (by decide +kernel), _, rfl, iteT ?_⟩
          exact ⟨_, rfl, .inl ⟨rfl, _, sq_of hk⟩, b, us, rfl, rfl, hk, _, rfl, Mu.put' m2 nb hk, by rw [upd_ne (fun z => nya _ (List.mem_of_getElem? hi) (by rw [z]))]; exact k2, fun y2 hy => InnK.put' hk (hI2 y2 hy)⟩
        · exact ⟨_, rfl, _, _, _, _, _, rfl, .ty _, tyT qb, kit_ty (r := false) (by decide +kernel), _, rfl, iteF ⟨_, rfl, m2, k2, hI2⟩⟩
      · rintro σ H2 ⟨o1, rfl, m2, k2, hI2⟩
        refine ⟨_, rfl, _, _, _, _, _, rfl, .ty _, .base (.lst k2), kit_ty (r := true) (by decide +kernel), _, rfl, iteT ?_⟩
        exact ⟨_, rfl, .inl ⟨rfl, _, sq_of k2⟩, a, ys, .non, rfl, rfl, k2, sz_lt (by omega), q _ (Mu.put' m2 na k2)⟩
    · have qa : SqT K H a ys := qa
      refine ⟨_, (pss_cons (ps_for PassesOwn.never rfl (pi_tup (pv 0)) (pg_name (i := 1) sc__law_spoilt.nd rfl (.inl rfl)) (pss_one (ps_if (pt_val (pe_callB call_isi (by rfl) misi (by decide +kernel) (pa_cons (pv 1) (pa_cons (pe_bltn (v := .ty "list") (by rfl) mlist (by decide +kernel) rfl) pa_nil)))) (pss_one (ps_expr (pe_bm0 PySem.F.plainAttrs_list PySem.F.slot_list_clear PySem.F.type_list_clear mt_clear (pv 1)))) pss_nil)))
      (pss_one (ps_if (pt_val (pe_callB call_isi (by rfl) misi (by decide +kernel) (pa_cons (pv 0) (pa_cons (pe_bltn (v := .ty "list") (by rfl) mlist (by decide +kernel) rfl) pa_nil)))) (pss_one (ps_expr (pe_bm PySem.F.plainAttrs_list PySem.F.slot_list_append PySem.F.type_list_append mt_append (pv 0) (pa_cons pe_non pa_nil)))) pss_nil))), ?_⟩
      refine ⟨_, rfl, a, rfl, ⟨_, qa⟩, for_tup (K := K) (a := a) (xs := ys) (fun i σ H' => ∃ o1, σ = [some (.ref a), o1] ∧ Mu H0 H H' ∧ SqT K H' a ys ∧ ∀ y ∈ ys, InnK K H0 H' y) ⟨none, rfl, fun _ _ h _ => h, qa, hI⟩ (fun i σ H1 _ ⟨_, _, _, k, _⟩ => k) ?_ ?_⟩
      · rintro i y σ H2 hi ⟨o1, rfl, m2, k2, hI2⟩
        rcases hI2 y (List.mem_of_getElem? hi) with ⟨b, us, rfl, nb, hk⟩ | ⟨b, us, rfl, qb⟩
        · refine ⟨_, rfl, _, _, _, _, _, rfl, .ty _, .base (.lst hk), kit_ty (r := true) (by decide +kernel), _, rfl, iteT ?_⟩
          exact ⟨_, rfl, .inl ⟨rfl, _, sq_of hk⟩, b, us, rfl, rfl, hk, _, rfl, Mu.put' m2 nb hk, sqt_mut hk k2, fun y2 hy => InnK.put' hk (hI2 y2 hy)⟩
        · exact ⟨_, rfl, _, _, _, _, _, rfl, .ty _, tyT qb, kit_ty (r := false) (by decide +kernel), _, rfl, iteF ⟨_, rfl, m2, k2, hI2⟩⟩
      · rintro σ H2 ⟨o1, rfl, m2, k2, hI2⟩
        exact ⟨_, rfl, _, _, _, _, _, rfl, .ty _, tyT k2, kit_ty (r := false) (by decide +kernel), _, rfl, iteF (q H2 m2)⟩
end

end K07
end
section
set_option maxRecDepth 100000
set_option maxHeartbeats 400000
namespace K07
open PySem Evl Nc PyProof.Rows
open L2 hiding spCell
section
variable {P : Program} {w : World} {K : PySem.W.Frag} {mg : Str → Option Value} {base : Heap}
theorem sqX_ex' {K : PySem.W.Frag} {c : Bool} {H H' : Hp} {a : Addr} {xs : List V} (e : Ex H H') (h : SqX K c H a xs) : SqX K c H' a xs := by
  cases c
  · exact ex_l e h
  · exact ex_t e h
theorem LayM.ex' {K : PySem.W.Frag} {c : Bool} {H H' : Hp} {v : V} {ls : List (List Sum2)} (e : Ex H H') (h : LayM K c H v ls) : LayM K c H' v ls := by
  obtain ⟨D, ys, rfl, q, l⟩ := h
  exact ⟨D, ys, rfl, sqX_ex' e q, pmono (fun _ _ => LyM.ex' e) l⟩
theorem LayI.m' {K : PySem.W.Frag} {H : Hp} {v : V} {ls : List (List Sum2)} (h : LayI K H v ls) : LayM K false H v ls := by
  obtain ⟨D, ys, rfl, q, l⟩ := h
  exact ⟨D, ys, rfl, q, pmono (fun _ _ z => .inl z) l⟩
theorem lays_n' {K : PySem.W.Frag} {s D : Addr} {H : Hp} {ls : List (List Sum2)} (h : LayS K s H D ls) : ∃ ys, H D = some (.lst ys) ∧ Paired (LyN K H) ys ls := by
  obtain ⟨_, ys, q, p⟩ := h
  exact ⟨ys, q, pmono (fun _ _ ⟨a, xs, e, _, q, p⟩ => ⟨a, xs, e, q, p⟩) p⟩
theorem td_inj {n : Nat} {ls ms : List (List Sum2)} (h : PyData.eqv (tdD n ls) (tdD n ms) = true) : ls = ms := by
  unfold tdD nd at h
  simp only [PyData.eqv, PyData.eqvAll, Bool.and_eq_true, Bool.and_true] at h
  exact inj_all (f := fun l : List Sum2 => PyData.tuple (l.map sd)) (fun a b h => by
    simp only [PyData.eqv] at h
    exact inj_all (fun _ _ => sd_inj) h) h.2
theorem eqv_like {n : Nat} {ls ms : List (List Sum2)} : PyData.eqv (tdD n ls) (tdD n ms) = PyData.eqv (.list (nl ms)) (.list (nl ls)) ∧ PyData.eqv (tdD n ms) (tdD n ls) = PyData.eqv (.list (nl ms)) (.list (nl ls)) := by
  by_cases h : ls = ms
  · subst h
    have h1 : PyData.eqv (tdD n ls) (tdD n ls) = true := eqv_td n ls
    rw [h1, eqv_nl]
    exact ⟨rfl, rfl⟩
  · have a : PyData.eqv (tdD n ls) (tdD n ms) = false := Bool.eq_false_iff.mpr fun z => h (td_inj z)
    have b : PyData.eqv (tdD n ms) (tdD n ls) = false := Bool.eq_false_iff.mpr fun z => h (td_inj z).symm
    have c : PyData.eqv (.list (nl ms)) (.list (nl ls)) = false := Bool.eq_false_iff.mpr fun z => h (nl_inj z).symm
    rw [a, b, c]
    exact ⟨rfl, rfl⟩
def d4 (a b c d : Bool) : PyData := .list [.bool a, .bool b, .bool c, .bool d]
theorem d4_ok (a b c d : Bool) : (d4 a b c d).showable = true ∧ (d4 a b c d).hasDict = false ∧ (d4 a b c d).depth ≤ 60 ∧ (d4 a b c d).shown.length ≤ sizeLine := by
  cases a <;> cases b <;> cases c <;> cases d <;> decide +kernel
theorem go__law_right {CN CL CC fN : Addr} {fdN : FuncData} (D : Df K mg "_law_right" s__law_right ["_law_stream_here"]) (N : NDefs P w K mg base CN CL CC) (MN : Mk K CN fN) (FN : FnOk P w K mg base CX0 6 fN fdN ["self", "ins", "layers"] (spInitM K CN CL CC)) (bN : Binds K fdN ["self", "ins", "layers"] []) (mgN : mg "Net" = some (.ref CN)) (GT : Ok P w K mg base 1 "_law_take" ["_law_stream_here", "_law_many"] spTake) (GLy : Ok P w K mg base 5 "_law_layers" ["_law_stream_here", "_law_ins"] (spLays07 K)) (GSh : Ok P w K mg base 2 "_law_shut" ["_law_stream_here", "_law_layers_here"] (spShut K)) (GSp : Ok P w K mg base 1 "_law_spoilt" ["_law_some"] (spSpoilt K)) (GOt : Ok P w K mg base 5 "_law_other" ["_law_stream_here", "_law_layers_here"] (spOther K)) (GNO : Ok P w K mg base 8 "net_of" ["told"] (spNetOf K CN CL CC)) (GTd : MOk P w K mg base 2 CN "told" ["self"] (spToldN K CN CL CC)) (GR : Ok P w K mg base 4 "_law_one_right" ["_law_net", "_law_ins", "_law_layers_here"] (spOneR K CN CL CC)) (GSa : Ok P w K mg base 3 "same_net" ["one", "other"] (spSame K CN CL CC)) (mrepr : mg "repr" = none) (mrange : mg "range" = none) : GO P w K mg base 9 "_law_right" ["_law_stream_here"] spRight := by
  refine D.go fun f fd F => gok F sc__law_right (fun vs H Q E h => ?_) (fun cdv A outer s0 H vs Q hG hr h => ?_)
  · obtain ⟨s, rfl, _⟩ := h
    rfl
  · obtain ⟨s, rfl, hS, q⟩ := h
    obtain ⟨fTD, dTD, mTD, FTD, bTD⟩ := GTd.ex
    have hr1 : Room 1 _ := hr.mono (by decide)
    have hr2 : Room 2 _ := hr.mono (by decide)
    have hr3 : Room 3 _ := hr.mono (by decide)
    have hr4 : Room 4 _ := hr.mono (by decide)
    have hr5 : Room 5 _ := hr.mono (by decide)
    have hr7 : Room (6 + 1) _ := hr.mono (by decide)
    have hG2 : (A.deeper (envOfC "_law_right" (defScope s__law_right) s0.heap.objs.size f cdv)).guards = some [] := hG
    refine ⟨_, (pss_cons (ps_set (i := 1) sc__law_right.nd rfl (.inl rfl) (pe_op op_add pe_int (cl GT hr1 (pa_cons (pv 0) (pa_cons pe_int pa_nil)))))
      (pss_cons (ps_set (i := 2) sc__law_right.nd rfl (.inl rfl) (cl GLy hr5 (pa_cons (pv 0) (pa_cons (pv 1) pa_nil))))
      (pss_cons (ps_set (i := 3) sc__law_right.nd rfl (.inl rfl) (cl GSh hr2 (pa_cons (pv 0) (pa_cons (pv 2) pa_nil))))
      (pss_cons (ps_set (i := 4) sc__law_right.nd rfl (.inl rfl) (pe_make MN FN hr7 (by rfl) mgN bN .nil pass0 (pa_cons (pv 1) (pa_cons (pv 3) pa_nil))))
      (pss_cons (ps_expr (cl GSp hr1 (pa_cons (pv 3) pa_nil)))
      (pss_cons (ps_set (i := 5) sc__law_right.nd rfl (.inl rfl) (cl GOt hr5 (pa_cons (pv 0) (pa_cons (pv 2) pa_nil))))
      (pss_cons (ps_set (i := 6) sc__law_right.nd rfl (.inl rfl) (pe_make MN FN hr7 (by rfl) mgN bN .nil pass0 (pa_cons (pv 1) (pa_cons (pv 5) pa_nil))))
      (pss_cons (ps_set (i := 7) sc__law_right.nd rfl (.inl rfl) (cl GNO hr (pa_cons (pe_meth0 (pv 4) N.tN mTD FTD hr2 bTD .nil pass0) pa_nil)))
      (pss_cons (ps_for PassesOwn.never rfl (pi_range1 (by rfl) mrange (pa_cons pe_int pa_nil)) (pg_name (i := 8) sc__law_right.nd rfl (.inl rfl)) (pss_one (ps_if (PW.pt (pw_or (pt_not (pt_val (cl GR hr4 (pa_cons (pv 4) (pa_cons (pv 1) (pa_cons (pv 2) pa_nil)))))) (pw_or1 (pt_not (pt_val (cl GR hr4 (pa_cons (pv 7) (pa_cons (pv 1) (pa_cons (pv 2) pa_nil))))))))) (pss_one (ps_ret pe_bl)) pss_nil)))
      (pss_cons (ps_if (pt_not (pt_val (cl GR hr4 (pa_cons (pv 6) (pa_cons (pv 1) (pa_cons (pv 5) pa_nil)))))) (pss_one (ps_ret pe_bl)) pss_nil)
      (pss_cons (ps_set (i := 9) sc__law_right.nd rfl (.inl rfl) (pe_lstE (pa_cons (cl GSa hr3 (pa_cons (pv 4) (pa_cons (pv 7) pa_nil))) (pa_cons (cl GSa hr3 (pa_cons (pv 7) (pa_cons (pv 4) pa_nil))) (pa_cons (cl GSa hr3 (pa_cons (pv 4) (pa_cons (pv 6) pa_nil))) (pa_cons (cl GSa hr3 (pa_cons (pv 6) (pa_cons (pv 4) pa_nil))) pa_nil))))))
      (pss_one (ps_ret (pe_cmpR op_eq (pe_callB (call_rp hG2 hr.units) (by rfl) mrepr (by decide +kernel) (pa_cons (pv 9) pa_nil)) (pe_callB (call_rp hG2 hr.units) (by rfl) mrepr (by decide +kernel) (pa_cons (pe_lstE (pa_cons pe_bl (pa_cons pe_bl (pa_cons (pe_cmpR (op_eqD hr.units) (pv 5) (pv 2) (nomark _)) (pa_cons (pe_cmpR (op_eqD hr.units) (pv 5) (pv 2) (nomark _)) pa_nil))))) pa_nil)) (nomark _))))))))))))))), ?_⟩
    refine ⟨_, rfl, s, _, rfl, hS, by decide, by decide, fun d0 H1 a0 b0 r1 => ⟨_, _, rfl, rfl, ?_⟩⟩
    obtain ⟨n, hn, n1, n3⟩ : ∃ n : Nat, 1 + d0 = (n : Int) ∧ 1 ≤ n ∧ n ≤ 3 := ⟨(1 + d0).toNat, by omega, by omega, by omega⟩
    show gName 1 (V.int (1 + d0)) _ _ _
    rw [hn]
    refine ⟨_, rfl, _, rfl, s, n, rfl, r1.st, n1, n3, fun D ls H2 hD r2 t2 lay ok => ?_⟩
    have hDs := lay.1
    have l4 := ok.l4
    have lx : ∀ {n : Nat} {ls : List (List Sum2)}, LysOk n ls → ∀ l ∈ ls, l.length ≤ 100 := fun ok l h => by
      have := over_len ok.over l h
      omega
    refine ⟨_, rfl, _, rfl, s, D, ls, rfl, t2, lay, by omega, lx ok, fun c v H3 r3 t3 hsh => ?_⟩
    refine ⟨_, rfl, _, rfl, ?_⟩
    refine fun x dx npx ndx nex => ?_
    have eXx : Ex H3 (upd (upd H3 dx (.own x)) x (.ins CN dx [])) := fun b o hb => by
      rw [upd_ne (ne_of_none hb npx), upd_ne (ne_of_none hb ndx)]
      exact hb
    have kXx : upd (upd H3 dx (.own x)) x (.ins CN dx []) x = some (.ins CN dx []) := upd_same
    generalize upd (upd H3 dx (.own x)) x (.ins CN dx []) = Xx at eXx kXx ⊢
    refine ⟨c, x, dx, v, n, ls, _, rfl, kXx, LayM.ex' eXx (ShutV.m hsh), ok.ok, fun HA kpx hNx => ⟨rfl, ?_⟩⟩
    have eHA : Ex H3 HA := fun b o hb => kpx b o (ne_of_none hb npx) (eXx _ _ hb)
    obtain ⟨a, ys, ev, qa, hc, pI⟩ := id hsh
    have yl := Paired.length pI
    refine ⟨_, rfl, c, H2, v, a, ys, rfl, ev, sqX_ex' eHA qa, fun z => ⟨(hc z).1, eHA _ _ (hc z).2.1, (hc z).2.2⟩, fun y hy => ?_, by omega, fun HB mB => ?_⟩
    · obtain ⟨k, hk⟩ := List.mem_iff_getElem?.mp hy
      obtain ⟨l, _, h⟩ := pget pI hk
      rcases h with ⟨b, us, e, nb, kb, _⟩ | ⟨b, us, e, qb, _⟩
      · exact .inl ⟨b, us, e, nb, eHA _ _ kb⟩
      · exact .inr ⟨b, us, e, ex_t eHA qb⟩
    have netB : NetV K CN CL CC HB x n ls := NetV.mu' mB hNx
    have tB : Stm s HB := by
      obtain ⟨i1, i2, i3, k⟩ := t3
      obtain ⟨j1, j2, j3, k2⟩ := t2
      exact ⟨i1, i2, i3, mB s _ (eHA _ _ k) (.inl ⟨_, k2⟩)⟩
    have r2B : Dk s H2 HB := ⟨fun b o hb ho => mB b o (eHA _ _ (r3.keep b o hb ho)) (.inl ⟨o, ho⟩), tB.lst⟩
    have layB := LayS.dk t2.lst r2B lay
    refine ⟨_, rfl, _, rfl, s, D, n, ls, rfl, tB, layB, ok, fun D' ls' HC rC tC lay' ok' => ?_⟩
    have l4' := ok'.l4
    have netC := netB.dk tB.lst rC
    have layC := LayS.dk tB.lst rC layB
    refine ⟨_, rfl, _, rfl, ?_⟩
    refine fun y dy npy ndy ney => ?_
    have eXy : Ex HC (upd (upd HC dy (.own y)) y (.ins CN dy [])) := fun b o hb => by
      rw [upd_ne (ne_of_none hb npy), upd_ne (ne_of_none hb ndy)]
      exact hb
    have kXy : upd (upd HC dy (.own y)) y (.ins CN dy []) y = some (.ins CN dy []) := upd_same
    generalize upd (upd HC dy (.own y)) y (.ins CN dy []) = Xy at eXy kXy ⊢
    refine ⟨false, y, dy, .ref D', n, ls', _, rfl, kXy, LayM.ex' eXy (LayI.m' lay'.i), ok'.ok, fun HD kpy hNy => ⟨rfl, ?_⟩⟩
    have eHD : Ex HC HD := fun b o hb => kpy b o (ne_of_none hb npy) (eXy _ _ hb)
    have netD := netC.ex eHD
    have netD0 := netD
    obtain ⟨dx_, t_, ps_, hp_, qt_, pl_⟩ := netD
    have nTD : List.lookup ("told" : Str) [(("_ins" : Str), V.int (n : Int)), (("_layers" : Str), V.ref t_)] = none := no_n (by decide +kernel) (by decide +kernel)
    refine ⟨_, rfl, x, dx_, _, rfl, hp_, nTD, x, n, ls, rfl, netD0, by omega, fun vt HE eE hvt => ?_⟩
    refine ⟨vt, n, ls, _, rfl, hvt, ok.ok, fun p3 HF eF net3 => ?_⟩
    have ECF := eHD.trans (eE.trans eF)
    have EDF := eE.trans eF
    obtain ⟨zs, kD, pD⟩ := lays_n' layC
    obtain ⟨zs', kD', pD'⟩ := lays_n' lay'
    refine ⟨2, rfl, by decide, by decide, for_range (lo := 0) (n := (2 : Int).toNat) (fun j σ H' => ∃ o8, σ = [some (.ref s), some (.int (n : Int)), some (.ref D), some v, some (.ref x), some (.ref D'), some (.ref y), some (.ref p3), o8, none] ∧ Ex HF H') ⟨none, rfl, Ex.refl _⟩ ?_ ?_⟩
    · rintro j σ HG hj ⟨o8, rfl, eG⟩
      have ECG := ECF.trans eG
      refine ⟨_, rfl, _, rfl, _, rfl, x, D, zs, n, ls, rfl, netC.ex ECG, ECG _ _ kD, pmono (fun _ _ z => LyN.ex' ECG z) pD, ok, fun HH eH => ⟨_, rfl, iteF ?_⟩⟩
      have ECH := ECG.trans eH
      exact ⟨_, rfl, _, rfl, _, rfl, p3, D, zs, n, ls, rfl, net3.ex (eG.trans eH), ECH _ _ kD, pmono (fun _ _ z => LyN.ex' ECH z) pD, ok, fun HI eI => ⟨_, rfl, iteF ⟨_, rfl, eG.trans (eH.trans eI)⟩⟩⟩
    · rintro σ HG ⟨o8, rfl, eG⟩
      have ECG := ECF.trans eG
      have EDG := EDF.trans eG
      refine ⟨_, rfl, _, rfl, _, rfl, y, D', zs', n, ls', rfl, hNy.ex EDG, ECG _ _ kD', pmono (fun _ _ z => LyN.ex' ECG z) pD', ok', fun HH eH => ⟨_, rfl, iteF ?_⟩⟩
      have EGx := netC.ex (ECG.trans eH)
      have EG3 := net3.ex (eG.trans eH)
      have EGy := hNy.ex (EDG.trans eH)
      refine ⟨_, rfl, _, rfl, x, p3, n, n, ls, ls, rfl, EGx, EG3, by omega, by omega, fun HI eI => ?_⟩
      refine ⟨_, rfl, _, rfl, p3, x, n, n, ls, ls, rfl, EG3.ex eI, EGx.ex eI, by omega, by omega, fun HJ eJ => ?_⟩
      have E2 := eI.trans eJ
      refine ⟨_, rfl, _, rfl, x, y, n, n, ls, ls', rfl, EGx.ex E2, EGy.ex E2, by omega, by omega, fun HK eK => ?_⟩
      have E3 := E2.trans eK
      refine ⟨_, rfl, _, rfl, y, x, n, n, ls', ls, rfl, EGy.ex E3, EGx.ex E3, by omega, by omega, fun HL eL => ⟨(by show 4 ≤ sizeLine; decide), fun pF HM nM eM kM => ?_⟩⟩
      have E4 := E3.trans (eL.trans eM)
      have ECM := ECG.trans (eH.trans E4)
      have hself : PyData.eqv (tdD n ls) (tdD n ls) = true := eqv_td n ls
      obtain ⟨l1_, l2_⟩ := eqv_like (n := n) (ls := ls) (ms := ls')
      rw [hself, l1_, l2_] at kM
      generalize hb : PyData.eqv (.list (nl ls')) (.list (nl ls)) = b at kM
      obtain ⟨s1, s2, s3, s4⟩ := d4_ok true true b b
      have dp : ∀ {H' pA}, H' pA = some (.lst [.bl true, .bl true, .bl b, .bl b]) → Dp K H' (.ref pA) (d4 true true b b) := fun k => .lst (sq_of k) (.cons (.bl _) (.cons (.bl _) (.cons (.bl _) (.cons (.bl _) .nil))))
      refine ⟨_, rfl, .ref pF, _, rfl, .dat (dp kM) s1 s2 s3 s4, ?_⟩
      have dl : Dp K HM (.ref D') (.list (nl ls')) := .lst (sq_of (ECM _ _ kD')) (lyn_dp (pmono (fun _ _ z => LyN.ex' ECM z) pD'))
      have dl2 : Dp K HM (.ref D) (.list (nl ls)) := .lst (sq_of (ECM _ _ kD)) (lyn_dp (pmono (fun _ _ z => LyN.ex' ECM z) pD))
      refine ⟨_, rfl, _, rfl, _, _, dl, dl2, nl_shaped _, nl_shaped _, ?_⟩
      rw [hb]
      refine ⟨_, rfl, _, rfl, _, _, dl, dl2, nl_shaped _, nl_shaped _, ?_⟩
      rw [hb]
      refine ⟨(by show 4 ≤ sizeLine; decide), fun pG HN nN eN kN => ?_⟩
      refine ⟨.ref pG, _, rfl, .dat (dp kN) s1 s2 s3 s4, rfl, ?_⟩
      rw [decide_eq_true rfl]
      refine q HN fun b_ o hb_ ho => ?_
      have h2 := r2.keep b_ o hb_ (r1.keep b_ o hb_ ho)
      exact eN _ _ (ECM _ _ (rC.keep b_ o hb_ (r2B.keep b_ o hb_ h2)))
end

end K07
end
section
set_option maxRecDepth 100000
set_option maxHeartbeats 400000
namespace K07
open PySem Evl Nc PyProof.Rows
open L2 hiding spCell
section
variable {P : Program} {w : World} {K : PySem.W.Frag} {mg : Str → Option Value} {base : Heap}
theorem fn_law {f : Addr} {fd : FuncData} (F : Fun K "law" "law" s_law f fd) (GC : Ok P w K mg base 1 "_law_cell" ["_law_script", "_law_k"] (Nc.spCell K)) (GS : Ok P w K mg base 1 "_law_stream" ["_law_cell_here"] spStream) (GR : GO P w K mg base 9 "_law_right" ["_law_stream_here"] spRight) (mrange : mg "range" = none) (mmax : mg "max" = none) (mmin : mg "min" = none) (mlen : mg "len" = none) : GOk P w K mg base 10 f fd ["_law_script"] (spLaw K) := by
  refine gok F sc_law (fun vs H Q E h => ?_) (fun cdv A outer s0 H vs Q hG hr h => ?_)
  · obtain ⟨a, ns, rfl, _⟩ := h
    rfl
  · obtain ⟨a, ns, rfl, hS, hn, q⟩ := h
    have hr1 : Room 1 _ := hr.mono (by decide)
    have hG2 : (A.deeper (envOfC "law" (defScope s_law) s0.heap.objs.size f cdv)).guards = some [] := hG
    refine ⟨_, (pss_cons (ps_for PassesOwn.never rfl (pi_range1 (by rfl) mrange (pa_cons (pe_callB (call_max2 rfl) (by rfl) mmax (by decide +kernel) (pa_cons pe_int (pa_cons (pe_callB (call_min2 rfl) (by rfl) mmin (by decide +kernel) (pa_cons pe_int (pa_cons (pe_callB call_len_seq (by rfl) mlen PySem.boot_len (pa_cons (pv 0) pa_nil)) pa_nil))) pa_nil))) pa_nil)) (pg_name (i := 1) sc_law.nd rfl (.inl rfl)) (pss_one (ps_if (pt_not (pt_val (clg GR hG2 hr (pa_cons (cl GS hr1 (pa_cons (cl GC hr1 (pa_cons (pv 0) (pa_cons (pv 1) pa_nil))) pa_nil)) pa_nil)))) (pss_one (ps_ret pe_bl)) pss_nil)))
      (pss_one (ps_ret pe_bl))), ?_⟩
    refine ⟨_, rfl, a, _, rfl, .inl hS, _, _, rfl, _, _, rfl, ?_⟩
    rw [List.length_map]
    generalize hm : (if (if ((ns.length : Nat) : Int) < 8 then ((ns.length : Nat) : Int) else 8) > 1 then (if ((ns.length : Nat) : Int) < 8 then ((ns.length : Nat) : Int) else 8) else 1) = m
    have hm1 : 1 ≤ m ∧ m ≤ 8 := by
      rw [← hm]
      split <;> split <;> omega
    refine ⟨m, rfl, by omega, by omega, for_range (lo := 0) (n := m.toNat) (fun i σ H' => ∃ o1, σ = [some (.ref a), o1] ∧ Ex H H') ⟨none, rfl, Ex.refl _⟩ ?_ ?_⟩
    · rintro i σ H1 hi ⟨o1, rfl, e1⟩
      rw [show (0 : Int) + (i : Int) = (i : Int) by omega]
      refine ⟨_, rfl, _, rfl, a, ns, i, rfl, ex_l e1 hS, by omega, fun c => ⟨c, rfl, fun s i1 i2 i3 hs => ⟨s, rfl, ⟨i1, i2, i3, upd_same⟩, fun H2 k2 => ⟨_, rfl, iteF ?_⟩⟩⟩⟩
      refine ⟨_, rfl, fun b o hb => ?_⟩
      have h1 := e1 b o hb
      have hne := ne_of_none h1 hs
      exact k2 b o hne (by rw [upd_ne hne]; exact h1)
    · rintro σ H' ⟨o1, rfl, e1⟩
      exact q H'
end

end K07
end
set_option maxRecDepth 100000
set_option maxHeartbeats 4000000
namespace K07
open PySem Evl Nc PyProof.Rows
open L2 hiding spCell
/-! ### what the top has written; the law's own head -/
theorem all_mk {l : PySem.W.OpenLaw} {w : World} {K : PySem.W.Frag} {h : Heap} {mg : Str → Option Value} {fa : Addr} (X : K.In h) (G : h.Ns mainGlobals mg) (hfa : mg "law" = some (.ref fa))
    {od0 an0 : Option Addr} {sl0 : Array (Option Value)} {oc0 kV0 dc0 pm0 cd0 ct0 : Value} {f0 : Addr}
    {od1 an1 : Option Addr} {sl1 : Array (Option Value)} {oc1 kV1 dc1 pm1 cd1 ct1 : Value} {f1 : Addr}
    {od2 an2 : Option Addr} {sl2 : Array (Option Value)} {oc2 kV2 dc2 pm2 cd2 ct2 : Value} {f2 : Addr}
    {od3 an3 : Option Addr} {sl3 : Array (Option Value)} {oc3 kV3 dc3 pm3 cd3 ct3 : Value} {f3 : Addr}
    {od4 an4 : Option Addr} {sl4 : Array (Option Value)} {oc4 kV4 dc4 pm4 cd4 ct4 : Value} {f4 : Addr}
    {od5 an5 : Option Addr} {sl5 : Array (Option Value)} {oc5 kV5 dc5 pm5 cd5 ct5 : Value} {f5 : Addr}
    {od6 an6 : Option Addr} {sl6 : Array (Option Value)} {oc6 kV6 dc6 pm6 cd6 ct6 : Value} {f6 : Addr}
    {od7 an7 : Option Addr} {sl7 : Array (Option Value)} {oc7 kV7 dc7 pm7 cd7 ct7 : Value} {f7 : Addr}
    {od8 an8 : Option Addr} {sl8 : Array (Option Value)} {oc8 kV8 dc8 pm8 cd8 ct8 : Value} {f8 : Addr}
    {od9 an9 : Option Addr} {sl9 : Array (Option Value)} {oc9 kV9 dc9 pm9 cd9 ct9 : Value} {f9 : Addr}
    {od10 an10 : Option Addr} {sl10 : Array (Option Value)} {oc10 kV10 dc10 pm10 cd10 ct10 : Value} {f10 : Addr}
    {od11 an11 : Option Addr} {sl11 : Array (Option Value)} {oc11 kV11 dc11 pm11 cd11 ct11 : Value} {f11 : Addr}
    {od12 an12 : Option Addr} {sl12 : Array (Option Value)} {oc12 kV12 dc12 pm12 cd12 ct12 : Value} {f12 : Addr}
    {od13 an13 : Option Addr} {sl13 : Array (Option Value)} {oc13 kV13 dc13 pm13 cd13 ct13 : Value} {f13 : Addr}
    {od14 an14 : Option Addr} {sl14 : Array (Option Value)} {oc14 kV14 dc14 pm14 cd14 ct14 : Value} {f14 : Addr}
    {od15 an15 : Option Addr} {sl15 : Array (Option Value)} {oc15 kV15 dc15 pm15 cd15 ct15 : Value} {f15 : Addr}
    {od16 an16 : Option Addr} {sl16 : Array (Option Value)} {oc16 kV16 dc16 pm16 cd16 ct16 : Value} {f16 : Addr}
    {od17 an17 : Option Addr} {sl17 : Array (Option Value)} {oc17 kV17 dc17 pm17 cd17 ct17 : Value} {f17 : Addr}
    {od18 an18 : Option Addr} {sl18 : Array (Option Value)} {oc18 kV18 dc18 pm18 cd18 ct18 : Value} {f18 : Addr}
    {od19 an19 : Option Addr} {sl19 : Array (Option Value)} {oc19 kV19 dc19 pm19 cd19 ct19 : Value} {f19 : Addr}
    {od20 an20 : Option Addr} {sl20 : Array (Option Value)} {oc20 kV20 dc20 pm20 cd20 ct20 : Value} {f20 : Addr}
    {od21 an21 : Option Addr} {sl21 : Array (Option Value)} {oc21 kV21 dc21 pm21 cd21 ct21 : Value} {f21 : Addr}
    {od22 an22 : Option Addr} {sl22 : Array (Option Value)} {oc22 kV22 dc22 pm22 cd22 ct22 : Value} {f22 : Addr}
    {od23 an23 : Option Addr} {sl23 : Array (Option Value)} {oc23 kV23 dc23 pm23 cd23 ct23 : Value} {f23 : Addr}
    {od24 an24 : Option Addr} {sl24 : Array (Option Value)} {oc24 kV24 dc24 pm24 cd24 ct24 : Value} {f24 : Addr}
    {od25 an25 : Option Addr} {sl25 : Array (Option Value)} {oc25 kV25 dc25 pm25 cd25 ct25 : Value} {f25 : Addr}
    {od26 an26 : Option Addr} {sl26 : Array (Option Value)} {oc26 kV26 dc26 pm26 cd26 ct26 : Value} {f26 : Addr}
    {od27 an27 : Option Addr} {sl27 : Array (Option Value)} {oc27 kV27 dc27 pm27 cd27 ct27 : Value} {f27 : Addr}
    {od28 an28 : Option Addr} {sl28 : Array (Option Value)} {oc28 kV28 dc28 pm28 cd28 ct28 : Value} {f28 : Addr}
    {od29 an29 : Option Addr} {sl29 : Array (Option Value)} {oc29 kV29 dc29 pm29 cd29 ct29 : Value} {f29 : Addr}
    {od30 an30 : Option Addr} {sl30 : Array (Option Value)} {oc30 kV30 dc30 pm30 cd30 ct30 : Value} {f30 : Addr}
    {od31 an31 : Option Addr} {sl31 : Array (Option Value)} {oc31 kV31 dc31 pm31 cd31 ct31 : Value} {f31 : Addr}
    {od32 an32 : Option Addr} {sl32 : Array (Option Value)} {oc32 kV32 dc32 pm32 cd32 ct32 : Value} {f32 : Addr}
    {od33 an33 : Option Addr} {sl33 : Array (Option Value)} {oc33 kV33 dc33 pm33 cd33 ct33 : Value} {f33 : Addr}
    {aCNOUGHT : Addr} {dCNOUGHT : Option Addr} {nCNOUGHT : Nat} {slCNOUGHT : Array (Option Value)} {t1NOUGHT t2NOUGHT : Tok}
    {CL : Addr}
    {fI : Addr}
    {CC : Addr}
    {CN : Addr}
    {fNI : Addr}
    {od_I an_I : Option Addr} {sl_I : Array (Option Value)} {oc_I kV_I dc_I pm_I cd_I ct_I : Value}
    {od_NI an_NI : Option Addr} {sl_NI : Array (Option Value)} {oc_NI kV_NI dc_NI pm_NI cd_NI ct_NI : Value}
    {od_Ltold an_Ltold : Option Addr} {sl_Ltold : Array (Option Value)} {oc_Ltold kV_Ltold dc_Ltold pm_Ltold cd_Ltold ct_Ltold : Value} {fLtold : Addr}
    {od_Lsums an_Lsums : Option Addr} {sl_Lsums : Array (Option Value)} {oc_Lsums kV_Lsums dc_Lsums pm_Lsums cd_Lsums ct_Lsums : Value} {fLsums : Addr}
    {od_Ctold an_Ctold : Option Addr} {sl_Ctold : Array (Option Value)} {oc_Ctold kV_Ctold dc_Ctold pm_Ctold cd_Ctold ct_Ctold : Value} {fCtold : Addr}
    {od_Csums an_Csums : Option Addr} {sl_Csums : Array (Option Value)} {oc_Csums kV_Csums dc_Csums pm_Csums cd_Csums ct_Csums : Value} {fCsums : Addr}
    {od_Nins an_Nins : Option Addr} {sl_Nins : Array (Option Value)} {oc_Nins kV_Nins dc_Nins pm_Nins cd_Nins ct_Nins : Value} {fNins : Addr}
    {od_Nlayers_told an_Nlayers_told : Option Addr} {sl_Nlayers_told : Array (Option Value)} {oc_Nlayers_told kV_Nlayers_told dc_Nlayers_told pm_Nlayers_told cd_Nlayers_told ct_Nlayers_told : Value} {fNlayers_told : Addr}
    {od_Nouts an_Nouts : Option Addr} {sl_Nouts : Array (Option Value)} {oc_Nouts kV_Nouts dc_Nouts pm_Nouts cd_Nouts ct_Nouts : Value} {fNouts : Addr}
    {od_Nhidden an_Nhidden : Option Addr} {sl_Nhidden : Array (Option Value)} {oc_Nhidden kV_Nhidden dc_Nhidden pm_Nhidden cd_Nhidden ct_Nhidden : Value} {fNhidden : Addr}
    {od_Nplaces an_Nplaces : Option Addr} {sl_Nplaces : Array (Option Value)} {oc_Nplaces kV_Nplaces dc_Nplaces pm_Nplaces cd_Nplaces ct_Nplaces : Value} {fNplaces : Addr}
    {od_Ntold an_Ntold : Option Addr} {sl_Ntold : Array (Option Value)} {oc_Ntold kV_Ntold dc_Ntold pm_Ntold cd_Ntold ct_Ntold : Value} {fNtold : Addr}
    {t_MI : Tok}
    {t_ML : Tok}
    {t_MN : Tok}
    (a0 : PySem.W.nsIn K mainGlobals "is_whole" = some (some (.ref f0)))
    (l0 : K.lookup f0 = some ⟨oc0, od0, .func (PySem.W.fnOf "is_whole" "is_whole" (defArgs s_is_whole) (defBody s_is_whole) (defScope s_is_whole) .none kV0 dc0 pm0 an0 cd0 ct0), sl0⟩)
    (c0 : PySem.W.codeIn K cd0 "is_whole" = true)
    (k0 : PySem.W.keepIn K (.ref f0) = true)
    (a1 : PySem.W.nsIn K mainGlobals "is_fraction" = some (some (.ref f1)))
    (l1 : K.lookup f1 = some ⟨oc1, od1, .func (PySem.W.fnOf "is_fraction" "is_fraction" (defArgs s_is_fraction) (defBody s_is_fraction) (defScope s_is_fraction) .none kV1 dc1 pm1 an1 cd1 ct1), sl1⟩)
    (c1 : PySem.W.codeIn K cd1 "is_fraction" = true)
    (k1 : PySem.W.keepIn K (.ref f1) = true)
    (a2 : PySem.W.nsIn K mainGlobals "is_row" = some (some (.ref f2)))
    (l2 : K.lookup f2 = some ⟨oc2, od2, .func (PySem.W.fnOf "is_row" "is_row" (defArgs s_is_row) (defBody s_is_row) (defScope s_is_row) .none kV2 dc2 pm2 an2 cd2 ct2), sl2⟩)
    (c2 : PySem.W.codeIn K cd2 "is_row" = true)
    (k2 : PySem.W.keepIn K (.ref f2) = true)
    (a3 : PySem.W.nsIn K mainGlobals "fraction_of" = some (some (.ref f3)))
    (l3 : K.lookup f3 = some ⟨oc3, od3, .func (PySem.W.fnOf "fraction_of" "fraction_of" (defArgs s_fraction_of) (defBody s_fraction_of) (defScope s_fraction_of) .none kV3 dc3 pm3 an3 cd3 ct3), sl3⟩)
    (c3 : PySem.W.codeIn K cd3 "fraction_of" = true)
    (k3 : PySem.W.keepIn K (.ref f3) = true)
    (a4 : PySem.W.nsIn K mainGlobals "plus" = some (some (.ref f4)))
    (l4 : K.lookup f4 = some ⟨oc4, od4, .func (PySem.W.fnOf "plus" "plus" (defArgs s_plus) (defBody s_plus) (defScope s_plus) .none kV4 dc4 pm4 an4 cd4 ct4), sl4⟩)
    (c4 : PySem.W.codeIn K cd4 "plus" = true)
    (k4 : PySem.W.keepIn K (.ref f4) = true)
    (a5 : PySem.W.nsIn K mainGlobals "times" = some (some (.ref f5)))
    (l5 : K.lookup f5 = some ⟨oc5, od5, .func (PySem.W.fnOf "times" "times" (defArgs s_times) (defBody s_times) (defScope s_times) .none kV5 dc5 pm5 an5 cd5 ct5), sl5⟩)
    (c5 : PySem.W.codeIn K cd5 "times" = true)
    (k5 : PySem.W.keepIn K (.ref f5) = true)
    (a6 : PySem.W.nsIn K mainGlobals "cut_at_nought" = some (some (.ref f6)))
    (l6 : K.lookup f6 = some ⟨oc6, od6, .func (PySem.W.fnOf "cut_at_nought" "cut_at_nought" (defArgs s_cut_at_nought) (defBody s_cut_at_nought) (defScope s_cut_at_nought) .none kV6 dc6 pm6 an6 cd6 ct6), sl6⟩)
    (c6 : PySem.W.codeIn K cd6 "cut_at_nought" = true)
    (k6 : PySem.W.keepIn K (.ref f6) = true)
    (a7 : PySem.W.nsIn K mainGlobals "weigh" = some (some (.ref f7)))
    (l7 : K.lookup f7 = some ⟨oc7, od7, .func (PySem.W.fnOf "weigh" "weigh" (defArgs s_weigh) (defBody s_weigh) (defScope s_weigh) .none kV7 dc7 pm7 an7 cd7 ct7), sl7⟩)
    (c7 : PySem.W.codeIn K cd7 "weigh" = true)
    (k7 : PySem.W.keepIn K (.ref f7) = true)
    (a8 : PySem.W.nsIn K mainGlobals "is_sum" = some (some (.ref f8)))
    (l8 : K.lookup f8 = some ⟨oc8, od8, .func (PySem.W.fnOf "is_sum" "is_sum" (defArgs s_is_sum) (defBody s_is_sum) (defScope s_is_sum) .none kV8 dc8 pm8 an8 cd8 ct8), sl8⟩)
    (c8 : PySem.W.codeIn K cd8 "is_sum" = true)
    (k8 : PySem.W.keepIn K (.ref f8) = true)
    (a9 : PySem.W.nsIn K mainGlobals "sum_at" = some (some (.ref f9)))
    (l9 : K.lookup f9 = some ⟨oc9, od9, .func (PySem.W.fnOf "sum_at" "sum_at" (defArgs s_sum_at) (defBody s_sum_at) (defScope s_sum_at) .none kV9 dc9 pm9 an9 cd9 ct9), sl9⟩)
    (c9 : PySem.W.codeIn K cd9 "sum_at" = true)
    (k9 : PySem.W.keepIn K (.ref f9) = true)
    (a10 : PySem.W.nsIn K mainGlobals "_reckoned" = some (some (.ref f10)))
    (l10 : K.lookup f10 = some ⟨oc10, od10, .func (PySem.W.fnOf "_reckoned" "_reckoned" (defArgs s__reckoned) (defBody s__reckoned) (defScope s__reckoned) .none kV10 dc10 pm10 an10 cd10 ct10), sl10⟩)
    (c10 : PySem.W.codeIn K cd10 "_reckoned" = true)
    (k10 : PySem.W.keepIn K (.ref f10) = true)
    (a11 : PySem.W.nsIn K mainGlobals "net_of" = some (some (.ref f11)))
    (l11 : K.lookup f11 = some ⟨oc11, od11, .func (PySem.W.fnOf "net_of" "net_of" (defArgs s_net_of) (defBody s_net_of) (defScope s_net_of) .none kV11 dc11 pm11 an11 cd11 ct11), sl11⟩)
    (c11 : PySem.W.codeIn K cd11 "net_of" = true)
    (k11 : PySem.W.keepIn K (.ref f11) = true)
    (a12 : PySem.W.nsIn K mainGlobals "same_net" = some (some (.ref f12)))
    (l12 : K.lookup f12 = some ⟨oc12, od12, .func (PySem.W.fnOf "same_net" "same_net" (defArgs s_same_net) (defBody s_same_net) (defScope s_same_net) .none kV12 dc12 pm12 an12 cd12 ct12), sl12⟩)
    (c12 : PySem.W.codeIn K cd12 "same_net" = true)
    (k12 : PySem.W.keepIn K (.ref f12) = true)
    (a13 : PySem.W.nsIn K mainGlobals "_are_ins" = some (some (.ref f13)))
    (l13 : K.lookup f13 = some ⟨oc13, od13, .func (PySem.W.fnOf "_are_ins" "_are_ins" (defArgs s__are_ins) (defBody s__are_ins) (defScope s__are_ins) .none kV13 dc13 pm13 an13 cd13 ct13), sl13⟩)
    (c13 : PySem.W.codeIn K cd13 "_are_ins" = true)
    (k13 : PySem.W.keepIn K (.ref f13) = true)
    (a14 : PySem.W.nsIn K mainGlobals "_are_layers" = some (some (.ref f14)))
    (l14 : K.lookup f14 = some ⟨oc14, od14, .func (PySem.W.fnOf "_are_layers" "_are_layers" (defArgs s__are_layers) (defBody s__are_layers) (defScope s__are_layers) .none kV14 dc14 pm14 an14 cd14 ct14), sl14⟩)
    (c14 : PySem.W.codeIn K cd14 "_are_layers" = true)
    (k14 : PySem.W.keepIn K (.ref f14) = true)
    (a15 : PySem.W.nsIn K mainGlobals "_law_cell" = some (some (.ref f15)))
    (l15 : K.lookup f15 = some ⟨oc15, od15, .func (PySem.W.fnOf "_law_cell" "_law_cell" (defArgs s__law_cell) (defBody s__law_cell) (defScope s__law_cell) .none kV15 dc15 pm15 an15 cd15 ct15), sl15⟩)
    (c15 : PySem.W.codeIn K cd15 "_law_cell" = true)
    (k15 : PySem.W.keepIn K (.ref f15) = true)
    (a16 : PySem.W.nsIn K mainGlobals "_law_stream" = some (some (.ref f16)))
    (l16 : K.lookup f16 = some ⟨oc16, od16, .func (PySem.W.fnOf "_law_stream" "_law_stream" (defArgs s__law_stream) (defBody s__law_stream) (defScope s__law_stream) .none kV16 dc16 pm16 an16 cd16 ct16), sl16⟩)
    (c16 : PySem.W.codeIn K cd16 "_law_stream" = true)
    (k16 : PySem.W.keepIn K (.ref f16) = true)
    (a17 : PySem.W.nsIn K mainGlobals "_law_take" = some (some (.ref f17)))
    (l17 : K.lookup f17 = some ⟨oc17, od17, .func (PySem.W.fnOf "_law_take" "_law_take" (defArgs s__law_take) (defBody s__law_take) (defScope s__law_take) .none kV17 dc17 pm17 an17 cd17 ct17), sl17⟩)
    (c17 : PySem.W.codeIn K cd17 "_law_take" = true)
    (k17 : PySem.W.keepIn K (.ref f17) = true)
    (a18 : PySem.W.nsIn K mainGlobals "_law_part" = some (some (.ref f18)))
    (l18 : K.lookup f18 = some ⟨oc18, od18, .func (PySem.W.fnOf "_law_part" "_law_part" (defArgs s__law_part) (defBody s__law_part) (defScope s__law_part) .none kV18 dc18 pm18 an18 cd18 ct18), sl18⟩)
    (c18 : PySem.W.codeIn K cd18 "_law_part" = true)
    (k18 : PySem.W.keepIn K (.ref f18) = true)
    (a19 : PySem.W.nsIn K mainGlobals "_law_long" = some (some (.ref f19)))
    (l19 : K.lookup f19 = some ⟨oc19, od19, .func (PySem.W.fnOf "_law_long" "_law_long" (defArgs s__law_long) (defBody s__law_long) (defScope s__law_long) .none kV19 dc19 pm19 an19 cd19 ct19), sl19⟩)
    (c19 : PySem.W.codeIn K cd19 "_law_long" = true)
    (k19 : PySem.W.keepIn K (.ref f19) = true)
    (a20 : PySem.W.nsIn K mainGlobals "_law_number" = some (some (.ref f20)))
    (l20 : K.lookup f20 = some ⟨oc20, od20, .func (PySem.W.fnOf "_law_number" "_law_number" (defArgs s__law_number) (defBody s__law_number) (defScope s__law_number) .none kV20 dc20 pm20 an20 cd20 ct20), sl20⟩)
    (c20 : PySem.W.codeIn K cd20 "_law_number" = true)
    (k20 : PySem.W.keepIn K (.ref f20) = true)
    (a21 : PySem.W.nsIn K mainGlobals "_law_node" = some (some (.ref f21)))
    (l21 : K.lookup f21 = some ⟨oc21, od21, .func (PySem.W.fnOf "_law_node" "_law_node" (defArgs s__law_node) (defBody s__law_node) (defScope s__law_node) .none kV21 dc21 pm21 an21 cd21 ct21), sl21⟩)
    (c21 : PySem.W.codeIn K cd21 "_law_node" = true)
    (k21 : PySem.W.keepIn K (.ref f21) = true)
    (a22 : PySem.W.nsIn K mainGlobals "_law_size" = some (some (.ref f22)))
    (l22 : K.lookup f22 = some ⟨oc22, od22, .func (PySem.W.fnOf "_law_size" "_law_size" (defArgs s__law_size) (defBody s__law_size) (defScope s__law_size) .none kV22 dc22 pm22 an22 cd22 ct22), sl22⟩)
    (c22 : PySem.W.codeIn K cd22 "_law_size" = true)
    (k22 : PySem.W.keepIn K (.ref f22) = true)
    (a23 : PySem.W.nsIn K mainGlobals "_law_layers" = some (some (.ref f23)))
    (l23 : K.lookup f23 = some ⟨oc23, od23, .func (PySem.W.fnOf "_law_layers" "_law_layers" (defArgs s__law_layers) (defBody s__law_layers) (defScope s__law_layers) .none kV23 dc23 pm23 an23 cd23 ct23), sl23⟩)
    (c23 : PySem.W.codeIn K cd23 "_law_layers" = true)
    (k23 : PySem.W.keepIn K (.ref f23) = true)
    (a24 : PySem.W.nsIn K mainGlobals "_law_shut" = some (some (.ref f24)))
    (l24 : K.lookup f24 = some ⟨oc24, od24, .func (PySem.W.fnOf "_law_shut" "_law_shut" (defArgs s__law_shut) (defBody s__law_shut) (defScope s__law_shut) .none kV24 dc24 pm24 an24 cd24 ct24), sl24⟩)
    (c24 : PySem.W.codeIn K cd24 "_law_shut" = true)
    (k24 : PySem.W.keepIn K (.ref f24) = true)
    (a25 : PySem.W.nsIn K mainGlobals "_law_told" = some (some (.ref f25)))
    (l25 : K.lookup f25 = some ⟨oc25, od25, .func (PySem.W.fnOf "_law_told" "_law_told" (defArgs s__law_told) (defBody s__law_told) (defScope s__law_told) .none kV25 dc25 pm25 an25 cd25 ct25), sl25⟩)
    (c25 : PySem.W.codeIn K cd25 "_law_told" = true)
    (k25 : PySem.W.keepIn K (.ref f25) = true)
    (a26 : PySem.W.nsIn K mainGlobals "_law_places" = some (some (.ref f26)))
    (l26 : K.lookup f26 = some ⟨oc26, od26, .func (PySem.W.fnOf "_law_places" "_law_places" (defArgs s__law_places) (defBody s__law_places) (defScope s__law_places) .none kV26 dc26 pm26 an26 cd26 ct26), sl26⟩)
    (c26 : PySem.W.codeIn K cd26 "_law_places" = true)
    (k26 : PySem.W.keepIn K (.ref f26) = true)
    (a27 : PySem.W.nsIn K mainGlobals "_law_numbers" = some (some (.ref f27)))
    (l27 : K.lookup f27 = some ⟨oc27, od27, .func (PySem.W.fnOf "_law_numbers" "_law_numbers" (defArgs s__law_numbers) (defBody s__law_numbers) (defScope s__law_numbers) .none kV27 dc27 pm27 an27 cd27 ct27), sl27⟩)
    (c27 : PySem.W.codeIn K cd27 "_law_numbers" = true)
    (k27 : PySem.W.keepIn K (.ref f27) = true)
    (a28 : PySem.W.nsIn K mainGlobals "_law_one_right" = some (some (.ref f28)))
    (l28 : K.lookup f28 = some ⟨oc28, od28, .func (PySem.W.fnOf "_law_one_right" "_law_one_right" (defArgs s__law_one_right) (defBody s__law_one_right) (defScope s__law_one_right) .none kV28 dc28 pm28 an28 cd28 ct28), sl28⟩)
    (c28 : PySem.W.codeIn K cd28 "_law_one_right" = true)
    (k28 : PySem.W.keepIn K (.ref f28) = true)
    (a29 : PySem.W.nsIn K mainGlobals "_law_unlike" = some (some (.ref f29)))
    (l29 : K.lookup f29 = some ⟨oc29, od29, .func (PySem.W.fnOf "_law_unlike" "_law_unlike" (defArgs s__law_unlike) (defBody s__law_unlike) (defScope s__law_unlike) .none kV29 dc29 pm29 an29 cd29 ct29), sl29⟩)
    (c29 : PySem.W.codeIn K cd29 "_law_unlike" = true)
    (k29 : PySem.W.keepIn K (.ref f29) = true)
    (a30 : PySem.W.nsIn K mainGlobals "_law_other" = some (some (.ref f30)))
    (l30 : K.lookup f30 = some ⟨oc30, od30, .func (PySem.W.fnOf "_law_other" "_law_other" (defArgs s__law_other) (defBody s__law_other) (defScope s__law_other) .none kV30 dc30 pm30 an30 cd30 ct30), sl30⟩)
    (c30 : PySem.W.codeIn K cd30 "_law_other" = true)
    (k30 : PySem.W.keepIn K (.ref f30) = true)
    (a31 : PySem.W.nsIn K mainGlobals "_law_spoilt" = some (some (.ref f31)))
    (l31 : K.lookup f31 = some ⟨oc31, od31, .func (PySem.W.fnOf "_law_spoilt" "_law_spoilt" (defArgs s__law_spoilt) (defBody s__law_spoilt) (defScope s__law_spoilt) .none kV31 dc31 pm31 an31 cd31 ct31), sl31⟩)
    (c31 : PySem.W.codeIn K cd31 "_law_spoilt" = true)
    (k31 : PySem.W.keepIn K (.ref f31) = true)
    (a32 : PySem.W.nsIn K mainGlobals "_law_right" = some (some (.ref f32)))
    (l32 : K.lookup f32 = some ⟨oc32, od32, .func (PySem.W.fnOf "_law_right" "_law_right" (defArgs s__law_right) (defBody s__law_right) (defScope s__law_right) .none kV32 dc32 pm32 an32 cd32 ct32), sl32⟩)
    (c32 : PySem.W.codeIn K cd32 "_law_right" = true)
    (k32 : PySem.W.keepIn K (.ref f32) = true)
    (a33 : PySem.W.nsIn K mainGlobals "law" = some (some (.ref f33)))
    (l33 : K.lookup f33 = some ⟨oc33, od33, .func (PySem.W.fnOf "law" "law" (defArgs s_law) (defBody s_law) (defScope s_law) .none kV33 dc33 pm33 an33 cd33 ct33), sl33⟩)
    (c33 : PySem.W.codeIn K cd33 "law" = true)
    (k33 : PySem.W.keepIn K (.ref f33) = true)
    (z_len : PySem.W.nsIn K mainGlobals "len" = some none)
    (z_range : PySem.W.nsIn K mainGlobals "range" = some none)
    (z_zip : PySem.W.nsIn K mainGlobals "zip" = some none)
    (z_tuple : PySem.W.nsIn K mainGlobals "tuple" = some none)
    (z_int : PySem.W.nsIn K mainGlobals "int" = some none)
    (z_abs : PySem.W.nsIn K mainGlobals "abs" = some none)
    (z_isinstance : PySem.W.nsIn K mainGlobals "isinstance" = some none)
    (z_bool : PySem.W.nsIn K mainGlobals "bool" = some none)
    (z_list : PySem.W.nsIn K mainGlobals "list" = some none)
    (z_max : PySem.W.nsIn K mainGlobals "max" = some none)
    (z_min : PySem.W.nsIn K mainGlobals "min" = some none)
    (z_all : PySem.W.nsIn K mainGlobals "all" = some none)
    (z_sum : PySem.W.nsIn K mainGlobals "sum" = some none)
    (z_enumerate : PySem.W.nsIn K mainGlobals "enumerate" = some none)
    (z_any : PySem.W.nsIn K mainGlobals "any" = some none)
    (z_repr : PySem.W.nsIn K mainGlobals "repr" = some none)
    (zgcd : PySem.W.nsIn K mainGlobals "gcd" = some (some (.builtin "math.gcd")))
    (nNOUGHT : PySem.W.nsIn K mainGlobals "NOUGHT" = some (some (.ref aCNOUGHT)))
    (vNOUGHT : K.lookup aCNOUGHT = some ⟨.type "tuple", dCNOUGHT, .seq #[.int 0 t1NOUGHT, .int 1 t2NOUGHT] nCNOUGHT, slCNOUGHT⟩)
    (aCL : PySem.W.nsIn K mainGlobals "Layer" = some (some (.ref CL)))
    (pgCL : PySem.W.plainGet K CL Str.empty = true)
    (hdCL : PySem.W.hasDictIn K CL = true)
    (poCL : PySem.W.plainOver K CL = true)
    (saCL : PySem.W.findIn K (.ref CL) "__setattr__" = some (some (.builtin "object.__setattr__")))
    (mkCL : PySem.W.makesIn K CL = true)
    (kcCL : PySem.W.keepIn K (.ref CL) = true)
    (naCL : PySem.W.findIn K (.ref CL) "_nodes" = some none)
    (iiCL : PySem.W.findIn K (.ref CL) "__init__" = some (some (.ref fI)))
    (aCC : PySem.W.nsIn K mainGlobals "CutLayer" = some (some (.ref CC)))
    (pgCC : PySem.W.plainGet K CC Str.empty = true)
    (hdCC : PySem.W.hasDictIn K CC = true)
    (poCC : PySem.W.plainOver K CC = true)
    (saCC : PySem.W.findIn K (.ref CC) "__setattr__" = some (some (.builtin "object.__setattr__")))
    (mkCC : PySem.W.makesIn K CC = true)
    (kcCC : PySem.W.keepIn K (.ref CC) = true)
    (naCC : PySem.W.findIn K (.ref CC) "_nodes" = some none)
    (iiCC : PySem.W.findIn K (.ref CC) "__init__" = some (some (.ref fI)))
    (aCN : PySem.W.nsIn K mainGlobals "Net" = some (some (.ref CN)))
    (pgCN : PySem.W.plainGet K CN Str.empty = true)
    (hdCN : PySem.W.hasDictIn K CN = true)
    (poCN : PySem.W.plainOver K CN = true)
    (saCN : PySem.W.findIn K (.ref CN) "__setattr__" = some (some (.builtin "object.__setattr__")))
    (mkCN : PySem.W.makesIn K CN = true)
    (kcCN : PySem.W.keepIn K (.ref CN) = true)
    (niCN : PySem.W.findIn K (.ref CN) "_ins" = some none)
    (nlCN : PySem.W.findIn K (.ref CN) "_layers" = some none)
    (iiCN : PySem.W.findIn K (.ref CN) "__init__" = some (some (.ref fNI)))
    (haCN : PySem.W.findIn K (.ref CN) "__class__" = some (some (.builtin "object.__class__")))
    (hmCN : PySem.W.mroIn K CN (.type "object") = some true)
    (meCN : PySem.W.kitOne K (.ref CN) (.ref CN) = some true)
    (hnO : PySem.W.specialIn K (.builtin "object.__class__") "__get__" = some (some (.builtin "getset_descriptor.__get__")))
    (htO : PySem.W.takesIn K (.builtin "object.__class__") = some true)
    (qI : PySem.W.isFn K (.ref fI) = true)
    (lI : K.lookup fI = some ⟨oc_I, od_I, .func (PySem.W.fnOf "__init__" "Layer.__init__" (defArgs s_Layer___init__) (defBody s_Layer___init__) (defScope s_Layer___init__) .none kV_I dc_I pm_I an_I cd_I ct_I), sl_I⟩)
    (cI : PySem.W.codeIn K cd_I "Layer.__init__" = true)
    (kI : PySem.W.keepIn K (.ref fI) = true)
    (qNI : PySem.W.isFn K (.ref fNI) = true)
    (lNI : K.lookup fNI = some ⟨oc_NI, od_NI, .func (PySem.W.fnOf "__init__" "Net.__init__" (defArgs s_Net___init__) (defBody s_Net___init__) (defScope s_Net___init__) .none kV_NI dc_NI pm_NI an_NI cd_NI ct_NI), sl_NI⟩)
    (cNI : PySem.W.codeIn K cd_NI "Net.__init__" = true)
    (kNI : PySem.W.keepIn K (.ref fNI) = true)
    (wLtold : PySem.W.findIn K (.ref CL) "told" = some (some (.ref fLtold)))
    (qLtold : PySem.W.isFn K (.ref fLtold) = true)
    (lLtold : K.lookup fLtold = some ⟨oc_Ltold, od_Ltold, .func (PySem.W.fnOf "told" "Layer.told" (defArgs s_Layer_told) (defBody s_Layer_told) (defScope s_Layer_told) .none kV_Ltold dc_Ltold pm_Ltold an_Ltold cd_Ltold ct_Ltold), sl_Ltold⟩)
    (cLtold : PySem.W.codeIn K cd_Ltold "Layer.told" = true)
    (kLtold : PySem.W.keepIn K (.ref fLtold) = true)
    (wLsums : PySem.W.findIn K (.ref CL) "sums" = some (some (.ref fLsums)))
    (qLsums : PySem.W.isFn K (.ref fLsums) = true)
    (lLsums : K.lookup fLsums = some ⟨oc_Lsums, od_Lsums, .func (PySem.W.fnOf "sums" "Layer.sums" (defArgs s_Layer_sums) (defBody s_Layer_sums) (defScope s_Layer_sums) .none kV_Lsums dc_Lsums pm_Lsums an_Lsums cd_Lsums ct_Lsums), sl_Lsums⟩)
    (cLsums : PySem.W.codeIn K cd_Lsums "Layer.sums" = true)
    (kLsums : PySem.W.keepIn K (.ref fLsums) = true)
    (wCtold : PySem.W.findIn K (.ref CC) "told" = some (some (.ref fCtold)))
    (qCtold : PySem.W.isFn K (.ref fCtold) = true)
    (lCtold : K.lookup fCtold = some ⟨oc_Ctold, od_Ctold, .func (PySem.W.fnOf "told" "CutLayer.told" (defArgs s_CutLayer_told) (defBody s_CutLayer_told) (defScope s_CutLayer_told) .none kV_Ctold dc_Ctold pm_Ctold an_Ctold cd_Ctold ct_Ctold), sl_Ctold⟩)
    (cCtold : PySem.W.codeIn K cd_Ctold "CutLayer.told" = true)
    (kCtold : PySem.W.keepIn K (.ref fCtold) = true)
    (wCsums : PySem.W.findIn K (.ref CC) "sums" = some (some (.ref fCsums)))
    (qCsums : PySem.W.isFn K (.ref fCsums) = true)
    (lCsums : K.lookup fCsums = some ⟨oc_Csums, od_Csums, .func (PySem.W.fnOf "sums" "CutLayer.sums" (defArgs s_CutLayer_sums) (defBody s_CutLayer_sums) (defScope s_CutLayer_sums) .none kV_Csums dc_Csums pm_Csums an_Csums cd_Csums ct_Csums), sl_Csums⟩)
    (cCsums : PySem.W.codeIn K cd_Csums "CutLayer.sums" = true)
    (kCsums : PySem.W.keepIn K (.ref fCsums) = true)
    (wNins : PySem.W.findIn K (.ref CN) "ins" = some (some (.ref fNins)))
    (qNins : PySem.W.isFn K (.ref fNins) = true)
    (lNins : K.lookup fNins = some ⟨oc_Nins, od_Nins, .func (PySem.W.fnOf "ins" "Net.ins" (defArgs s_Net_ins) (defBody s_Net_ins) (defScope s_Net_ins) .none kV_Nins dc_Nins pm_Nins an_Nins cd_Nins ct_Nins), sl_Nins⟩)
    (cNins : PySem.W.codeIn K cd_Nins "Net.ins" = true)
    (kNins : PySem.W.keepIn K (.ref fNins) = true)
    (wNlayers_told : PySem.W.findIn K (.ref CN) "layers_told" = some (some (.ref fNlayers_told)))
    (qNlayers_told : PySem.W.isFn K (.ref fNlayers_told) = true)
    (lNlayers_told : K.lookup fNlayers_told = some ⟨oc_Nlayers_told, od_Nlayers_told, .func (PySem.W.fnOf "layers_told" "Net.layers_told" (defArgs s_Net_layers_told) (defBody s_Net_layers_told) (defScope s_Net_layers_told) .none kV_Nlayers_told dc_Nlayers_told pm_Nlayers_told an_Nlayers_told cd_Nlayers_told ct_Nlayers_told), sl_Nlayers_told⟩)
    (cNlayers_told : PySem.W.codeIn K cd_Nlayers_told "Net.layers_told" = true)
    (kNlayers_told : PySem.W.keepIn K (.ref fNlayers_told) = true)
    (wNouts : PySem.W.findIn K (.ref CN) "outs" = some (some (.ref fNouts)))
    (qNouts : PySem.W.isFn K (.ref fNouts) = true)
    (lNouts : K.lookup fNouts = some ⟨oc_Nouts, od_Nouts, .func (PySem.W.fnOf "outs" "Net.outs" (defArgs s_Net_outs) (defBody s_Net_outs) (defScope s_Net_outs) .none kV_Nouts dc_Nouts pm_Nouts an_Nouts cd_Nouts ct_Nouts), sl_Nouts⟩)
    (cNouts : PySem.W.codeIn K cd_Nouts "Net.outs" = true)
    (kNouts : PySem.W.keepIn K (.ref fNouts) = true)
    (wNhidden : PySem.W.findIn K (.ref CN) "hidden" = some (some (.ref fNhidden)))
    (qNhidden : PySem.W.isFn K (.ref fNhidden) = true)
    (lNhidden : K.lookup fNhidden = some ⟨oc_Nhidden, od_Nhidden, .func (PySem.W.fnOf "hidden" "Net.hidden" (defArgs s_Net_hidden) (defBody s_Net_hidden) (defScope s_Net_hidden) .none kV_Nhidden dc_Nhidden pm_Nhidden an_Nhidden cd_Nhidden ct_Nhidden), sl_Nhidden⟩)
    (cNhidden : PySem.W.codeIn K cd_Nhidden "Net.hidden" = true)
    (kNhidden : PySem.W.keepIn K (.ref fNhidden) = true)
    (wNplaces : PySem.W.findIn K (.ref CN) "places" = some (some (.ref fNplaces)))
    (qNplaces : PySem.W.isFn K (.ref fNplaces) = true)
    (lNplaces : K.lookup fNplaces = some ⟨oc_Nplaces, od_Nplaces, .func (PySem.W.fnOf "places" "Net.places" (defArgs s_Net_places) (defBody s_Net_places) (defScope s_Net_places) .none kV_Nplaces dc_Nplaces pm_Nplaces an_Nplaces cd_Nplaces ct_Nplaces), sl_Nplaces⟩)
    (cNplaces : PySem.W.codeIn K cd_Nplaces "Net.places" = true)
    (kNplaces : PySem.W.keepIn K (.ref fNplaces) = true)
    (wNtold : PySem.W.findIn K (.ref CN) "told" = some (some (.ref fNtold)))
    (qNtold : PySem.W.isFn K (.ref fNtold) = true)
    (lNtold : K.lookup fNtold = some ⟨oc_Ntold, od_Ntold, .func (PySem.W.fnOf "told" "Net.told" (defArgs s_Net_told) (defBody s_Net_told) (defScope s_Net_told) .none kV_Ntold dc_Ntold pm_Ntold an_Ntold cd_Ntold ct_Ntold), sl_Ntold⟩)
    (cNtold : PySem.W.codeIn K cd_Ntold "Net.told" = true)
    (kNtold : PySem.W.keepIn K (.ref fNtold) = true)
    (iMI : PySem.W.nsIn K mainGlobals "MOST_INS" = some (some (.int 3 t_MI)))
    (iML : PySem.W.nsIn K mainGlobals "MOST_LAYERS" = some (some (.int 4 t_ML)))
    (iMN : PySem.W.nsIn K mainGlobals "MOST_NODES" = some (some (.int 4 t_MN)))
    : ∃ fd : FuncData, (∀ (s : Shared) (v : Value), BindsTo s fd ⟨[v], []⟩ [("_law_script", v)]) ∧ ∀ base : Heap, K.In base → base.Ns mainGlobals mg → GOk l.prog w K mg base 10 fa fd ["_law_script"] (spLaw K) := by
  have e := hfa.symm.trans (PySem.W.mg_of X G a33)
  cases e
  have D_is_whole : Df K mg "is_whole" s_is_whole ["thing"] := Df.of X G a0 l0 c0 k0 fun _ _ _ _ _ _ us hl => match us, hl with | [_], _ => rfl
  have D_is_fraction : Df K mg "is_fraction" s_is_fraction ["thing"] := Df.of X G a1 l1 c1 k1 fun _ _ _ _ _ _ us hl => match us, hl with | [_], _ => rfl
  have D_is_row : Df K mg "is_row" s_is_row ["thing", "many"] := Df.of X G a2 l2 c2 k2 fun _ _ _ _ _ _ us hl => match us, hl with | [_, _], _ => rfl
  have D_fraction_of : Df K mg "fraction_of" s_fraction_of ["top", "bottom"] := Df.of X G a3 l3 c3 k3 fun _ _ _ _ _ _ us hl => match us, hl with | [_, _], _ => rfl
  have D_plus : Df K mg "plus" s_plus ["one", "other"] := Df.of X G a4 l4 c4 k4 fun _ _ _ _ _ _ us hl => match us, hl with | [_, _], _ => rfl
  have D_times : Df K mg "times" s_times ["one", "other"] := Df.of X G a5 l5 c5 k5 fun _ _ _ _ _ _ us hl => match us, hl with | [_, _], _ => rfl
  have D_cut_at_nought : Df K mg "cut_at_nought" s_cut_at_nought ["one"] := Df.of X G a6 l6 c6 k6 fun _ _ _ _ _ _ us hl => match us, hl with | [_], _ => rfl
  have D_weigh : Df K mg "weigh" s_weigh ["row", "other"] := Df.of X G a7 l7 c7 k7 fun _ _ _ _ _ _ us hl => match us, hl with | [_, _], _ => rfl
  have D_is_sum : Df K mg "is_sum" s_is_sum ["thing", "many"] := Df.of X G a8 l8 c8 k8 fun _ _ _ _ _ _ us hl => match us, hl with | [_, _], _ => rfl
  have D_sum_at : Df K mg "sum_at" s_sum_at ["one", "row"] := Df.of X G a9 l9 c9 k9 fun _ _ _ _ _ _ us hl => match us, hl with | [_, _], _ => rfl
  have D__reckoned : Df K mg "_reckoned" s__reckoned ["nodes", "ahead"] := Df.of X G a10 l10 c10 k10 fun _ _ _ _ _ _ us hl => match us, hl with | [_, _], _ => rfl
  have D_net_of : Df K mg "net_of" s_net_of ["told"] := Df.of X G a11 l11 c11 k11 fun _ _ _ _ _ _ us hl => match us, hl with | [_], _ => rfl
  have D_same_net : Df K mg "same_net" s_same_net ["one", "other"] := Df.of X G a12 l12 c12 k12 fun _ _ _ _ _ _ us hl => match us, hl with | [_, _], _ => rfl
  have D__are_ins : Df K mg "_are_ins" s__are_ins ["thing"] := Df.of X G a13 l13 c13 k13 fun _ _ _ _ _ _ us hl => match us, hl with | [_], _ => rfl
  have D__are_layers : Df K mg "_are_layers" s__are_layers ["thing", "ins"] := Df.of X G a14 l14 c14 k14 fun _ _ _ _ _ _ us hl => match us, hl with | [_, _], _ => rfl
  have D__law_cell : Df K mg "_law_cell" s__law_cell ["_law_script", "_law_k"] := Df.of X G a15 l15 c15 k15 fun _ _ _ _ _ _ us hl => match us, hl with | [_, _], _ => rfl
  have D__law_stream : Df K mg "_law_stream" s__law_stream ["_law_cell_here"] := Df.of X G a16 l16 c16 k16 fun _ _ _ _ _ _ us hl => match us, hl with | [_], _ => rfl
  have D__law_take : Df K mg "_law_take" s__law_take ["_law_stream_here", "_law_many"] := Df.of X G a17 l17 c17 k17 fun _ _ _ _ _ _ us hl => match us, hl with | [_, _], _ => rfl
  have D__law_part : Df K mg "_law_part" s__law_part ["_law_top", "_law_bottom"] := Df.of X G a18 l18 c18 k18 fun _ _ _ _ _ _ us hl => match us, hl with | [_, _], _ => rfl
  have D__law_long : Df K mg "_law_long" s__law_long ["_law_stream_here"] := Df.of X G a19 l19 c19 k19 fun _ _ _ _ _ _ us hl => match us, hl with | [_], _ => rfl
  have D__law_number : Df K mg "_law_number" s__law_number ["_law_stream_here"] := Df.of X G a20 l20 c20 k20 fun _ _ _ _ _ _ us hl => match us, hl with | [_], _ => rfl
  have D__law_node : Df K mg "_law_node" s__law_node ["_law_stream_here", "_law_many"] := Df.of X G a21 l21 c21 k21 fun _ _ _ _ _ _ us hl => match us, hl with | [_, _], _ => rfl
  have D__law_size : Df K mg "_law_size" s__law_size ["_law_stream_here", "_law_most"] := Df.of X G a22 l22 c22 k22 fun _ _ _ _ _ _ us hl => match us, hl with | [_, _], _ => rfl
  have D__law_layers : Df K mg "_law_layers" s__law_layers ["_law_stream_here", "_law_ins"] := Df.of X G a23 l23 c23 k23 fun _ _ _ _ _ _ us hl => match us, hl with | [_, _], _ => rfl
  have D__law_shut : Df K mg "_law_shut" s__law_shut ["_law_stream_here", "_law_layers_here"] := Df.of X G a24 l24 c24 k24 fun _ _ _ _ _ _ us hl => match us, hl with | [_, _], _ => rfl
  have D__law_told : Df K mg "_law_told" s__law_told ["_law_ins", "_law_layers_here"] := Df.of X G a25 l25 c25 k25 fun _ _ _ _ _ _ us hl => match us, hl with | [_, _], _ => rfl
  have D__law_places : Df K mg "_law_places" s__law_places ["_law_layers_here"] := Df.of X G a26 l26 c26 k26 fun _ _ _ _ _ _ us hl => match us, hl with | [_], _ => rfl
  have D__law_numbers : Df K mg "_law_numbers" s__law_numbers ["_law_net"] := Df.of X G a27 l27 c27 k27 fun _ _ _ _ _ _ us hl => match us, hl with | [_], _ => rfl
  have D__law_one_right : Df K mg "_law_one_right" s__law_one_right ["_law_net", "_law_ins", "_law_layers_here"] := Df.of X G a28 l28 c28 k28 fun _ _ _ _ _ _ us hl => match us, hl with | [_, _, _], _ => rfl
  have D__law_unlike : Df K mg "_law_unlike" s__law_unlike ["_law_stream_here", "_law_one"] := Df.of X G a29 l29 c29 k29 fun _ _ _ _ _ _ us hl => match us, hl with | [_, _], _ => rfl
  have D__law_other : Df K mg "_law_other" s__law_other ["_law_stream_here", "_law_layers_here"] := Df.of X G a30 l30 c30 k30 fun _ _ _ _ _ _ us hl => match us, hl with | [_, _], _ => rfl
  have D__law_spoilt : Df K mg "_law_spoilt" s__law_spoilt ["_law_some"] := Df.of X G a31 l31 c31 k31 fun _ _ _ _ _ _ us hl => match us, hl with | [_], _ => rfl
  have D__law_right : Df K mg "_law_right" s__law_right ["_law_stream_here"] := Df.of X G a32 l32 c32 k32 fun _ _ _ _ _ _ us hl => match us, hl with | [_], _ => rfl
  have mlen := PySem.W.mg_none_of X G z_len
  have mrange := PySem.W.mg_none_of X G z_range
  have mzip := PySem.W.mg_none_of X G z_zip
  have mtuple := PySem.W.mg_none_of X G z_tuple
  have mint := PySem.W.mg_none_of X G z_int
  have mabs := PySem.W.mg_none_of X G z_abs
  have misinstance := PySem.W.mg_none_of X G z_isinstance
  have mbool := PySem.W.mg_none_of X G z_bool
  have mlist := PySem.W.mg_none_of X G z_list
  have mmax := PySem.W.mg_none_of X G z_max
  have mmin := PySem.W.mg_none_of X G z_min
  have mall := PySem.W.mg_none_of X G z_all
  have msum := PySem.W.mg_none_of X G z_sum
  have menumerate := PySem.W.mg_none_of X G z_enumerate
  have many := PySem.W.mg_none_of X G z_any
  have mrepr := PySem.W.mg_none_of X G z_repr
  have mgcd := PySem.W.mg_of X G zgcd
  have C_NOUGHT : Cst K mg "NOUGHT" 0 := ⟨aCNOUGHT, PySem.W.mg_of X G nNOUGHT, fun H => ⟨aCNOUGHT, rfl, .inr ⟨_, _, _, vNOUGHT, rfl, rfl, (by show 2 ≤ sizeLine; decide), .cons ⟨_, rfl⟩ (.cons ⟨_, rfl⟩ .nil)⟩⟩⟩
  have FI := fun_mk (st := s_Layer___init__) lI cI kI
  have bI := FI.binds (ps := ["self", "nodes"]) fun _ _ _ _ _ _ us hl => match us, hl with | [_, _], _ => rfl
  have FNI := fun_mk (st := s_Net___init__) lNI cNI kNI
  have bNI := FNI.binds (ps := ["self", "ins", "layers"]) fun _ _ _ _ _ _ us hl => match us, hl with | [_, _, _], _ => rfl
  have FLtold := fun_mk (st := s_Layer_told) lLtold cLtold kLtold
  have bLtold := FLtold.binds (ps := ["self"]) fun _ _ _ _ _ _ us hl => match us, hl with | [_], _ => rfl
  have MLtold : Md K CL "told" "Layer.told" s_Layer_told ["self"] := ⟨_, _, ⟨wLtold, qLtold, kLtold⟩, FLtold, bLtold⟩
  have FLsums := fun_mk (st := s_Layer_sums) lLsums cLsums kLsums
  have bLsums := FLsums.binds (ps := ["self", "ahead"]) fun _ _ _ _ _ _ us hl => match us, hl with | [_, _], _ => rfl
  have MLsums : Md K CL "sums" "Layer.sums" s_Layer_sums ["self", "ahead"] := ⟨_, _, ⟨wLsums, qLsums, kLsums⟩, FLsums, bLsums⟩
  have FCtold := fun_mk (st := s_CutLayer_told) lCtold cCtold kCtold
  have bCtold := FCtold.binds (ps := ["self"]) fun _ _ _ _ _ _ us hl => match us, hl with | [_], _ => rfl
  have MCtold : Md K CC "told" "CutLayer.told" s_CutLayer_told ["self"] := ⟨_, _, ⟨wCtold, qCtold, kCtold⟩, FCtold, bCtold⟩
  have FCsums := fun_mk (st := s_CutLayer_sums) lCsums cCsums kCsums
  have bCsums := FCsums.binds (ps := ["self", "ahead"]) fun _ _ _ _ _ _ us hl => match us, hl with | [_, _], _ => rfl
  have MCsums : Md K CC "sums" "CutLayer.sums" s_CutLayer_sums ["self", "ahead"] := ⟨_, _, ⟨wCsums, qCsums, kCsums⟩, FCsums, bCsums⟩
  have FNins := fun_mk (st := s_Net_ins) lNins cNins kNins
  have bNins := FNins.binds (ps := ["self"]) fun _ _ _ _ _ _ us hl => match us, hl with | [_], _ => rfl
  have MNins : Md K CN "ins" "Net.ins" s_Net_ins ["self"] := ⟨_, _, ⟨wNins, qNins, kNins⟩, FNins, bNins⟩
  have FNlayers_told := fun_mk (st := s_Net_layers_told) lNlayers_told cNlayers_told kNlayers_told
  have bNlayers_told := FNlayers_told.binds (ps := ["self"]) fun _ _ _ _ _ _ us hl => match us, hl with | [_], _ => rfl
  have MNlayers_told : Md K CN "layers_told" "Net.layers_told" s_Net_layers_told ["self"] := ⟨_, _, ⟨wNlayers_told, qNlayers_told, kNlayers_told⟩, FNlayers_told, bNlayers_told⟩
  have FNouts := fun_mk (st := s_Net_outs) lNouts cNouts kNouts
  have bNouts := FNouts.binds (ps := ["self"]) fun _ _ _ _ _ _ us hl => match us, hl with | [_], _ => rfl
  have MNouts : Md K CN "outs" "Net.outs" s_Net_outs ["self"] := ⟨_, _, ⟨wNouts, qNouts, kNouts⟩, FNouts, bNouts⟩
  have FNhidden := fun_mk (st := s_Net_hidden) lNhidden cNhidden kNhidden
  have bNhidden := FNhidden.binds (ps := ["self"]) fun _ _ _ _ _ _ us hl => match us, hl with | [_], _ => rfl
  have MNhidden : Md K CN "hidden" "Net.hidden" s_Net_hidden ["self"] := ⟨_, _, ⟨wNhidden, qNhidden, kNhidden⟩, FNhidden, bNhidden⟩
  have FNplaces := fun_mk (st := s_Net_places) lNplaces cNplaces kNplaces
  have bNplaces := FNplaces.binds (ps := ["self"]) fun _ _ _ _ _ _ us hl => match us, hl with | [_], _ => rfl
  have MNplaces : Md K CN "places" "Net.places" s_Net_places ["self"] := ⟨_, _, ⟨wNplaces, qNplaces, kNplaces⟩, FNplaces, bNplaces⟩
  have FNtold := fun_mk (st := s_Net_told) lNtold cNtold kNtold
  have bNtold := FNtold.binds (ps := ["self"]) fun _ _ _ _ _ _ us hl => match us, hl with | [_], _ => rfl
  have MNtold : Md K CN "told" "Net.told" s_Net_told ["self"] := ⟨_, _, ⟨wNtold, qNtold, kNtold⟩, FNtold, bNtold⟩
  have TCL : Cls K CL := ⟨pgCL, hdCL, poCL, saCL⟩
  have gCL := PySem.W.mg_of X G aCL
  have TCC : Cls K CC := ⟨pgCC, hdCC, poCC, saCC⟩
  have gCC := PySem.W.mg_of X G aCC
  have TCN : Cls K CN := ⟨pgCN, hdCN, poCN, saCN⟩
  have gCN := PySem.W.mg_of X G aCN
  have ICN : C8.InsC K CN := ⟨TCN, haCN, hnO, htO, hmCN, meCN⟩
  have mMI := PySem.W.mg_of X G iMI
  have mML := PySem.W.mg_of X G iML
  have mMN := PySem.W.mg_of X G iMN
  have F_law := fun_mk (st := s_law) l33 c33 k33
  refine ⟨PySem.W.fnOf "law" "law" (defArgs s_law) (defBody s_law) (defScope s_law) .none kV33 dc33 pm33 an33 cd33 ct33, fun s v => .of_eq rfl, fun base _ _ => ?_⟩
  have g1 := ok_fraction_of (P := l.prog) (w := w) (base := base) D_fraction_of mgcd
  have g2 := ok_plus D_plus g1
  have g3 := ok_times D_times g1
  have g4 := ok_weigh D_weigh C_NOUGHT mzip g2 g3
  have g5 := ok_sum_at D_sum_at g2 g4
  have g6 := ok_cut_at_nought (P := l.prog) (w := w) (base := base) D_cut_at_nought C_NOUGHT
  have g7 := ok__reckoned D__reckoned g5 mtuple
  have w1 := ok_is_whole (P := l.prog) (w := w) (base := base) D_is_whole misinstance mint mbool
  have w2 := ok_is_fraction D_is_fraction w1 misinstance mtuple mlen mgcd
  have w3 := ok_is_row D_is_row w2 misinstance mtuple mlen mall
  have w4 := ok_is_sum D_is_sum w3 w2 misinstance mtuple mlen
  have w5 := ok__are_ins D__are_ins w1 mMI
  have w6 := ok__are_layers D__are_layers w4 mML mMN misinstance mtuple mlist mlen mall
  have NN : NDefs l.prog w K mg base CN CL CC := ⟨TCN, niCN, nlCN, TCL, TCC, ok_Layer_told MLtold TCL naCL, ok_CutLayer_told MCtold TCC naCC, ok_Layer_sums MLsums TCL naCL g7, ok_CutLayer_sums MCsums TCC naCC g7⟩
  have KN : Mk K CN fNI := ⟨mkCN, iiCN, qNI, kcCN⟩
  have w6M := okM__are_layers D__are_layers w4 mML mMN misinstance mtuple mlist mlen mall
  have FNM := fnM_netinit FNI NN ⟨mkCL, iiCL, qI, kcCL⟩ ⟨mkCC, iiCC, qI, kcCC⟩ (fn_init FI TCL naCL mtuple) (fn_init FI TCC naCC mtuple) bI gCL gCC w5 w6M mtuple
  have u1 := ok_Net_ins MNins NN
  have u2 := ok_Net_layers_told MNlayers_told NN mlist
  have u3 := ok_Net_outs MNouts NN mlen
  have u4 := ok_Net_hidden MNhidden NN mlen msum
  have u5 := ok_Net_places MNplaces NN mlen mrange menumerate
  have u6 := ok_Net_told MNtold NN mtuple
  have h1 := ok__law_cell (P := l.prog) (w := w) (base := base) D__law_cell mlen
  have h2 := ok__law_stream (P := l.prog) (w := w) (base := base) D__law_stream mint
  have h3 := ok__law_take (P := l.prog) (w := w) (base := base) D__law_take
  have h4 := ok__law_part (P := l.prog) (w := w) (base := base) D__law_part mabs
  have h9 := ok__law_long D__law_long h3
  have i1 := ok__law_number D__law_number h3 h9 h4
  have i2 := ok__law_node D__law_node i1 mtuple mrange
  have i3 := ok__law_size D__law_size h3 mint
  have i4 := ok__law_layers D__law_layers i3 i2 mrange
  have j1 := ok__law_places (P := l.prog) (w := w) (base := base) D__law_places mlen mrange
  have j2 := ok__law_told (P := l.prog) (w := w) (base := base) D__law_told mtuple
  have j3 := ok__law_numbers D__law_numbers NN u1 u3 u4
  have j4 := ok_same_net D_same_net NN u6
  have j5 := ok_net_of (P := l.prog) (w := w) (base := base) D_net_of KN FNM bNI gCN w5 w6M misinstance mtuple mlen mall
  have j6 := ok__law_shut D__law_shut h3 mtuple mlist
  have j7 := ok__law_spoilt (P := l.prog) (w := w) (base := base) D__law_spoilt misinstance mlist
  have j8 := ok__law_unlike D__law_unlike i1 mint
  have j9 := ok__law_other D__law_other h3 j8 mlen mlist
  have k1 := ok__law_one_right D__law_one_right NN j3 j1 j2 u2 u5 u6 misinstance mlist mbool mlen many
  have k2 := go__law_right D__law_right NN KN FNM bNI gCN h3 i4 j6 j7 j9 j5 u6 k1 j4 mrepr mrange
  exact fn_law F_law h1 h2 k2 mrange mmax mmin mlen
end K07
open PySem PySem.W PyProof.Rows
set_option maxRecDepth 100000 in
set_option maxHeartbeats 0 in
theorem PySem.Challenge.cw_noughtcut_k07_nets_told_holds : PySem.Challenge.rw_noughtcut_k07_nets_told.Holds := by
  w_on; o_law; k_head; (case hw => w_witness2)
  k_fill
  refine Nc.gwalk (l := PySem.Challenge.rw_noughtcut_k07_nets_told) (n := 63) (k := 10) (x := "_law_script") (sp := fun K => Nc.spLaw K) rfl (by decide) rfl ⟨rfl, by decide, by decide⟩ (fun w h Y => PySem.W.kIn_of Y) ?F (fun K H a ns hl hS => ⟨a, ns, rfl, hS, hl, fun _ => rfl⟩)
  case F =>
    intro w mg fa h KX G hmg
    refine' K07.all_mk KX G hmg ?a0 ?l0 ?c0 ?k0 ?a1 ?l1 ?c1 ?k1 ?a2 ?l2 ?c2 ?k2 ?a3 ?l3 ?c3 ?k3 ?a4 ?l4 ?c4 ?k4 ?a5 ?l5 ?c5 ?k5 ?a6 ?l6 ?c6 ?k6 ?a7 ?l7 ?c7 ?k7 ?a8 ?l8 ?c8 ?k8 ?a9 ?l9 ?c9 ?k9 ?a10 ?l10 ?c10 ?k10 ?a11 ?l11 ?c11 ?k11 ?a12 ?l12 ?c12 ?k12 ?a13 ?l13 ?c13 ?k13 ?a14 ?l14 ?c14 ?k14 ?a15 ?l15 ?c15 ?k15 ?a16 ?l16 ?c16 ?k16 ?a17 ?l17 ?c17 ?k17 ?a18 ?l18 ?c18 ?k18 ?a19 ?l19 ?c19 ?k19 ?a20 ?l20 ?c20 ?k20 ?a21 ?l21 ?c21 ?k21 ?a22 ?l22 ?c22 ?k22 ?a23 ?l23 ?c23 ?k23 ?a24 ?l24 ?c24 ?k24 ?a25 ?l25 ?c25 ?k25 ?a26 ?l26 ?c26 ?k26 ?a27 ?l27 ?c27 ?k27 ?a28 ?l28 ?c28 ?k28 ?a29 ?l29 ?c29 ?k29 ?a30 ?l30 ?c30 ?k30 ?a31 ?l31 ?c31 ?k31 ?a32 ?l32 ?c32 ?k32 ?a33 ?l33 ?c33 ?k33 ?z_len ?z_range ?z_zip ?z_tuple ?z_int ?z_abs ?z_isinstance ?z_bool ?z_list ?z_max ?z_min ?z_all ?z_sum ?z_enumerate ?z_any ?z_repr ?zgcd ?nNOUGHT ?vNOUGHT ?aCL ?pgCL ?hdCL ?poCL ?saCL ?mkCL ?kcCL ?naCL ?iiCL ?aCC ?pgCC ?hdCC ?poCC ?saCC ?mkCC ?kcCC ?naCC ?iiCC ?aCN ?pgCN ?hdCN ?poCN ?saCN ?mkCN ?kcCN ?niCN ?nlCN ?iiCN ?haCN ?hmCN ?meCN ?hnO ?htO ?qI ?lI ?cI ?kI ?qNI ?lNI ?cNI ?kNI ?wLtold ?qLtold ?lLtold ?cLtold ?kLtold ?wLsums ?qLsums ?lLsums ?cLsums ?kLsums ?wCtold ?qCtold ?lCtold ?cCtold ?kCtold ?wCsums ?qCsums ?lCsums ?cCsums ?kCsums ?wNins ?qNins ?lNins ?cNins ?kNins ?wNlayers_told ?qNlayers_told ?lNlayers_told ?cNlayers_told ?kNlayers_told ?wNouts ?qNouts ?lNouts ?cNouts ?kNouts ?wNhidden ?qNhidden ?lNhidden ?cNhidden ?kNhidden ?wNplaces ?qNplaces ?lNplaces ?cNplaces ?kNplaces ?wNtold ?qNtold ?lNtold ?cNtold ?kNtold ?iMI ?iML ?iMN
    (case a0 => k_is)
    (case l0 => k_is)
    (case c0 => k_is)
    (case k0 => k_is)
    (case a1 => k_is)
    (case l1 => k_is)
    (case c1 => k_is)
    (case k1 => k_is)
    (case a2 => k_is)
    (case l2 => k_is)
    (case c2 => k_is)
    (case k2 => k_is)
    (case a3 => k_is)
    (case l3 => k_is)
    (case c3 => k_is)
    (case k3 => k_is)
    (case a4 => k_is)
    (case l4 => k_is)
    (case c4 => k_is)
    (case k4 => k_is)
    (case a5 => k_is)
    (case l5 => k_is)
    (case c5 => k_is)
    (case k5 => k_is)
    (case a6 => k_is)
    (case l6 => k_is)
    (case c6 => k_is)
    (case k6 => k_is)
    (case a7 => k_is)
    (case l7 => k_is)
    (case c7 => k_is)
    (case k7 => k_is)
    (case a8 => k_is)
    (case l8 => k_is)
    (case c8 => k_is)
    (case k8 => k_is)
    (case a9 => k_is)
    (case l9 => k_is)
    (case c9 => k_is)
    (case k9 => k_is)
    (case a10 => k_is)
    (case l10 => k_is)
    (case c10 => k_is)
    (case k10 => k_is)
    (case a11 => k_is)
    (case l11 => k_is)
    (case c11 => k_is)
    (case k11 => k_is)
    (case a12 => k_is)
    (case l12 => k_is)
    (case c12 => k_is)
    (case k12 => k_is)
    (case a13 => k_is)
    (case l13 => k_is)
    (case c13 => k_is)
    (case k13 => k_is)
    (case a14 => k_is)
    (case l14 => k_is)
    (case c14 => k_is)
    (case k14 => k_is)
    (case a15 => k_is)
    (case l15 => k_is)
    (case c15 => k_is)
    (case k15 => k_is)
    (case a16 => k_is)
    (case l16 => k_is)
    (case c16 => k_is)
    (case k16 => k_is)
    (case a17 => k_is)
    (case l17 => k_is)
    (case c17 => k_is)
    (case k17 => k_is)
    (case a18 => k_is)
    (case l18 => k_is)
    (case c18 => k_is)
    (case k18 => k_is)
    (case a19 => k_is)
    (case l19 => k_is)
    (case c19 => k_is)
    (case k19 => k_is)
    (case a20 => k_is)
    (case l20 => k_is)
    (case c20 => k_is)
    (case k20 => k_is)
    (case a21 => k_is)
    (case l21 => k_is)
    (case c21 => k_is)
    (case k21 => k_is)
    (case a22 => k_is)
    (case l22 => k_is)
    (case c22 => k_is)
    (case k22 => k_is)
    (case a23 => k_is)
    (case l23 => k_is)
    (case c23 => k_is)
    (case k23 => k_is)
    (case a24 => k_is)
    (case l24 => k_is)
    (case c24 => k_is)
    (case k24 => k_is)
    (case a25 => k_is)
    (case l25 => k_is)
    (case c25 => k_is)
    (case k25 => k_is)
    (case a26 => k_is)
    (case l26 => k_is)
    (case c26 => k_is)
    (case k26 => k_is)
    (case a27 => k_is)
    (case l27 => k_is)
    (case c27 => k_is)
    (case k27 => k_is)
    (case a28 => k_is)
    (case l28 => k_is)
    (case c28 => k_is)
    (case k28 => k_is)
    (case a29 => k_is)
    (case l29 => k_is)
    (case c29 => k_is)
    (case k29 => k_is)
    (case a30 => k_is)
    (case l30 => k_is)
    (case c30 => k_is)
    (case k30 => k_is)
    (case a31 => k_is)
    (case l31 => k_is)
    (case c31 => k_is)
    (case k31 => k_is)
    (case a32 => k_is)
    (case l32 => k_is)
    (case c32 => k_is)
    (case k32 => k_is)
    (case a33 => k_is)
    (case l33 => k_is)
    (case c33 => k_is)
    (case k33 => k_is)
    (case z_len => k_is)
    (case z_range => k_is)
    (case z_zip => k_is)
    (case z_tuple => k_is)
    (case z_int => k_is)
    (case z_abs => k_is)
    (case z_isinstance => k_is)
    (case z_bool => k_is)
    (case z_list => k_is)
    (case z_max => k_is)
    (case z_min => k_is)
    (case z_all => k_is)
    (case z_sum => k_is)
    (case z_enumerate => k_is)
    (case z_any => k_is)
    (case z_repr => k_is)
    (case zgcd => k_is)
    (case nNOUGHT => k_is)
    (case vNOUGHT => k_is)
    (case aCL => k_is)
    (case pgCL => k_is)
    (case hdCL => k_is)
    (case poCL => k_is)
    (case saCL => k_is)
    (case mkCL => k_is)
    (case kcCL => k_is)
    (case naCL => k_is)
    (case iiCL => k_is)
    (case aCC => k_is)
    (case pgCC => k_is)
    (case hdCC => k_is)
    (case poCC => k_is)
    (case saCC => k_is)
    (case mkCC => k_is)
    (case kcCC => k_is)
    (case naCC => k_is)
    (case iiCC => k_is)
    (case aCN => k_is)
    (case pgCN => k_is)
    (case hdCN => k_is)
    (case poCN => k_is)
    (case saCN => k_is)
    (case mkCN => k_is)
    (case kcCN => k_is)
    (case niCN => k_is)
    (case nlCN => k_is)
    (case iiCN => k_is)
    (case haCN => k_is)
    (case hmCN => k_is)
    (case meCN => first | k_is | rfl | (with_unfolding_all rfl))
    (case hnO => k_is)
    (case htO => k_is)
    (case qI => k_is)
    (case lI => k_is)
    (case cI => k_is)
    (case kI => k_is)
    (case qNI => k_is)
    (case lNI => k_is)
    (case cNI => k_is)
    (case kNI => k_is)
    (case wLtold => k_is)
    (case qLtold => k_is)
    (case lLtold => k_is)
    (case cLtold => k_is)
    (case kLtold => k_is)
    (case wLsums => k_is)
    (case qLsums => k_is)
    (case lLsums => k_is)
    (case cLsums => k_is)
    (case kLsums => k_is)
    (case wCtold => k_is)
    (case qCtold => k_is)
    (case lCtold => k_is)
    (case cCtold => k_is)
    (case kCtold => k_is)
    (case wCsums => k_is)
    (case qCsums => k_is)
    (case lCsums => k_is)
    (case cCsums => k_is)
    (case kCsums => k_is)
    (case wNins => k_is)
    (case qNins => k_is)
    (case lNins => k_is)
    (case cNins => k_is)
    (case kNins => k_is)
    (case wNlayers_told => k_is)
    (case qNlayers_told => k_is)
    (case lNlayers_told => k_is)
    (case cNlayers_told => k_is)
    (case kNlayers_told => k_is)
    (case wNouts => k_is)
    (case qNouts => k_is)
    (case lNouts => k_is)
    (case cNouts => k_is)
    (case kNouts => k_is)
    (case wNhidden => k_is)
    (case qNhidden => k_is)
    (case lNhidden => k_is)
    (case cNhidden => k_is)
    (case kNhidden => k_is)
    (case wNplaces => k_is)
    (case qNplaces => k_is)
    (case lNplaces => k_is)
    (case cNplaces => k_is)
    (case kNplaces => k_is)
    (case wNtold => k_is)
    (case qNtold => k_is)
    (case lNtold => k_is)
    (case cNtold => k_is)
    (case kNtold => k_is)
    (case iMI => k_is)
    (case iML => k_is)
    (case iMN => k_is)
